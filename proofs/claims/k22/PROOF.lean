import PyProof.Rows.All
import Wide.All
import OpenK.AllK
import Wide.FinOn
import PyProof.EqAt
import PyProof.EqKinds
import PyProof.TupleCall
import KE.BitLaws
import PySem.Challenge.RW_callcoin_k22_rules_asked
set_option Elab.async false
set_option linter.all false
set_option maxRecDepth 100000
namespace L2
open PySem PySem.Spec PyProof.Rows
abbrev Key := Sum Int Str
def keyIs : Key → Value → Bool
  | .inl k, v => Value.isInt k v
  | .inr x, v => Value.isStrOf x v
def keyH (w : World) : Key → Int
  | .inl k => hashInt k
  | .inr x => hashStr w x
theorem keyIs_shape : ∀ {k : Key} {v : Value}, keyIs k v = true → (∃ i t, k = Sum.inl i ∧ v = Value.int i t) ∨ (∃ x t, k = Sum.inr x ∧ v = Value.str x t)
  | .inl i, v, h => by
    obtain ⟨t, e⟩ := Value.isInt_shape (k := i) (v := v) h
    exact .inl ⟨i, t, rfl, e⟩
  | .inr x, v, h => by
    obtain ⟨t, e⟩ := Value.isStrOf_shape (x := x) (v := v) h
    exact .inr ⟨x, t, rfl, e⟩
theorem keyIs_int (i : Int) (t : Tok) : keyIs (.inl i) (.int i t) = true := by simp [keyIs, Value.isInt]
theorem keyIs_str (x : Str) (t : Tok) : keyIs (.inr x) (.str x t) = true := by simp [keyIs, Value.isStrOf]
theorem key_ll (a b : Int) : decide ((Sum.inl a : Key) = Sum.inl b) = (a == b) := by
  by_cases e : a = b
  · subst e; simp
  · have h : ¬ (Sum.inl a : Key) = Sum.inl b := fun q => e (Sum.inl.inj q)
    rw [decide_eq_false h]
    exact (beq_eq_false_iff_ne.mpr e).symm
theorem key_rr (a b : Str) : decide ((Sum.inr a : Key) = Sum.inr b) = decide (a = b) := by
  by_cases e : a = b
  · subst e; simp
  · have h : ¬ (Sum.inr a : Key) = Sum.inr b := fun q => e (Sum.inr.inj q)
    rw [decide_eq_false h, decide_eq_false e]
theorem key_lr (a : Int) (b : Str) : decide ((Sum.inl a : Key) = Sum.inr b) = false := decide_eq_false (fun q => nomatch q)
theorem key_rl (a : Str) (b : Int) : decide ((Sum.inr a : Key) = Sum.inl b) = false := decide_eq_false (fun q => nomatch q)
def mixKind (prog : Program) (w : World) : PySem.KeyKind prog w Key where
  is := keyIs
  hash := keyH w
  inj := fun v a b ha hb => by
    rcases keyIs_shape ha with ⟨i, t, rfl, rfl⟩ | ⟨x, t, rfl, rfl⟩
    · rcases keyIs_shape hb with ⟨j, u, rfl, e⟩ | ⟨y, u, rfl, e⟩
      · injection e with e1 _; rw [e1]
      · exact nomatch e
    · rcases keyIs_shape hb with ⟨j, u, rfl, e⟩ | ⟨y, u, rfl, e⟩
      · exact nomatch e
      · injection e with e1 _; rw [e1]
  byValue := fun k v h => by
    rcases keyIs_shape h with ⟨i, t, rfl, rfl⟩ | ⟨x, t, rfl, rfl⟩ <;> rfl
  pyHash := fun hv h => by
    rcases keyIs_shape hv with ⟨i, t, rfl, rfl⟩ | ⟨x, t, rfl, rfl⟩
    · exact wpAny_pyHash_int h
    · exact wpAny_pyHash_str h
  eqBool := fun hu hv h => by
    rcases keyIs_shape hu with ⟨i, t, rfl, rfl⟩ | ⟨x, t, rfl, rfl⟩
    · rcases keyIs_shape hv with ⟨j, u, rfl, rfl⟩ | ⟨y, u, rfl, rfl⟩
      · rw [key_ll] at h; exact wpAny_eqBool_int h
      · rw [key_lr] at h; exact SeqAt.EqAt.int_str i t y u _ _ _ _ h
    · rcases keyIs_shape hv with ⟨j, u, rfl, rfl⟩ | ⟨y, u, rfl, rfl⟩
      · rw [key_rl] at h; exact SeqAt.EqAt.str_int x t j u _ _ _ _ h
      · rw [key_rr] at h; exact wpAny_eqBool_str h
  «strs» := fun k x t v h => by
    rcases keyIs_shape h with ⟨i, u, rfl, e⟩ | ⟨y, u, rfl, e⟩
    · exact nomatch e
    · injection e with e1 _
      subst e1
      cases v <;> rfl
theorem mixKind_int (prog : Program) (w : World) (i : Int) (t : Tok) : (mixKind prog w).is (.inl i) (.int i t) = true := keyIs_int i t
theorem mixKind_str (prog : Program) (w : World) (x : Str) (t : Tok) : (mixKind prog w).is (.inr x) (.str x t) = true := keyIs_str x t
end L2
namespace L2
open PySem PySem.Spec PyProof.Rows
inductive V where
  | non | bl (b : Bool) | int (i : Int) | str (x : Str) | byt (b : Array UInt8) | flt (b : UInt64) | ref (a : Addr) | ty (n : String)
  deriving DecidableEq
def RelV : V → Value → Prop
  | .non, u => u = Value.none
  | .bl b, u => u = Value.bool b
  | .int i, u => ∃ t, u = Value.int i t
  | .str x, u => ∃ t, u = Value.str x t
  | .byt b, u => ∃ t, u = Value.bytes b t
  | .flt b, u => ∃ t, u = Value.float b t
  | .ref a, u => u = Value.ref a
  | .ty n, u => u = Value.type n
abbrev Vals : List V → List Value → Prop := Paired RelV
theorem Vals.length {xs : List V} {us : List Value} (r : Vals xs us) : xs.length = us.length := Paired.length r
theorem Vals.get : ∀ {xs : List V} {us : List Value} {i : Nat} {x : V}, Vals xs us → xs[i]? = some x → ∃ u, us[i]? = some u ∧ RelV x u
  | _, _, _, _, .nil, e => by simp at e
  | _, _, 0, _, .cons r _, e => by simp at e; subst e; exact ⟨_, rfl, r⟩
  | _, _, i + 1, x, .cons _ t, e => by
    obtain ⟨u, h1, h2⟩ := Vals.get (i := i) (x := x) t (by simpa using e)
    exact ⟨u, by simpa using h1, h2⟩
theorem Vals.set {x : V} {u : Value} (r : RelV x u) : ∀ {xs : List V} {us : List Value} (i : Nat), Vals xs us → Vals (xs.set i x) (us.set i u)
  | _, _, _, .nil => .nil
  | _, _, 0, .cons _ t => .cons r t
  | _, _, i + 1, .cons q t => .cons q (Vals.set r i t)
theorem Vals.append : ∀ {xs ys : List V} {us ws : List Value}, Vals xs us → Vals ys ws → Vals (xs ++ ys) (us ++ ws)
  | _, _, _, _, .nil, s => s
  | _, _, _, _, .cons r t, s => .cons r (Vals.append t s)
theorem Vals.take : ∀ {xs : List V} {us : List Value} (n : Nat), Vals xs us → Vals (xs.take n) (us.take n)
  | _, _, 0, _ => .nil
  | _, _, _ + 1, .nil => .nil
  | _, _, n + 1, .cons r t => .cons r (Vals.take n t)
theorem Vals.drop : ∀ {xs : List V} {us : List Value} (n : Nat), Vals xs us → Vals (xs.drop n) (us.drop n)
  | _, _, 0, r => r
  | _, _, _ + 1, .nil => .nil
  | _, _, n + 1, .cons _ t => Vals.drop n t
theorem Vals.none_of : ∀ {xs : List V} {us : List Value} {i : Nat}, Vals xs us → xs[i]? = none → us[i]? = none := fun {xs us i} r e => by
  have h1 := r.length
  have h2 : xs.length ≤ i := List.getElem?_eq_none_iff.mp e
  exact List.getElem?_eq_none_iff.mpr (by omega)
def RelO : Option V → Option Value → Prop
  | some v, some u => RelV v u
  | none, none => True
  | _, _ => False
def KV {κ : Type} : List (κ × V) → List (κ × Value) → Prop := Paired fun (p : κ × V) (q : κ × Value) => p.1 = q.1 ∧ RelV p.2 q.2
def kV : Key → V
  | .inl i => .int i
  | .inr x => .str x
inductive HO where
  | lst (xs : List V)
  | tup (xs : List V)
  | dK (kvs : List (Key × V)) | dT (kvs : List (List Key × V))
  | set (S : Int → Bool) (n : Nat)
  | ins (C dx : Addr) (fs : List (Str × V))
  | own (x : Addr)
  | xd (fs : List (Str × V))
  | met (f x : Addr)
  | rng (lo hi : Int)
  | frz (o : Obj) (u : HO)
  | tbl (ps : Array Value)
  | ext (φ : Heap → Prop)
abbrev Hp := Addr → Option HO
def upd (H : Hp) (a : Addr) (o : HO) : Hp := fun b => if b = a then some o else H b
theorem upd_same {H : Hp} {a : Addr} {o : HO} : upd H a o a = some o := by unfold upd; rw [if_pos rfl]
theorem upd_ne {H : Hp} {a b : Addr} {o : HO} (h : b ≠ a) : upd H a o b = H b := by unfold upd; rw [if_neg h]
theorem ne_of {H : Hp} {a b : Addr} {o u : HO} (h : H a = some o) (h' : H b = some u) (d : o ≠ u) : a ≠ b := by
  intro e; subst e; rw [h] at h'; exact d (Option.some.inj h')
theorem ne_of_none {H : Hp} {a b : Addr} {o : HO} (h : H a = some o) (h' : H b = none) : a ≠ b := by
  intro e; subst e; rw [h] at h'; cases h'
section
variable (P : Program) (w : World)
def ObjOk (H : Hp) (h : Heap) (a : Addr) : HO → Prop
  | .lst xs => xs.length ≤ sizeLine ∧ ∃ (its : List Value) (n : Nat), Vals xs its ∧ h.get? a = some { cls := .type "list", data := .seq its.toArray n }
  | .tup xs => xs.length ≤ sizeLine ∧ ∃ its : List Value, Vals xs its ∧ IsTup h a its.toArray
  | .dK kvs => kvs.length ≤ sizeLine ∧ (a == sysModules) = false ∧ ∃ vs, KV kvs vs ∧ h.DictOf (mixKind P w) a vs
  | .dT kvs => kvs.length ≤ sizeLine ∧ (a == sysModules) = false ∧ ∃ xs : List (List Key × Addr × Value),
      Paired (fun (p : List Key × V) (q : List Key × Addr × Value) => p.1 = q.1 ∧ H q.2.1 = some (.tup (p.1.map kV)) ∧ RelV p.2 q.2.2) kvs xs ∧
      ∃ o es ep, h.get? a = some o ∧ o.ExactDict ∧ o.data = .dict es ep ∧ es.toList = xs.map (entryOfKey (tupleKind (mixKind P w))) ∧ (xs.map (·.1)).Nodup
  | .set S n => h.SetOf (intKind P w) a S n
  | .ins C dx fs => H dx = some (.own a) ∧ fs.length ≤ 1000 ∧ dx ≠ a ∧ h.get? a = some (PySem.W.instObj C dx) ∧
      ∃ mA, h.Ns1 dx mA ∧ (∀ f, RelO (fs.lookup f) (mA f)) ∧ PySem.Within mA (fs.map (·.1))
  | .own _ => ∃ o, h.get? a = some o
  | .xd fs => ∃ mA, h.Ns1 a mA ∧ ∀ f, RelO (fs.lookup f) (mA f)
  | .rng lo hi => ∃ t u v, h.get? a = some { cls := .type "range", data := .fields #[.int lo t, .int hi u, .int 1 v] }
  | .frz o u => h.get? a = some o ∧ ObjOk H h a u
  | .tbl ps => h.get? a = some { cls := .none, data := .fields ps }
  | .met f x => h.get? a = some (PySem.W.methodObj (.ref f) (.ref x))
  | .ext φ => φ h ∧ (∃ o, h.get? a = some o) ∧ ∀ h1 h2 : Heap, φ h1 → (∀ o, h1.get? a = some o → h2.get? a = some o) → φ h2
def HOk (H : Hp) (h : Heap) : Prop := ∀ a o, H a = some o → ObjOk P w H h a o
end
section
variable {P : Program} {w : World} {H H' : Hp} {h h' : Heap} {a : Addr} {o : HO}
theorem ObjOk.lt (x : ObjOk P w H h a o) : a < h.objs.size := by
  cases o with
  | lst xs => obtain ⟨_, _, _, _, e⟩ := x; exact Heap.lt_size e
  | tup xs => obtain ⟨_, _, _, p⟩ := x; exact p.lt
  | dK kvs => obtain ⟨_, _, _, _, o, _, _, e, _⟩ := x; exact Heap.lt_size e
  | dT kvs => obtain ⟨_, _, _, _, o, _, _, e, _⟩ := x; exact Heap.lt_size e
  | set S n => obtain ⟨o, _, _, _, e, _⟩ := x; exact Heap.lt_size e
  | ins C dx fs => obtain ⟨_, _, _, e, _⟩ := x; exact Heap.lt_size e
  | own y => obtain ⟨_, e⟩ := x; exact Heap.lt_size e
  | xd fs => obtain ⟨_, ⟨_, _, _, e, _⟩, _⟩ := x; exact Heap.lt_size e
  | rng lo hi => obtain ⟨_, _, _, e⟩ := x; exact Heap.lt_size e
  | frz ob u => obtain ⟨e, _⟩ := x; exact Heap.lt_size e
  | tbl ps => exact Heap.lt_size (show h.get? a = some _ from x)
  | met f y => exact Heap.lt_size (show h.get? a = some _ from x)
  | ext φ => obtain ⟨_, ⟨_, e⟩, _⟩ := x; exact Heap.lt_size e
theorem Paired.mapP {α β : Type} {F G : α → β → Prop} : ∀ {l₁ : List α} {l₂ : List β}, Paired F l₁ l₂ → (∀ a b, F a b → G a b) → Paired G l₁ l₂
  | _, _, .nil, _ => .nil
  | _, _, .cons r t, f => .cons (f _ _ r) (Paired.mapP t f)
theorem ObjOk.stay (x : ObjOk P w H h a o) (k : ∀ b u, (b = a ∨ H b = some (.own a)) → h.get? b = some u → h'.get? b = some u)
    (ho : ∀ b, H b = some (.own a) → H' b = some (.own a)) (ht : ∀ b xs, H b = some (.tup xs) → H' b = some (.tup xs)) : ObjOk P w H' h' a o := by
  induction o with
  | lst xs => obtain ⟨z, its, n, r, e⟩ := x; exact ⟨z, its, n, r, k _ _ (.inl rfl) e⟩
  | tup xs => obtain ⟨z, its, r, ob, e, c⟩ := x; exact ⟨z, its, r, ob, k _ _ (.inl rfl) e, c⟩
  | dK kvs => obtain ⟨z, y, vs, r, ob, es, ep, e, c⟩ := x; exact ⟨z, y, vs, r, ob, es, ep, k _ _ (.inl rfl) e, c⟩
  | dT kvs =>
    obtain ⟨z, y, xs, r, ob, es, ep, e, c⟩ := x
    exact ⟨z, y, xs, Paired.mapP r fun p q z => ⟨z.1, ht _ _ z.2.1, z.2.2⟩, ob, es, ep, k _ _ (.inl rfl) e, c⟩
  | set S n => obtain ⟨ob, es, ep, t, e, c⟩ := x; exact ⟨ob, es, ep, t, k _ _ (.inl rfl) e, c⟩
  | ins C dx fs =>
    obtain ⟨d, z, ne, e, mA, ⟨od, es, ep, e2, c⟩, r⟩ := x
    exact ⟨ho _ d, z, ne, k _ _ (.inl rfl) e, mA, ⟨od, es, ep, k _ _ (.inr d) e2, c⟩, r⟩
  | own y => obtain ⟨ob, e⟩ := x; exact ⟨ob, k _ _ (.inl rfl) e⟩
  | xd fs => obtain ⟨mA, ⟨od, es, ep, e, c⟩, r⟩ := x; exact ⟨mA, ⟨od, es, ep, k _ _ (.inl rfl) e, c⟩, r⟩
  | rng lo hi => obtain ⟨t, u, v, e⟩ := x; exact ⟨t, u, v, k _ _ (.inl rfl) e⟩
  | frz ob u ih => obtain ⟨e, q⟩ := x; exact ⟨k _ _ (.inl rfl) e, ih q⟩
  | tbl ps =>
    have e : h.get? a = some { cls := .none, data := .fields ps } := x
    show h'.get? a = some { cls := .none, data := .fields ps }
    exact k a _ (.inl rfl) e
  | met f y =>
    have e : h.get? a = some (PySem.W.methodObj (.ref f) (.ref y)) := x
    show h'.get? a = some (PySem.W.methodObj (.ref f) (.ref y))
    exact k a _ (.inl rfl) e
  | ext φ => obtain ⟨p, ⟨o, e⟩, st⟩ := x; exact ⟨st _ _ p fun o q => k _ _ (.inl rfl) q, ⟨o, k _ _ (.inl rfl) e⟩, st⟩
theorem HOk.lt (x : HOk P w H h) (e : H a = some o) : a < h.objs.size := (x a o e).lt
theorem HOk.fresh (x : HOk P w H h) (e : h.objs.size ≤ a) : H a = none := by
  cases q : H a with
  | none => rfl
  | some u => exact absurd (Nat.lt_of_lt_of_le (x.lt q) e) (Nat.lt_irrefl _)
theorem HOk.kept (x : HOk P w H h) (k : ∀ b u, h.get? b = some u → h'.get? b = some u) : HOk P w H h' := fun a o e =>
  (x a o e).stay (fun b u _ q => k b u q) (fun _ q => q) fun _ _ q => q
theorem HOk.laid (x : HOk P w H h) (k : ∀ b u, h.get? b = some u → h'.get? b = some u) (hp : h.objs.size ≤ a) (new : ObjOk P w (upd H a o) h' a o) : HOk P w (upd H a o) h' := fun b u e => by
  have hn := x.fresh hp
  by_cases hb : b = a
  · subst hb; rw [upd_same] at e; cases e; exact new
  · rw [upd_ne hb] at e
    exact (x b u e).stay (fun c v _ q => k c v q) (fun c q => by rw [upd_ne (ne_of_none q hn)]; exact q) fun c xs q => by rw [upd_ne (ne_of_none q hn)]; exact q
end
def Rd (H : Hp) (a : Addr) (u : HO) : Prop := H a = some u ∨ ∃ o, H a = some (.frz o u)
theorem Rd.of {H : Hp} {a : Addr} {u : HO} (h : H a = some u) : Rd H a u := .inl h
theorem Rd.ok {P : Program} {w : World} {H : Hp} {h : Heap} {a : Addr} {u : HO} (r : Rd H a u) (x : HOk P w H h) : ObjOk P w H h a u := by
  rcases r with r | ⟨o, r⟩
  · exact x a u r
  · obtain ⟨_, q⟩ := x a _ r
    exact q
def Mut : Option HO → Prop
  | some (.lst _) => True
  | some (.dK _) => True
  | some (.dT _) => True
  | some (.set _ _) => True
  | some (.ins _ _ _) => True
  | some (.ext _) => True
  | _ => False
section
variable {P : Program} {w : World} {H : Hp} {h h' : Heap} {x e : Addr} {o' : HO}
theorem HOk.write (ok : HOk P w H h) (mu : Mut (H x)) (he : e = x ∨ H e = some (.own x)) (k : ∀ b u, b ≠ e → h.get? b = some u → h'.get? b = some u) (heo : ∃ u, h'.get? e = some u)
    (new : ObjOk P w (upd H x o') h' x o') : HOk P w (upd H x o') h' := fun b u q => by
  have nown : ∀ c y, H c = some (.own y) → c ≠ x := fun c y r z => by subst z; rw [r] at mu; exact mu
  have ntup : ∀ c xs, H c = some (.tup xs) → c ≠ x := fun c xs r z => by subst z; rw [r] at mu; exact mu
  by_cases hb : b = x
  · subst hb; rw [upd_same] at q; cases q; exact new
  · rw [upd_ne hb] at q
    by_cases hbe : b = e
    · have q' : H b = some (.own x) := by
        rcases he with z | z
        · exact absurd (hbe.trans z) hb
        · rw [hbe]; exact z
      rw [q] at q'; cases q'
      obtain ⟨v, hv⟩ := heo
      exact ⟨v, by rw [hbe]; exact hv⟩
    · refine (ok b u q).stay (fun c v hc r => k c v ?_ r) (fun c r => by rw [upd_ne (nown c b r)]; exact r) fun c xs r => by rw [upd_ne (ntup c xs r)]; exact r
      rcases hc with rfl | hc
      · exact hbe
      · rintro rfl
        rcases he with z | z
        · exact nown c b hc z
        · rw [hc] at z; cases z; exact hb rfl
end
structure Un (fs ex : List Addr) (H H' : Hp) (h h' : Heap) : Prop where
  keep : ∀ b o, h.get? b = some o → H b = none → b ∉ fs → b ∉ ex → h'.get? b = some o
  slot : ∀ b o, h.get? b = some o → H b = none → b ∈ fs → b ∉ ex → ∃ sl, h'.get? b = some { o with slots := sl }
  free : ∀ b o, h.get? b = some o → H b = none → b ∉ ex → H' b = none
  there : ∀ b o, h.get? b = some o → b ∉ ex → ∃ o', h'.get? b = some o'
  tups : ∀ b xs, H b = some (.tup xs) → H' b = some (.tup xs)
  frzs : ∀ b o u, H b = some (.frz o u) → H' b = some (.frz o u)
  tbls : ∀ b ps, H b = some (.tbl ps) → ∃ more, H' b = some (.tbl (ps ++ more))
section
variable {fs fs' ex ex' : List Addr} {H H1 H2 : Hp} {h h1 h2 h' : Heap} {a x e : Addr} {o : HO}
theorem Un.any (u : Un fs ex H H1 h h1) {b : Addr} {ob : Obj} (q : h.get? b = some ob) (n : H b = none) (hx : b ∉ ex) : ∃ sl, h1.get? b = some { ob with slots := sl } := by
  by_cases hb : b ∈ fs
  · exact u.slot b ob q n hb hx
  · exact ⟨ob.slots, u.keep b ob q n hb hx⟩
theorem Un.trans (a : Un fs ex H H1 h h1) (b : Un fs ex H1 H2 h1 h2) : Un fs ex H H2 h h2 where
  keep := fun c ob q n hc hx => b.keep c ob (a.keep c ob q n hc hx) (a.free c ob q n hx) hc hx
  slot := fun c ob q n hc hx => by
    obtain ⟨sl, e1⟩ := a.slot c ob q n hc hx
    obtain ⟨sl', e2⟩ := b.slot c _ e1 (a.free c ob q n hx) hc hx
    exact ⟨sl', e2⟩
  free := fun c ob q n hx => by
    obtain ⟨o', e1⟩ := a.there c ob q hx
    exact b.free c o' e1 (a.free c ob q n hx) hx
  there := fun c ob q hx => by
    obtain ⟨o', e1⟩ := a.there c ob q hx
    exact b.there c o' e1 hx
  tups := fun c xs q => b.tups c xs (a.tups c xs q)
  frzs := fun c ob xs q => b.frzs c ob xs (a.frzs c ob xs q)
  tbls := fun c ps q => by
    obtain ⟨m1, e1⟩ := a.tbls c ps q
    obtain ⟨m2, e2⟩ := b.tbls c _ e1
    exact ⟨m1 ++ m2, by rw [e2, Array.append_assoc]⟩
theorem Un.kept (k : ∀ b u, h.get? b = some u → h'.get? b = some u) : Un fs ex H H h h' :=
  ⟨fun b ob q _ _ _ => k b ob q, fun b ob q _ _ _ => ⟨ob.slots, k b ob q⟩, fun _ _ _ n _ => n, fun b ob q _ => ⟨ob, k b ob q⟩, fun _ _ q => q, fun _ _ _ q => q, fun _ ps q => ⟨#[], by rw [q]; simp⟩⟩
theorem Un.refl : Un fs ex H H h h := Un.kept fun _ _ q => q
theorem Un.laid (k : ∀ b u, h.get? b = some u → h'.get? b = some u) (hp : h.objs.size ≤ a) (hn : H a = none) : Un fs ex H (upd H a o) h h' where
  keep := fun b u q _ _ _ => k b u q
  slot := fun b u q _ _ _ => ⟨u.slots, k b u q⟩
  free := fun b u q n _ => by rw [upd_ne (Nat.ne_of_lt (Nat.lt_of_lt_of_le (Heap.lt_size q) hp))]; exact n
  there := fun b u q _ => ⟨u, k b u q⟩
  tups := fun b xs q => by rw [upd_ne (ne_of_none q hn)]; exact q
  frzs := fun b u xs q => by rw [upd_ne (ne_of_none q hn)]; exact q
  tbls := fun b ps q => ⟨#[], by rw [upd_ne (ne_of_none q hn), q]; simp⟩
theorem Un.write (mu : Mut (H x)) (he : e = x ∨ H e = some (.own x)) (k : ∀ b u, b ≠ e → h.get? b = some u → h'.get? b = some u) (heo : ∃ u, h'.get? e = some u) : Un fs ex H (upd H x o) h h' := by
  have hx : ∀ b, H b = none → b ≠ x := fun b n z => by subst z; rw [n] at mu; exact mu
  have hb : ∀ b, H b = none → b ≠ e := fun b n z => by
    subst z
    rcases he with r | r
    · exact hx b n r
    · rw [n] at r; cases r
  have hm : ∀ b u, H b = some u → ¬ Mut (some u) → b ≠ x := fun b u q nm z => by subst z; rw [q] at mu; exact nm mu
  refine ⟨fun b u q n _ _ => k b u (hb b n) q, fun b u q n _ _ => ⟨u.slots, k b u (hb b n) q⟩, fun b u q n _ => by rw [upd_ne (hx b n)]; exact n, fun b u q _ => ?_,
    fun b xs q => by rw [upd_ne (hm b _ q fun z => z)]; exact q, fun b u xs q => by rw [upd_ne (hm b _ q fun z => z)]; exact q, fun b ps q => ⟨#[], by rw [upd_ne (hm b _ q fun z => z), q]; simp⟩⟩
  by_cases hbe : b = e
  · subst hbe; exact heo
  · exact ⟨u, k b u hbe q⟩
theorem Un.mono (u : Un fs ex H H1 h h1) (hs : ∀ b ∈ fs, b ∈ fs') (hx : ∀ b ∈ ex, b ∈ ex') : Un fs' ex' H H1 h h1 :=
  ⟨fun b ob q n hb he => u.keep b ob q n (fun z => hb (hs b z)) fun z => he (hx b z), fun _ _ q n _ he => u.any q n fun z => he (hx _ z), fun b ob q n he => u.free b ob q n fun z => he (hx b z), fun b ob q he => u.there b ob q fun z => he (hx b z), u.tups, u.frzs, u.tbls⟩
end
def trk (h : Heap) (H : Hp) : List Addr := (List.range h.objs.size).filter fun a => (H a).isSome
def hidT (h : Heap) (H : Hp) : Heap := PySem.W.hideAll h (trk h H)
theorem hidT_size (h : Heap) (H : Hp) : (hidT h H).objs.size = h.objs.size := PySem.W.hideAll_size _ _
theorem hidT_get {h : Heap} {H : Hp} {b : Addr} {o : Obj} (e : h.get? b = some o) (n : H b = none) : (hidT h H).get? b = some o :=
  PySem.W.hideAll_get _ e fun hm => by
    have q : (H b).isSome = true := (List.mem_filter.mp hm).2
    rw [n] at q; simp at q
theorem of_hidT {h : Heap} {H : Hp} {b : Addr} {o : Obj} (e : (hidT h H).get? b = some o) : h.get? b = some o ∧ H b = none := by
  have e' : h.get? b = some o := PySem.W.of_hideAll (trk h H) e
  refine ⟨e', ?_⟩
  cases q : H b with
  | none => rfl
  | some x =>
    have hm : b ∈ trk h H := List.mem_filter.mpr ⟨List.mem_range.mpr (Heap.lt_size e'), by simp [q]⟩
    have z : (hidT h H).get? b = none := PySem.W.hideAll_none (trk h H) hm
    rw [z] at e; cases e
def allNews (g h : Heap) (L : Addr) : List (Addr × Obj) := (List.range h.objs.size).filterMap fun a => if a = L ∨ (g.get? a).isSome = true then none else (h.get? a).map fun o => (a, o)
def rest (g h : Heap) (L d : Addr) : List (Addr × Obj) := (allNews g h L).filter fun p => decide (p.1 ≠ d)
end L2
namespace L2
open PySem PySem.Spec PyProof.Rows
structure Mod (K : PySem.W.Frag) (mg : Str → Option Value) (base : Heap) : Prop where
  kin : K.In base
  glob : base.Ns mainGlobals mg
  blt : ∃ mb, base.Ns builtinsNs mb ∧ ∀ x : Str, x ≠ "__name__" → mb x = bootBuiltins x
  nolimit : base.NoLimit
structure Cx where
  prog : Program
  w : World
  K : PySem.W.Frag
  mg : Str → Option Value
  base : Heap
  A : Around
  N : List Str
  s_0 : Shared
  H_0 : Hp
  env : Env
  outer : List Env
  stack : List Env
  ex : List Addr
  fn : Str → Bool
  calm : Bool
  pn : List (Addr × Obj)
  xe : Value → Shared → Prop
def frs (l : List Env) : List Addr := l.filterMap (·.frame)
abbrev Cx.fs (X : Cx) : List Addr := frs X.outer
def Vis (sc : Scope) (x : Str) : Prop := sc.names.lookup x = some .local ∨ sc.names.lookup x = some .cell ∨ sc.names.lookup x = some .free
def Loc (sc : Scope) (x : Str) : Prop := sc.names.lookup x = some .local ∨ sc.names.lookup x = some .cell
def Look (env : Env) (h : Heap) (m : Str → Option Value) (x : Str) (u : Value) : Prop :=
  (env.kindOf x = some .local ∧ m x = some u) ∨ ((env.kindOf x = some .cell ∨ env.kindOf x = some .free) ∧ ∃ c, env.cells.lookup x = some c ∧ h.IsCell c (some u))
structure Cx.Ok (X : Cx) : Prop where
  mod : Mod X.K X.mg X.base
  kind : X.env.scope.kind = .function
  glob : X.env.globals = mainGlobals
  blt : X.env.builtins = builtinsNs
  above : X.s_0.heap.objs.size ≤ X.env.locals
  inj : ∀ x y c, X.env.cells.lookup x = some c → X.env.cells.lookup y = some c → x = y
  has : ∀ x, (X.env.kindOf x = some .cell ∨ X.env.kindOf x = some .free) → ∃ c, X.env.cells.lookup x = some c
  cab : ∀ x c, X.fn x = true → X.env.cells.lookup x = some c → X.s_0.heap.objs.size ≤ c
  hd : X.calm = true → X.A.handled = none
  frames : X.A.frames = some X.stack
  stk : X.stack = X.outer ∨ (X.stack = X.env :: X.outer ∧ X.env.frame = some X.env.locals)
  exf : ∀ b ∈ X.ex, b ≠ X.env.locals ∧ ∀ x c, X.env.cells.lookup x = some c → c ≠ b
  bs : ∀ b o, X.base.get? b = some o → X.s_0.heap.get? b = some o ∧ X.H_0 b = none
  bsz : X.base.objs.size ≤ X.s_0.heap.objs.size
  noex : ∀ b o, X.base.get? b = some o → b ∉ X.ex
  exfs : ∀ b ∈ X.ex, b ∉ X.fs
  funs : X.s_0.heap.FunFrames X.base X.outer
  frf : ∀ b ∈ X.fs, X.H_0 b = none
structure Inv (X : Cx) (pins : List (Addr × Obj)) (σ : List (Option V)) (H : Hp) (s : Shared) : Prop where
  ok : X.Ok
  os : s.os = X.s_0.os
  bare : AllBare s.gens
  base : Un X.fs X.ex X.H_0 H X.s_0.heap s.heap
  loc : ∃ m, s.heap.Ns X.env.locals m ∧ ∀ (i : Nat) (x : Str) (v : V), X.N[i]? = some x → σ[i]? = some (some v) → Vis X.env.scope x → ∃ u, RelV v u ∧ Look X.env s.heap m x u
  cell : ∀ x c, X.env.cells.lookup x = some c → ∃ v, s.heap.IsCell c v
  free : H X.env.locals = none
  freeC : ∀ x c, X.env.cells.lookup x = some c → H c = none
  pin : ∀ p ∈ X.pn ++ pins, s.heap.get? p.1 = some p.2 ∧ H p.1 = none ∧ p.1 ≠ X.env.locals ∧ p.1 ∉ X.fs ∧ ∀ v, p.2.data ≠ .cell v
  hok : HOk X.prog X.w H s.heap
  len : σ.length = X.N.length
section
variable {X : Cx} {pins : List (Addr × Obj)} {σ : List (Option V)} {H H' : Hp} {s : Shared} {h' : Heap}
theorem Cx.Ok.nofr (ok : X.Ok) {b : Addr} {o : Obj} (e : X.base.get? b = some o) : b ∉ X.fs := fun hb => by
  have := (ok.funs.mem hb).1
  rw [e] at this; cases this
theorem Inv.bs (I : Inv X pins σ H s) : ∀ b o, X.base.get? b = some o → s.heap.get? b = some o ∧ H b = none := fun b o e =>
  ⟨I.base.keep b o (I.ok.bs b o e).1 (I.ok.bs b o e).2 (I.ok.nofr e) (I.ok.noex b o e), I.base.free b o (I.ok.bs b o e).1 (I.ok.bs b o e).2 (I.ok.noex b o e)⟩
theorem Inv.bk (I : Inv X pins σ H s) : ∀ b o, X.base.get? b = some o → s.heap.get? b = some o := fun b o e => (I.bs b o e).1
theorem Inv.mod (I : Inv X pins σ H s) : Mod X.K X.mg X.base := I.ok.mod
theorem Inv.kIn (I : Inv X pins σ H s) : X.K.In s.heap := I.ok.mod.kin.keeps I.bk
theorem Inv.nolimit (I : Inv X pins σ H s) : s.heap.NoLimit := I.ok.mod.nolimit.keeps I.bk
theorem Inv.fr (I : Inv X pins σ H s) : ∃ m, Fr X.base X.env.locals s.heap m :=
  let ⟨m, hn, _⟩ := I.loc
  ⟨m, hn, I.bk, Nat.le_trans I.ok.bsz I.ok.above⟩
theorem Inv.lt (I : Inv X pins σ H s) : X.env.locals < s.heap.objs.size := let ⟨_, hn, _⟩ := I.loc; hn.lt
theorem Inv.sz (I : Inv X pins σ H s) : X.s_0.heap.objs.size ≤ s.heap.objs.size := Nat.le_trans I.ok.above (Nat.le_of_lt I.lt)
theorem Inv.nofs (I : Inv X pins σ H s) {a : Addr} (h : s.heap.objs.size ≤ a) : a ∉ X.fs := fun hb => by
  obtain ⟨_, o, ho, _⟩ := I.ok.funs.mem hb
  exact absurd (Nat.lt_of_lt_of_le (Heap.lt_size ho) (Nat.le_trans I.sz h)) (Nat.lt_irrefl _)
theorem Inv.cne (I : Inv X pins σ H s) : ∀ x c, X.env.cells.lookup x = some c → c ≠ X.env.locals := fun x c e z => by
  obtain ⟨v, o, ho, hd⟩ := I.cell x c e
  obtain ⟨m, ⟨o', es, ep, ho', hd', _⟩, _⟩ := I.loc
  rw [z, ho'] at ho; cases ho; rw [hd'] at hd; cases hd
theorem Inv.funs (I : Inv X pins σ H s) : s.heap.FunFrames X.base X.outer := by
  have all : ∀ (l : List Env), (∀ b ∈ frs l, b ∈ X.fs) → X.s_0.heap.FunFrames X.base l → s.heap.FunFrames X.base l := by
    intro l
    induction l with
    | nil => intro _ _; trivial
    | cons env r ih =>
      intro hs hl
      obtain ⟨hk, ⟨L, o, hf, hn, ho, hd⟩, hr⟩ := hl
      have hL : L ∈ X.fs := hs L (by unfold frs; rw [List.filterMap_cons, hf]; exact List.mem_cons_self)
      obtain ⟨sl, e⟩ := I.base.slot L o ho (I.ok.frf L hL) hL fun z => I.ok.exfs L z hL
      exact ⟨hk, ⟨L, _, hf, hn, e, hd⟩, ih (fun b hb => hs b (by unfold frs; rw [List.filterMap_cons, hf]; exact List.mem_cons_of_mem _ hb)) hr⟩
  exact all X.outer (fun _ hb => hb) I.ok.funs
theorem Inv.stack (I : Inv X pins σ H s) : s.heap.FunFrames X.base X.stack := by
  rcases I.ok.stk with e | ⟨e, hf⟩
  · rw [e]; exact I.funs
  · rw [e]
    obtain ⟨m, hn, _⟩ := I.loc
    refine .cons (by rw [I.ok.kind]; decide) hf hn ?_ I.funs
    exact Heap.get?_none_of_le (Nat.le_trans I.ok.bsz I.ok.above)
theorem Inv.stkSub (I : Inv X pins σ H s) : ∀ b ∈ frs X.stack, b ∈ X.env.locals :: X.fs := fun b hb => by
  rcases I.ok.stk with e | ⟨e, hf⟩
  · rw [e] at hb; exact List.mem_cons_of_mem _ hb
  · rw [e] at hb
    unfold frs at hb
    rw [List.filterMap_cons, hf] at hb
    exact hb
theorem Inv.stkFree (I : Inv X pins σ H s) : ∀ b ∈ frs X.stack, H b = none := fun b hb => by
  rcases List.mem_cons.mp (I.stkSub b hb) with e | hb
  · rw [e]; exact I.free
  · obtain ⟨_, o, ho, _⟩ := I.ok.funs.mem hb
    exact I.base.free b o ho (I.ok.frf b hb) fun z => I.ok.exfs b z hb
theorem Inv.step {g' : Array GenState} {t' : Nat} {d' : Drawn} {ch : List Addr} (I : Inv X pins σ H s)
    (hch : ∀ b ∈ ch, (b ∈ X.ex ∨ X.s_0.heap.objs.size ≤ b) ∧ b ≠ X.env.locals ∧ (∀ x c, X.env.cells.lookup x = some c → c ≠ b) ∧ ∀ p ∈ X.pn ++ pins, p.1 ≠ b)
    (keep : ∀ b o, b ≠ X.env.locals → b ∉ X.fs → b ∉ ch → s.heap.get? b = some o → H b = none → h'.get? b = some o)
    (slot : ∀ b o, b ≠ X.env.locals → b ∈ X.fs → b ∉ ch → s.heap.get? b = some o → H b = none → ∃ sl, h'.get? b = some { o with slots := sl }) (free : ∀ b o, b ∉ ch → s.heap.get? b = some o → H b = none → H' b = none)
    (there : ∀ b o, b ∉ ch → s.heap.get? b = some o → ∃ o', h'.get? b = some o')
    (tups : ∀ b xs, H b = some (.tup xs) → H' b = some (.tup xs)) (frzs : ∀ b o u, H b = some (.frz o u) → H' b = some (.frz o u)) (tbls : ∀ b ps, H b = some (.tbl ps) → ∃ more, H' b = some (.tbl (ps ++ more)))
    (ns : ∀ m, s.heap.Ns X.env.locals m → h'.Ns X.env.locals m) (hok : HOk X.prog X.w H' h') (hg : AllBare g') :
    Inv X pins σ H' { s with heap := h', gens := g', drawn := d', toks := t' } := by
  have neL : ∀ b o, X.s_0.heap.get? b = some o → b ≠ X.env.locals := fun b o e => Nat.ne_of_lt (Nat.lt_of_lt_of_le (Heap.lt_size e) I.ok.above)
  have neC : ∀ b o, X.s_0.heap.get? b = some o → b ∉ X.ex → b ∉ ch := fun b o e hx hb => by
    rcases (hch b hb).1 with z | z
    · exact hx z
    · exact absurd (Nat.lt_of_lt_of_le (Heap.lt_size e) z) (Nat.lt_irrefl _)
  have cellK : ∀ x c, X.env.cells.lookup x = some c → ∀ v, s.heap.IsCell c v → h'.IsCell c v := fun x c e v ⟨o, ho, hd⟩ => by
    have nch : c ∉ ch := fun z => (hch c z).2.2.1 x c e rfl
    by_cases hc : c ∈ X.fs
    · obtain ⟨sl, q⟩ := slot c o (I.cne x c e) hc nch ho (I.freeC x c e)
      exact ⟨_, q, hd⟩
    · exact ⟨o, keep c o (I.cne x c e) hc nch ho (I.freeC x c e), hd⟩
  refine ⟨I.ok, I.os, hg, ⟨fun b o e n hb hx => ?_, fun b o e n hb hx => ?_, fun b o e n hx => ?_, fun b o e hx => ?_, fun b xs e => tups b xs (I.base.tups b xs e), fun b o xs e => frzs b o xs (I.base.frzs b o xs e), fun b ps e => ?_⟩, ?_, fun x c e => ?_, ?_, fun x c e => ?_, fun p hp => ?_, hok, I.len⟩
  · exact keep b o (neL b o e) hb (neC b o e hx) (I.base.keep b o e n hb hx) (I.base.free b o e n hx)
  · obtain ⟨sl, e1⟩ := I.base.slot b o e n hb hx
    obtain ⟨sl', e2⟩ := slot b _ (neL b o e) hb (neC b o e hx) e1 (I.base.free b o e n hx)
    exact ⟨sl', e2⟩
  · obtain ⟨o', e1⟩ := I.base.there b o e hx
    exact free b o' (neC b o e hx) e1 (I.base.free b o e n hx)
  · obtain ⟨o', e1⟩ := I.base.there b o e hx
    exact there b o' (neC b o e hx) e1
  · obtain ⟨m1, e1⟩ := I.base.tbls b ps e
    obtain ⟨m2, e2⟩ := tbls b _ e1
    exact ⟨m1 ++ m2, by rw [e2, Array.append_assoc]⟩
  · obtain ⟨m, hn, hl⟩ := I.loc
    refine ⟨m, ns m hn, fun i x v e1 e2 e3 => ?_⟩
    obtain ⟨u, r, l⟩ := hl i x v e1 e2 e3
    refine ⟨u, r, ?_⟩
    rcases l with l | ⟨k, c, e, z⟩
    · exact .inl l
    · exact .inr ⟨k, c, e, cellK x c e _ z⟩
  · obtain ⟨v, z⟩ := I.cell x c e
    exact ⟨v, cellK x c e v z⟩
  · obtain ⟨m, ⟨o, _, _, ho, _⟩, _⟩ := I.loc
    exact free _ o (fun z => (hch _ z).2.1 rfl) ho I.free
  · obtain ⟨v, o, ho, hd⟩ := I.cell x c e
    exact free c o (fun z => (hch c z).2.2.1 x c e rfl) ho (I.freeC x c e)
  · obtain ⟨e, n, ne, nf, d⟩ := I.pin p hp
    have nch : p.1 ∉ ch := fun z => (hch p.1 z).2.2.2 p hp rfl
    exact ⟨keep p.1 p.2 ne nf nch e n, free p.1 p.2 nch e n, ne, nf, d⟩
theorem Inv.un {t' : Nat} (I : Inv X pins σ H s) (u : Un X.fs [] H H' s.heap h') (hok : HOk X.prog X.w H' h') : Inv X pins σ H' { s with heap := h', toks := t' } := by
  obtain ⟨m, ⟨o, es, ep, ho, r⟩, _⟩ := id I.loc
  obtain ⟨sl, hL⟩ := u.any ho I.free (by simp)
  exact I.step (g' := s.gens) (d' := s.drawn) (ch := []) (fun _ z => nomatch z) (fun b o _ hb _ e n => u.keep b o e n hb (by simp)) (fun b o _ hb _ e n => u.slot b o e n hb (by simp)) (fun b o _ e n => u.free b o e n (by simp)) (fun b o _ e => u.there b o e (by simp)) u.tups u.frzs u.tbls (fun m' hm => by
    obtain ⟨o', es', ep', ho', r'⟩ := hm
    rw [ho] at ho'; cases ho'
    exact ⟨_, es', ep', hL, r'⟩) hok I.bare
theorem Inv.call {g' : Array GenState} {t' : Nat} {d' : Drawn} {ch : List Addr} (I : Inv X pins σ H s) (u : Un (frs X.stack) ch H H' s.heap h') (hok : HOk X.prog X.w H' h') (hg : AllBare g')
    (hch : ∀ b ∈ ch, (b ∈ X.ex ∨ X.s_0.heap.objs.size ≤ b) ∧ b ≠ X.env.locals ∧ (∀ x c, X.env.cells.lookup x = some c → c ≠ b) ∧ ∀ p ∈ X.pn ++ pins, p.1 ≠ b) :
    Inv X pins σ H' { s with heap := h', gens := g', drawn := d', toks := t' } := by
  obtain ⟨m, ⟨o, es, ep, ho, r⟩, _⟩ := id I.loc
  obtain ⟨sl, hL⟩ := u.any ho I.free fun z => (hch _ z).2.1 rfl
  exact I.step (ch := ch) hch (fun b o hL hb hc e n => u.keep b o e n (fun z => (List.mem_cons.mp (I.stkSub b z)).elim hL hb) hc) (fun b o _ _ hc e n => u.any e n hc) (fun b o hc e n => u.free b o e n hc) (fun b o hc e => u.there b o e hc) u.tups u.frzs u.tbls (fun m' hm => by
    obtain ⟨o', es', ep', ho', r'⟩ := hm
    rw [ho] at ho'; cases ho'
    exact ⟨_, es', ep', hL, r'⟩) hok hg
theorem Inv.turned {t' : Nat} {it : Addr} (I : Inv X pins σ H s) (k : ∀ b o, b ≠ it → s.heap.get? b = some o → h'.get? b = some o) (hn : H it = none) (hL : it ≠ X.env.locals)
    (h1 : it ∈ X.ex ∨ X.s_0.heap.objs.size ≤ it) (h2 : ∀ x c, X.env.cells.lookup x = some c → c ≠ it) (h3 : ∀ p ∈ X.pn ++ pins, p.1 ≠ it) : Inv X pins σ H { s with heap := h', toks := t' } := by
  have nit : ∀ b u, H b = some u → b ≠ it := fun b u e z => by rw [z, hn] at e; cases e
  refine I.step (g' := s.gens) (d' := s.drawn) (ch := [it]) (fun b hb => ?_) (fun b o _ _ hc e _ => k b o (fun z => hc (by simp [z])) e) (fun b o _ _ hc e _ => ⟨o.slots, k b o (fun z => hc (by simp [z])) e⟩) (fun _ _ _ _ n => n)
    (fun b o hc e => ⟨o, k b o (fun z => hc (by simp [z])) e⟩) (fun _ _ e => e) (fun _ _ _ e => e) (fun b ps e => ⟨#[], by rw [e]; simp⟩) (fun m hm => ?_) (fun b u e => ?_) I.bare
  · have e : b = it := by simpa using hb
    subst e
    exact ⟨h1, hL, h2, h3⟩
  · obtain ⟨o, es, ep, ho, r⟩ := hm
    exact ⟨o, es, ep, k _ o (Ne.symm hL) ho, r⟩
  · refine (I.hok b u e).stay (fun c v hc q => k c v ?_ q) (fun _ q => q) fun _ _ q => q
    rcases hc with z | z
    · rw [z]; exact nit b u e
    · exact nit c _ z
theorem Inv.tok (I : Inv X pins σ H s) (t : Nat) : Inv X pins σ H { s with toks := t } := I.un (h' := s.heap) (t' := t) Un.refl I.hok
theorem Inv.kept {t' : Nat} (I : Inv X pins σ H s) (k : ∀ b u, s.heap.get? b = some u → h'.get? b = some u) : Inv X pins σ H { s with heap := h', toks := t' } := I.un (Un.kept k) (I.hok.kept k)
theorem Inv.laid {a : Addr} {o : HO} {t' : Nat} (I : Inv X pins σ H s) (k : ∀ b u, s.heap.get? b = some u → h'.get? b = some u) (hp : s.heap.objs.size ≤ a) (new : ObjOk X.prog X.w (upd H a o) h' a o) :
    Inv X pins σ (upd H a o) { s with heap := h', toks := t' } := I.un (Un.laid k hp (I.hok.fresh hp)) (I.hok.laid k hp new)
theorem Inv.write {x e : Addr} {o : HO} {t' : Nat} (I : Inv X pins σ H s) (mu : Mut (H x)) (he : e = x ∨ H e = some (.own x)) (k : ∀ b u, b ≠ e → s.heap.get? b = some u → h'.get? b = some u) (heo : ∃ u, h'.get? e = some u)
    (new : ObjOk X.prog X.w (upd H x o) h' x o) : Inv X pins σ (upd H x o) { s with heap := h', toks := t' } := I.un (Un.write mu he k heo) (I.hok.write mu he k heo new)
theorem Inv.weak {σ' : List (Option V)} (I : Inv X pins σ H s) (hl : σ'.length = σ.length) (w : ∀ (i : Nat) v, σ'[i]? = some (some v) → σ[i]? = some (some v)) : Inv X pins σ' H s :=
  ⟨I.ok, I.os, I.bare, I.base, let ⟨m, hn, hl'⟩ := I.loc; ⟨m, hn, fun i x v e1 e2 e3 => hl' i x v e1 (w i v e2) e3⟩, I.cell, I.free, I.freeC, I.pin, I.hok, hl.trans I.len⟩
theorem Inv.pins_of {pins' : List (Addr × Obj)} (I : Inv X pins σ H s) (h : ∀ p ∈ pins', s.heap.get? p.1 = some p.2 ∧ H p.1 = none ∧ p.1 ≠ X.env.locals ∧ p.1 ∉ X.fs ∧ ∀ v, p.2.data ≠ .cell v) : Inv X pins' σ H s :=
  ⟨I.ok, I.os, I.bare, I.base, I.loc, I.cell, I.free, I.freeC, fun p hp => (List.mem_append.mp hp).elim (fun z => I.pin p (List.mem_append_left _ z)) (h p), I.hok, I.len⟩
theorem nodup_ix {N : List Str} (hN : N.Nodup) {i j : Nat} {x : Str} (a : N[i]? = some x) (b : N[j]? = some x) : i = j := by
  obtain ⟨h1, e1⟩ := List.getElem?_eq_some_iff.mp a
  obtain ⟨h2, e2⟩ := List.getElem?_eq_some_iff.mp b
  exact (List.getElem_inj hN).mp (e1.trans e2.symm)
theorem store_ok2 {M : Model} {A : Around} {E : Value → Shared → Prop} {i : Nat} {x : Str} {v : V} {u : Value} {Q : Unit → Shared → Prop} (I : Inv X pins σ H s) (hN : X.N.Nodup) (hi : X.N[i]? = some x) (hx : Loc X.env.scope x) (r : RelV v u)
    (h : ∀ s', Inv X pins (σ.set i (some v)) H s' → (∃ a, Heap.SameBut a s.heap s'.heap ∧ (a = X.env.locals ∨ X.env.cells.lookup x = some a)) → Q () s') (hf : X.fn x = true ∨ X.env.scope.names.lookup x = some .local := by first | exact .inl rfl | exact .inr rfl | assumption) : wpAny M A (storeName X.env x u) Q E s := by
  obtain ⟨m, hn, hl⟩ := id I.loc
  have hcls : (X.env.scope.kind == .class || (X.env.scope.kind == .module && X.env.locals != X.env.globals)) = false := by rw [I.ok.kind]; rfl
  have hiσ : i < σ.length := by rw [I.len]; exact (List.getElem?_eq_some_iff.mp hi).1
  have cne := I.cne
  have tracked : ∀ {a : Addr} {h' : Heap}, (∃ o, s.heap.get? a = some o ∧ H a = none) → Heap.SameBut a s.heap h' → HOk X.prog X.w H h' := fun {a h'} ha hs b ob e => by
    obtain ⟨_, _, hfree⟩ := ha
    refine (I.hok b ob e).stay (fun c w' hc q => (hs.2 c ?_).trans q) (fun _ q => q) fun _ _ q => q
    rintro rfl
    rcases hc with rfl | hc
    · rw [hfree] at e; cases e
    · rw [hfree] at hc; cases hc
  rcases hx with hk | hk
  · refine wpAny_storeName_local hk hn (fun h' hn' hs => ?_) hcls
    obtain ⟨oL, _, _, hoL, _⟩ := id hn
    refine h _ ⟨I.ok, I.os, I.bare, ⟨fun b o e n hb hx => ?_, fun b o e n hb hx => ?_, I.base.free, fun b o e hx => ?_, I.base.tups, I.base.frzs, I.base.tbls⟩, ⟨_, hn', fun j y v' e1 e2 e3 => ?_⟩, fun y c e => ?_, I.free, I.freeC, fun p hp => ?_, tracked ⟨oL, hoL, I.free⟩ hs, by simpa using I.len⟩ ⟨_, hs, .inl rfl⟩
    · exact (hs.2 b (Nat.ne_of_lt (Nat.lt_of_lt_of_le (Heap.lt_size e) I.ok.above))).trans (I.base.keep b o e n hb hx)
    · obtain ⟨sl, e1⟩ := I.base.slot b o e n hb hx
      exact ⟨sl, (hs.2 b (Nat.ne_of_lt (Nat.lt_of_lt_of_le (Heap.lt_size e) I.ok.above))).trans e1⟩
    · obtain ⟨o', e1⟩ := I.base.there b o e hx
      exact ⟨o', (hs.2 b (Nat.ne_of_lt (Nat.lt_of_lt_of_le (Heap.lt_size e) I.ok.above))).trans e1⟩
    · by_cases hj : j = i
      · subst hj
        rw [hi] at e1; cases e1
        rw [List.getElem?_set_self hiσ] at e2
        cases e2
        exact ⟨u, r, .inl ⟨hk, by simp⟩⟩
      · rw [List.getElem?_set_ne (Ne.symm hj)] at e2
        obtain ⟨u', r', q⟩ := hl j y v' e1 e2 e3
        refine ⟨u', r', ?_⟩
        rcases q with ⟨k, e⟩ | ⟨k, c, e, z⟩
        · refine .inl ⟨k, ?_⟩
          have : y ≠ x := fun e => hj (nodup_ix hN e1 (e ▸ hi))
          simp [this, e]
        · exact .inr ⟨k, c, e, z.sameBut hs (cne y c e)⟩
    · obtain ⟨w', z⟩ := I.cell y c e
      exact ⟨w', z.sameBut hs (cne y c e)⟩
    · obtain ⟨e, n, ne, nf, d⟩ := I.pin p hp
      exact ⟨(hs.2 p.1 ne).trans e, n, ne, nf, d⟩
  · have hfn : X.fn x = true := by
      rcases hf with z | z
      · exact z
      · rw [z] at hk; cases hk
    obtain ⟨c, hc⟩ := I.ok.has x (.inl hk)
    obtain ⟨w', z⟩ := I.cell x c hc
    refine wpAny_storeName_cell I.ok.kind hk hc z (fun h' hc' hs => ?_)
    obtain ⟨oc, hoc, hocd⟩ := id z
    refine h { s with heap := h' } ⟨I.ok, I.os, I.bare, ⟨fun b o e n hb hx => ?_, fun b o e n hb hx => ?_, I.base.free, fun b o e hx => ?_, I.base.tups, I.base.frzs, I.base.tbls⟩, ⟨m, hn.sameBut hs (Ne.symm (cne x c hc)), fun j y v' e1 e2 e3 => ?_⟩, fun y c' e => ?_, I.free, I.freeC, fun p hp => ?_, tracked ⟨oc, hoc, I.freeC x c hc⟩ hs, by simpa using I.len⟩ ⟨c, hs, .inr hc⟩
    · exact (hs.2 b (Nat.ne_of_lt (Nat.lt_of_lt_of_le (Heap.lt_size e) (I.ok.cab x c hfn hc)))).trans (I.base.keep b o e n hb hx)
    · obtain ⟨sl, e1⟩ := I.base.slot b o e n hb hx
      exact ⟨sl, (hs.2 b (Nat.ne_of_lt (Nat.lt_of_lt_of_le (Heap.lt_size e) (I.ok.cab x c hfn hc)))).trans e1⟩
    · obtain ⟨o', e1⟩ := I.base.there b o e hx
      exact ⟨o', (hs.2 b (Nat.ne_of_lt (Nat.lt_of_lt_of_le (Heap.lt_size e) (I.ok.cab x c hfn hc)))).trans e1⟩
    · by_cases hj : j = i
      · subst hj
        rw [hi] at e1; cases e1
        rw [List.getElem?_set_self hiσ] at e2
        cases e2
        exact ⟨u, r, .inr ⟨.inl hk, c, hc, hc'⟩⟩
      · rw [List.getElem?_set_ne (Ne.symm hj)] at e2
        obtain ⟨u', r', q⟩ := hl j y v' e1 e2 e3
        refine ⟨u', r', ?_⟩
        rcases q with q | ⟨k, c', e, z'⟩
        · exact .inl q
        · refine .inr ⟨k, c', e, z'.sameBut hs ?_⟩
          rintro rfl
          exact hj (nodup_ix hN e1 (I.ok.inj _ _ _ e hc ▸ hi))
    · by_cases hcc : c' = c
      · subst hcc; exact ⟨_, hc'⟩
      · obtain ⟨w2, z2⟩ := I.cell y c' e
        exact ⟨w2, z2.sameBut hs hcc⟩
    · obtain ⟨e, n, ne, nf, d⟩ := I.pin p hp
      refine ⟨(hs.2 p.1 ?_).trans e, n, ne, nf, d⟩
      intro q
      rw [q, hoc] at e
      have q' : oc = p.2 := Option.some.inj e
      exact d w' (by rw [← q']; exact hocd)
theorem store_ok {M : Model} {A : Around} {E : Value → Shared → Prop} {i : Nat} {x : Str} {v : V} {u : Value} {Q : Unit → Shared → Prop} (I : Inv X pins σ H s) (hN : X.N.Nodup) (hi : X.N[i]? = some x) (hx : Loc X.env.scope x) (r : RelV v u)
    (h : ∀ s', Inv X pins (σ.set i (some v)) H s' → Q () s') (hf : X.fn x = true ∨ X.env.scope.names.lookup x = some .local := by first | exact .inl rfl | exact .inr rfl | assumption) : wpAny M A (storeName X.env x u) Q E s :=
  store_ok2 I hN hi hx r (fun s' I' _ => h s' I') hf
theorem Inv.call' {s' : Shared} {ch : List Addr} (I : Inv X pins σ H s) (ho : s'.os = s.os) (u : Un (frs X.stack) ch H H' s.heap s'.heap) (hok : HOk X.prog X.w H' s'.heap) (hg : AllBare s'.gens)
    (hch : ∀ b ∈ ch, (b ∈ X.ex ∨ X.s_0.heap.objs.size ≤ b) ∧ b ≠ X.env.locals ∧ (∀ x c, X.env.cells.lookup x = some c → c ≠ b) ∧ ∀ p ∈ X.pn ++ pins, p.1 ≠ b) : Inv X pins σ H' s' := by
  obtain ⟨h', g', d', t', o'⟩ := s'
  have e : o' = s.os := ho
  subst e
  exact I.call (g' := g') (t' := t') (d' := d') u hok hg hch
end
abbrev XK := Value → Option Addr → Hp → Prop
abbrev St := List (Option V)
abbrev VK := V → Hp → Prop
abbrev TE := St → Hp → VK → Prop
abbrev TT := St → Hp → (Bool → Hp → Prop) → Prop
abbrev TA := St → Hp → (List V → Hp → Prop) → Prop
structure Ends where
  nx : St → Hp → Prop
  rt : VK
  bk : St → Hp → Prop := fun _ _ => False
  ct : St → Hp → Prop := fun _ _ => False
abbrev TS := Ends → St → Hp → Prop
def EP (X : Cx) (pins : List (Addr × Obj)) (σ : St) (Q : VK) (u : Value) (s' : Shared) : Prop := ∃ v H', Inv X pins σ H' s' ∧ RelV v u ∧ Q v H'
def TP (X : Cx) (pins : List (Addr × Obj)) (σ : St) (Q : Bool → Hp → Prop) (b : Bool) (s' : Shared) : Prop := ∃ H', Inv X pins σ H' s' ∧ Q b H'
def AP (X : Cx) (pins : List (Addr × Obj)) (σ : St) (Q : List V → Hp → Prop) (us : List Value) (s' : Shared) : Prop := ∃ vs H', Inv X pins σ H' s' ∧ Vals vs us ∧ Q vs H'
def SP (X : Cx) (pins : List (Addr × Obj)) (D : Ends) (f : Flow) (s' : Shared) : Prop :=
  match f with
  | .next => ∃ σ' H', Inv X pins σ' H' s' ∧ D.nx σ' H'
  | .brk => ∃ σ' H', Inv X pins σ' H' s' ∧ D.bk σ' H'
  | .cont => ∃ σ' H', Inv X pins σ' H' s' ∧ D.ct σ' H'
  | .ret u => ∃ v σ' H', Inv X pins σ' H' s' ∧ RelV v u ∧ D.rt v H'
def PE (X : Cx) (e : Expr) (t : TE) : Prop :=
  ∀ (pins : List (Addr × Obj)) (s : Shared) (σ : St) (H : Hp) (Q : VK), Inv X pins σ H s → t σ H Q → wpAny (model X.prog X.w) X.A (eval e X.env) (EP X pins σ Q) X.xe s
def PT (X : Cx) (e : Expr) (t : TT) : Prop :=
  ∀ (pins : List (Addr × Obj)) (s : Shared) (σ : St) (H : Hp) (Q : Bool → Hp → Prop), Inv X pins σ H s → t σ H Q → wpAny (model X.prog X.w) X.A (isTrue e X.env (eval e X.env)) (TP X pins σ Q) X.xe s
def PW (X : Cx) (e : Expr) (t : TT) : Prop :=
  ∀ (whole : Sem Value) (pins : List (Addr × Obj)) (s : Shared) (σ : St) (H : Hp) (Q : Bool → Hp → Prop), Inv X pins σ H s → t σ H Q → wpAny (model X.prog X.w) X.A (isTrue e X.env whole) (TP X pins σ Q) X.xe s
theorem PW.pt {X : Cx} {e : Expr} {t : TT} (h : PW X e t) : PT X e t := h _
def PA (X : Cx) (es : List Expr) (t : TA) : Prop :=
  ∀ (pos : Pos) (pins : List (Addr × Obj)) (s : Shared) (σ : St) (H : Hp) (Q : List V → Hp → Prop), Inv X pins σ H s → t σ H Q → wpAny (model X.prog X.w) X.A (spliced (backTo pos (starEach es X.env))) (AP X pins σ Q) X.xe s
def PS (X : Cx) (st : Stmt) (t : TS) : Prop :=
  ∀ (pins : List (Addr × Obj)) (s : Shared) (σ : St) (H : Hp) (D : Ends), Inv X pins σ H s → t D σ H → wpAny (model X.prog X.w) X.A (exec st X.env) (SP X pins D) X.xe s
def PSs (X : Cx) (st : List Stmt) (t : TS) : Prop :=
  ∀ (pins : List (Addr × Obj)) (s : Shared) (σ : St) (H : Hp) (D : Ends), Inv X pins σ H s → t D σ H → wpAny (model X.prog X.w) X.A (execs st X.env) (SP X pins D) X.xe s
theorem thn {α : Type} {t : Sem α} {Q Q' : α → Shared → Prop} {M : Model} {A : Around} {E : Value → Shared → Prop} {s : Shared} (h : wpAny M A t Q E s) (hQ : ∀ a s, Q a s → Q' a s) : wpAny M A t Q' E s := wpAny_mono h hQ fun _ _ x => x
end L2
namespace L2
open PySem PySem.Spec PyProof.Rows
section
variable {X : Cx}
def tVar (i : Nat) : TE := fun σ H Q => ∃ v, σ[i]? = some (some v) ∧ Q v H
def tC (v : V) : TE := fun _ H Q => Q v H
theorem pe_var {i : Nat} {x : Str} {pos : Pos} (hN : X.N[i]? = some x) (hv : Vis X.env.scope x) (hd : (x == ("__debug__" : Str)) = false := by decide) (hcd : (x == ("__classdict__" : Str)) = false := by decide) : PE X (.Name x pos) (tVar i) := by
  intro pins s σ H Q I h
  obtain ⟨v, e, h⟩ := h
  obtain ⟨m, hn, hl⟩ := I.loc
  obtain ⟨u, r, l⟩ := hl i x v hN e hv
  have fin : EP X pins σ Q u s := ⟨v, H, I, r, h⟩
  rcases l with ⟨hk, hm⟩ | ⟨hk, c, hc, hcell⟩
  · exact wpAny_Name (wpAny_loadName_local I.ok.kind hk hn hm fin) hd
  · rcases hk with hk | hk
    · exact wpAny_Name (wpAny_loadName_cell I.ok.kind hk hc hcell fin) hd
    · exact wpAny_Name (wpAny_loadName_free I.ok.kind hk hc hcell fin hcd) hd
theorem pe_int {i j pos} : PE X (.Constant (.int i) j pos) (tC (.int i)) := fun _ _ _ H _ I h => wpAny_Constant_int ⟨.int i, H, I.tok _, ⟨_, rfl⟩, h⟩
theorem pe_bl {b j pos} : PE X (.Constant (.bool b) j pos) (tC (.bl b)) := fun _ _ _ H _ I h => Constant_bool ⟨.bl b, H, I, rfl, h⟩
theorem pe_non {j pos} : PE X (.Constant .none j pos) (tC .non) := fun _ _ _ H _ I h => Constant_none ⟨.non, H, I, rfl, h⟩
theorem pe_str {x j pos} : PE X (.Constant (.str x) j pos) (tC (.str x)) := fun _ _ _ H _ I h => Calls.Constant_str ⟨.str x, H, I.tok _, ⟨_, rfl⟩, h⟩
def Gl (X : Cx) (x : Str) : Prop := X.env.kindOf x = some .globalImplicit
theorem ld_glob {E : Value → Shared → Prop} {pins : List (Addr × Obj)} {s : Shared} {σ : St} {H : Hp} {x : Str} {u : Value} {pos : Pos} {Q : Value → Shared → Prop} (I : Inv X pins σ H s) (hg : Gl X x) (hm : X.mg x = some u) (h : Q u s)
    (hd : (x == ("__debug__" : Str)) = false := by decide) : wpAny (model X.prog X.w) X.A (eval (.Name x pos) X.env) Q E s :=
  Calls.Name_function_global I.ok.kind hg (Calls.loadGlobal_global (by rw [I.ok.glob]; exact I.mod.glob.keeps I.bk) hm h) hd
theorem ld_blt {E : Value → Shared → Prop} {pins : List (Addr × Obj)} {s : Shared} {σ : St} {H : Hp} {x : Str} {u : Value} {pos : Pos} {Q : Value → Shared → Prop} (I : Inv X pins σ H s) (hg : Gl X x) (hm : X.mg x = none) (hv : bootBuiltins x = some u) (h : Q u s)
    (hn : x ≠ "__name__" := by decide) (hd : (x == ("__debug__" : Str)) = false := by decide) : wpAny (model X.prog X.w) X.A (eval (.Name x pos) X.env) Q E s := by
  obtain ⟨mb, h1, h2⟩ := I.mod.blt
  exact Calls.Name_function_global I.ok.kind hg (Calls.loadGlobal_builtin (by rw [I.ok.glob]; exact I.mod.glob.keeps I.bk) hm (by rw [I.ok.blt]; exact h1.keeps I.bk) ((h2 x hn).trans hv) h) hd
theorem pe_glob {x : Str} {v : V} {u : Value} {pos : Pos} (hg : Gl X x) (hm : X.mg x = some u) (r : RelV v u) (hd : (x == ("__debug__" : Str)) = false := by decide) : PE X (.Name x pos) (tC v) :=
  fun _ _ _ H _ I h => ld_glob I hg hm ⟨v, H, I, r, h⟩ hd
theorem pe_bltn {x : Str} {v : V} {u : Value} {pos : Pos} (hg : Gl X x) (hm : X.mg x = none) (hv : bootBuiltins x = some u) (r : RelV v u) (hn : x ≠ "__name__" := by decide) (hd : (x == ("__debug__" : Str)) = false := by decide) : PE X (.Name x pos) (tC v) :=
  fun _ _ _ H _ I h => ld_blt I hg hm hv ⟨v, H, I, r, h⟩ hn hd
variable {a b : Expr} {ta tb : TE} {pos : Pos}
def tB (t : TE) : TT := fun σ H Q => t σ H fun x H1 => ∃ c, x = .bl c ∧ Q c H1
theorem pt_val {e : Expr} {t : TE} (h : PE X e t) (he : ∀ whole, isTrue e X.env whole = (do let v ← whole; standAt e.pos; holding [v] (truthy v)) := by intro _; rfl) : PT X e (tB t) := by
  intro pins s σ H Q I hw
  refine isTrue_plain (thn (h pins s σ H _ I hw) fun v s1 ⟨x, H1, I1, r1, q1⟩ => ?_) (he _)
  obtain ⟨d, rfl, q⟩ := q1
  cases r1
  exact wpAny_truthy_bool ⟨H1, I1, q⟩
variable {tA tB' : TT} {rest : List Expr}
def tAnd (t u : TT) : TT := fun σ H Q => t σ H fun c H1 => if c = true then u σ H1 Q else Q false H1
def tOr (t u : TT) : TT := fun σ H Q => t σ H fun c H1 => if c = true then Q true H1 else u σ H1 Q
def tNot (t : TT) : TT := fun σ H Q => t σ H fun c H1 => Q (!c) H1
theorem pw_and1 (ha : PT X a tA) : PW X (.BoolOp .And [a] pos) tA := by
  intro wh pins s σ H Q I h
  refine isTrue_and (thn (ha pins s σ H Q I h) fun c s1 e => ?_)
  cases c with
  | true => exact isTrue_and_nil e
  | false => exact e
theorem pw_or1 (ha : PT X a tA) : PW X (.BoolOp .Or [a] pos) tA := by
  intro wh pins s σ H Q I h
  refine isTrue_or (thn (ha pins s σ H Q I h) fun c s1 e => ?_)
  cases c with
  | false => exact isTrue_or_nil e
  | true => exact e
theorem pw_and (ha : PT X a tA) (hb : PW X (.BoolOp .And (b :: rest) pos) tB') : PW X (.BoolOp .And (a :: b :: rest) pos) (tAnd tA tB') := by
  intro wh pins s σ H Q I h
  refine isTrue_and (thn (ha pins s σ H _ I h) fun c s1 ⟨H1, I1, q1⟩ => ?_)
  cases c with
  | true => exact hb wh pins s1 σ H1 Q I1 q1
  | false => exact ⟨H1, I1, q1⟩
theorem pw_or (ha : PT X a tA) (hb : PW X (.BoolOp .Or (b :: rest) pos) tB') : PW X (.BoolOp .Or (a :: b :: rest) pos) (tOr tA tB') := by
  intro wh pins s σ H Q I h
  refine isTrue_or (thn (ha pins s σ H _ I h) fun c s1 ⟨H1, I1, q1⟩ => ?_)
  cases c with
  | true => exact ⟨H1, I1, q1⟩
  | false => exact hb wh pins s1 σ H1 Q I1 q1
theorem pt_not (ha : PT X a tA) : PT X (.UnaryOp .Not a pos) (tNot tA) := by
  intro pins s σ H Q I h
  exact isTrue_not (ha pins s σ H (fun c H1 => Q (!c) H1) I h)
def tAndV (ta tb : TE) : TE := fun σ H Q => ta σ H fun x H1 => ∃ c, x = .bl c ∧ if c = true then tb σ H1 Q else Q (.bl false) H1
def tNotV (ta : TE) : TE := fun σ H Q => ta σ H fun x H1 => ∃ c, x = .bl c ∧ Q (.bl (!c)) H1
theorem pe_one {op} {t : TE} (h : PE X a t) : PE X (.BoolOp op [a] pos) t := fun pins s σ H Q I hw => BoolOp_one (h pins s σ H Q I hw)
theorem pe_and (ha : PE X a ta) (hb : PE X (.BoolOp .And (b :: rest) pos) tb) : PE X (.BoolOp .And (a :: b :: rest) pos) (tAndV ta tb) := by
  intro pins s σ H Q I h
  refine BoolOp_and (thn (ha pins s σ H _ I h) fun v s1 ⟨x, H1, I1, r1, q1⟩ => ?_)
  obtain ⟨c, rfl, q1⟩ := q1
  cases r1
  refine wpAny_truthy_bool ?_
  cases c with
  | true => exact hb pins s1 σ H1 Q I1 q1
  | false => exact ⟨.bl false, H1, I1, rfl, q1⟩
theorem pe_not (ha : PE X a ta) : PE X (.UnaryOp .Not a pos) (tNotV ta) := by
  intro pins s σ H Q I h
  refine UnaryOp_ (thn (ha pins s σ H _ I h) fun v s1 ⟨x, H1, I1, r1, q1⟩ => ?_)
  obtain ⟨c, rfl, q1⟩ := q1
  cases r1
  exact not_of (wpAny_truthy_bool ⟨.bl (!c), H1, I1, rfl, q1⟩)
def tIf (t : TT) (ta tb : TE) : TE := fun σ H Q => t σ H fun c H1 => if c = true then ta σ H1 Q else tb σ H1 Q
theorem pe_ifExp {c : Expr} (hc : PT X c tA) (ha : PE X a ta) (hb : PE X b tb) : PE X (.IfExp c a b pos) (tIf tA ta tb) := by
  intro pins s σ H Q I h
  refine wpAny_IfExp (thn (hc pins s σ H _ I h) fun d s1 ⟨H1, I1, q1⟩ => ?_)
  cases d with
  | true => exact ha pins s1 σ H1 Q I1 q1
  | false => exact hb pins s1 σ H1 Q I1 q1
end
end L2
namespace L2
open PySem PySem.Spec PyProof.Rows
def SqL (K : PySem.W.Frag) (H : Hp) (a : Addr) (xs : List V) : Prop :=
  Rd H a (.lst xs) ∨
    ∃ (o : Obj) (its : Array Value) (n : Nat), K.lookup a = some o ∧ o.cls = .type "list" ∧ o.dict = none ∧ o.data = .seq its n ∧ its.size ≤ sizeLine ∧ Vals xs its.toList
def SqT (K : PySem.W.Frag) (H : Hp) (a : Addr) (xs : List V) : Prop :=
  Rd H a (.tup xs) ∨
    ∃ (o : Obj) (its : Array Value) (n : Nat), K.lookup a = some o ∧ o.cls = .type "tuple" ∧ o.data = .seq its n ∧ its.size ≤ sizeLine ∧ Vals xs its.toList
def absV : Value → Option V
  | .none => some .non
  | .bool b => some (.bl b)
  | .int i _ => some (.int i)
  | .str x _ => some (.str x)
  | .bytes b _ => some (.byt b)
  | .float b _ => some (.flt b)
  | .ref a => some (.ref a)
  | .type n => some (.ty n)
  | _ => none
theorem RelV.abs {x : V} {u : Value} (r : RelV x u) : absV u = some x := by
  cases x with
  | non => cases r; rfl
  | bl _ => cases r; rfl
  | int _ => obtain ⟨t, rfl⟩ := r; rfl
  | str _ => obtain ⟨t, rfl⟩ := r; rfl
  | byt _ => obtain ⟨t, rfl⟩ := r; rfl
  | flt _ => obtain ⟨t, rfl⟩ := r; rfl
  | ref _ => cases r; rfl
  | ty _ => cases r; rfl
theorem RelV.inj {x y : V} {u : Value} (r : RelV x u) (q : RelV y u) : x = y := Option.some.inj (r.abs.symm.trans q.abs)
theorem Vals.inj : ∀ {xs ys : List V} {us : List Value}, Vals xs us → Vals ys us → xs = ys
  | _, _, _, .nil, .nil => rfl
  | _, _, _, .cons r t, .cons r' t' => by rw [r.inj r', Vals.inj t t']
section
variable {X : Cx} {pins : List (Addr × Obj)} {σ : St} {H : Hp} {s : Shared} {a : Addr} {xs ys : List V}
theorem SqL.of {K : PySem.W.Frag} (h : H a = some (.lst xs)) : SqL K H a xs := .inl (.inl h)
theorem SqT.of {K : PySem.W.Frag} (h : H a = some (.tup xs)) : SqT K H a xs := .inl (.inl h)
theorem Inv.list (I : Inv X pins σ H s) (h : SqL X.K H a xs) : ∃ its : List Value, Vals xs its ∧ PlainL s.heap a its.toArray ∧ xs.length ≤ sizeLine := by
  rcases h with h | ⟨o, its, n, hk, hc, hd, hs, hz, r⟩
  · obtain ⟨z, its, n, r, e⟩ := h.ok I.hok
    exact ⟨its, r, ⟨_, n, e, rfl, rfl, rfl⟩, z⟩
  · refine ⟨its.toList, r, ⟨o, n, I.kIn a o hk, hc, hd, by simpa using hs⟩, ?_⟩
    have e := r.length
    simp only [Array.length_toList] at e
    omega
theorem Inv.tuple (I : Inv X pins σ H s) (h : SqT X.K H a xs) : ∃ its : List Value, Vals xs its ∧ IsTup s.heap a its.toArray ∧ xs.length ≤ sizeLine := by
  rcases h with h | ⟨o, its, n, hk, hc, hs, hz, r⟩
  · obtain ⟨z, its, r, p⟩ := h.ok I.hok
    exact ⟨its, r, p, z⟩
  · refine ⟨its.toList, r, ⟨o, I.kIn a o hk, hc, n, by simpa using hs⟩, ?_⟩
    have e := r.length
    simp only [Array.length_toList] at e
    omega
theorem Inv.list_inj (I : Inv X pins σ H s) (h : SqL X.K H a xs) (h' : SqL X.K H a ys) : xs = ys := by
  obtain ⟨its, r, ⟨o, n, e, _, _, d⟩, _⟩ := I.list h
  obtain ⟨its', r', ⟨o', n', e', _, _, d'⟩, _⟩ := I.list h'
  rw [e] at e'; cases e'
  rw [d] at d'
  injection d' with d1 _
  have : its = its' := by simpa using congrArg Array.toList d1
  subst this
  exact r.inj r'
theorem Inv.tuple_inj (I : Inv X pins σ H s) (h : SqT X.K H a xs) (h' : SqT X.K H a ys) : xs = ys := by
  obtain ⟨its, r, ⟨o, e, _, n, d⟩, _⟩ := I.tuple h
  obtain ⟨its', r', ⟨o', e', _, n', d'⟩, _⟩ := I.tuple h'
  rw [e] at e'; cases e'
  rw [d] at d'
  injection d' with d1 _
  have : its = its' := by simpa using congrArg Array.toList d1
  subst this
  exact r.inj r'
end
abbrev Cx.wish (X : Cx) (E : Value → Shared → Prop) : Cx := { X with xe := E }
abbrev Cx.nox (X : Cx) : Cx := X.wish fun _ _ => False
theorem Cx.Ok.wish {X : Cx} (ok : X.Ok) (E : Value → Shared → Prop) : (X.wish E).Ok :=
  ⟨ok.mod, ok.kind, ok.glob, ok.blt, ok.above, ok.inj, ok.has, ok.cab, ok.hd, ok.frames, ok.stk, ok.exf, ok.bs, ok.bsz, ok.noex, ok.exfs, ok.funs, ok.frf⟩
theorem Cx.Ok.unwish {X : Cx} {E : Value → Shared → Prop} (ok : (X.wish E).Ok) : X.Ok :=
  ⟨ok.mod, ok.kind, ok.glob, ok.blt, ok.above, ok.inj, ok.has, ok.cab, ok.hd, ok.frames, ok.stk, ok.exf, ok.bs, ok.bsz, ok.noex, ok.exfs, ok.funs, ok.frf⟩
section
variable {X : Cx} {pins : List (Addr × Obj)} {σ : St} {H : Hp} {s : Shared} {E : Value → Shared → Prop}
theorem Inv.wish (I : Inv X pins σ H s) (E : Value → Shared → Prop) : Inv (X.wish E) pins σ H s := ⟨I.ok.wish E, I.os, I.bare, I.base, I.loc, I.cell, I.free, I.freeC, I.pin, I.hok, I.len⟩
theorem Inv.unwish (I : Inv (X.wish E) pins σ H s) : Inv X pins σ H s := ⟨I.ok.unwish, I.os, I.bare, I.base, I.loc, I.cell, I.free, I.freeC, I.pin, I.hok, I.len⟩
theorem SP.unwish {D : Ends} {f : Flow} {s' : Shared} (h : SP (X.wish E) pins D f s') : SP X pins D f s' := by
  cases f with
  | next => obtain ⟨σ', H', I, q⟩ := h; exact ⟨σ', H', I.unwish, q⟩
  | brk => obtain ⟨σ', H', I, q⟩ := h; exact ⟨σ', H', I.unwish, q⟩
  | cont => obtain ⟨σ', H', I, q⟩ := h; exact ⟨σ', H', I.unwish, q⟩
  | ret u => obtain ⟨v, σ', H', I, r, q⟩ := h; exact ⟨v, σ', H', I.unwish, r, q⟩
theorem PE.nox {e : Expr} {t : TE} (h : PE X.nox e t) : PE X e t := fun pins s σ H Q I hw =>
  wpAny_mono (h pins s σ H Q (I.wish _) hw) (fun _ _ ⟨v, H', I', r, q⟩ => ⟨v, H', I'.unwish, r, q⟩) fun _ _ z => False.elim z
theorem PT.nox {e : Expr} {t : TT} (h : PT X.nox e t) : PT X e t := fun pins s σ H Q I hw =>
  wpAny_mono (h pins s σ H Q (I.wish _) hw) (fun _ _ ⟨H', I', q⟩ => ⟨H', I'.unwish, q⟩) fun _ _ z => False.elim z
theorem PSs.nox {st : List Stmt} {t : TS} (h : PSs X.nox st t) : PSs X st t := fun pins s σ H D I hw =>
  wpAny_mono (h pins s σ H D (I.wish _) hw) (fun _ _ q => q.unwish) fun _ _ z => False.elim z
end
section
variable {X : Cx} {st : Stmt} {rest : List Stmt} {t u : TS} {e : Expr} {te : TE} {pos : Pos}
def tNext : TS := fun D σ H => D.nx σ H
def tSeq (t u : TS) : TS := fun D σ H => t { D with nx := u D } σ H
theorem pss_nil : PSs X [] tNext := fun _ _ σ H _ I h => wpAny_execs_nil ⟨σ, H, I, h⟩
theorem pss_cons (h1 : PS X st t) (h2 : PSs X rest u) : PSs X (st :: rest) (tSeq t u) := by
  intro pins s σ H D I h
  refine wpAny_execs_cons (thn (h1 pins s σ H { D with nx := u D } I h) fun f s1 q => ?_)
  cases f with
  | next =>
    obtain ⟨σ', H', I', q⟩ := q
    exact h2 pins s1 σ' H' D I' q
  | ret v => exact q
  | brk => exact q
  | cont => exact q
theorem pss_one (h1 : PS X st t) : PSs X [st] t := by
  intro pins s σ H D I h
  refine wpAny_execs_cons (thn (h1 pins s σ H D I h) fun f s1 q => ?_)
  cases f with
  | next => exact wpAny_execs_nil q
  | ret v => exact q
  | brk => exact q
  | cont => exact q
theorem Inv.quiet {pins : List (Addr × Obj)} {σ : St} {H : Hp} {s : Shared} (I : Inv X pins σ H s) : interactive X.env = false := by simp [interactive, I.ok.kind]
def tDrop (te : TE) : TS := fun D σ H => te σ H fun _ H1 => D.nx σ H1
theorem ps_expr (he : PE X e te) (hs : swapsWith e none pos.line X.env = pure false := by rfl) : PS X (.Expr e pos) (tDrop te) := by
  intro pins s σ H D I h
  exact wpAny_Expr_any (thn (he pins s σ H _ I h) fun v s1 ⟨x, H1, I1, r1, q1⟩ => ⟨σ, H1, I1, q1⟩) I.quiet hs
def tRet (te : TE) : TS := fun D σ H => te σ H D.rt
theorem ps_ret (he : PE X e te) : PS X (.Return (some e) pos) (tRet te) := by
  intro pins s σ H D I h
  exact wpAny_Return_some (thn (he pins s σ H _ I h) fun v s1 ⟨x, H1, I1, r1, q1⟩ => ⟨x, σ, H1, I1, r1, q1⟩)
def tIfS (c : TT) (t u : TS) : TS := fun D σ H => c σ H fun b H1 => if b = true then t D σ H1 else u D σ H1
theorem ps_if {c : Expr} {a b : List Stmt} {tc : TT} (hc : PT X c tc) (ha : PSs X a t) (hb : PSs X b u) : PS X (.If c a b pos) (tIfS tc t u) := by
  intro pins s σ H D I h
  refine wpAny_If (thn (hc pins s σ H _ I h) fun d s1 ⟨H1, I1, q1⟩ => ?_)
  cases d with
  | true => exact ha pins s1 σ H1 D I1 q1
  | false => exact hb pins s1 σ H1 D I1 q1
def tNever : TS := fun _ _ _ => False
theorem ps_never : PS X st tNever := fun _ _ _ _ _ _ h => h.elim
end
abbrev TG := V → St → Hp → (St → Hp → Prop) → Prop
abbrev TGs := List V → St → Hp → (St → Hp → Prop) → Prop
def PG (X : Cx) (target : Expr) (t : TG) : Prop :=
  ∀ (pins : List (Addr × Obj)) (s : Shared) (σ : St) (H : Hp) (v : V) (u : Value) (Q : St → Hp → Prop), Inv X pins σ H s → RelV v u → t v σ H Q →
    wpAny (model X.prog X.w) X.A (assign target X.env u) (fun _ s' => ∃ σ' H', Inv X pins σ' H' s' ∧ Q σ' H') X.xe s
def PGs (X : Cx) (ts : List Expr) (t : TGs) : Prop :=
  ∀ (pins : List (Addr × Obj)) (s : Shared) (σ : St) (H : Hp) (vs : List V) (us : List Value) (Q : St → Hp → Prop), Inv X pins σ H s → Vals vs us → t vs σ H Q →
    wpAny (model X.prog X.w) X.A (assignInOrder ((assignEach ts X.env).map (·.2)) us) (fun _ s' => ∃ σ' H', Inv X pins σ' H' s' ∧ Q σ' H') X.xe s
abbrev TSet := V → V → V → Hp → (Hp → Prop) → Prop
def PSet (X : Cx) (t : TSet) : Prop :=
  ∀ (pins : List (Addr × Obj)) (s : Shared) (σ : St) (H : Hp) (o i v : V) (ov iv u : Value) (Q : Hp → Prop), Inv X pins σ H s → RelV o ov → RelV i iv → RelV v u → t o i v H Q →
    wpAny (model X.prog X.w) X.A (setItem ov iv u) (fun _ s' => ∃ H', Inv X pins σ H' s' ∧ Q H') X.xe s
section
variable {X : Cx} {pos : Pos}
def gName (i : Nat) : TG := fun v σ H Q => Q (σ.set i (some v)) H
theorem pg_name {i : Nat} {x : Str} (hN : X.N.Nodup) (hi : X.N[i]? = some x) (hx : Loc X.env.scope x) (hf : X.fn x = true ∨ X.env.scope.names.lookup x = some .local := by first | exact .inl rfl | exact .inr rfl | assumption) : PG X (.Name x pos) (gName i) := by
  intro pins s σ H v u Q I r h
  exact wpAny_assign_Name (store_ok I hN hi hx r (fun s' I' => ⟨_, H, I', h⟩) hf)
def gNil : TGs := fun vs σ H Q => vs = [] ∧ Q σ H
def gCons (t : TG) (u : TGs) : TGs := fun vs σ H Q => ∃ v r, vs = v :: r ∧ t v σ H fun σ' H' => u r σ' H' Q
theorem pgs_nil : PGs X [] gNil := by
  intro pins s σ H vs us Q I r h
  obtain ⟨e, h⟩ := h
  subst e
  cases r
  exact assignInOrder_nil ⟨σ, H, I, h⟩
theorem pgs_cons {e : Expr} {es : List Expr} {t : TG} {u : TGs} (h1 : PG X e t) (h2 : PGs X es u)
    (hs : (assignEach (e :: es) X.env).map (·.2) = assign e X.env :: (assignEach es X.env).map (·.2) := by rfl) : PGs X (e :: es) (gCons t u) := by
  intro pins s σ H vs us Q I r h
  obtain ⟨v, vr, e1, h⟩ := h
  subst e1
  cases r with
  | cons r rr =>
    rw [hs]
    refine assignInOrder_cons (thn (h1 pins s σ H _ _ _ I r h) fun _ s1 ⟨σ1, H1, I1, q1⟩ => ?_)
    exact h2 pins s1 σ1 H1 _ _ Q I1 rr q1
def gTup (K : PySem.W.Frag) (n : Nat) (t : TGs) : TG := fun v σ H Q => ∃ a xs, v = .ref a ∧ SqT K H a xs ∧ xs.length = n ∧ t xs σ H Q
theorem pg_tup {es : List Expr} {k : Nat} {t : TGs} {n : Nat} (hc : X.calm = true) (h : PGs X es t)
    (hn : (assignEach es X.env).length = n := by rfl) (hst : (assignEach es X.env).findIdx? (·.1) = none := by rfl) : PG X (.Tuple es k pos) (gTup X.K n t) := by
  intro pins s σ H v u Q I r hw
  obtain ⟨a, xs, e1, hq, hl, hw⟩ := hw
  subst e1
  cases r
  obtain ⟨its, rv, ht, hz⟩ := I.tuple hq
  refine assign_Tuple_tuple (I.ok.hd hc) ht (by simp [hn, ← hl, rv.length]) hst fun h' hx => ?_
  have I1 : Inv X pins σ H { s with heap := h' } := I.kept (t' := s.toks) fun b o e => hx b o (Nat.ne_of_lt (Heap.lt_size e)) e
  exact h pins _ σ H xs _ Q I1 (by simpa using rv) hw
def gSub (to ti : TE) (t : TSet) : TG := fun v σ H Q => to σ H fun o H1 => ti σ H1 fun i H2 => t o i v H2 fun H3 => Q σ H3
theorem pg_sub {o i : Expr} {to ti : TE} {t : TSet} (ho : PE X o to) (hi : PE X i ti) (hs : PSet X t)
    (ha : ∀ v, assign (.Subscript o i pos) X.env v = (do
      let ov ← holding [v] (eval o X.env)
      let iv ← holding [v, ov] (eval i X.env)
      standAt pos
      holding [v, ov, iv] (setItem ov iv v)
      release [v, ov, iv] []) := by intro _; rfl) : PG X (.Subscript o i pos) (gSub to ti t) := by
  intro pins s σ H v u Q I r h
  rw [ha]
  refine wpAny_bind (wpAny_holding (thn (ho pins s σ H _ I h) fun ov s1 ⟨x, H1, I1, r1, q1⟩ => ?_))
  refine wpAny_bind (wpAny_holding (thn (hi pins s1 σ H1 _ I1 q1) fun iv s2 ⟨y, H2, I2, r2, q2⟩ => ?_))
  refine wpAny_bind (wpAny_standAt (wpAny_bind (wpAny_holding (thn (hs pins s2 σ H2 x y v ov iv u _ I2 r1 r2 r q2) fun _ s3 ⟨H3, I3, q3⟩ => ?_))))
  exact wpAny_release ⟨σ, H3, I3, q3⟩
def tAsg (te : TE) (g : TG) : TS := fun D σ H => te σ H fun x H1 => g x σ H1 D.nx
theorem ps_asg {tg e : Expr} {te : TE} {g : TG} (he : PE X e te) (hg : PG X tg g) (hs : swapsWithSole [tg] e pos.line X.env = pure false := by rfl) (hw : swappedStores [tg] e X.env = pure none := by rfl)
    (h1 : (assignEach [tg] X.env).map (·.2) = [assign tg X.env] := by rfl) : PS X (.Assign [tg] e pos) (tAsg te g) := by
  intro pins s σ H D I h
  refine wpAny_Assign_stores (thn (he pins s σ H _ I h) fun v s1 ⟨x, H1, I1, r1, q1⟩ => ?_) hs hw
  rw [h1]
  exact thn (hg pins s1 σ H1 x v _ I1 r1 q1) fun _ s2 q => q
theorem ps_set {i : Nat} {x : Str} {e : Expr} {te : TE} {pos' : Pos} (hN : X.N.Nodup) (hi : X.N[i]? = some x) (hx : Loc X.env.scope x) (he : PE X e te) (hs : swapsWith e (some (.Name x pos')) pos.line X.env = pure false := by rfl) (hf : X.fn x = true ∨ X.env.scope.names.lookup x = some .local := by first | exact .inl rfl | exact .inr rfl | assumption) :
    PS X (.Assign [.Name x pos'] e pos) (tAsg te (gName i)) := by
  intro pins s σ H D I h
  refine wpAny_Assign_Name (thn (he pins s σ H _ I h) fun v s1 ⟨y, H1, I1, r1, q1⟩ => ?_) hs
  exact store_ok I1 hN hi hx r1 (fun s2 I2 => ⟨_, H1, I2, q1⟩) hf
end
structure It where
  go : Nat → Hp → Prop
  yld : Nat → Hp → V → Hp → Prop
  stop : Nat → Hp → Prop
def FpOk (X : Cx) (pins : List (Addr × Obj)) (H : Hp) (b : Addr) : Prop :=
  H b = none ∧ b ≠ X.env.locals ∧ b ∉ X.fs ∧ (b ∈ X.ex ∨ X.s_0.heap.objs.size ≤ b) ∧ (∀ x c, X.env.cells.lookup x = some c → c ≠ b) ∧ ∀ p ∈ X.pn ++ pins, p.1 ≠ b
theorem Inv.fpOk {X : Cx} {pins : List (Addr × Obj)} {σ : St} {H H' : Hp} {s : Shared} {b : Addr} (I : Inv X pins σ H s) (hb : s.heap.objs.size ≤ b) (hn : H' b = none) : FpOk X pins H' b := by
  refine ⟨hn, Nat.ne_of_gt (Nat.lt_of_lt_of_le I.lt hb), I.nofs hb, .inr (Nat.le_trans I.sz hb), fun x c e z => ?_, fun p hp z => ?_⟩
  · obtain ⟨v, q⟩ := I.cell x c e
    exact absurd (Nat.lt_of_lt_of_le q.lt (by rw [z]; exact hb)) (Nat.lt_irrefl _)
  · exact absurd (Nat.lt_of_lt_of_le (Heap.lt_size (I.pin p hp).1) (by rw [z]; exact hb)) (Nat.lt_irrefl _)
structure Turn (P : Program) (w : World) (K : PySem.W.Frag) (tg : Expr) (J : It) (fp : List Addr) (it : Addr) (tn : Nat → Heap → Prop) : Prop where
  mem : it ∈ fp
  obj : ∀ i h, tn i h → ∀ b ∈ fp, ∃ o, h.get? b = some o ∧ ∀ v, o.data ≠ .cell v
  keep : ∀ i h h', tn i h → (∀ b ∈ fp, ∀ o, h.get? b = some o → h'.get? b = some o) → tn i h'
  item : ∀ (X : Cx), X.prog = P → X.w = w → X.K = K → X.calm = true → ∀ (i : Nat) (pins : List (Addr × Obj)) (s : Shared) (σ : St) (H : Hp) (E : Value → Shared → Prop), Inv X pins σ H s → (∀ b ∈ fp, FpOk X pins H b) → tn i s.heap → J.go i H →
    wpAny (model P w) X.A (pyNext (.ref it)) (fun r s1 => ∃ u, r = some u ∧
      wpAny (model P w) X.A (letOwnedTupleGo tg (.ref it) u) (fun _ s2 => ∃ x H', Inv X pins σ H' s2 ∧ RelV x u ∧ J.yld i H x H' ∧ tn (i + 1) s2.heap ∧ ∀ b ∈ fp, H' b = none) E s1) E s
  done : ∀ (X : Cx), X.prog = P → X.w = w → X.K = K → X.calm = true → ∀ (i : Nat) (pins : List (Addr × Obj)) (s : Shared) (σ : St) (H : Hp) (E : Value → Shared → Prop), Inv X pins σ H s → (∀ b ∈ fp, FpOk X pins H b) → tn i s.heap → J.stop i H →
    wpAny (model P w) X.A (pyNext (.ref it)) (fun r s1 => r = none ∧ Inv X pins σ H s1) E s
  self : ∀ (A : Around) (i : Nat) (s : Shared) (Q : Value → Shared → Prop) (E : Value → Shared → Prop), tn i s.heap → Q (.ref it) s → wpAny (model P w) A (pyIter (.ref it)) Q E s
abbrev TI := St → Hp → (It → Hp → Prop) → Prop
def PIE (X : Cx) (pins : List (Addr × Obj)) (σ : St) (tg : Expr) (R : It → Hp → Prop) (itv : Value) (s2 : Shared) : Prop :=
  ∃ (it : Addr) (fp : List Addr) (tn : Nat → Heap → Prop) (J : It) (H' : Hp), itv = .ref it ∧ Inv X pins σ H' s2 ∧ Turn X.prog X.w X.K tg J fp it tn ∧ tn 0 s2.heap ∧ (∀ b ∈ fp, FpOk X pins H' b) ∧ R J H'
def PI (X : Cx) (tg iter : Expr) (wi : TI) : Prop :=
  ∀ (pins : List (Addr × Obj)) (s : Shared) (σ : St) (H : Hp) (R : It → Hp → Prop), Inv X pins σ H s → wi σ H R →
    wpAny (model X.prog X.w) X.A (eval iter X.env) (fun v s1 => wpAny (model X.prog X.w) X.A (pyIter v) (PIE X pins σ tg R) X.xe s1) X.xe s
theorem go_of {M : Model} {A : Around} {E : Value → Shared → Prop} {s : Shared} {tg : Expr} {it : Addr} {u : Value} {o : Obj} {n : String} {vs : Array Value} {Q : Unit → Shared → Prop} (ho : s.heap.get? it = some o) (hc : o.cls = .type n) (hd : o.data = .fields vs)
    (hn : ["enumerate", "zip", "dict_itemiterator", "dict_reverseitemiterator", "odict_iterator", "itertools.zip_longest", "itertools.pairwise"].contains n = false) (hQ : Q () s) : wpAny M A (letOwnedTupleGo tg (.ref it) u) Q E s := by
  unfold letOwnedTupleGo
  cases tg <;> first
    | exact wpAny_pure hQ
    | (cases u <;> first
        | exact wpAny_pure hQ
        | (refine wpAny_bind (wpAny_load ho ?_)
           rw [hc, hd]
           show wpAny M A (if (["enumerate", "zip", "dict_itemiterator", "dict_reverseitemiterator", "odict_iterator", "itertools.zip_longest", "itertools.pairwise"].contains n && vs[0]? == some (rawInt _)) = true then _ else _) Q E s
           rw [if_neg (by intro h; rw [hn, Bool.false_and] at h; cases h)]
           exact wpAny_pure hQ))
def Itl (K : PySem.W.Frag) (a : Addr) : It :=
  ⟨fun i H => ∃ xs x, SqL K H a xs ∧ xs[i]? = some x, fun i H x H' => H' = H ∧ ∀ xs, SqL K H a xs → xs[i]? = some x, fun i H => ∃ xs, SqL K H a xs ∧ xs.length ≤ i⟩
def Itt (K : PySem.W.Frag) (a : Addr) : It :=
  ⟨fun i H => ∃ xs x, SqT K H a xs ∧ xs[i]? = some x, fun i H x H' => H' = H ∧ ∀ xs, SqT K H a xs → xs[i]? = some x, fun i H => ∃ xs, SqT K H a xs ∧ xs.length ≤ i⟩
def Itr (lo : Int) (n : Nat) : It := ⟨fun i _ => i < n, fun i H x H' => H' = H ∧ x = .int (lo + i), fun i _ => n ≤ i⟩
theorem turn_list {P : Program} {w : World} {K : PySem.W.Frag} {tg : Expr} (a it : Addr) : Turn P w K tg (Itl K a) [it] it (fun i h => h.IsListIter it a i) where
  mem := by simp
  obj := fun i h st b hb => by
    have e : b = it := by simpa using hb
    subst e
    obtain ⟨o, e, c, d⟩ := st
    exact ⟨o, e, fun v z => by rw [d] at z; cases z⟩
  keep := fun i h h' st k => st.at fun o e => k it (by simp) o e
  item := by
    intro X hP hw hK hc i pins s σ H E I hf st hg
    subst hP hw hK
    obtain ⟨xs, x, hq, hx⟩ := hg
    obtain ⟨its, rv, p, hz⟩ := I.list hq
    obtain ⟨u, hu, ru⟩ := rv.get hx
    obtain ⟨f0, f1, f2, f3, f4, f5⟩ := hf it (by simp)
    refine wpAny_pyNext_list_item st p.isList (x := u) (by simpa using hu) fun h' st' sb => ?_
    have I1 : Inv X pins σ H { s with heap := h' } := I.turned (t' := s.toks) (fun b o hb e => (sb.2 b hb).trans e) f0 f1 f3 f4 f5
    obtain ⟨o, e, c, d⟩ := id st'
    exact ⟨u, rfl, go_of (s := { s with heap := h' }) e c d (by decide) ⟨x, H, I1, ru, ⟨rfl, fun ys hy => by rw [I.list_inj hy hq]; exact hx⟩, st', fun b hb => (hf b hb).1⟩⟩
  done := by
    intro X hP hw hK hc i pins s σ H E I hf st hg
    subst hP hw hK
    obtain ⟨xs, hq, hx⟩ := hg
    obtain ⟨its, rv, p, hz⟩ := I.list hq
    obtain ⟨f0, f1, f2, f3, f4, f5⟩ := hf it (by simp)
    have hl := rv.length
    exact wpAny_pyNext_list_end (I.ok.hd hc) st p.isList (by simp; omega) fun h' eb => ⟨rfl, I.turned (t' := s.toks) (fun b o hb e => eb b o hb e) f0 f1 f3 f4 f5⟩
  self := fun _ _ _ _ _ st h => wpAny_pyIter_listiter st h
theorem turn_tuple {P : Program} {w : World} {K : PySem.W.Frag} {tg : Expr} (a it : Addr) : Turn P w K tg (Itt K a) [it] it (fun i h => h.IsTupleIter it a i) where
  mem := by simp
  obj := fun i h st b hb => by
    have e : b = it := by simpa using hb
    subst e
    obtain ⟨o, e, c, d⟩ := st
    exact ⟨o, e, fun v z => by rw [d] at z; cases z⟩
  keep := fun i h h' st k => st.at fun o e => k it (by simp) o e
  item := by
    intro X hP hw hK hc i pins s σ H E I hf st hg
    subst hP hw hK
    obtain ⟨xs, x, hq, hx⟩ := hg
    obtain ⟨its, rv, p, hz⟩ := I.tuple hq
    obtain ⟨u, hu, ru⟩ := rv.get hx
    obtain ⟨f0, f1, f2, f3, f4, f5⟩ := hf it (by simp)
    refine wpAny_pyNext_tuple_item st (show s.heap.IsTuple a its.toArray from p) (x := u) (by simpa using hu) fun h' st' sb => ?_
    have I1 : Inv X pins σ H { s with heap := h' } := I.turned (t' := s.toks) (fun b o hb e => (sb.2 b hb).trans e) f0 f1 f3 f4 f5
    obtain ⟨o, e, c, d⟩ := id st'
    exact ⟨u, rfl, go_of (s := { s with heap := h' }) e c d (by decide) ⟨x, H, I1, ru, ⟨rfl, fun ys hy => by rw [I.tuple_inj hy hq]; exact hx⟩, st', fun b hb => (hf b hb).1⟩⟩
  done := by
    intro X hP hw hK hc i pins s σ H E I hf st hg
    subst hP hw hK
    obtain ⟨xs, hq, hx⟩ := hg
    obtain ⟨its, rv, p, hz⟩ := I.tuple hq
    obtain ⟨f0, f1, f2, f3, f4, f5⟩ := hf it (by simp)
    have hl := rv.length
    exact wpAny_pyNext_tuple_end (I.ok.hd hc) st (show s.heap.IsTuple a its.toArray from p) (by simp; omega) fun h' eb => ⟨rfl, I.turned (t' := s.toks) (fun b o hb e => eb b o hb e) f0 f1 f3 f4 f5⟩
  self := fun _ _ _ _ _ st h => wpAny_pyIter_tupleiter st h
theorem turn_range {P : Program} {w : World} {K : PySem.W.Frag} {tg : Expr} (it : Addr) (lo : Int) (n : Nat) : Turn P w K tg (Itr lo n) [it] it (fun i h => IsRangeIter h it (lo + (i : Nat) * 1) ((n : Int) - (i : Nat)) 1) where
  mem := by simp
  obj := fun i h st b hb => by
    have e : b = it := by simpa using hb
    subst e
    exact ⟨_, st, fun v z => by
      have z' : Data.fields _ = Data.cell v := z
      cases z'⟩
  keep := fun i h h' st k => k it (by simp) _ st
  item := by
    intro X hP hw hK hc i pins s σ H E I hf st hg
    subst hP hw hK
    obtain ⟨f0, f1, f2, f3, f4, f5⟩ := hf it (by simp)
    have W := Walks.range (prog := X.prog) (w := X.w) (I.ok.hd hc) it lo 1 n
    refine W.item i s _ _ hg st fun v h' tk hv st' kk => ?_
    obtain ⟨t, rfl⟩ := hv
    have I1 : Inv X pins σ H { s with heap := h', toks := tk } := I.turned (fun b o hb e => kk b o (by simpa using hb) e) f0 f1 f3 f4 f5
    refine ⟨_, rfl, go_of (s := { s with heap := h', toks := tk }) (n := "range_iterator") st' rfl rfl (by decide) ⟨.int (lo + i), H, I1, ⟨t, ?_⟩, ⟨rfl, rfl⟩, st', fun b hb => (hf b hb).1⟩⟩
    rw [Int.mul_one]
  done := by
    intro X hP hw hK hc i pins s σ H E I hf st hg
    subst hP hw hK
    obtain ⟨f0, f1, f2, f3, f4, f5⟩ := hf it (by simp)
    exact wpAny_pyNext_range_end (I.ok.hd hc) st (by have : n ≤ i := hg; omega) fun h' eb => ⟨rfl, I.turned (t' := s.toks) (fun b o hb e => eb b o hb e) f0 f1 f3 f4 f5⟩
  self := fun _ _ _ _ _ st h => wpAny_pyIter_rangeiter st h
end L2
namespace L2
open PySem PySem.Spec PyProof.Rows
section
variable {X : Cx} {tg : Expr}
def iList (K : PySem.W.Frag) (tl : TE) : TI := fun σ H R => tl σ H fun x H1 => ∃ a, x = .ref a ∧ (∃ xs, SqL K H1 a xs) ∧ R (Itl K a) H1
def iTup (K : PySem.W.Frag) (tl : TE) : TI := fun σ H R => tl σ H fun x H1 => ∃ a, x = .ref a ∧ (∃ xs, SqT K H1 a xs) ∧ R (Itt K a) H1
theorem pi_list {l : Expr} {tl : TE} (hl : PE X l tl) : PI X tg l (iList X.K tl) := by
  intro pins s σ H R I h
  refine thn (hl pins s σ H _ I h) fun v s1 ⟨x, H1, I1, r1, q1⟩ => ?_
  obtain ⟨a, e, ⟨xs, hq⟩, q⟩ := q1
  subst e
  cases r1
  obtain ⟨its, rv, p, hz⟩ := I1.list hq
  refine wpAny_pyIter_list p.isList ?_
  refine ⟨s1.heap.objs.size, [s1.heap.objs.size], _, _, H1, rfl, I1.kept (t' := s1.toks) fun b o e => Heap.get?_push_of_some _ e, turn_list a _, ⟨_, Heap.get?_push_size _ rfl, rfl, rfl⟩, fun b hb => ?_, q⟩
  have e : b = s1.heap.objs.size := by simpa using hb
  subst e
  exact I1.fpOk (Nat.le_refl _) (I1.hok.fresh (Nat.le_refl _))
theorem pi_tup {l : Expr} {tl : TE} (hl : PE X l tl) : PI X tg l (iTup X.K tl) := by
  intro pins s σ H R I h
  refine thn (hl pins s σ H _ I h) fun v s1 ⟨x, H1, I1, r1, q1⟩ => ?_
  obtain ⟨a, e, ⟨xs, hq⟩, q⟩ := q1
  subst e
  cases r1
  obtain ⟨its, rv, p, hz⟩ := I1.tuple hq
  refine wpAny_pyIter_tuple (show s1.heap.IsTuple a its.toArray from p) ?_
  refine ⟨s1.heap.objs.size, [s1.heap.objs.size], _, _, H1, rfl, I1.kept (t' := s1.toks) fun b o e => Heap.get?_push_of_some _ e, turn_tuple a _, ⟨_, Heap.get?_push_size _ rfl, rfl, rfl⟩, fun b hb => ?_, q⟩
  have e : b = s1.heap.objs.size := by simpa using hb
  subst e
  exact I1.fpOk (Nat.le_refl _) (I1.hok.fresh (Nat.le_refl _))
theorem range_it {pins : List (Addr × Obj)} {σ : St} {H : Hp} {s : Shared} {R : It → Hp → Prop} {E : Value → Shared → Prop} {lo hi : Int} {t u v : Tok} {tk : Nat} (I : Inv X pins σ H s) (h1 : -(2 ^ 62) ≤ lo) (h2 : lo < 2 ^ 62) (h3 : -(2 ^ 62) ≤ hi) (h4 : hi < 2 ^ 62)
    (q : R (Itr lo (hi - lo).toNat) H) : wpAny (model X.prog X.w) X.A (pyIter (.ref s.heap.objs.size)) (PIE X pins σ tg R) E { s with heap := s.heap.push { cls := .type "range", data := .fields #[.int lo t, .int hi u, .int 1 v] }, toks := tk } := by
  refine wpAny_pyIter_range (IsRange.new ..) (small_one h1 h2 h3 h4) ?_
  have I1 : Inv X pins σ H { s with heap := s.heap.push { cls := .type "range", data := .fields #[.int lo t, .int hi u, .int 1 v] }, toks := tk } := I.kept fun b o e => Heap.get?_push_of_some _ e
  refine ⟨(s.heap.push { cls := .type "range", data := .fields #[.int lo t, .int hi u, .int 1 v] }).objs.size, [(s.heap.push { cls := .type "range", data := .fields #[.int lo t, .int hi u, .int 1 v] }).objs.size], _, _, H, rfl,
    I1.kept (t' := tk) fun b o e => Heap.get?_push_of_some _ e, turn_range _ lo (hi - lo).toNat, ?_, fun b hb => ?_, q⟩
  · have e1 : lo + ((0 : Nat) : Int) * 1 = lo := by simp
    have e2 : (((hi - lo).toNat : Nat) : Int) - ((0 : Nat) : Int) = Builtin.Range.rangeSize lo hi 1 := by rw [rangeSize_one]; split <;> omega
    show IsRangeIter _ _ (lo + ((0 : Nat) : Int) * 1) ((((hi - lo).toNat : Nat) : Int) - ((0 : Nat) : Int)) 1
    rw [e1, e2]
    exact Heap.get?_push_size _ rfl
  · have e : b = (s.heap.push { cls := .type "range", data := .fields #[.int lo t, .int hi u, .int 1 v] }).objs.size := by simpa using hb
    subst e
    exact I1.fpOk (Nat.le_refl _) (I1.hok.fresh (Nat.le_refl _))
def iRng1 (ta : TA) : TI := fun σ H R => ta σ H fun vs H1 => ∃ j : Int, vs = [.int j] ∧ -(2 ^ 62) ≤ j ∧ j < 2 ^ 62 ∧ R (Itr 0 j.toNat) H1
theorem pi_range1 {a : Expr} {ta : TA} {p pos : Pos} (hg : Gl X "range") (hm : X.mg "range" = none) (ha : PA X [a] ta) (hs : starEach [a] X.env = [(false, eval a X.env)] := by rfl) : PI X tg (.Call (.Name "range" p) [a] [] pos) (iRng1 ta) := by
  intro pins s σ H R I h
  refine Call_ (ld_blt I hg hm boot_range (PyProof.Rows.callWith_type1 (thn (ha pos pins s σ H _ I h) fun us s1 ⟨vs, H1, I1, r1, q1⟩ => ?_) hs rfl))
  obtain ⟨j, e, q1, q2, q⟩ := q1
  subst e
  cases r1 with
  | cons r rr =>
    cases rr
    obtain ⟨t, rfl⟩ := r
    exact call_range_1 (range_it I1 (by omega) (by omega) q1 q2 (by simpa using q))
def tFor (wi : TI) (g : TG) (tb : TS) : TS := fun D σ H => wi σ H fun J H1 => ∃ W : Nat → Nat → St → Hp → Prop, (∃ m, W 0 m σ H1) ∧ ∀ i m σ H, W i m σ H →
  (J.stop i H ∧ D.nx σ H) ∨ (J.go i H ∧ ∃ N : St → Hp → Prop, (∀ σ' H', N σ' H' → ∃ m', m' < m ∧ W (i + 1) m' σ' H') ∧ ∀ x H', J.yld i H x H' → g x σ H' fun σ2 H2 => tb { D with nx := N, ct := N, bk := D.nx } σ2 H2)
def pinsAt (fp : List Addr) (h : Heap) : List (Addr × Obj) := fp.filterMap fun b => (h.get? b).map fun o => (b, o)
theorem mem_pinsAt {fp : List Addr} {h : Heap} {b : Addr} {o : Obj} (hb : b ∈ fp) (e : h.get? b = some o) : (b, o) ∈ pinsAt fp h := List.mem_filterMap.mpr ⟨b, hb, by rw [e]; rfl⟩
theorem of_pinsAt {fp : List Addr} {h : Heap} {p : Addr × Obj} (hp : p ∈ pinsAt fp h) : p.1 ∈ fp ∧ h.get? p.1 = some p.2 := by
  obtain ⟨b, hb, e⟩ := List.mem_filterMap.mp hp
  cases q : h.get? b with
  | none => rw [q] at e; cases e
  | some o =>
    rw [q] at e
    have e' : (b, o) = p := Option.some.inj e
    subst e'
    exact ⟨hb, q⟩
theorem Inv.pinned {pins : List (Addr × Obj)} {σ : St} {H : Hp} {s : Shared} {fp : List Addr} (I : Inv X pins σ H s) (hf : ∀ b ∈ fp, FpOk X pins H b) (ho : ∀ b ∈ fp, ∃ o, s.heap.get? b = some o ∧ ∀ v, o.data ≠ .cell v) : Inv X (pins ++ pinsAt fp s.heap) σ H s :=
  I.pins_of fun p hp => (List.mem_append.mp hp).elim (fun z => I.pin p (List.mem_append_right _ z)) fun z => by
    obtain ⟨hb, e⟩ := of_pinsAt z
    obtain ⟨f0, f1, f2, _⟩ := hf p.1 hb
    obtain ⟨o, e', d⟩ := ho p.1 hb
    rw [e] at e'; cases e'
    exact ⟨e, f0, f1, f2, d⟩
theorem Inv.unpinned {pins pl : List (Addr × Obj)} {σ : St} {H : Hp} {s : Shared} (I : Inv X (pins ++ pl) σ H s) : Inv X pins σ H s := I.pins_of fun p hp => I.pin p (List.mem_append_right _ (List.mem_append_left _ hp))
theorem ps_for {iter : Expr} {body : List Stmt} {wi : TI} {g : TG} {tb : TS} {pos : Pos} (hp : PassesOwn (model X.prog X.w) X.A X.env X.xe) (hc : X.calm = true) (hi : PI X tg iter wi) (hg : PG X tg g) (hb : PSs X body tb)
    (hs : ∀ x, foldedSetIterable iter X.env x = pure x := by intro _; rfl) : PS X (.For tg iter body [] pos) (tFor wi g tb) := by
  intro pins s σ H D I h
  refine wpAny_For (thn (hi pins s σ H _ I h) fun v s1 h1 => thn h1 fun itv s2 h2 => ?_) hs
  obtain ⟨it, fp, tn, J, H2, e, I2, T, st2, f2, W, ⟨m0, w0⟩, turn⟩ := h2
  subst e
  have stat : ∀ {H' : Hp}, (∀ b ∈ fp, H' b = none) → ∀ b ∈ fp, FpOk X pins H' b := fun hn b hb => ⟨hn b hb, (f2 b hb).2⟩
  refine codeAny_forLoop_any (fun n s' => ∃ i σ' H', Inv X pins σ' H' s' ∧ tn i s'.heap ∧ (∀ b ∈ fp, H' b = none) ∧ W i n σ' H') ?_ m0 ⟨0, σ, H2, I2, st2, fun b hb => (f2 b hb).1, w0⟩
  rintro n s3 ⟨i, σ3, H3, I3, st3, fr3, w3⟩
  rcases turn i n σ3 H3 w3 with ⟨stop, qn⟩ | ⟨go, N, hN, step⟩
  · refine wpAny_passesOwn hp (thn (T.done X rfl rfl rfl hc i pins s3 σ3 H3 X.xe I3 (stat fr3) st3 stop) fun r s4 ⟨hr, I4⟩ => ?_)
    subst hr
    exact wpAny_execs_nil ⟨σ3, H3, I4, qn⟩
  · refine wpAny_passesOwn hp (thn (T.item X rfl rfl rfl hc i pins s3 σ3 H3 X.xe I3 (stat fr3) st3 go) fun r s4 ⟨u, hr, h4⟩ => ?_)
    subst hr
    refine wpAny_passesOwn hp (thn h4 fun _ s5 ⟨x, H5, I5, r5, y5, st5, fr5⟩ => ?_)
    have I5' := I5.pinned (stat fr5) (T.obj _ _ st5)
    refine wpAny_passesOwn hp (thn (hg _ s5 σ3 H5 x u _ I5' r5 (step x H5 y5)) fun _ s6 ⟨σ6, H6, I6, q6⟩ => ?_)
    refine wpAny_passesOwn hp (thn (hb _ s6 σ6 H6 _ I6 q6) fun f s7 q7 => ?_)
    have again : ∀ {σ7 : St} {H7 : Hp}, Inv X (pins ++ pinsAt fp s5.heap) σ7 H7 s7 → N σ7 H7 → ∃ m, m < n ∧ ∃ i σ' H', Inv X pins σ' H' s7 ∧ tn i s7.heap ∧ (∀ b ∈ fp, H' b = none) ∧ W i m σ' H' := fun {σ7 H7} I7 n7 => by
      obtain ⟨m', hm, w7⟩ := hN σ7 H7 n7
      refine ⟨m', hm, i + 1, σ7, H7, I7.unpinned, T.keep _ _ _ st5 fun b hb o e => (I7.pin (b, o) (List.mem_append_right _ (List.mem_append_right _ (mem_pinsAt hb e)))).1, fun b hb => ?_, w7⟩
      obtain ⟨o, e, d⟩ := T.obj _ _ st5 b hb
      exact (I7.pin (b, o) (List.mem_append_right _ (List.mem_append_right _ (mem_pinsAt hb e)))).2.1
    cases f with
    | next => obtain ⟨σ7, H7, I7, n7⟩ := q7; exact again I7 n7
    | cont => obtain ⟨σ7, H7, I7, n7⟩ := q7; exact again I7 n7
    | brk => obtain ⟨σ7, H7, I7, q7⟩ := q7; exact ⟨σ7, H7, I7.unpinned, q7⟩
    | ret v => obtain ⟨x7, σ7, H7, I7, r7, q7⟩ := q7; exact ⟨x7, σ7, H7, I7.unpinned, r7, q7⟩
end
theorem for_list {K : PySem.W.Frag} {a : Addr} {xs : List V} {g : TG} {tb : TS} {D : Ends} {σ : St} {H : Hp} (Pv : Nat → St → Hp → Prop) (h0 : Pv 0 σ H) (hl : ∀ i σ H, i ≤ xs.length → Pv i σ H → SqL K H a xs)
    (hs : ∀ i x σ H, xs[i]? = some x → Pv i σ H → g x σ H fun σ2 H2 => tb { D with nx := Pv (i + 1), ct := Pv (i + 1), bk := D.nx } σ2 H2) (hd : ∀ σ H, Pv xs.length σ H → D.nx σ H) :
    ∃ W : Nat → Nat → St → Hp → Prop, (∃ m, W 0 m σ H) ∧ ∀ i m σ H, W i m σ H →
      ((Itl K a).stop i H ∧ D.nx σ H) ∨ ((Itl K a).go i H ∧ ∃ N : St → Hp → Prop, (∀ σ' H', N σ' H' → ∃ m', m' < m ∧ W (i + 1) m' σ' H') ∧ ∀ x H', (Itl K a).yld i H x H' → g x σ H' fun σ2 H2 => tb { D with nx := N, ct := N, bk := D.nx } σ2 H2) := by
  refine ⟨fun i m σ H => m = xs.length - i ∧ i ≤ xs.length ∧ Pv i σ H, ⟨xs.length, by simp, Nat.zero_le _, h0⟩, ?_⟩
  rintro i m σ H ⟨rfl, hi, p⟩
  have q := hl i σ H hi p
  by_cases hlt : i < xs.length
  · refine .inr ⟨⟨xs, xs[i], q, by simp [hlt]⟩, Pv (i + 1), fun σ' H' p' => ⟨xs.length - (i + 1), by omega, rfl, hlt, p'⟩, fun x H' y => ?_⟩
    obtain ⟨e, y⟩ := y
    subst e
    exact hs i x σ _ (y xs q) p
  · have e : i = xs.length := by omega
    subst e
    exact .inl ⟨⟨xs, q, Nat.le_refl _⟩, hd σ H p⟩
theorem for_range {lo : Int} {n : Nat} {g : TG} {tb : TS} {D : Ends} {σ : St} {H : Hp} (Pv : Nat → St → Hp → Prop) (h0 : Pv 0 σ H)
    (hs : ∀ i σ H, i < n → Pv i σ H → g (.int (lo + i)) σ H fun σ2 H2 => tb { D with nx := Pv (i + 1), ct := Pv (i + 1), bk := D.nx } σ2 H2) (hd : ∀ σ H, Pv n σ H → D.nx σ H) :
    ∃ W : Nat → Nat → St → Hp → Prop, (∃ m, W 0 m σ H) ∧ ∀ i m σ H, W i m σ H →
      ((Itr lo n).stop i H ∧ D.nx σ H) ∨ ((Itr lo n).go i H ∧ ∃ N : St → Hp → Prop, (∀ σ' H', N σ' H' → ∃ m', m' < m ∧ W (i + 1) m' σ' H') ∧ ∀ x H', (Itr lo n).yld i H x H' → g x σ H' fun σ2 H2 => tb { D with nx := N, ct := N, bk := D.nx } σ2 H2) := by
  refine ⟨fun i m σ H => m = n - i ∧ i ≤ n ∧ Pv i σ H, ⟨n, by simp, Nat.zero_le _, h0⟩, ?_⟩
  rintro i m σ H ⟨rfl, hi, p⟩
  by_cases hlt : i < n
  · refine .inr ⟨hlt, Pv (i + 1), fun σ' H' p' => ⟨n - (i + 1), by omega, rfl, hlt, p'⟩, fun x H' y => ?_⟩
    obtain ⟨e, y⟩ := y
    subst e y
    exact hs i σ _ hlt p
  · have e : i = n := by omega
    subst e
    exact .inl ⟨Nat.le_refl _, hd σ H p⟩
end L2
namespace L2
open PySem PySem.Spec PyProof.Rows
abbrev R2 := V → V → Hp → VK → Prop
def OpR (X : Cx) (f : Value → Value → Sem Value) (r : R2) : Prop :=
  ∀ (pins : List (Addr × Obj)) (s : Shared) (σ : St) (H : Hp) (x y : V) (v u : Value) (Q : VK), Inv X pins σ H s → RelV x v → RelV y u → r x y H Q →
    wpAny (model X.prog X.w) X.A (f v u) (EP X pins σ Q) X.xe s
def UnR (X : Cx) (f : Value → Sem Value) (r : V → Hp → VK → Prop) : Prop :=
  ∀ (pins : List (Addr × Obj)) (s : Shared) (σ : St) (H : Hp) (x : V) (v : Value) (Q : VK), Inv X pins σ H s → RelV x v → r x H Q →
    wpAny (model X.prog X.w) X.A (f v) (EP X pins σ Q) X.xe s
def CallR (X : Cx) (f : Value) (r : List V → Hp → VK → Prop) : Prop :=
  ∀ (pins : List (Addr × Obj)) (s : Shared) (σ : St) (H : Hp) (xs : List V) (us : List Value) (Q : VK), Inv X pins σ H s → Vals xs us → r xs H Q →
    wpAny (model X.prog X.w) X.A (call f us) (EP X pins σ Q) X.xe s
def TruR (X : Cx) (r : V → Hp → (Bool → Hp → Prop) → Prop) : Prop :=
  ∀ (pins : List (Addr × Obj)) (s : Shared) (σ : St) (H : Hp) (x : V) (v : Value) (Q : Bool → Hp → Prop), Inv X pins σ H s → RelV x v → r x H Q →
    wpAny (model X.prog X.w) X.A (truthy v) (TP X pins σ Q) X.xe s
def tOp (r : R2) (ta tb : TE) : TE := fun σ H Q => ta σ H fun x H1 => tb σ H1 fun y H2 => r x y H2 Q
def tUn (r : V → Hp → VK → Prop) (ta : TE) : TE := fun σ H Q => ta σ H fun x H1 => r x H1 Q
def rI (C : Int → Int → Prop) (g : Int → Int → V) : R2 := fun x y H Q => ∃ i j, x = .int i ∧ y = .int j ∧ C i j ∧ Q (g i j) H
def rI0 (g : Int → Int → V) : R2 := fun x y H Q => ∃ i j, x = .int i ∧ y = .int j ∧ Q (g i j) H
def rU (g : Int → V) : V → Hp → VK → Prop := fun x H Q => ∃ i, x = .int i ∧ Q (g i) H
section
variable {X : Cx} {a b c : Expr} {ta tb tc : TE} {pos : Pos}
theorem binT (ha : PE X a ta) (hb : PE X b tb) {pins : List (Addr × Obj)} {s : Shared} {σ : St} {H : Hp} {R : V → V → Hp → Prop} (I : Inv X pins σ H s)
    (h : ta σ H fun x H1 => tb σ H1 fun y H2 => R x y H2) {Q : Value → Shared → Prop} {f : Value → Value → Sem Value}
    (hf : ∀ v u s2 x y H2, Inv X pins σ H2 s2 → RelV x v → RelV y u → R x y H2 → wpAny (model X.prog X.w) X.A (f v u) Q X.xe s2) :
    wpAny (model X.prog X.w) X.A (eval a X.env) (fun v s₁ => wpAny (model X.prog X.w) X.A (eval b X.env) (fun u s₂ => wpAny (model X.prog X.w) X.A (f v u) Q X.xe s₂) X.xe s₁) X.xe s := by
  refine thn (ha pins s σ H _ I h) fun v s1 ⟨x, H1, I1, r1, q1⟩ => ?_
  refine thn (hb pins s1 σ H1 _ I1 q1) fun u s2 ⟨y, H2, I2, r2, q2⟩ => ?_
  exact hf v u s2 x y H2 I2 r1 r2 q2
theorem pe_op {op : Operator} {r : R2} (ho : OpR X (binaryOp op) r) (ha : PE X a ta) (hb : PE X b tb) : PE X (.BinOp a op b pos) (tOp r ta tb) := by
  intro pins s σ H Q I h
  exact wpAny_BinOp (binT ha hb I h fun v u s2 x y H2 I2 rx ry q => ho pins s2 σ H2 x y v u Q I2 rx ry q)
theorem pe_un {op : UnaryOp} {r : V → Hp → VK → Prop} (ho : UnR X (unaryOp op) r) (ha : PE X a ta) : PE X (.UnaryOp op a pos) (tUn r ta) := by
  intro pins s σ H Q I h
  exact UnaryOp_ (thn (ha pins s σ H _ I h) fun v s1 ⟨x, H1, I1, r1, q1⟩ => ho pins s1 σ H1 x v Q I1 r1 q1)
theorem opI {f : Value → Value → Sem Value} {C : Int → Int → Prop} {g : Int → Int → Int}
    (rule : ∀ (i j : Int) (t u : Tok) (s : Shared) (Q : Value → Shared → Prop) (E : Value → Shared → Prop), C i j → Q (.int (g i j) s.toks) { s with toks := s.toks + 1 } → wpAny (model X.prog X.w) X.A (f (.int i t) (.int j u)) Q E s) :
    OpR X f (rI C fun i j => .int (g i j)) := by
  intro pins s σ H x y v u Q I rx ry h
  obtain ⟨i, j, rfl, rfl, hc, q⟩ := h
  obtain ⟨t, rfl⟩ := rx
  obtain ⟨t', rfl⟩ := ry
  exact rule i j t t' s _ _ hc ⟨.int (g i j), H, I.tok _, ⟨_, rfl⟩, q⟩
theorem opI0 {f : Value → Value → Sem Value} {g : Int → Int → Int}
    (rule : ∀ (i j : Int) (t u : Tok) (s : Shared) (Q : Value → Shared → Prop) (E : Value → Shared → Prop), Q (.int (g i j) s.toks) { s with toks := s.toks + 1 } → wpAny (model X.prog X.w) X.A (f (.int i t) (.int j u)) Q E s) :
    OpR X f (rI0 fun i j => .int (g i j)) := by
  intro pins s σ H x y v u Q I rx ry h
  obtain ⟨i, j, rfl, rfl, q⟩ := h
  obtain ⟨t, rfl⟩ := rx
  obtain ⟨t', rfl⟩ := ry
  exact rule i j t t' s _ _ ⟨.int (g i j), H, I.tok _, ⟨_, rfl⟩, q⟩
theorem opB0 {f : Value → Value → Sem Value} {g : Int → Int → Bool}
    (rule : ∀ (i j : Int) (t u : Tok) (s : Shared) (Q : Value → Shared → Prop) (E : Value → Shared → Prop), Q (.bool (g i j)) s → wpAny (model X.prog X.w) X.A (f (.int i t) (.int j u)) Q E s) :
    OpR X f (rI0 fun i j => .bl (g i j)) := by
  intro pins s σ H x y v u Q I rx ry h
  obtain ⟨i, j, rfl, rfl, q⟩ := h
  obtain ⟨t, rfl⟩ := rx
  obtain ⟨t', rfl⟩ := ry
  exact rule i j t t' s _ _ ⟨.bl (g i j), H, I, rfl, q⟩
def CDiv (i j : Int) : Prop := 0 < j ∧ j < 1073741824
def CPow (i j : Int) : Prop := 0 ≤ j ∧ j ≤ 1000000 ∧ i.natAbs < 2 ^ 64
def CMul (i j : Int) : Prop := (-(2 ^ 64) < i ∧ i < 2 ^ 64) ∨ (-(2 ^ 64) < j ∧ j < 2 ^ 64)
theorem CMul.ok {i j : Int} (h : CMul i j) : IntMulOk i j := by
  rcases h with ⟨h1, h2⟩ | ⟨h1, h2⟩
  · exact .of_left (intBits_le_64 h1 h2)
  · exact .of_right (intBits_le_64 h1 h2)
theorem op_add : OpR X (binaryOp .Add) (rI0 fun i j => .int (i + j)) := opI0 fun _ _ _ _ _ _ _ q => add_int q
theorem op_sub : OpR X (binaryOp .Sub) (rI0 fun i j => .int (i - j)) := opI0 fun _ _ _ _ _ _ _ q => sub_int q
theorem op_mul : OpR X (binaryOp .Mult) (rI CMul fun i j => .int (i * j)) := opI fun _ _ _ _ _ _ _ hc q => mul_int q hc.ok
theorem op_fdiv : OpR X (binaryOp .FloorDiv) (rI CDiv fun i j => .int (i / j)) := opI fun i j _ _ _ _ _ hc q => by
  have h1 : (0 : Int) < j := hc.1
  have h2 : j < 1073741824 := hc.2
  exact floordiv_int (by omega) (by rw [Int.fdiv_eq_ediv_of_nonneg i (by omega)]; exact q) (.inl (PyProof.noPylong_small (by omega)))
theorem op_mod : OpR X (binaryOp .Mod) (rI (fun _ j => 0 < j) fun i j => .int (i % j)) := opI fun i j _ _ _ _ _ hc q => by
  have h1 : (0 : Int) < j := hc
  exact mod_int' (by omega) (by rw [Int.fmod_eq_emod_of_nonneg i (by omega)]; exact q)
theorem op_pow : OpR X (binaryOp .Pow) (rI CPow fun i j => .int (i ^ j.toNat)) := opI fun _ _ _ _ _ _ _ hc q => pow_int_small hc.1 hc.2.1 hc.2.2 q
theorem unI {f : Value → Sem Value} {g : Int → Int}
    (rule : ∀ (i : Int) (t : Tok) (s : Shared) (Q : Value → Shared → Prop) (E : Value → Shared → Prop), Q (.int (g i) s.toks) { s with toks := s.toks + 1 } → wpAny (model X.prog X.w) X.A (f (.int i t)) Q E s) :
    UnR X f (rU fun i => .int (g i)) := by
  intro pins s σ H x v Q I rx h
  obtain ⟨i, rfl, q⟩ := h
  obtain ⟨t, rfl⟩ := rx
  exact rule i t s _ _ ⟨.int (g i), H, I.tok _, ⟨_, rfl⟩, q⟩
theorem un_neg : UnR X (unaryOp .USub) (rU fun i => .int (-i)) := unI fun _ _ _ _ _ q => neg_int q
end
def scal : V → V → Bool
  | .non, .non => true | .non, .int _ => true | .int _, .non => true | .non, .bl _ => true | .bl _, .non => true | .non, .str _ => true | .str _, .non => true
  | .int _, .int _ => true | .bl _, .bl _ => true | .str _, .str _ => true | .byt _, .byt _ => true
  | .int _, .str _ => true | .str _, .int _ => true | .bl _, .str _ => true | .str _, .bl _ => true
  | _, _ => false
def rEq : R2 := fun x y H Q => scal x y = true ∧ Q (.bl (decide (x = y))) H
def rNe : R2 := fun x y H Q => scal x y = true ∧ Q (.bl (!decide (x = y))) H
theorem dec_int {i j : Int} : decide (V.int i = V.int j) = (i == j) := by
  rw [Bool.eq_iff_iff]
  simp
theorem dec_bl {i j : Bool} : decide (V.bl i = V.bl j) = (i == j) := by
  rw [Bool.eq_iff_iff]
  simp
theorem dec_str {i j : Str} : decide (V.str i = V.str j) = (i == j) := by
  rw [Bool.eq_iff_iff]
  simp
theorem dec_byt {i j : Array UInt8} : decide (V.byt i = V.byt j) = (i.toList == j.toList) := by
  rw [Bool.eq_iff_iff]
  cases i
  cases j
  simp
section
variable {X : Cx} {a b c : Expr} {ta tb tc : TE} {pos : Pos}
theorem fin_bl {pins : List (Addr × Obj)} {σ : St} {H : Hp} {s : Shared} {Q : VK} {k k' : Bool} (I : Inv X pins σ H s) (q : Q (.bl k) H) (e : k = k') : EP X pins σ Q (.bool k') s := by
  subst e
  exact ⟨.bl k, H, I, rfl, q⟩
theorem op_eq : OpR X (compareOp .Eq) rEq := by
  intro pins s σ H x y v u Q I rx ry h
  obtain ⟨hs, q⟩ := h
  cases x with
  | non =>
    cases rx
    cases y with
    | non => cases ry; exact PySem.EqNone.eq_none_none (fin_bl I q (by simp))
    | bl j => cases ry; exact PySem.EqNone.eq_none_bool (fin_bl I q (by simp))
    | int j => obtain ⟨t', rfl⟩ := ry; exact PySem.EqNone.eq_none_int (fin_bl I q (by simp))
    | str j => obtain ⟨t', rfl⟩ := ry; exact PySem.EqNone.eq_none_str (fin_bl I q (by simp))
    | _ => exact absurd (show false = true from hs) Bool.false_ne_true
  | bl i =>
    cases rx
    cases y with
    | non => cases ry; exact PySem.EqNone.eq_bool_none (fin_bl I q (by simp))
    | bl j => cases ry; exact eq_bool (fin_bl I q dec_bl)
    | str j => obtain ⟨t', rfl⟩ := ry; exact PySem.EqMixed.eq_bool_str (fin_bl I q (by simp))
    | _ => exact absurd (show false = true from hs) Bool.false_ne_true
  | int i =>
    obtain ⟨t, rfl⟩ := rx
    cases y with
    | non => cases ry; exact PySem.EqNone.eq_int_none (fin_bl I q (by simp))
    | int j => obtain ⟨t', rfl⟩ := ry; exact eq_int (fin_bl I q dec_int)
    | str j => obtain ⟨t', rfl⟩ := ry; exact PySem.EqMixed.eq_int_str (fin_bl I q (by simp))
    | _ => exact absurd (show false = true from hs) Bool.false_ne_true
  | str i =>
    obtain ⟨t, rfl⟩ := rx
    cases y with
    | non => cases ry; exact PySem.EqNone.eq_str_none (fin_bl I q (by simp))
    | bl j => cases ry; exact PySem.EqMixed.eq_str_bool (fin_bl I q (by simp))
    | int j => obtain ⟨t', rfl⟩ := ry; exact PySem.EqMixed.eq_str_int (fin_bl I q (by simp))
    | str j => obtain ⟨t', rfl⟩ := ry; exact eq_str (fin_bl I q dec_str)
    | _ => exact absurd (show false = true from hs) Bool.false_ne_true
  | byt i =>
    obtain ⟨t, rfl⟩ := rx
    cases y with
    | byt j => obtain ⟨t', rfl⟩ := ry; exact PySem.W.eq_bytes (fin_bl I q dec_byt)
    | _ => exact absurd (show false = true from hs) Bool.false_ne_true
  | _ => cases y <;> exact absurd (show false = true from hs) Bool.false_ne_true
theorem op_ne : OpR X (compareOp .NotEq) rNe := by
  intro pins s σ H x y v u Q I rx ry h
  obtain ⟨hs, q⟩ := h
  cases x with
  | non =>
    cases rx
    cases y with
    | non => cases ry; exact PySem.EqNone.ne_none_none (fin_bl I q (by simp))
    | bl j => cases ry; exact PySem.EqNone.ne_none_bool (fin_bl I q (by simp))
    | int j => obtain ⟨t', rfl⟩ := ry; exact PySem.EqNone.ne_none_int (fin_bl I q (by simp))
    | str j => obtain ⟨t', rfl⟩ := ry; exact PySem.EqNone.ne_none_str (fin_bl I q (by simp))
    | _ => exact absurd (show false = true from hs) Bool.false_ne_true
  | bl i =>
    cases rx
    cases y with
    | non => cases ry; exact PySem.EqNone.ne_bool_none (fin_bl I q (by simp))
    | bl j => cases ry; exact ne_bool (fin_bl I q (congrArg not dec_bl))
    | str j => obtain ⟨t', rfl⟩ := ry; exact PySem.EqMixed.ne_bool_str (fin_bl I q (by simp))
    | _ => exact absurd (show false = true from hs) Bool.false_ne_true
  | int i =>
    obtain ⟨t, rfl⟩ := rx
    cases y with
    | non => cases ry; exact PySem.EqNone.ne_int_none (fin_bl I q (by simp))
    | int j => obtain ⟨t', rfl⟩ := ry; exact ne_int (fin_bl I q (congrArg not dec_int))
    | str j => obtain ⟨t', rfl⟩ := ry; exact PySem.EqMixed.ne_int_str (fin_bl I q (by simp))
    | _ => exact absurd (show false = true from hs) Bool.false_ne_true
  | str i =>
    obtain ⟨t, rfl⟩ := rx
    cases y with
    | non => cases ry; exact PySem.EqNone.ne_str_none (fin_bl I q (by simp))
    | bl j => cases ry; exact PySem.EqMixed.ne_str_bool (fin_bl I q (by simp))
    | int j => obtain ⟨t', rfl⟩ := ry; exact PySem.EqMixed.ne_str_int (fin_bl I q (by simp))
    | str j => obtain ⟨t', rfl⟩ := ry; exact ne_str (fin_bl I q (congrArg not dec_str))
    | _ => exact absurd (show false = true from hs) Bool.false_ne_true
  | byt i =>
    obtain ⟨t, rfl⟩ := rx
    cases y with
    | byt j => obtain ⟨t', rfl⟩ := ry; exact PySem.W.ne_bytes (fin_bl I q (congrArg not dec_byt))
    | _ => exact absurd (show false = true from hs) Bool.false_ne_true
  | _ => cases y <;> exact absurd (show false = true from hs) Bool.false_ne_true
theorem op_lt : OpR X (compareOp .Lt) (rI0 fun i j => .bl (decide (i < j))) := opB0 fun _ _ _ _ _ _ _ q => lt_int q
theorem op_le : OpR X (compareOp .LtE) (rI0 fun i j => .bl (decide (i ≤ j))) := opB0 fun _ _ _ _ _ _ _ q => le_int q
theorem op_gt : OpR X (compareOp .Gt) (rI0 fun i j => .bl (decide (j < i))) := opB0 fun _ _ _ _ _ _ _ q => gt_int q
theorem op_ge : OpR X (compareOp .GtE) (rI0 fun i j => .bl (decide (j ≤ i))) := opB0 fun _ _ _ _ _ _ _ q => ge_int q
theorem op_isN : OpR X (compareOp .Is) (fun x y H Q => y = .non ∧ Q (.bl (decide (x = .non))) H) := by
  intro pins s σ H x y v u Q I rx ry h
  obtain ⟨rfl, q⟩ := h
  cases ry
  refine is_none_gen (fin_bl I q ?_)
  cases x <;> first
    | (cases rx; rfl)
    | (obtain ⟨t, rfl⟩ := rx; rfl)
theorem op_notN : OpR X (compareOp .IsNot) (fun x y H Q => y = .non ∧ Q (.bl (!decide (x = .non))) H) := by
  intro pins s σ H x y v u Q I rx ry h
  obtain ⟨rfl, q⟩ := h
  cases ry
  refine isnot_none_gen (fin_bl I q ?_)
  cases x <;> first
    | (cases rx; rfl)
    | (obtain ⟨t, rfl⟩ := rx; rfl)
theorem nomark (b : Expr) {op : CmpOp} (h : op ≠ .In := by decide) (h2 : op ≠ .NotIn := by decide) : behindInMarks op b = false := by
  have e1 : (op == CmpOp.In) = false := by cases op <;> first | rfl | exact absurd rfl h
  have e2 : (op == CmpOp.NotIn) = false := by cases op <;> first | rfl | exact absurd rfl h2
  cases b <;> simp [behindInMarks, e1, e2]
theorem pe_cmpR {op : CmpOp} {r : R2} (ho : OpR X (compareOp op) r) (ha : PE X a ta) (hb : PE X b tb) (hm : behindInMarks op b = false) : PE X (.Compare a [op] [b] pos) (tOp r ta tb) := by
  intro pins s σ H Q I h
  exact wpAny_Compare1 (binT ha hb I h fun v u s2 x y H2 I2 rx ry q => ho pins s2 σ H2 x y v u Q I2 rx ry q) hm
def tTest (t : TE) : TT := fun σ H Q => t σ H fun x H' => ∃ k, x = .bl k ∧ Q k H'
theorem pt_cmpR {op : CmpOp} {r : R2} (ho : OpR X (compareOp op) r) (ha : PE X a ta) (hb : PE X b tb) (hm : behindInMarks op b = false) : PT X (.Compare a [op] [b] pos) (tTest (tOp r ta tb)) := by
  intro pins s σ H Q I h
  refine wpAny_isTrue_Compare1 (thn (ha pins s σ H _ I h) fun v s1 ⟨x, H1, I1, r1, q1⟩ => thn (hb pins s1 σ H1 _ I1 q1) fun u s2 ⟨y, H2, I2, r2, q2⟩ =>
    thn (ho pins s2 σ H2 x y v u _ I2 r1 r2 q2) fun c s3 ⟨z, H3, I3, r3, k, e, q3⟩ => ?_) hm
  subst e
  cases r3
  exact wpAny_truthy_bool ⟨H3, I3, q3⟩
def tChain (r r' : R2) (ta tb tc : TE) : TE := fun σ H Q => ta σ H fun x H1 => tb σ H1 fun y H2 => r x y H2 fun z H3 => ∃ k, z = .bl k ∧
  (if k = true then tc σ H3 fun w' H4 => r' y w' H4 Q else Q (.bl false) H3)
theorem pe_chain {op op' : CmpOp} {r r' : R2} (ho : OpR X (compareOp op) r) (ho' : OpR X (compareOp op') r') (ha : PE X a ta) (hb : PE X b tb) (hc : PE X c tc)
    (hm : lastMarks [op, op'] [b, c] = false := by with_unfolding_all rfl) : PE X (.Compare a [op, op'] [b, c] pos) (tChain r r' ta tb tc) := by
  intro pins s σ H Q I h
  refine Compare_chain (thn (ha pins s σ H _ I h) fun v s1 ⟨x, H1, I1, r1, q1⟩ => chain_link (thn (hb pins s1 σ H1 _ I1 q1) fun u s2 ⟨y, H2, I2, r2, q2⟩ =>
    thn (ho pins s2 σ H2 x y v u _ I2 r1 r2 q2) fun d s3 ⟨z, H3, I3, r3, k, e, q3⟩ => ?_)) hm
  subst e
  cases r3
  refine wpAny_truthy_bool ?_
  cases k with
  | false => exact ite_ff ⟨.bl false, H3, I3, rfl, q3⟩
  | true => exact ite_tt (chain_last (thn (hc pins s3 σ H3 _ I3 q3) fun w' s4 ⟨z', H4, I4, r4, q4⟩ => ho' pins s4 σ H4 y z' u w' Q I4 r2 r4 q4))
theorem pt_chain {op op' : CmpOp} {r r' : R2} (ho : OpR X (compareOp op) r) (ho' : OpR X (compareOp op') r') (ha : PE X a ta) (hb : PE X b tb) (hc : PE X c tc)
    (hm : lastMarks [op, op'] [b, c] = false := by with_unfolding_all rfl) : PT X (.Compare a [op, op'] [b, c] pos) (tTest (tChain r r' ta tb tc)) := by
  intro pins s σ H Q I h
  refine isTrue_chain (thn (ha pins s σ H _ I h) fun v s1 ⟨x, H1, I1, r1, q1⟩ => test_link (thn (hb pins s1 σ H1 _ I1 q1) fun u s2 ⟨y, H2, I2, r2, q2⟩ =>
    thn (ho pins s2 σ H2 x y v u _ I2 r1 r2 q2) fun d s3 ⟨z, H3, I3, r3, k, e, q3⟩ => ?_)) hm
  subst e
  cases r3
  refine wpAny_truthy_bool ?_
  cases k with
  | false =>
    obtain ⟨k', e', q'⟩ := q3
    cases e'
    exact ite_ff ⟨H3, I3, q'⟩
  | true =>
    refine ite_tt (test_last (thn (hc pins s3 σ H3 _ I3 q3) fun w' s4 ⟨z', H4, I4, r4, q4⟩ => thn (ho' pins s4 σ H4 y z' u w' _ I4 r2 r4 q4) fun d' s5 ⟨z2, H5, I5, r5, k2, e2, q5⟩ => ?_))
    subst e2
    cases r5
    exact wpAny_truthy_bool ⟨H5, I5, q5⟩
def TruV (K : PySem.W.Frag) (x : V) (H : Hp) (k : Bool) : Prop :=
  match x with
  | .non => k = false
  | .bl b => k = b
  | .int i => k = (i != 0)
  | .str y => y.length ≤ sizeLine ∧ k = ((y.length : Int) != 0)
  | .byt y => y.size ≤ sizeLine ∧ k = ((y.size : Int) != 0)
  | .ref p => (∃ xs, SqL K H p xs ∧ k = !xs.isEmpty) ∨ (∃ xs, SqT K H p xs ∧ k = !xs.isEmpty) ∨ ∃ kvs, H p = some (.dK kvs) ∧ k = !kvs.isEmpty
  | _ => False
theorem isEmpty_kv {κ : Type} {kvs : List (κ × V)} {vs : List (κ × Value)} (r : KV kvs vs) : (!vs.isEmpty) = !kvs.isEmpty := by
  cases r <;> rfl
theorem isEmpty_of {xs : List V} {its : List Value} (r : Vals xs its) : (!its.toArray.isEmpty) = !xs.isEmpty := by
  cases r <;> simp
theorem line63 : (sizeLine : Nat) < 2 ^ 63 := by rw [sizeLine_eq]; decide
theorem tru_ok : TruR X (fun x H Q => ∃ k, TruV X.K x H k ∧ Q k H) := by
  intro pins s σ H x v Q I rx h
  obtain ⟨k, e, q⟩ := h
  have hl := line63
  have hs : sizeLine = 16777216 := sizeLine_eq
  cases x with
  | non =>
    cases rx
    have e' : k = false := e
    subst e'
    exact truthy_none ⟨H, I, q⟩
  | bl b =>
    cases rx
    have e' : k = b := e
    subst e'
    exact wpAny_truthy_bool ⟨H, I, q⟩
  | int i =>
    obtain ⟨t, rfl⟩ := rx
    have e' : k = (i != 0) := e
    subst e'
    exact PySem.P.truthy_int ⟨H, I, q⟩
  | str y =>
    obtain ⟨t, rfl⟩ := rx
    obtain ⟨hy, e'⟩ : y.length ≤ sizeLine ∧ k = ((y.length : Int) != 0) := e
    subst e'
    exact PySem.P.truthy_str (by omega) ⟨H, I.tok _, q⟩
  | byt y =>
    obtain ⟨t, rfl⟩ := rx
    obtain ⟨hy, e'⟩ : y.size ≤ sizeLine ∧ k = ((y.size : Int) != 0) := e
    subst e'
    exact PySem.W.truthy_bytes (by omega) ⟨H, I.tok _, q⟩
  | ref p =>
    cases rx
    have e' : (∃ xs, SqL X.K H p xs ∧ k = !xs.isEmpty) ∨ (∃ xs, SqT X.K H p xs ∧ k = !xs.isEmpty) ∨ ∃ kvs, H p = some (.dK kvs) ∧ k = !kvs.isEmpty := e
    rcases e' with ⟨xs, hx, e'⟩ | ⟨xs, hx, e'⟩ | ⟨kvs, hx, e'⟩
    · subst e'
      obtain ⟨its, r, pl, hz⟩ := I.list hx
      have hlen := r.length
      exact wpAny_truthy_list pl.isList (by simp only [List.size_toArray]; omega) ⟨H, I.tok _, by rw [isEmpty_of r]; exact q⟩
    · subst e'
      obtain ⟨its, r, pl, hz⟩ := I.tuple hx
      have hlen := r.length
      exact truthy_tuple pl (by simp only [List.size_toArray]; omega) ⟨H, I.tok _, by rw [isEmpty_of r]; exact q⟩
    · subst e'
      obtain ⟨hz, hS, vs, r, m⟩ : kvs.length ≤ sizeLine ∧ (p == sysModules) = false ∧ ∃ vs, KV kvs vs ∧ s.heap.DictOf (mixKind X.prog X.w) p vs := I.hok p _ hx
      have hlen : kvs.length = vs.length := Paired.length r
      exact wpAny_truthy_dict hS m (by omega) ⟨H, I.tok _, by rw [isEmpty_kv r]; exact q⟩
  | _ => exact (show False from e).elim
theorem pt_truth (ha : PE X a ta) (he : ∀ whole, isTrue a X.env whole = (do let v ← whole; standAt a.pos; holding [v] (truthy v))) :
    PT X a (fun σ H Q => ta σ H fun x H' => ∃ k, TruV X.K x H' k ∧ Q k H') := by
  intro pins s σ H Q I h
  exact isTrue_plain (thn (ha pins s σ H _ I h) fun v s1 ⟨x, H1, I1, r1, q1⟩ => tru_ok pins s1 σ H1 x v Q I1 r1 q1) (he _)
theorem op_add_str : OpR X (binaryOp .Add) (fun x y H Q => ∃ i j, x = .str i ∧ y = .str j ∧ i.length + j.length ≤ sizeLine ∧ Q (.str (i ++ j)) H) := by
  intro pins s σ H x y v u Q I rx ry h
  obtain ⟨i, j, rfl, rfl, hz, q⟩ := h
  obtain ⟨t, rfl⟩ := rx
  obtain ⟨t', rfl⟩ := ry
  exact add_str (fun t' tk => ⟨.str (i ++ j), H, I.tok _, ⟨_, rfl⟩, q⟩) hz
theorem vals1 {x : V} {us : List Value} (r : Vals [x] us) : ∃ u, us = [u] ∧ RelV x u := by
  cases r with
  | cons r1 r2 => cases r2; exact ⟨_, rfl, r1⟩
theorem vals2 {x y : V} {us : List Value} (r : Vals [x, y] us) : ∃ u w', us = [u, w'] ∧ RelV x u ∧ RelV y w' := by
  cases r with
  | cons r1 r2 =>
    cases r2 with
    | cons r3 r4 => cases r4; exact ⟨_, _, rfl, r1, r3⟩
theorem call_max2 (hc : X.calm = true) : CallR X (.builtin "max") (fun xs H Q => ∃ i j, xs = [.int i, .int j] ∧ Q (.int (if j > i then j else i)) H) := by
  intro pins s σ H xs us Q I r h
  obtain ⟨i, j, rfl, q⟩ := h
  obtain ⟨u, w', rfl, ⟨t, rfl⟩, ⟨t', rfl⟩⟩ := vals2 r
  refine max_two_ints (I.ok.hd hc) fun h' tk k => ⟨_, H, I.kept k, ?_, q⟩
  by_cases hj : j > i
  · rw [if_pos hj, if_pos hj]; exact ⟨_, rfl⟩
  · rw [if_neg hj, if_neg hj]; exact ⟨_, rfl⟩
theorem call_min2 (hc : X.calm = true) : CallR X (.builtin "min") (fun xs H Q => ∃ i j, xs = [.int i, .int j] ∧ Q (.int (if j < i then j else i)) H) := by
  intro pins s σ H xs us Q I r h
  obtain ⟨i, j, rfl, q⟩ := h
  obtain ⟨u, w', rfl, ⟨t, rfl⟩, ⟨t', rfl⟩⟩ := vals2 r
  refine min_two_ints (I.ok.hd hc) fun h' tk k => ⟨_, H, I.kept k, ?_, q⟩
  by_cases hj : j < i
  · rw [if_pos hj, if_pos hj]; exact ⟨_, rfl⟩
  · rw [if_neg hj, if_neg hj]; exact ⟨_, rfl⟩
theorem call_int1 : CallR X (.type "int") (fun xs H Q => (∃ i, xs = [.int i] ∧ Q (.int i) H) ∨ ∃ k, xs = [.bl k] ∧ Q (.int (if k then 1 else 0)) H) := by
  intro pins s σ H xs us Q I r h
  rcases h with ⟨i, rfl, q⟩ | ⟨k, rfl, q⟩
  · obtain ⟨u, rfl, t, rfl⟩ := vals1 r
    exact call_int_int ⟨.int i, H, I, ⟨_, rfl⟩, q⟩
  · obtain ⟨u, rfl, r1⟩ := vals1 r
    cases r1
    exact call_int_bool ⟨.int (if k then 1 else 0), H, I.tok _, ⟨_, rfl⟩, q⟩
end
end L2
namespace L2
open PySem PySem.Spec PyProof.Rows
structure ObjM (h : Heap) (x dx C : Addr) (mA : Str → Option Value) : Prop where
  obj : h.get? x = some (PySem.W.instObj C dx)
  ns : h.Ns1 dx mA
  ne : dx ≠ x
theorem lookIn_ns {h : Heap} {dx : Addr} {mA : Str → Option Value} (n : h.Ns1 dx mA) : ∃ od, h.get? dx = some od ∧ ∀ name, PySem.W.lookIn name od = some (mA name) := by
  obtain ⟨o, es, ep, ho, hd, hk, _, hm⟩ := n
  refine ⟨o, ho, fun name => ?_⟩
  have e := hm name
  unfold nsFind findBy at e
  rw [← Array.find?_toList] at e
  unfold PySem.W.lookIn
  rw [hd]
  dsimp only
  split
  · rename_i y q
    rw [q] at e
    exact congrArg some e
  · rename_i q
    rw [q] at e
    have a : es.toList.any (·.refKey) = false := by
      rw [List.any_eq_false]
      intro y hy
      obtain ⟨z, t, hkey⟩ := hk y (Array.mem_toList_iff.mp hy)
      simp [DictEntry.refKey, hkey]
    have a' : ¬ es.toList.any (·.refKey) = true := by rw [a]; exact Bool.false_ne_true
    rw [if_neg a']
    exact congrArg some e
theorem ObjM.look {h : Heap} {x dx C : Addr} {mA : Str → Option Value} (I : ObjM h x dx C mA) : ∃ od, PySem.W.InstAt h x (PySem.W.instObj C dx) C (some od) ∧ ∀ name, PySem.W.lookIn name od = some (mA name) :=
  let ⟨od, ho, hl⟩ := lookIn_ns I.ns
  ⟨od, ⟨I.obj, rfl, rfl, ho⟩, hl⟩
section
variable {prog : Program} {w : World} {A : Around} {E : Value → Shared → Prop} {s : Shared} {K : PySem.W.Frag} {x dx C f : Addr} {mA : Str → Option Value} {name : Str} {v : Value}
theorem get_map {expr : Bool} {Q : Value → Shared → Prop} (X : K.In s.heap) (I : ObjM s.heap x dx C mA) (hg : PySem.W.plainGet K C name = true) (hh : PySem.W.hasDictIn K C = true)
    (ha : PySem.W.findIn K (.ref C) name = some none) (hv : mA name = some v) (hv' : PySem.W.handedIn v = true) (h : Q v { s with toks := s.toks + 1 }) :
    wpAny (model prog w) A (getAttr (.ref x) name expr) Q E s := by
  obtain ⟨od, J, hl⟩ := I.look
  exact PySem.W.get_value X J (PySem.W.plainGet_of hg).1 (PySem.W.findObj_own hh ha rfl (by rw [hl, hv])) hv' h
theorem get_meth {pl : Sem Bool} {Q : Value × List Value → Shared → Prop} (X : K.In s.heap) (I : ObjM s.heap x dx C mA) (hg : PySem.W.plainGet K C name = true)
    (hf : PySem.W.findIn K (.ref C) name = some (some (.ref f))) (ht : PySem.W.isFn K (.ref f) = true) (hv : mA name = none) (h : Q (.ref f, [.ref x]) s) :
    wpAny (model prog w) A (getMethod (.ref x) name pl) Q E s := by
  obtain ⟨od, J, hl⟩ := I.look
  exact PySem.W.method_fn X J (PySem.W.plainGet_of hg).1 (PySem.W.plainGet_of hg).2 hf (beq_iff_eq.mp ht) (by show (PySem.W.lookIn name od).map (·.isSome) = some false; rw [hl, hv]; rfl) h
theorem set_map {ns : List Str} {Q : Unit → Shared → Prop} (X : K.In s.heap) (I : ObjM s.heap x dx C mA)
    (hs : PySem.W.findIn K (.ref C) "__setattr__" = some (some (.builtin "object.__setattr__"))) (hp : PySem.W.plainOver K C = true) (ht : PySem.W.takerIn K C name = some none) (hh : PySem.W.hasDictIn K C = true)
    (hw : PySem.Within mA ns) (hsz : ns.length ≤ sizeLine)
    (h : ∀ h', ObjM h' x dx C (fun y => if y = name then some v else mA y) → Heap.SameBut dx s.heap h' → Q () { s with heap := h', toks := s.toks + 2 }) :
    wpAny (model prog w) A (setAttr (.ref x) name v) Q E s := by
  obtain ⟨od, J, hl⟩ := I.look
  refine PySem.W.set_plain X J hs (PySem.W.osa_open (s := { s with toks := s.toks + 1 }) (r := none) X J hp ht fun b => ?_)
  obtain ⟨cd, hc, hd'⟩ := PySem.W.any_some hh
  have hx : s.heap.get? x = some ⟨.ref C, some dx, .plain, #[]⟩ := I.obj
  refine wpAny_bind (wpAny_pure (wpAny_bind (wpAny_bind (wpAny_loadPart hx (wpAny_bind (PySem.W.Looks.here (s := { s with toks := s.toks + 1 }) (PySem.W.looks_clsIn X hc) ?_))))))
  rw [hd']
  refine wpAny_pure (a := some dx) (wpAny_bind (wpAny_pure (wpAny_bind ?_)))
  refine wpAny_nsSet1 (s := { s with toks := s.toks + 1 }) I.ns fun h' hn2 hs2 => ?_
  obtain ⟨oD, esD, epD, hoD, hdD, hcD⟩ := hn2.count (PySem.Within.cons name v hw)
  refine wpAny_bind (wpAny_lookBehind hoD (by rw [hdD]; exact pastItsLine_dict (Nat.le_trans hcD (by rw [List.length_cons]; omega))) ?_)
  exact wpAny_pure (h _ ⟨(hs2.2 _ (Ne.symm I.ne)).trans I.obj, hn2, I.ne⟩ hs2)
theorem make_map {R : Result → Shared → Prop} {vs : List Value} {kw : List (Str × Value)} (X : K.In s.heap) (hm : PySem.W.makesIn K C = true)
    (hi : PySem.W.findIn K (.ref C) "__init__" = some (some (.ref f))) (hf : PySem.W.typeIn K (.ref f) = some (.type "function"))
    (h : codeAny (model prog w) (A.under (.builtin "type.__call__" ⟨.ref C :: vs, kw⟩)) (.call (.ref f) ⟨.ref (s.heap.objs.size + 1) :: vs, kw⟩) (PySem.W.InitBack (s.heap.objs.size + 1) R)
      { s with heap := (s.heap.push PySem.W.emptyDict).push (PySem.W.instObj C s.heap.objs.size) }) :
    codeAny (model prog w) A (.call (.ref C) ⟨vs, kw⟩) R s := by
  obtain ⟨hh, g, d, t, os⟩ := s
  exact PySem.W.make_core (PySem.W.makes_of X hm) (PySem.W.looks_findIn X hi) (fun self => PySem.W.bind_fn X self hf) (.inl rfl) h
end
def putF (f : Str) (v : V) : List (Str × V) → List (Str × V)
  | [] => [(f, v)]
  | (g, x) :: r => if g = f then (g, v) :: r else (g, x) :: putF f v r
theorem lookup_putF (f g : Str) (v : V) : ∀ fs : List (Str × V), (putF f v fs).lookup g = if g = f then some v else fs.lookup g
  | [] => by
    show List.lookup g [(f, v)] = _
    by_cases h : g = f
    · have hb : (g == f) = true := beq_iff_eq.mpr h
      simp only [List.lookup, hb, if_pos h]
    · have hb : (g == f) = false := beq_eq_false_iff_ne.mpr h
      simp only [List.lookup, hb, if_neg h]
  | (k, x) :: r => by
    have ih := lookup_putF f g v r
    rw [show putF f v ((k, x) :: r) = (if k = f then (k, v) :: r else (k, x) :: putF f v r) from rfl]
    by_cases hk : k = f
    · rw [if_pos hk]
      by_cases h : g = k
      · have hb : (g == k) = true := beq_iff_eq.mpr h
        simp only [List.lookup, hb, if_pos (h.trans hk)]
      · have hb : (g == k) = false := beq_eq_false_iff_ne.mpr h
        simp only [List.lookup, hb, if_neg (fun e : g = f => h (e.trans hk.symm))]
    · rw [if_neg hk]
      by_cases h : g = k
      · have hb : (g == k) = true := beq_iff_eq.mpr h
        simp only [List.lookup, hb, if_neg (fun e : g = f => hk (h.symm.trans e))]
      · have hb : (g == k) = false := beq_eq_false_iff_ne.mpr h
        simp only [List.lookup, hb]
        exact ih
theorem keys_putF (f : Str) (v : V) : ∀ fs : List (Str × V), f ∈ (putF f v fs).map (·.1) ∧ ∀ g, g ∈ fs.map (·.1) → g ∈ (putF f v fs).map (·.1)
  | [] => ⟨by simp [putF], fun g h => by simp at h⟩
  | (k, x) :: r => by
    obtain ⟨i1, i2⟩ := keys_putF f v r
    rw [show putF f v ((k, x) :: r) = (if k = f then (k, v) :: r else (k, x) :: putF f v r) from rfl]
    by_cases hk : k = f
    · rw [if_pos hk]
      subst hk
      exact ⟨by simp, fun g h => by simpa using h⟩
    · rw [if_neg hk]
      refine ⟨?_, fun g h => ?_⟩
      · rw [List.map_cons]
        exact List.mem_cons_of_mem _ i1
      · rw [List.map_cons] at h ⊢
        rcases List.mem_cons.mp h with e | e
        · exact List.mem_cons.mpr (.inl e)
        · exact List.mem_cons_of_mem _ (i2 g e)
theorem length_putF (f : Str) (v : V) : ∀ fs : List (Str × V), (putF f v fs).length ≤ fs.length + 1
  | [] => by simp [putF]
  | (k, x) :: r => by
    have ih := length_putF f v r
    rw [show putF f v ((k, x) :: r) = (if k = f then (k, v) :: r else (k, x) :: putF f v r) from rfl]
    by_cases hk : k = f
    · rw [if_pos hk, List.length_cons, List.length_cons]; omega
    · rw [if_neg hk, List.length_cons, List.length_cons]; omega
theorem RelO.some_of {v : V} {o : Option Value} (r : RelO (some v) o) : ∃ u, o = some u ∧ RelV v u := by
  cases o with
  | none => exact (show False from r).elim
  | some u => exact ⟨u, rfl, r⟩
theorem RelO.none_of {o : Option Value} (r : RelO none o) : o = none := by
  cases o with
  | none => rfl
  | some u => exact (show False from r).elim
theorem handed_of {v : V} {u : Value} (r : RelV v u) : PySem.W.handedIn u = true := by
  cases v with
  | non => cases (show u = Value.none from r); rfl
  | bl b => cases (show u = Value.bool b from r); rfl
  | int i => obtain ⟨t, e⟩ := (show ∃ t, u = Value.int i t from r); cases e; rfl
  | str x => obtain ⟨t, e⟩ := (show ∃ t, u = Value.str x t from r); cases e; rfl
  | byt b => obtain ⟨t, e⟩ := (show ∃ t, u = Value.bytes b t from r); cases e; rfl
  | flt b => obtain ⟨t, e⟩ := (show ∃ t, u = Value.float b t from r); cases e; rfl
  | ref a => cases (show u = Value.ref a from r); rfl
  | ty n => cases (show u = Value.type n from r); rfl
section
variable {P : Program} {w : World} {H H' : Hp} {h h' : Heap} {a C dx : Addr} {fs fs' : List (Str × V)}
theorem ins_get (hok : HOk P w H h) (e : H a = some (.ins C dx fs)) : ∃ mA, ObjM h a dx C mA ∧ (∀ f, RelO (fs.lookup f) (mA f)) ∧ PySem.Within mA (fs.map (·.1)) ∧ fs.length ≤ 1000 ∧ H dx = some (.own a) := by
  obtain ⟨d, z, ne, ob, mA, n, r, q⟩ := (show ObjOk P w H h a (.ins C dx fs) from hok a _ e)
  exact ⟨mA, ⟨ob, n, ne⟩, r, q, z, d⟩
end
structure Cls (K : PySem.W.Frag) (C : Addr) : Prop where
  pg : PySem.W.plainGet K C Str.empty = true
  hd : PySem.W.hasDictIn K C = true
  po : PySem.W.plainOver K C = true
  sa : PySem.W.findIn K (.ref C) "__setattr__" = some (some (.builtin "object.__setattr__"))
theorem Cls.get {K : PySem.W.Frag} {C : Addr} (c : Cls K C) (f : Str) : PySem.W.plainGet K C f = true := c.pg
def NoAttr (K : PySem.W.Frag) (C : Addr) (f : Str) : Prop := PySem.W.findIn K (.ref C) f = some none
theorem NoAttr.taker {K : PySem.W.Frag} {C : Addr} {f : Str} (n : NoAttr K C f) : PySem.W.takerIn K C f = some none := by
  unfold PySem.W.takerIn
  rw [show PySem.W.findIn K (.ref C) f = some none from n]
  rfl
structure Con (K : PySem.W.Frag) (C : Addr) (f : Str) (v : V) (u : Value) : Prop where
  at_ : PySem.W.findIn K (.ref C) f = some (some u)
  rel : RelV v u
  get : PySem.W.specialIn K u "__get__" = some none
  cp : PySem.W.copiedNames.contains f = false
structure Meth (K : PySem.W.Frag) (C : Addr) (m : Str) (f : Addr) : Prop where
  at_ : PySem.W.findIn K (.ref C) m = some (some (.ref f))
  fn : PySem.W.isFn K (.ref f) = true
  kp : PySem.W.keepIn K (.ref f) = true
section
variable {X : Cx} {pins : List (Addr × Obj)} {σ : St} {H : Hp} {s : Shared} {a C dx : Addr} {fs : List (Str × V)} {f : Str} {v : V} {A : Around} {E : Value → Shared → Prop}
theorem getattr_ok {b : Bool} {Q : Value → Shared → Prop} (I : Inv X pins σ H s) (e : H a = some (.ins C dx fs)) (c : Cls X.K C) (n : NoAttr X.K C f) (l : fs.lookup f = some v)
    (h : ∀ u s', Inv X pins σ H s' → RelV v u → Q u s') : wpAny (model X.prog X.w) A (getAttr (.ref a) f b) Q E s := by
  obtain ⟨mA, O, r, _, _, _⟩ := ins_get I.hok e
  obtain ⟨u, hu, ru⟩ := RelO.some_of (v := v) (o := mA f) (by rw [← l]; exact r f)
  exact get_map I.kIn O (c.get f) c.hd n hu (handed_of ru) (h u _ (I.tok _) ru)
theorem getmeth_ok {m : Str} {g : Addr} {pl : Sem Bool} {Q : Value × List Value → Shared → Prop} (I : Inv X pins σ H s) (e : H a = some (.ins C dx fs)) (c : Cls X.K C) (k : Meth X.K C m g) (l : fs.lookup m = none)
    (h : Q (.ref g, [.ref a]) s) : wpAny (model X.prog X.w) A (getMethod (.ref a) m pl) Q E s := by
  obtain ⟨mA, O, r, _, _, _⟩ := ins_get I.hok e
  have hn : mA m = none := RelO.none_of (by rw [← l]; exact r m)
  exact get_meth I.kIn O (c.get m) k.at_ k.fn hn h
theorem setattr_ok {y : V} {u : Value} {Q : Unit → Shared → Prop} (I : Inv X pins σ H s) (e : H a = some (.ins C dx fs)) (c : Cls X.K C) (n : NoAttr X.K C f) (hl : fs.length < 1000) (ry : RelV y u)
    (h : ∀ s', Inv X pins σ (upd H a (.ins C dx (putF f y fs))) s' → Q () s') : wpAny (model X.prog X.w) A (setAttr (.ref a) f u) Q E s := by
  obtain ⟨mA, O, r, wi, _, ho⟩ := ins_get I.hok e
  have hz : (fs.map (·.1)).length ≤ sizeLine := by rw [List.length_map, sizeLine_eq]; omega
  refine set_map I.kIn O c.sa c.po n.taker c.hd wi hz fun h' O' sb => h _ ?_
  have hd : ∃ o, h'.get? dx = some o := let ⟨o, _, _, e', _⟩ := O'.ns; ⟨o, e'⟩
  refine I.write (x := a) (e := dx) (by rw [e]; exact True.intro) (.inr ho) (fun b q hb z => (sb.2 b hb).trans z) hd ?_
  refine ⟨by rw [upd_ne O.ne]; exact ho, ?_, O.ne, O'.obj, _, O'.ns, fun g => ?_, fun g hg => ?_⟩
  · have := length_putF f y fs; omega
  · show RelO ((putF f y fs).lookup g) (if g = f then some u else mA g)
    rw [lookup_putF]
    by_cases q : g = f
    · rw [if_pos q, if_pos q]; exact ry
    · rw [if_neg q, if_neg q]; exact r g
  · by_cases q : g = f
    · rw [q]; exact (keys_putF f y fs).1
    · refine (keys_putF f y fs).2 g (wi g fun z => hg ?_)
      show (if g = f then some u else mA g) = none
      rw [if_neg q]; exact z
theorem Inv.made (I : Inv X pins σ H s) : Inv X pins σ (upd (upd H s.heap.objs.size (.own (s.heap.objs.size + 1))) (s.heap.objs.size + 1) (.ins C s.heap.objs.size []))
    { s with heap := (s.heap.push PySem.W.emptyDict).push (PySem.W.instObj C s.heap.objs.size) } := by
  have e1 : (s.heap.push PySem.W.emptyDict).get? s.heap.objs.size = some PySem.W.emptyDict := Heap.get?_push_size s.heap rfl
  have e2 : ((s.heap.push PySem.W.emptyDict).push (PySem.W.instObj C s.heap.objs.size)).get? (s.heap.objs.size + 1) = some (PySem.W.instObj C s.heap.objs.size) := by
    have := Heap.get?_push_size (s.heap.push PySem.W.emptyDict) (o := PySem.W.instObj C s.heap.objs.size) rfl
    rwa [Heap.size_push] at this
  have e3 : (s.heap.push PySem.W.emptyDict).Ns s.heap.objs.size (fun _ => none) := ⟨PySem.W.emptyDict, #[], _, e1, rfl, (fun e he => absurd he (by simp)), fun _ => rfl⟩
  have I1 := I.laid (a := s.heap.objs.size) (o := .own (s.heap.objs.size + 1)) (h' := s.heap.push PySem.W.emptyDict) (t' := s.toks) (fun b u q => Heap.get?_push_of_some _ q) (Nat.le_refl _) ⟨_, e1⟩
  refine I1.laid (a := s.heap.objs.size + 1) (o := .ins C s.heap.objs.size []) (t' := s.toks) (fun b u q => Heap.get?_push_of_some _ q) (Nat.le_of_eq (Heap.size_push _ _)) ?_
  have ne : s.heap.objs.size ≠ s.heap.objs.size + 1 := Nat.ne_of_lt (Nat.lt_succ_self _)
  refine ⟨by rw [upd_ne ne, upd_same], Nat.zero_le _, ne, e2, fun _ => none, (Heap.Ns1.of_empty e3).at fun o q => Heap.get?_push_of_some _ q, fun _ => True.intro, fun y hy => absurd rfl hy⟩
theorem attr_of {prog : Program} {w : World} {env : Env} {e : Expr} {f : Str} {pos : Pos} {s : Shared} {Q : Value → Shared → Prop} (hb : attributeBase e f env (eval e env) = eval e env)
    (h : wpAny (model prog w) A (eval e env) (fun o s₁ => wpAny (model prog w) A (getAttr o f true) Q E s₁) E s) : wpAny (model prog w) A (eval (.Attribute e f pos) env) Q E s :=
  Attribute_any_ h (by rw [arm_eval_Attribute, hb])
end
def tFld (K : PySem.W.Frag) (ta : TE) (f : Str) : TE := fun σ H Q => ta σ H fun x H1 => ∃ a C dx fs v, x = .ref a ∧ H1 a = some (.ins C dx fs) ∧ Cls K C ∧ NoAttr K C f ∧ fs.lookup f = some v ∧ Q v H1
def sFld (K : PySem.W.Frag) (ta tv : TE) (f : Str) : TS := fun D σ H => tv σ H fun y H1 => ta σ H1 fun x H2 => ∃ a C dx fs, x = .ref a ∧ H2 a = some (.ins C dx fs) ∧ Cls K C ∧ NoAttr K C f ∧ fs.length < 1000 ∧
  D.nx σ (upd H2 a (.ins C dx (putF f y fs)))
section
variable {X : Cx} {o e value : Expr} {f : Str} {pos pos' tpos : Pos} {ta tv : TE}
theorem pe_fld (he : PE X e ta) (hb : attributeBase e f X.env (eval e X.env) = eval e X.env) : PE X (.Attribute e f pos) (tFld X.K ta f) := by
  intro pins s σ H Q I h
  refine attr_of hb (thn (he pins s σ H _ I h) fun u s1 ⟨x, H1, I1, rx, a, C, dx, fs, v, ex, ea, c, n, l, q⟩ => ?_)
  subst ex
  obtain rfl : u = Value.ref a := rx
  exact getattr_ok I1 ea c n l fun u' s2 I2 ru => ⟨v, H1, I2, ru, q⟩
theorem ps_fld (ha : PE X o ta) (hv : PE X value tv) (hs : swapsWith value (some (.Attribute o f pos')) pos.line X.env = pure false) : PS X (.Assign [.Attribute o f pos'] value pos) (sFld X.K ta tv f) := by
  intro pins s σ H D I h
  refine plainObj_wpAny_Assign_Attribute (thn (hv pins s σ H _ I h) fun u s1 ⟨y, H1, I1, ry, q⟩ => thn (ha pins s1 σ H1 _ I1 q) fun ov s2 ⟨x, H2, I2, rx, a, C, dx, fs, ex, ea, c, n, l, q2⟩ => ?_) hs
  subst ex
  obtain rfl : ov = Value.ref a := rx
  exact setattr_ok I2 ea c n l ry fun s3 I3 => ⟨σ, _, I3, q2⟩
end
section
variable {X : Cx} {pins : List (Addr × Obj)} {σ : St} {H : Hp} {s : Shared} {A : Around} {E : Value → Shared → Prop} {Q : Value → Shared → Prop} {c : Value} {b : Bool}
inductive TyOf (K : PySem.W.Frag) (H : Hp) : V → Value → Prop where
  | non : TyOf K H .non (.type "NoneType")
  | bl (x : Bool) : TyOf K H (.bl x) (.type "bool")
  | int (i : Int) : TyOf K H (.int i) (.type "int")
  | str (x : Str) : TyOf K H (.str x) (.type "str")
  | flt (x : UInt64) : TyOf K H (.flt x) (.type "float")
  | lst {a : Addr} {xs : List V} (e : H a = some (.lst xs)) : TyOf K H (.ref a) (.type "list")
  | frz {a : Addr} {o : Obj} {xs : List V} (e : H a = some (.frz o (.lst xs))) : TyOf K H (.ref a) (.type "list")
  | tup {a : Addr} {xs : List V} (e : H a = some (.tup xs)) : TyOf K H (.ref a) (.type "tuple")
  | dK {a : Addr} {kvs : List (Key × V)} (e : H a = some (.dK kvs)) : TyOf K H (.ref a) (.type "dict")
  | dT {a : Addr} {kvs : List (List Key × V)} (e : H a = some (.dT kvs)) : TyOf K H (.ref a) (.type "dict")
  | ins {a C dx : Addr} {fs : List (Str × V)} (e : H a = some (.ins C dx fs)) (cl : Cls K C) (ha : PySem.W.findIn K (.ref C) "__class__" = some (some (.builtin "object.__class__")))
      (hn : PySem.W.specialIn K (.builtin "object.__class__") "__get__" = some (some (.builtin "getset_descriptor.__get__"))) (htk : PySem.W.takesIn K (.builtin "object.__class__") = some true)
      (hm : PySem.W.mroIn K C (.type "object") = some true) : TyOf K H (.ref a) (.ref C)
theorem isinst_ok {x : V} {u t : Value} (I : Inv X pins σ H s) (rx : RelV x u) (ty : TyOf X.K H x t) (e : PySem.W.kitOne X.K t c = some b) (h : ∀ tk, Q (.bool b) { s with toks := tk }) :
    wpAny (model X.prog X.w) A (call (.builtin "isinstance") [u, c]) Q E s := by
  cases ty with
  | non => cases (show u = Value.none from rx); exact PySem.W.kia_one PySem.W.kitx_none I.kIn True.intro e (fun z => nomatch z) h
  | bl y => cases (show u = Value.bool y from rx); exact PySem.W.kia_one PySem.W.kitx_bool I.kIn True.intro e (fun z => nomatch z) h
  | int i => obtain ⟨t, q⟩ := (show ∃ t, u = Value.int i t from rx); cases q; exact PySem.W.kia_one PySem.W.kitx_int I.kIn True.intro e (fun z => nomatch z) h
  | str y => obtain ⟨t, q⟩ := (show ∃ t, u = Value.str y t from rx); cases q; exact PySem.W.kia_one PySem.W.kitx_str I.kIn True.intro e (fun z => nomatch z) h
  | flt y => obtain ⟨t, q⟩ := (show ∃ t, u = Value.float y t from rx); cases q; exact PySem.W.kia_one PySem.W.kitx_float I.kIn True.intro e (fun z => nomatch z) h
  | @lst a xs ea =>
    cases (show u = Value.ref a from rx)
    obtain ⟨_, _, n, _, h1⟩ := (show ObjOk X.prog X.w H s.heap a (.lst xs) from I.hok a _ ea)
    exact PySem.W.kia_one PySem.W.kitx_list I.kIn ⟨_, h1, rfl⟩ e (fun z => nomatch z) h
  | @frz a ob xs ea =>
    cases (show u = Value.ref a from rx)
    obtain ⟨_, _, _, n, _, h1⟩ := (show ObjOk X.prog X.w H s.heap a (.frz ob (.lst xs)) from I.hok a _ ea)
    exact PySem.W.kia_one PySem.W.kitx_list I.kIn ⟨_, h1, rfl⟩ e (fun z => nomatch z) h
  | @tup a xs ea =>
    cases (show u = Value.ref a from rx)
    obtain ⟨_, _, _, p⟩ := (show ObjOk X.prog X.w H s.heap a (.tup xs) from I.hok a _ ea)
    obtain ⟨o, h1, h2, _⟩ := p
    exact PySem.W.kia_one PySem.W.kitx_tuple I.kIn ⟨o, h1, h2⟩ e (fun z => nomatch z) h
  | @dK a kvs ea =>
    cases (show u = Value.ref a from rx)
    obtain ⟨_, _, vs, _, p⟩ := (show ObjOk X.prog X.w H s.heap a (.dK kvs) from I.hok a _ ea)
    obtain ⟨o, es, ep, h1, h2, _⟩ := p
    exact PySem.W.kia_one PySem.W.kitx_dict I.kIn ⟨o, h1, h2.1⟩ e (fun z => nomatch z) h
  | @dT a kvs ea =>
    cases (show u = Value.ref a from rx)
    obtain ⟨_, _, xs, _, o, es, ep, h1, h2, _⟩ := (show ObjOk X.prog X.w H s.heap a (.dT kvs) from I.hok a _ ea)
    exact PySem.W.kia_one PySem.W.kitx_dict I.kIn ⟨o, h1, h2.1⟩ e (fun z => nomatch z) h
  | @ins a C dx fs ea cl ha hn htk hm =>
    cases (show u = Value.ref a from rx)
    obtain ⟨mA, O, _⟩ := ins_get I.hok ea
    obtain ⟨od, J, _⟩ := O.look
    exact PySem.W.kia_one (PySem.W.kitx_own (cl.get _) cl.hd ha hn htk hm) I.kIn J e (fun z => nomatch z) h
end
end L2
namespace L2
open PySem PySem.Spec PyProof.Rows
structure Room (k : Nat) (A : Around) : Prop where
  hd : A.handled = none
  dp : A.depth + 3 * k + 5 < recursionLimit
  un : A.units + 16 * k + 200 < cLine
theorem Room.mono {j k : Nat} {A : Around} (r : Room k A) (h : j ≤ k) : Room j A := ⟨r.hd, by have := r.dp; omega, by have := r.un; omega⟩
theorem Room.deeper {k : Nat} {A : Around} (r : Room (k + 1) A) (env : Env) : Room k (A.deeper env) :=
  ⟨r.hd, by have := r.dp; show A.depth + 1 + 3 * k + 5 < _; omega, by have := r.un; show A.units + 3 + 16 * k + 200 < _; omega⟩
theorem Room.in1 {k : Nat} {A : Around} (r : Room (k + 1) A) : Room k A.in1 :=
  ⟨r.hd, by have := r.dp; show A.depth + 3 * k + 5 < _; omega, by have := r.un; show A.units + 1 + 16 * k + 200 < _; omega⟩
theorem make_depth {A : Around} {C : Addr} {us : List Value} {kw : List (Str × Value)} : (A.under (.builtin "type.__call__" ⟨.ref C :: us, kw⟩)).depth = A.depth + 1 := by
  first | rfl | simp [Around.under, Code.weight, Code.isCreation, Code.isGuard, Code.isCaller, Code.frames, Code.isFrame, guardIds]
theorem make_units {A : Around} {C : Addr} {us : List Value} {kw : List (Str × Value)} : (A.under (.builtin "type.__call__" ⟨.ref C :: us, kw⟩)).units = A.units + 1 := by
  first | rfl | simp [Around.under, Code.cUnits, Code.frames, Code.isFrame]
theorem Room.make {k : Nat} {A : Around} (r : Room (k + 1) A) (C : Addr) (us : List Value) (kw : List (Str × Value)) : Room k (A.under (.builtin "type.__call__" ⟨.ref C :: us, kw⟩)) :=
  ⟨r.hd, by have := r.dp; rw [make_depth]; omega, by have := r.un; rw [make_units]; omega⟩
theorem Room.depth {k : Nat} {A : Around} (r : Room k A) : A.depth < recursionLimit := by have := r.dp; omega
theorem Room.units {k : Nat} {A : Around} (r : Room k A) : A.units + 64 < cLine := by have := r.un; omega
def tNil : TA := fun _ H Q => Q [] H
def tCons (ta : TE) (tr : TA) : TA := fun σ H Q => ta σ H fun x H1 => tr σ H1 fun xs H2 => Q (x :: xs) H2
section
variable {X : Cx} {e : Expr} {es : List Expr} {te : TE} {t : TA} {pos : Pos}
theorem pa_nil : PA X [] tNil := fun _ _ _ _ H Q I h => Calls.spliced_nil ⟨[], H, I, .nil, h⟩
theorem pa_cons (ha : PE X e te) (hr : PA X es t) (hs : starEach (e :: es) X.env = (false, eval e X.env) :: starEach es X.env := by rfl) : PA X (e :: es) (tCons te t) := by
  intro pos pins s σ H Q I h
  rw [hs]
  show wpAny _ _ (spliced ((false, eval e X.env) :: backTo pos (starEach es X.env))) _ _ s
  refine Calls.spliced_cons (thn (ha pins s σ H _ I h) fun u s1 ⟨x, H1, I1, r1, q1⟩ => ?_)
  exact thn (hr pos pins s1 σ H1 _ I1 q1) fun us s2 ⟨xs, H2, I2, r2, q2⟩ => ⟨x :: xs, H2, I2, .cons r1 r2, q2⟩
def tTup (t : TA) : TE := fun σ H Q => t σ H fun xs H1 => xs.length ≤ sizeLine ∧ ∀ p, H1 p = none → Q (.ref p) (upd H1 p (.tup xs))
def tLst (t : TA) : TE := fun σ H Q => t σ H fun xs H1 => xs.length ≤ sizeLine ∧ ∀ p, H1 p = none → Q (.ref p) (upd H1 p (.lst xs))
theorem pe_tup {x1} (h : PA X es t) : PE X (.Tuple es x1 pos) (tTup t) := by
  intro pins s σ H Q I hq
  refine wpAny_Tuple_spliced (thn (h pos pins s σ H _ I hq) fun us s1 ⟨xs, H1, I1, r, z, q⟩ => ⟨by rw [← r.length]; exact z, ?_⟩)
  have hf : H1 s1.heap.objs.size = none := I1.hok.fresh (Nat.le_refl _)
  refine ⟨.ref s1.heap.objs.size, upd H1 s1.heap.objs.size (.tup xs), I1.laid (t' := s1.toks) (fun b u e => Heap.get?_push_of_some _ e) (Nat.le_refl _) ?_, rfl, q _ hf⟩
  exact ⟨z, us, r, ⟨_, Heap.get?_push_size _ rfl, rfl, _, rfl⟩⟩
theorem pe_lst (h : PA X es t) : PE X (.List es pos) (tLst t) := by
  intro pins s σ H Q I hq
  refine wpAny_List_spliced (thn (h pos pins s σ H _ I hq) fun us s1 ⟨xs, H1, I1, r, z, q⟩ => ⟨by rw [← r.length]; exact z, ?_⟩)
  have hf : H1 s1.heap.objs.size = none := I1.hok.fresh (Nat.le_refl _)
  refine ⟨.ref s1.heap.objs.size, upd H1 s1.heap.objs.size (.lst xs), I1.laid (t' := s1.toks) (fun b u e => Heap.get?_push_of_some _ e) (Nat.le_refl _) ?_, rfl, q _ hf⟩
  exact ⟨z, us, 0, r, Heap.get?_push_size _ rfl⟩
end
abbrev Sp := List V → Hp → VK → XK → Prop
abbrev CXT := List Env → Hp → Shared → XK → Value → Shared → Prop
structure Env0 (P : Program) (w : World) (K : PySem.W.Frag) (mg : Str → Option Value) (base : Heap) (A : Around) (outer : List Env) (s : Shared) (H : Hp) : Prop where
  frames : A.frames = some outer
  mod : Mod K mg base
  bs : ∀ b o, base.get? b = some o → s.heap.get? b = some o ∧ H b = none
  bsz : base.objs.size ≤ s.heap.objs.size
  funs : s.heap.FunFrames base outer
  frf : ∀ b ∈ frs outer, H b = none
  hok : HOk P w H s.heap
  bare : AllBare s.gens
def CE (outer : List Env) (P : Program) (w : World) (H : Hp) (s : Shared) (Q : VK) (u : Value) (s' : Shared) : Prop :=
  ∃ v H', s'.os = s.os ∧ AllBare s'.gens ∧ Un (frs outer) [] H H' s.heap s'.heap ∧ HOk P w H' s'.heap ∧ RelV v u ∧ Q v H'
def CR (CX : CXT) (outer : List Env) (P : Program) (w : World) (H : Hp) (s : Shared) (Q : VK) (E : XK) (r : Result) (s' : Shared) : Prop :=
  match r with
  | .ok (.ret u) => CE outer P w H s Q u s'
  | .ok _ => False
  | .error e => CX outer H s E e s'
structure FnOk (P : Program) (w : World) (K : PySem.W.Frag) (mg : Str → Option Value) (base : Heap) (CX : CXT) (k : Nat) (f : Addr) (fd : FuncData) (ps : List Str) (sp : Sp) : Prop where
  len : ∀ vs H Q E, sp vs H Q E → vs.length = ps.length
  run : ∀ (A : Around) (outer : List Env) (s : Shared) (H : Hp) (args : Args) (us : List Value) (vs : List V) (Q : VK) (E : XK), Room k A → Env0 P w K mg base A outer s H → BindsTo s fd args (ps.zip us) → Vals vs us → sp vs H Q E →
    codeAny (model P w) A (.call (.ref f) args) (CR CX outer P w H s Q E) s
theorem FnOk.mono {P : Program} {w : World} {K : PySem.W.Frag} {mg : Str → Option Value} {base : Heap} {CX : CXT} {j k : Nat} {f : Addr} {fd : FuncData} {ps : List Str} {sp : Sp} (F : FnOk P w K mg base CX j f fd ps sp) (h : j ≤ k) :
    FnOk P w K mg base CX k f fd ps sp := ⟨F.len, fun A outer s H args us vs Q E hr => F.run A outer s H args us vs Q E (hr.mono h)⟩
theorem FnOk.imp {P : Program} {w : World} {K : PySem.W.Frag} {mg : Str → Option Value} {base : Heap} {CX : CXT} {k : Nat} {f : Addr} {fd : FuncData} {ps : List Str} {sp sp' : Sp} (F : FnOk P w K mg base CX k f fd ps sp)
    (h : ∀ vs H Q E, sp' vs H Q E → sp vs H Q E) : FnOk P w K mg base CX k f fd ps sp' :=
  ⟨fun vs H Q E q => F.len vs H Q E (h _ _ _ _ q), fun A outer s H args us vs Q E hr he hb hv hs => F.run A outer s H args us vs Q E hr he hb hv (h _ _ _ _ hs)⟩
theorem Env0.make {P : Program} {w : World} {K : PySem.W.Frag} {mg : Str → Option Value} {base : Heap} {A : Around} {outer : List Env} {s : Shared} {H : Hp} (e : Env0 P w K mg base A outer s H) (C : Addr) (us : List Value) (kw : List (Str × Value)) :
    Env0 P w K mg base (A.under (.builtin "type.__call__" ⟨.ref C :: us, kw⟩)) outer s H := ⟨by first | exact e.frames | (simpa [Around.under, Code.envs, Code.isFrame, pushEnvs] using e.frames), e.mod, e.bs, e.bsz, e.funs, e.frf, e.hok, e.bare⟩
theorem Env0.in1 {P : Program} {w : World} {K : PySem.W.Frag} {mg : Str → Option Value} {base : Heap} {A : Around} {outer : List Env} {s : Shared} {H : Hp} (e : Env0 P w K mg base A outer s H) :
    Env0 P w K mg base A.in1 outer s H := ⟨e.frames, e.mod, e.bs, e.bsz, e.funs, e.frf, e.hok, e.bare⟩
section
variable {X : Cx} {pins : List (Addr × Obj)} {σ : St} {H : Hp} {s s' : Shared}
theorem Inv.env0 (I : Inv X pins σ H s) : Env0 X.prog X.w X.K X.mg X.base X.A X.stack s H :=
  ⟨I.ok.frames, I.ok.mod, I.bs, Nat.le_trans I.ok.bsz I.sz, I.stack, I.stkFree, I.hok, I.bare⟩
theorem Inv.after {Q : VK} {u : Value} (I : Inv X pins σ H s) (h : CE X.stack X.prog X.w H s Q u s') : EP X pins σ Q u s' := by
  obtain ⟨v, H', os, bare, un, hok, r, q⟩ := h
  obtain ⟨hh, g, d, t, os'⟩ := s'
  obtain rfl : os' = s.os := os
  exact ⟨v, H', I.call (h' := hh) (g' := g) (d' := d) (t' := t) (ch := []) un hok bare (fun b z => absurd z (by simp)), r, q⟩
end
def tCall (sp : Sp) (dvs : List V) (E : XK) (t : TA) : TE := fun σ H Q => t σ H fun vs H1 => sp (vs ++ dvs) H1 Q E
def tMeth (C : Addr) (m : Str) (sp : Sp) (dvs : List V) (E : XK) (ta : TE) (t : TA) : TE := fun σ H Q => ta σ H fun x H1 => ∃ a dx fs, x = .ref a ∧ H1 a = some (.ins C dx fs) ∧ fs.lookup m = none ∧
  t σ H1 fun vs H2 => sp (x :: (vs ++ dvs)) H2 Q E
def tMake (C : Addr) (sp : Sp) (dvs : List V) (E : XK) (t : TA) : TE := fun σ H Q => t σ H fun vs H1 => ∀ x dx, H1 x = none → H1 dx = none → dx ≠ x →
  sp (.ref x :: (vs ++ dvs)) (upd (upd H1 dx (.own x)) x (.ins C dx [])) (fun v H2 => v = .non ∧ Q (.ref x) H2) E
def Binds (K : PySem.W.Frag) (fd : FuncData) (ps : List Str) (ds : List Value) : Prop :=
  ∀ (s : Shared) (us : List Value), K.In s.heap → (us ++ ds).length = ps.length → BindsTo s fd ⟨us, []⟩ (ps.zip (us ++ ds))
theorem Binds.all {K : PySem.W.Frag} {fd : FuncData} {ps : List Str} (h : ∀ us : List Value, us.length = ps.length → bindArgs fd ⟨us, []⟩ = pure (ps.zip us)) : Binds K fd ps [] := fun s us _ hl => by
  rw [List.append_nil] at hl ⊢
  exact .of_eq (h us hl)
def Passes (CX : CXT) (X : Cx) (E : XK) : Prop := ∀ (pins : List (Addr × Obj)) (σ : St) (H : Hp) (s : Shared) (e : Value) (s' : Shared), Inv X pins σ H s → CX X.stack H s E e s' → X.xe e s'
section
variable {X : Cx} {CX : CXT} {k : Nat} {f C : Addr} {fd : FuncData} {ps : List Str} {sp : Sp} {dvs : List V} {ds : List Value} {E : XK} {x m : Str} {p pos apos : Pos} {e o : Expr} {es : List Expr} {ta : TE} {t : TA}
theorem run_fn {pins : List (Addr × Obj)} {σ : St} {H : Hp} {s : Shared} {Q : VK} {us : List Value} {vs : List V} (F : FnOk X.prog X.w X.K X.mg X.base CX k f fd ps sp) (hr : Room k X.A) (hb : Binds X.K fd ps ds) (hd : Vals dvs ds) (hx : Passes CX X E)
    (I : Inv X pins σ H s) (r : Vals vs us) (h : sp (vs ++ dvs) H Q E) : wpAny (model X.prog X.w) X.A (call (.ref f) us) (EP X pins σ Q) X.xe s := by
  have r2 : Vals (vs ++ dvs) (us ++ ds) := r.append hd
  have hl : (us ++ ds).length = ps.length := by rw [← r2.length]; exact F.len _ _ _ _ h
  refine wpAny_call (codeAny_mono (F.run X.A X.stack s H ⟨us, []⟩ (us ++ ds) (vs ++ dvs) Q E hr I.env0 (hb s us I.kIn hl) r2 h) fun r s' hq => ?_)
  cases r with
  | error e => exact hx pins σ H s e s' I hq
  | ok fl =>
    cases fl with
    | ret u => exact I.after hq
    | next => exact False.elim hq
    | brk => exact False.elim hq
    | cont => exact False.elim hq
theorem pe_call (F : FnOk X.prog X.w X.K X.mg X.base CX k f fd ps sp) (hr : Room k X.A) (hg : Gl X x) (hm : X.mg x = some (.ref f)) (hk : PySem.W.keepIn X.K (.ref f) = true) (hb : Binds X.K fd ps ds) (hd : Vals dvs ds) (hx : Passes CX X E)
    (ha : PA X (e :: es) t) (hdb : (x == ("__debug__" : Str)) = false := by decide) (he : starEach (e :: es) X.env = (false, eval e X.env) :: starEach es X.env := by rfl) (hpl : (backTo pos (starEach es X.env)).any (·.1) = false := by rfl) :
    PE X (.Call (.Name x p) (e :: es) [] pos) (tCall sp dvs E t) := by
  intro pins s σ H Q I h
  refine wpAny_Call_Name_kw (ld_glob I hg hm ?_ hdb)
  refine PySem.W.callWith_K (h₀ := X.base) I.ok.mod.kin hk (thn (ha pos pins s σ H _ I h) fun us s1 ⟨vs, H1, I1, r, q⟩ => ⟨I1.kIn, ?_⟩) he hpl
  exact run_fn F hr hb hd hx I1 r q
theorem pe_meth {pl : Sem Bool} (he : PE X o ta) (c : Cls X.K C) (hm : Meth X.K C m f) (F : FnOk X.prog X.w X.K X.mg X.base CX k f fd ps sp) (hr : Room k X.A) (hb : Binds X.K fd ps ds) (hd : Vals dvs ds) (hx : Passes CX X E) (ha : PA X (e :: es) t)
    (hst : starEach (e :: es) X.env = (false, eval e X.env) :: starEach es X.env := by rfl) (hpl : (backTo pos (starEach es X.env)).any (·.1) = false := by rfl)
    (ht : eval (.Call (.Attribute o m apos) (e :: es) [] pos) X.env = (do
      let ov ← eval o X.env
      standAt apos.atName
      let (f, first) ← holding [ov] (getMethod ov m pl)
      callWith pos f first (backTo pos (starEach (e :: es) X.env)) (backToKw pos (keywordEach [] X.env))) := by rfl) :
    PE X (.Call (.Attribute o m apos) (e :: es) [] pos) (tMeth C m sp dvs E ta t) := by
  intro pins s σ H Q I h
  refine PySem.W.methodCall_KW (pl := pl) (thn (he pins s σ H _ I h) fun u s1 ⟨x, H1, I1, rx, a, dx, fs, ex, ea, l, q⟩ => ?_) ht
  subst ex
  obtain rfl : u = Value.ref a := rx
  refine getmeth_ok I1 ea c hm l ?_
  refine PySem.W.callWith_K (first := [.ref a]) (h₀ := X.base) I.ok.mod.kin hm.kp (thn (ha pos pins s1 σ H1 _ I1 q) fun us s2 ⟨vs, H2, I2, r, q2⟩ => ⟨I2.kIn, ?_⟩) hst hpl
  exact run_fn (us := .ref a :: us) (vs := .ref a :: vs) F hr hb hd hx I2 (.cons rfl r) q2
theorem pe_meth0 {pl : Sem Bool} (he : PE X o ta) (c : Cls X.K C) (hm : Meth X.K C m f) (F : FnOk X.prog X.w X.K X.mg X.base CX k f fd ps sp) (hr : Room k X.A) (hb : Binds X.K fd ps ds) (hd : Vals dvs ds) (hx : Passes CX X E)
    (ht : eval (.Call (.Attribute o m apos) [] [] pos) X.env = (do
      let ov ← eval o X.env
      standAt apos.atName
      let (f, first) ← holding [ov] (getMethod ov m pl)
      callWith pos f first (backTo pos (starEach [] X.env)) (backToKw pos (keywordEach [] X.env))) := by rfl) :
    PE X (.Call (.Attribute o m apos) [] [] pos) (tMeth C m sp dvs E ta tNil) := by
  intro pins s σ H Q I h
  refine PySem.W.methodCall_KW (pl := pl) (thn (he pins s σ H _ I h) fun u s1 ⟨x, H1, I1, rx, a, dx, fs, ex, ea, l, q⟩ => ?_) ht
  subst ex
  obtain rfl : u = Value.ref a := rx
  refine getmeth_ok I1 ea c hm l ?_
  exact PySem.W.callWith_K0 (first := [.ref a]) I1.kIn hm.kp (run_fn (us := [.ref a]) (vs := [.ref a]) F hr hb hd hx I1 (.cons rfl .nil) q)
structure Mk (K : PySem.W.Frag) (C f : Addr) : Prop where
  makes : PySem.W.makesIn K C = true
  init : PySem.W.findIn K (.ref C) "__init__" = some (some (.ref f))
  fn : PySem.W.isFn K (.ref f) = true
  kp : PySem.W.keepIn K (.ref C) = true
theorem run_make {pins : List (Addr × Obj)} {σ : St} {H : Hp} {s : Shared} {Q : VK} {us : List Value} {vs : List V} (M : Mk X.K C f) (F : FnOk X.prog X.w X.K X.mg X.base CX k f fd ps sp) (hr : Room (k + 1) X.A) (hb : Binds X.K fd ps ds) (hd : Vals dvs ds)
    (hx : Passes CX X E) (I : Inv X pins σ H s) (r : Vals vs us)
    (h : ∀ x dx, H x = none → H dx = none → dx ≠ x → sp (.ref x :: (vs ++ dvs)) (upd (upd H dx (.own x)) x (.ins C dx [])) (fun v H2 => v = .non ∧ Q (.ref x) H2) E) :
    wpAny (model X.prog X.w) X.A (call (.ref C) us) (EP X pins σ Q) X.xe s := by
  have hq := h (s.heap.objs.size + 1) s.heap.objs.size (I.hok.fresh (Nat.le_succ _)) (I.hok.fresh (Nat.le_refl _)) (Nat.ne_of_lt (Nat.lt_succ_self _))
  have I2 := Inv.made (C := C) I
  have r2 : Vals (V.ref (s.heap.objs.size + 1) :: (vs ++ dvs)) (Value.ref (s.heap.objs.size + 1) :: (us ++ ds)) := .cons rfl (r.append hd)
  have hl : (Value.ref (s.heap.objs.size + 1) :: us ++ ds).length = ps.length := by
    have e := r2.length
    rw [F.len _ _ _ _ hq] at e
    exact e.symm
  refine wpAny_call (make_map (f := f) I.kIn M.makes M.init (beq_iff_eq.mp M.fn) (codeAny_mono (F.run _ X.stack _ _ ⟨Value.ref (s.heap.objs.size + 1) :: us, []⟩ (Value.ref (s.heap.objs.size + 1) :: (us ++ ds)) _ _ E (hr.make C us [])
    (I2.env0.make C us []) (hb _ (Value.ref (s.heap.objs.size + 1) :: us) I2.kIn hl) r2 hq) fun r s' hq' => ?_))
  cases r with
  | error e => exact hx pins σ _ _ e s' I2 hq'
  | ok fl =>
    cases fl with
    | ret u =>
      obtain ⟨v, H', I3, rv, ev, q3⟩ := I2.after hq'
      subst ev
      exact ⟨rv, ⟨V.ref (s.heap.objs.size + 1), H', I3, rfl, q3⟩⟩
    | next => exact False.elim hq'
    | brk => exact False.elim hq'
    | cont => exact False.elim hq'
theorem pe_make (M : Mk X.K C f) (F : FnOk X.prog X.w X.K X.mg X.base CX k f fd ps sp) (hr : Room (k + 1) X.A) (hg : Gl X x) (hm : X.mg x = some (.ref C)) (hb : Binds X.K fd ps ds) (hd : Vals dvs ds) (hx : Passes CX X E)
    (ha : PA X (e :: es) t) (hdb : (x == ("__debug__" : Str)) = false := by decide) (he : starEach (e :: es) X.env = (false, eval e X.env) :: starEach es X.env := by rfl) (hpl : (backTo pos (starEach es X.env)).any (·.1) = false := by rfl) :
    PE X (.Call (.Name x p) (e :: es) [] pos) (tMake C sp dvs E t) := by
  intro pins s σ H Q I h
  refine wpAny_Call_Name_kw (ld_glob I hg hm ?_ hdb)
  refine PySem.W.callWith_K (h₀ := X.base) I.ok.mod.kin M.kp (thn (ha pos pins s σ H _ I h) fun us s1 ⟨vs, H1, I1, r, q⟩ => ⟨I1.kIn, ?_⟩) he hpl
  exact run_make M F hr hb hd hx I1 r q
theorem pe_make0 (M : Mk X.K C f) (F : FnOk X.prog X.w X.K X.mg X.base CX k f fd ps sp) (hr : Room (k + 1) X.A) (hg : Gl X x) (hm : X.mg x = some (.ref C)) (hb : Binds X.K fd ps ds) (hd : Vals dvs ds) (hx : Passes CX X E)
    (hdb : (x == ("__debug__" : Str)) = false := by decide) : PE X (.Call (.Name x p) [] [] pos) (tMake C sp dvs E tNil) := by
  intro pins s σ H Q I h
  refine wpAny_Call_Name_kw (ld_glob I hg hm ?_ hdb)
  exact PySem.W.callWith_K0 I.kIn M.kp (run_make (us := []) M F hr hb hd hx I .nil h)
end
def PK (X : Cx) (kws : List Keyword) (t : TA) : Prop :=
  ∀ (pos : Pos) (pins : List (Addr × Obj)) (s : Shared) (σ : St) (H : Hp) (Q : List V → Hp → Prop), Inv X pins σ H s → t σ H Q → wpAny (model X.prog X.w) X.A (evalAll ((backToKw pos (keywordEach kws X.env)).map (·.2))) (AP X pins σ Q) X.xe s
section
variable {X : Cx} {CX : CXT} {k : Nat} {f C : Addr} {fd : FuncData} {ps ks : List Str} {sp : Sp} {E : XK} {x m : Str} {p pos apos kpos : Pos} {e o : Expr} {es : List Expr} {kws : List Keyword} {te ta : TE} {t tk : TA} {nm : Option Str}
structure KBinds (K : PySem.W.Frag) (fd : FuncData) (ps ks : List Str) (g : List Value → List Value → List Value) (gV : List V → List V → List V) : Prop where
  to : ∀ (s : Shared) (us ws : List Value), K.In s.heap → (g us ws).length = ps.length → BindsTo s fd ⟨us, ks.zip ws⟩ (ps.zip (g us ws))
  rel : ∀ {vs : List V} {us : List Value} {zs : List V} {ws : List Value}, Vals vs us → Vals zs ws → Vals (gV vs zs) (g us ws)
variable {g : List Value → List Value → List Value} {gV : List V → List V → List V}
end
structure FnScope (N P : List Str) (sc : Scope) : Prop where
  kind : sc.kind = .function
  co : sc.isCoroutine = false
  gen : sc.isGenerator = false
  nd : N.Nodup
  pre : N.take P.length = P
  par : ∀ x ∈ P, sc.names.lookup x = some .local ∨ sc.names.lookup x = some .cell
  nofree : ∀ y ∈ sc.names, y.2 ≠ .free
theorem bindL_out {kindOf : Str → Option NameKind} {x : Str} : ∀ {binds : List (Str × Value)} {m : Str → Option Value}, (∀ v, (x, v) ∉ binds) → bindL kindOf binds m x = m x
  | [], _, _ => rfl
  | (n, v) :: r, m, h => by
    unfold bindL
    rw [bindL_out fun w hw => h w (List.mem_cons_of_mem _ hw)]
    split
    · have : x ≠ n := by rintro rfl; exact h v List.mem_cons_self
      simp [this]
    · rfl
theorem bindC_out {kindOf : Str → Option NameKind} {x : Str} : ∀ {binds : List (Str × Value)} {m : Str → Option Value}, (∀ v, (x, v) ∉ binds) → bindC kindOf binds m x = m x
  | [], _, _ => rfl
  | (n, v) :: r, m, h => by
    unfold bindC
    rw [bindC_out fun w hw => h w (List.mem_cons_of_mem _ hw)]
    split
    · rfl
    · have : x ≠ n := by rintro rfl; exact h v List.mem_cons_self
      simp [this]
theorem bindL_get {kindOf : Str → Option NameKind} {x : Str} {v : Value} : ∀ {P : List Str} {vs : List Value} {i : Nat} {m : Str → Option Value}, P.Nodup → P[i]? = some x → vs[i]? = some v → kindOf x = some .local →
    bindL kindOf (P.zip vs) m x = some v
  | [], _, _, _, _, h, _, _ => by simp at h
  | _ :: _, [], _, _, _, _, h, _ => by simp at h
  | p :: P, w :: vs, 0, m, nd, h1, h2, hk => by
    simp at h1 h2; subst h1; subst h2
    show bindL kindOf ((p, w) :: P.zip vs) m p = _
    unfold bindL
    rw [bindL_out fun v hv => (List.nodup_cons.mp nd).1 (List.of_mem_zip hv).1, if_pos hk]
    simp
  | p :: P, w :: vs, i + 1, m, nd, h1, h2, hk => by
    show bindL kindOf ((p, w) :: P.zip vs) m x = _
    unfold bindL
    exact bindL_get (i := i) (List.nodup_cons.mp nd).2 (by simpa using h1) (by simpa using h2) hk
theorem bindC_get {kindOf : Str → Option NameKind} {x : Str} {v : Value} : ∀ {P : List Str} {vs : List Value} {i : Nat} {m : Str → Option Value}, P.Nodup → P[i]? = some x → vs[i]? = some v → kindOf x ≠ some .local →
    bindC kindOf (P.zip vs) m x = some v
  | [], _, _, _, _, h, _, _ => by simp at h
  | _ :: _, [], _, _, _, _, h, _ => by simp at h
  | p :: P, w :: vs, 0, m, nd, h1, h2, hk => by
    simp at h1 h2; subst h1; subst h2
    show bindC kindOf ((p, w) :: P.zip vs) m p = _
    unfold bindC
    rw [bindC_out fun v hv => (List.nodup_cons.mp nd).1 (List.of_mem_zip hv).1, if_neg hk]
    simp
  | p :: P, w :: vs, i + 1, m, nd, h1, h2, hk => by
    show bindC kindOf ((p, w) :: P.zip vs) m x = _
    unfold bindC
    exact bindC_get (i := i) (List.nodup_cons.mp nd).2 (by simpa using h1) (by simpa using h2) hk
def start (N : List Str) (vs : List V) : St := vs.map some ++ List.replicate (N.length - vs.length) none
def cxOf (CX : CXT) (P : Program) (w : World) (K : PySem.W.Frag) (mg : Str → Option Value) (base : Heap) (N : List Str) (qual : Str) (scope : Scope) (f : Addr) (cd : Value) (A : Around) (outer : List Env) (s : Shared) (H : Hp) (E : XK) : Cx where
  prog := P
  w := w
  K := K
  mg := mg
  base := base
  A := A.deeper (envOfC qual scope s.heap.objs.size f cd)
  N := N
  s_0 := s
  H_0 := H
  env := envOfC qual scope s.heap.objs.size f cd
  outer := outer
  stack := envOfC qual scope s.heap.objs.size f cd :: outer
  ex := []
  calm := true
  fn := fun _ => true
  pn := []
  xe := fun e s' => wpAny (model P w) (A.deeper (envOfC qual scope s.heap.objs.size f cd)) (leaving (envOfC qual scope s.heap.objs.size f cd) e) (fun _ s'' => CX outer H s E e s'') (fun e' s'' => CX outer H s E e' s'') s'
theorem cell_has {sc : Scope} {n : Nat} {x : Str} (h : sc.names.lookup x = some .cell) : ∃ c, (cellsFrom n sc.names []).lookup x = some c := by
  have q := PySem.W.cellsFrom_some sc.names n [] (.inl h)
  exact Option.isSome_iff_exists.mp q
theorem inv_start {CX : CXT} {P : Program} {w : World} {K : PySem.W.Frag} {mg : Str → Option Value} {base : Heap} {N ps : List Str} {qual : Str} {scope : Scope} {f : Addr} {cd : Value} {A : Around} {outer : List Env} {s s1 : Shared} {H : Hp} {E : XK} {us : List Value} {vs : List V}
    (S : FnScope N ps scope) (hd : A.handled = none) (e0 : Env0 P w K mg base A outer s H) (hl : vs.length = ps.length) (r : Vals vs us)
    (x : InCallC s s.heap.objs.size (bindL (envOfC qual scope s.heap.objs.size f cd).kindOf (ps.zip us) fun _ => none) (cellsFrom (s.heap.objs.size + 1) scope.names []) (bindC (envOfC qual scope s.heap.objs.size f cd).kindOf (ps.zip us) fun _ => none) s1) :
    Inv (cxOf CX P w K mg base N qual scope f cd A outer s H E) [] (start N vs) H s1 := by
  have hpl : ps.length ≤ N.length := by have := congrArg List.length S.pre; rw [List.length_take] at this; omega
  obtain ⟨h1, tk, rfl, hk⟩ := x.done
  have noA : ∀ b : Addr, b ∉ (cxOf CX P w K mg base N qual scope f cd A outer s H E).ex := fun b z => absurd (show b ∈ ([] : List Addr) from z) (by simp)
  refine ⟨⟨e0.mod, S.kind, rfl, rfl, Nat.le_refl _, fun y z c h1 h2 => ?_, fun y hy => ?_, fun y c _ h => ?_, fun _ => hd, Around.frames_deeper e0.frames, .inr ⟨rfl, rfl⟩, fun b z => absurd z (noA b), e0.bs, e0.bsz, fun b _ _ => noA b, fun b z => absurd z (noA b), e0.funs, e0.frf⟩,
    rfl, e0.bare, Un.kept hk, ⟨_, x.toInCall.ns, fun i y v h1 h2 h3 => ?_⟩, fun y c h => ⟨_, x.cell y c h⟩, e0.hok.fresh (Nat.le_refl _), fun y c h => ?_, fun p hp => absurd (show p ∈ ([] : List (Addr × Obj)) from hp) (by simp), e0.hok.kept hk, ?_⟩
  · exact name_of_addr x.apart (PySem.mem_of_lookup h1) (PySem.mem_of_lookup h2)
  · have hy : scope.names.lookup y = some .cell ∨ scope.names.lookup y = some .free := hy
    rcases hy with hy | hy
    · exact cell_has hy
    · exact absurd rfl (S.nofree _ (PySem.mem_of_lookup hy))
  · exact Nat.le_of_lt (x.above y c (PySem.mem_of_lookup h))
  · have hi : i < vs.length := by
      unfold start at h2
      by_cases hi : i < vs.length
      · exact hi
      · rw [List.getElem?_append_right (by simpa using hi)] at h2
        rw [List.getElem?_replicate] at h2
        split at h2 <;> cases h2
    have ha : vs[i]? = some v := by
      unfold start at h2
      rw [List.getElem?_append_left (by simpa using hi), List.getElem?_map] at h2
      cases e : vs[i]? with
      | none => rw [e] at h2; cases h2
      | some a => rw [e] at h2; cases h2; rfl
    obtain ⟨u, hu, rv⟩ := r.get ha
    have hp : ps[i]? = some y := by
      rw [← S.pre, List.getElem?_take_of_lt (by omega)]; exact h1
    have ndP : ps.Nodup := by rw [← S.pre]; exact S.nd.sublist (List.take_sublist _ _)
    refine ⟨u, rv, ?_⟩
    rcases S.par y (List.mem_of_getElem? hp) with k | k
    · exact .inl ⟨k, bindL_get ndP hp hu k⟩
    · obtain ⟨c, e⟩ := cell_has (n := s.heap.objs.size + 1) k
      refine .inr ⟨.inl k, c, e, ?_⟩
      have q := x.cell y c e
      rw [bindC_get ndP hp hu (by show scope.names.lookup y ≠ _; rw [k]; decide)] at q
      exact q
  · exact e0.hok.fresh (Nat.le_of_lt (x.above y c (PySem.mem_of_lookup h)))
  · unfold start
    show _ = N.length
    rw [List.length_append, List.length_map, List.length_replicate]
    omega
theorem fn_of {CX : CXT} {P : Program} {w : World} {K : PySem.W.Frag} {mg : Str → Option Value} {base : Heap} {k : Nat} {f : Addr} {name qual : Str} {params : Arguments} {body : List Stmt} {scope : Scope} {dV kV doc pm cdv ct oc : Value} {an od : Option Addr}
    {osl : Array (Option Value)} {N ps : List Str} {sp : Sp} (lk : K.lookup f = some ⟨oc, od, .func (PySem.W.fnOf name qual params body scope dV kV doc pm an cdv ct), osl⟩) (hcd : PySem.W.codeIn K cdv qual = true) (S : FnScope N ps scope)
    (len : ∀ vs H Q E, sp vs H Q E → vs.length = ps.length)
    (hbody : ∀ (A : Around) (outer : List Env) (s : Shared) (H : Hp) (vs : List V) (Q : VK) (E : XK), Room k (A.deeper (envOfC qual scope s.heap.objs.size f cdv)) → sp vs H Q E →
      ∃ t, PSs (cxOf CX P w K mg base N qual scope f cdv A outer s H E) body t ∧ t { nx := fun _ H' => Q .non H', rt := Q } (start N vs) H) :
    FnOk P w K mg base CX (k + 1) f (PySem.W.fnOf name qual params body scope dV kV doc pm an cdv ct) ps sp := by
  refine ⟨len, fun A outer s H args us vs Q E hr e0 hb r hsp => ?_⟩
  have hl := len _ _ _ _ hsp
  have KX : K.In s.heap := e0.mod.kin.keeps fun b o e => (e0.bs b o e).1
  have lim : s.heap.NoLimit := e0.mod.nolimit.keeps fun b o e => (e0.bs b o e).1
  have hkind : ∀ y ∈ ps.zip us, scope.names.lookup y.1 = some .local ∨ (scope.names.lookup y.1 = some .cell ∧ ((cellsFrom (s.heap.objs.size + 1) scope.names []).lookup y.1).isSome = true) := fun ⟨n, v⟩ hy => by
    rcases S.par n (List.of_mem_zip hy).1 with q | q
    · exact .inl q
    · exact .inr ⟨q, PySem.W.cellsFrom_some _ _ _ (.inl q)⟩
  refine codeAny_call_function hr.depth (KX _ _ lk) rfl S.co S.gen rfl (PySem.W.codeRec_of KX hcd) (hb _ _ _ _ ?_)
  refine wpAny_newFunctionEnv_cells S.kind hkind fun env he s1 x => ?_
  subst he
  refine ⟨lim.keeps x.toInCall.keep, codeAny_func ?_⟩
  obtain ⟨t, ht, hq⟩ := hbody A outer s H vs Q E (hr.deeper _) hsp
  have I : Inv (cxOf CX P w K mg base N qual scope f cdv A outer s H E) [] (start N vs) H s1 := inv_start S hr.hd e0 hl r x
  refine wpAny_mono (ht [] s1 (start N vs) H _ I hq) (fun fl s' hs => ?_) fun e s' hs => hs
  have fin : ∀ {σ' : St} {H' : Hp} {v : V} {u : Value}, Inv (cxOf CX P w K mg base N qual scope f cdv A outer s H E) [] σ' H' s' → RelV v u → Q v H' → CE outer P w H s Q u s' :=
    fun {σ' H' v u} J rv q => ⟨v, H', J.os, J.bare, J.base, J.hok, rv, q⟩
  cases fl with
  | ret u =>
    obtain ⟨v, σ', H', J, rv, q⟩ := hs
    exact fin J rv q
  | next =>
    obtain ⟨σ', H', J, q⟩ := hs
    exact fin (v := V.non) (u := Value.none) J rfl q
  | brk =>
    obtain ⟨_, _, _, q⟩ := hs
    exact False.elim q
  | cont =>
    obtain ⟨_, _, _, q⟩ := hs
    exact False.elim q
end L2
namespace L2
open PySem PySem.Spec PyProof.Rows
section
variable {X : Cx} {x : Str} {p pos : Pos} {e : Expr} {es : List Expr} {t : TA} {id T : String} {r : List V → Hp → VK → Prop}
def tCB (r : List V → Hp → VK → Prop) (t : TA) : TE := fun σ H Q => t σ H fun vs H1 => r vs H1 Q
theorem pe_callB (hc : CallR X (.builtin id) r) (hg : Gl X x) (hm : X.mg x = none) (hv : bootBuiltins x = some (.builtin id)) (ha : PA X (e :: es) t) (hn : x ≠ "__name__" := by decide) (hdb : (x == ("__debug__" : Str)) = false := by decide)
    (he : starEach (e :: es) X.env = (false, eval e X.env) :: starEach es X.env := by rfl) (hpl : (backTo pos (starEach es X.env)).any (·.1) = false := by rfl) : PE X (.Call (.Name x p) (e :: es) [] pos) (tCB r t) := by
  intro pins s σ H Q I h
  refine wpAny_Call_Name_kw (ld_blt I hg hm hv ?_ hn hdb)
  exact PyProof.Rows.callWith_builtin1 (thn (ha pos pins s σ H _ I h) fun us s1 ⟨vs, H1, I1, r1, q1⟩ => hc pins s1 σ H1 vs us Q I1 r1 q1) he hpl
theorem pe_callTy (hc : CallR X (.type T) r) (hg : Gl X x) (hm : X.mg x = none) (hv : bootBuiltins x = some (.type T)) (ha : PA X (e :: es) t) (hn : x ≠ "__name__" := by decide) (hdb : (x == ("__debug__" : Str)) = false := by decide)
    (he : starEach (e :: es) X.env = (false, eval e X.env) :: starEach es X.env := by rfl) (hpl : (backTo pos (starEach es X.env)).any (·.1) = false := by rfl) : PE X (.Call (.Name x p) (e :: es) [] pos) (tCB r t) := by
  intro pins s σ H Q I h
  refine wpAny_Call_Name_kw (ld_blt I hg hm hv ?_ hn hdb)
  exact PyProof.Rows.callWith_type1 (thn (ha pos pins s σ H _ I h) fun us s1 ⟨vs, H1, I1, r1, q1⟩ => hc pins s1 σ H1 vs us Q I1 r1 q1) he hpl
end
end L2
namespace HT
open PySem PyProof.Rows
section
variable {prog : Program} {w : World} {A : Around} {E : Value → Shared → Prop} {s : Shared}
theorem cat_tup {t b : Addr} {vs ws : List Value} {Q : Value → Shared → Prop} (ht : IsTup s.heap t vs.toArray) (hb : IsTup s.heap b ws.toArray) (hv : vs ≠ [])
    (h1 : ws = [] → Q (.ref t) s) (h2 : ws ≠ [] → Q (.ref s.heap.objs.size) { s with heap := s.heap.push { cls := .type "tuple", data := .seq (vs ++ ws).toArray } })
    (hsz : vs.length + ws.length ≤ sizeLine) : wpAny (model prog w) A (binaryOp .Add (.ref t) (.ref b)) Q E s := by
  obtain ⟨⟨cls, dd, data, sl⟩, ho, hc, n, hd⟩ := id ht
  obtain ⟨⟨cls2, dd2, data2, sl2⟩, ho2, hc2, n2, hd2⟩ := id hb
  simp only at hc hd hc2 hd2
  subst hc hd hc2 hd2
  have e : vs.toArray ++ ws.toArray = (vs ++ ws).toArray := by simp
  by_cases hw : ws = []
  · exact concat_meets ⟨_, ho, rfl⟩ ⟨_, ho2, rfl⟩ noFill_tuple_add seq_tuple_add PySem.F.slot_tuple_add PySem.F.entry_tuple_add (PySem.F.args_tuple_add_2 _ _)
      (tuple_addW1 t b vs.toArray ws.toArray n n2 dd dd2 sl sl2 (by simpa using hv) (by simp [hw])) ⟨ho, ho2, h1 hw⟩
  · refine concat_meets ⟨_, ho, rfl⟩ ⟨_, ho2, rfl⟩ noFill_tuple_add seq_tuple_add PySem.F.slot_tuple_add PySem.F.entry_tuple_add (PySem.F.args_tuple_add_2 _ _)
      (tuple_addW2 t b vs.toArray ws.toArray n n2 dd dd2 sl sl2 (by simpa using hv) (by simpa using hw) (by rw [List.size_toArray, List.size_toArray]; exact hsz)) ⟨ho, ho2, ?_⟩
    rw [e]
    exact h2 hw
def sIx (n d : Nat) : Option Int → Nat
  | none => d
  | some v => if v < 0 then (v + (n : Int)).toNat else min v.toNat n
theorem sIx_le (n d : Nat) (hd : d ≤ n) (o : Option Int) : sIx n d o ≤ n := by
  cases o with
  | none => exact hd
  | some v =>
    show (if v < 0 then (v + (n : Int)).toNat else min v.toNat n) ≤ n
    by_cases hv : v < 0
    · rw [if_pos hv]; omega
    · rw [if_neg hv]; exact Nat.min_le_right _ _
theorem clip_eq (v : Int) (n d : Nat) : (if v < 0 then max (v + (n : Int)) 0 else min v (n : Int)) = ((sIx n d (some v) : Nat) : Int) := by
  show (if v < 0 then max (v + (n : Int)) 0 else min v (n : Int)) = (((if v < 0 then (v + (n : Int)).toNat else min v.toNat n) : Nat) : Int)
  by_cases hv : v < 0
  · simp only [if_pos hv]; omega
  · simp only [if_neg hv]; omega
theorem adjust_gen (lo hi : Option Int) (n : Nat) : Builtin.Slice.sliceAdjust lo hi 1 (n : Int) = (((sIx n 0 lo : Nat) : Int), ((sIx n n hi : Nat) : Int)) := by
  have h1 : ¬ ((1 : Int) < 0) := by omega
  unfold Builtin.Slice.sliceAdjust
  simp only [h1, if_false]
  refine Prod.ext ?_ ?_
  · cases lo with
    | none => rfl
    | some v => exact clip_eq v n 0
  · cases hi with
    | none => rfl
    | some v => exact clip_eq v n n
theorem places_gen (i j : Nat) : Builtin.Slice.slicePlaces (i : Int) (j : Int) 1 = j - i := by
  unfold Builtin.Slice.slicePlaces
  have h1 : (1 : Int) > 0 := by omega
  simp only [h1, if_true, Int.ediv_one]
  split <;> omega
theorem slicePart_ {v : Value} {o : Option Int} {Q : Option Int → Shared → Prop} (p : IsPart v o) (h : Q o s) : wpAny (model prog w) A (Builtin.Slice.slicePartIndex v) Q E s := by
  cases p with
  | none => exact slicePart_none h
  | int i t => exact slicePart_int h
theorem sliceApplied_gen {sl : Addr} {vl vu : Value} {lo hi : Option Int} {n : Nat} {Q : Int × Int × Nat → Shared → Prop} (hs : s.heap.IsSliceOf sl vl vu .none) (pl : IsPart vl lo) (pu : IsPart vu hi)
    (h : Q (((sIx n 0 lo : Nat) : Int), 1, sIx n n hi - sIx n 0 lo) s) : wpAny (model prog w) A (Builtin.Slice.sliceApplied (.ref sl) (pure (n : Int))) Q E s := by
  obtain ⟨os, hos, hcs, hds⟩ := id hs
  unfold Builtin.Slice.sliceApplied Builtin.Slice.sliceFields
  refine wpAny_bind (wpAny_bind (wpAny_field hos hds (x := vl) rfl (wpAny_bind (wpAny_field hos hds (x := vu) rfl (wpAny_bind (wpAny_field hos hds (x := .none) rfl (wpAny_pure ?_)))))))
  refine wpAny_bind (slicePart_none ?_)
  show wpAny _ _ (if ((1 : Int) == 0) = true then _ else _) _ _ s
  rw [if_neg (by decide)]
  refine wpAny_bind (slicePart_ pl (wpAny_bind (slicePart_ pu (wpAny_bind (wpAny_pure ?_)))))
  show wpAny _ _ (match Builtin.Slice.sliceAdjust lo hi 1 (n : Int) with | (lo, hi) => pure (lo, (1 : Int), Builtin.Slice.slicePlaces lo hi 1)) _ _ s
  rw [adjust_gen lo hi n]
  show wpAny _ _ (pure (((sIx n 0 lo : Nat) : Int), (1 : Int), Builtin.Slice.slicePlaces ((sIx n 0 lo : Nat) : Int) ((sIx n n hi : Nat) : Int) 1)) _ _ s
  rw [places_gen]
  exact wpAny_pure h
theorem pick_gen (xs : Array Value) (i k : Nat) : ((List.range k).filterMap fun (m : Nat) => xs[((i : Int) + (m : Int) * 1).toNat]?).toArray = ((xs.toList.drop i).take k).toArray := by
  have e : (fun (m : Nat) => xs[((i : Int) + (m : Int) * 1).toNat]?) = fun m => xs[i + m]? := by
    funext m
    have : ((i : Int) + (m : Int) * 1).toNat = i + m := by omega
    rw [this]
  rw [e]
  have := pick_run xs i k
  rw [List.filterMap_map] at this
  have e2 : ((fun x => xs[x]?) ∘ fun x => i + x) = fun m => xs[i + m]? := rfl
  rw [e2] at this
  rw [this]
theorem getItem_tuple_cut {t sl : Addr} {items : Array Value} {vl vu : Value} {lo hi : Option Int} {Q : Value → Shared → Prop} (ht : IsTup s.heap t items) (hs : s.heap.IsSliceOf sl vl vu .none) (pl : IsPart vl lo) (pu : IsPart vu hi)
    (hw : ¬ (sIx items.size 0 lo = 0 ∧ sIx items.size items.size hi = items.size))
    (h : Q (.ref s.heap.objs.size) { s with heap := s.heap.push { cls := .type "tuple", data := .seq ((items.toList.drop (sIx items.size 0 lo)).take (sIx items.size items.size hi - sIx items.size 0 lo)).toArray } })
    (hsz : items.size ≤ sizeLine) : wpAny (model prog w) A (getItem (.ref t) (.ref sl)) Q E s := by
  have htake : sizeOk (.seq ((items.toList.drop (sIx items.size 0 lo)).take (sIx items.size items.size hi - sIx items.size 0 lo)).toArray) := by
    show ((items.toList.drop (sIx items.size 0 lo)).take (sIx items.size items.size hi - sIx items.size 0 lo)).toArray.size ≤ sizeLine
    rw [List.size_toArray, List.length_take, List.length_drop, Array.length_toList]
    omega
  have hj : sIx items.size items.size hi ≤ items.size := sIx_le _ _ (Nat.le_refl _) hi
  obtain ⟨os, hos, hcs, hds⟩ := id hs
  have hTs : s.TypeIs (.ref sl) "slice" := ⟨os, hos, hcs⟩
  unfold getItem
  try with_reducible refine wpAny_holding ?_
  first | refine wpAny_bind (wpAny_pure ?_) | skip
  refine wpAny_bind (wpAny_sequenceKey ht.typeIs (by decide) ?_)
  refine wpAny_bind (wpAny_callSpecial?_slot (name := Str.ofString "__getitem__") ht.typeIs PyProof.Rows.slot_tuple_getitem
    (wpAny_call_entry PyProof.Rows.slot_tuple_getitem ht.typeIs entry_tuple_getitem ?_ (args_tuple_getitem _ _)))
  show wpAny _ _ (Builtin.Tuple.tupleItemsOf (.ref t) >>= _) _ _ s
  refine wpAny_bind (tupleItemsOf_ ht ?_)
  refine wpAny_bind (wpAny_typeOf hTs ?_)
  rw [if_pos (by decide)]
  refine wpAny_bind (sliceApplied_gen hs pl pu ?_)
  have hno : ¬ ((((sIx items.size 0 lo : Nat) : Int) == 0 && (1 : Int) == 1 && (sIx items.size items.size hi - sIx items.size 0 lo) == items.size) = true) := by
    intro q
    rw [Bool.and_eq_true, Bool.and_eq_true] at q
    have q1 : ((sIx items.size 0 lo : Nat) : Int) = 0 := eq_of_beq q.1.1
    have q2 : sIx items.size items.size hi - sIx items.size 0 lo = items.size := eq_of_beq q.2
    exact hw ⟨by omega, by omega⟩
  show wpAny _ _ (if (((sIx items.size 0 lo : Nat) : Int) == 0 && (1 : Int) == 1 && (sIx items.size items.size hi - sIx items.size 0 lo) == items.size) = true then _ else _) _ _ s
  rw [if_neg hno, pick_gen]
  first
    | exact wpAny_bind (m := Builtin.Tuple.tupleExact _) (wpAny_newObj_type (wpAny_pure ⟨_, rfl, wpAny_pure h⟩) htake)
    | exact wpAny_bind (m := Builtin.Tuple.tupleExact _) (wpAny_newObj_type (wpAny_bind (wpAny_pure (wpAny_pure ⟨_, rfl, wpAny_pure h⟩))) htake)
    | exact wpAny_bind (wpAny_bind (m := Builtin.Tuple.tupleExact _) (wpAny_newObj_type (wpAny_pure (wpAny_pure ⟨_, rfl, wpAny_pure h⟩)) htake))
    | exact wpAny_bind (wpAny_bind (m := Builtin.Tuple.tupleExact _) (wpAny_newObj_type (wpAny_pure ⟨_, rfl, wpAny_pure h⟩) htake))
end
end HT
namespace L2
open PySem PySem.Spec PyProof.Rows
abbrev TO := St → Hp → (Option Int → Hp → Prop) → Prop
def PO (X : Cx) (e : Option Expr) (t : TO) : Prop :=
  ∀ (pins : List (Addr × Obj)) (s : Shared) (σ : St) (H : Hp) (Q : Option Int → Hp → Prop), Inv X pins σ H s → t σ H Q →
    wpAny (model X.prog X.w) X.A (evalPart e X.env) (fun u s' => ∃ o H', Inv X pins σ H' s' ∧ IsPart u o ∧ Q o H') X.xe s
def tNoPart : TO := fun _ H Q => Q none H
def tPart (t : TE) : TO := fun σ H Q => t σ H fun x H1 => ∃ i, x = .int i ∧ Q (some i) H1
section
variable {X : Cx} {e : Expr} {te : TE} {lo hi : Option Expr} {tl th : TO} {pos p2 : Pos}
theorem po_none : PO X none tNoPart := by
  intro pins s σ H Q I h
  rw [evalPart_none]
  exact wpAny_pure ⟨none, H, I, .none, h⟩
theorem po_some (h : PE X e te) : PO X (some e) (tPart te) := by
  intro pins s σ H Q I hw
  rw [evalPart_some]
  refine thn (h pins s σ H _ I hw) fun u s1 ⟨x, H1, I1, r1, q1⟩ => ?_
  obtain ⟨i, rfl, q⟩ := q1
  obtain ⟨t, rfl⟩ := r1
  exact ⟨some i, H1, I1, .int i t, q⟩
def SlR (X : Cx) (r : V → Option Int → Option Int → Hp → VK → Prop) : Prop :=
  ∀ (pins : List (Addr × Obj)) (s : Shared) (σ : St) (H : Hp) (x : V) (v vl vu : Value) (lo hi : Option Int) (sl : Addr) (Q : VK), Inv X pins σ H s → RelV x v → s.heap.IsSliceOf sl vl vu .none → IsPart vl lo → IsPart vu hi → r x lo hi H Q →
    ∃ T id, typeLookup (.type T) "__getitem__" = pure (some (.builtin id)) ∧ s.TypeIs v T ∧ wpAny (model X.prog X.w) X.A (getItem v (.ref sl)) (EP X pins σ Q) X.xe s
def tSl (r : V → Option Int → Option Int → Hp → VK → Prop) (te : TE) (tl th : TO) : TE := fun σ H Q => te σ H fun x H1 => tl σ H1 fun l H2 => th σ H2 fun u H3 => r x l u H3 Q
theorem pe_slice {r : V → Option Int → Option Int → Hp → VK → Prop} (hr : SlR X r) (he : PE X e te) (hl : PO X lo tl) (hu : PO X hi th) : PE X (.Subscript e (.Slice lo hi none p2) pos) (tSl r te tl th) := by
  intro pins s σ H Q I h
  refine Subscript_ (thn (he pins s σ H _ I h) fun v s1 ⟨x, H1, I1, r1, q1⟩ => ?_)
  refine wpAny_Slice (thn (hl pins s1 σ H1 _ I1 q1) fun vl s2 ⟨l, H2, I2, pl, q2⟩ => thn (hu pins s2 σ H2 _ I2 q2) fun vu s3 ⟨u, H3, I3, pu, q3⟩ => ?_)
  rw [evalPart_none]
  refine wpAny_pure ?_
  have I4 : Inv X pins σ H3 { s3 with heap := s3.heap.push { cls := .type "slice", data := .fields #[vl, vu, .none] } } := I3.kept (t' := s3.toks) fun b ob q => Heap.get?_push_of_some _ q
  obtain ⟨T, id, hT, ht, hg⟩ := hr pins { s3 with heap := s3.heap.push { cls := .type "slice", data := .fields #[vl, vu, .none] } } σ H3 x v vl vu l u s3.heap.objs.size Q I4 r1 (Heap.IsSliceOf.new ..) pl pu q3
  show wpAny (model X.prog X.w) X.A (subscriptTail e (.Slice lo hi none p2) v (.ref s3.heap.objs.size)) (EP X pins σ Q) X.xe { s3 with heap := s3.heap.push { cls := .type "slice", data := .fields #[vl, vu, .none] } }
  exact tail_any (ops := [.ref s3.heap.objs.size, v]) ht hT hg (by with_unfolding_all rfl)
def cutV (xs : List V) (lo hi : Option Int) : List V := (xs.drop (HT.sIx xs.length 0 lo)).take (HT.sIx xs.length xs.length hi - HT.sIx xs.length 0 lo)
theorem cutV_length (xs : List V) (lo hi : Option Int) : (cutV xs lo hi).length ≤ xs.length := by
  unfold cutV
  rw [List.length_take, List.length_drop]
  omega
def rSlT (K : PySem.W.Frag) : V → Option Int → Option Int → Hp → VK → Prop := fun x lo hi H Q => ∃ a xs, x = .ref a ∧ SqT K H a xs ∧
  ¬ (HT.sIx xs.length 0 lo = 0 ∧ HT.sIx xs.length xs.length hi = xs.length) ∧ ∀ p, H p = none → Q (.ref p) (upd H p (.tup (cutV xs lo hi)))
theorem sl_tup : SlR X (rSlT X.K) := by
  intro pins s σ H x v vl vu lo hi sl Q I rx hs pl pu h
  obtain ⟨a, xs, rfl, hx, hw, q⟩ := h
  cases rx
  obtain ⟨its, r, ht, hz⟩ := I.tuple hx
  have hlen : its.toArray.size = xs.length := by rw [List.size_toArray]; exact r.length.symm
  refine ⟨"tuple", _, PyProof.Rows.slot_tuple_getitem.lookup, ht.typeIs, ?_⟩
  refine HT.getItem_tuple_cut ht hs pl pu (by rw [hlen]; exact hw) ?_ (by rw [hlen]; exact hz)
  rw [hlen]
  refine ⟨.ref s.heap.objs.size, _, I.laid (t' := s.toks) (o := .tup (cutV xs lo hi)) (fun b ob q => Heap.get?_push_of_some _ q) (Nat.le_refl _) ?_, rfl, q _ (I.hok.fresh (Nat.le_refl _))⟩
  exact ⟨Nat.le_trans (cutV_length xs lo hi) hz, _, (r.drop (HT.sIx xs.length 0 lo)).take (HT.sIx xs.length xs.length hi - HT.sIx xs.length 0 lo), IsTup.new _ _⟩
def rCatT (K : PySem.W.Frag) : R2 := fun x y H Q => ∃ a b xs ys, x = .ref a ∧ y = .ref b ∧ SqT K H a xs ∧ SqT K H b ys ∧ xs ≠ [] ∧ xs.length + ys.length ≤ sizeLine ∧
  (ys = [] → Q (.ref a) H) ∧ (ys ≠ [] → ∀ p, H p = none → Q (.ref p) (upd H p (.tup (xs ++ ys))))
theorem Vals.nil_iff {xs : List V} {us : List Value} (r : Vals xs us) : us = [] ↔ xs = [] := by
  cases r with
  | nil => simp
  | cons _ _ => simp
theorem op_catT : OpR X (binaryOp .Add) (rCatT X.K) := by
  intro pins s σ H x y v u Q I rx ry h
  obtain ⟨a, b, xs, ys, rfl, rfl, ha, hb, hx, hz, q1, q2⟩ := h
  cases rx
  cases ry
  obtain ⟨its, r1, p1, _⟩ := I.tuple ha
  obtain ⟨its2, r2, p2, _⟩ := I.tuple hb
  refine HT.cat_tup p1 p2 (fun z => hx (r1.nil_iff.mp z)) (fun z => ⟨.ref a, H, I, rfl, q1 (r2.nil_iff.mp z)⟩) (fun z => ?_) (by rw [← r1.length, ← r2.length]; exact hz)
  refine ⟨.ref s.heap.objs.size, _, I.laid (t' := s.toks) (o := .tup (xs ++ ys)) (fun b ob q => Heap.get?_push_of_some _ q) (Nat.le_refl _) ?_, rfl, q2 (fun w => z (r2.nil_iff.mpr w)) _ (I.hok.fresh (Nat.le_refl _))⟩
  exact ⟨by rw [List.length_append]; exact hz, _, r1.append r2, IsTup.new _ _⟩
end
end L2
namespace L2
open PySem PySem.Spec PyProof.Rows
def ixN (n : Nat) (i : Int) : Option Nat := if 0 ≤ i then (if i < n then some i.toNat else none) else if -(n : Int) ≤ i then some (i + n).toNat else none
def atI {α : Type} (xs : List α) (i : Int) : Option α := (ixN xs.length i).bind fun j => xs[j]?
theorem ixN_seq {n : Nat} {i : Int} {j : Nat} (h : ixN n i = some j) : seqIndex? i n = some j ∧ j < n ∧ -(n : Int) ≤ i ∧ i < n := by
  unfold ixN at h
  by_cases h0 : 0 ≤ i
  · rw [if_pos h0] at h
    by_cases h1 : i < n
    · rw [if_pos h1] at h
      have e : i.toNat = j := Option.some.inj h
      exact ⟨by rw [seqIndex_of h0 h1, e], by omega, by omega, h1⟩
    · rw [if_neg h1] at h; cases h
  · rw [if_neg h0] at h
    by_cases h1 : -(n : Int) ≤ i
    · rw [if_pos h1] at h
      have e : (i + n).toNat = j := Option.some.inj h
      exact ⟨by rw [seqIndex_neg (by omega) h1, e], by omega, h1, by omega⟩
    · rw [if_neg h1] at h; cases h
theorem atI_get {α : Type} {xs : List α} {i : Int} {v : α} (h : atI xs i = some v) : ∃ j, seqIndex? i xs.length = some j ∧ xs[j]? = some v ∧ j < xs.length ∧ -(xs.length : Int) ≤ i ∧ i < xs.length := by
  unfold atI at h
  cases e : ixN xs.length i with
  | none => rw [e] at h; cases h
  | some j =>
    rw [e] at h
    obtain ⟨h1, h2, h3, h4⟩ := ixN_seq e
    exact ⟨j, h1, h, h2, h3, h4⟩
theorem atI_nat {α : Type} {xs : List α} {j : Nat} {v : α} (h : xs[j]? = some v) : atI xs (j : Int) = some v := by
  have hj : j < xs.length := (List.getElem?_eq_some_iff.mp h).1
  have e : ixN xs.length (j : Int) = some j := by
    unfold ixN
    rw [if_pos (by omega), if_pos (by omega)]; simp
  unfold atI; rw [e]; exact h
def PlainIx (b : Expr) : Prop := ∀ o i, subscripted b false o i = operate [o, i] (getItem o i)
def IxR (X : Cx) (r : R2) : Prop :=
  ∀ (value slice : Expr) (pins : List (Addr × Obj)) (s : Shared) (σ : St) (H : Hp) (x y : V) (v u : Value) (Q : VK), Inv X pins σ H s → RelV x v → RelV y u → r x y H Q →
    subscripted slice false v u = operate [v, u] (getItem v u) → wpAny (model X.prog X.w) X.A (subscriptTail value slice v u) (EP X pins σ Q) X.xe s
def MtR (X : Cx) (id : String) (r : V → List V → Hp → VK → Prop) : Prop :=
  ∀ (pins : List (Addr × Obj)) (s : Shared) (σ : St) (H : Hp) (x : V) (xs : List V) (v : Value) (us : List Value) (Q : VK), Inv X pins σ H s → RelV x v → Vals xs us → r x xs H Q →
    wpAny (model X.prog X.w) X.A (call (.builtin id) (v :: us)) (EP X pins σ Q) X.xe s
section
variable {X : Cx} {a b : Expr} {ta tb : TE} {pos : Pos}
theorem pe_ix {r : R2} (hr : IxR X r) (ha : PE X a ta) (hb : PE X b tb) (hs : PlainIx b) : PE X (.Subscript a b pos) (tOp r ta tb) := by
  intro pins s σ H Q I h
  exact Subscript_ (binT ha hb I h fun v u s2 x y H2 I2 rx ry q => hr a b pins s2 σ H2 x y v u Q I2 rx ry q (hs _ _))
def rIxL (K : PySem.W.Frag) : R2 := fun x y H Q => ∃ p xs i v, x = .ref p ∧ y = .int i ∧ SqL K H p xs ∧ atI xs i = some v ∧ Q v H
def rIxT (K : PySem.W.Frag) : R2 := fun x y H Q => ∃ p xs i v, x = .ref p ∧ y = .int i ∧ SqT K H p xs ∧ atI xs i = some v ∧ Q v H
def rIxS : R2 := fun x y H Q => ∃ z i c, x = .str z ∧ y = .int i ∧ z.length ≤ sizeLine ∧ atI z.cps.toList i = some c ∧ Q (.str ⟨#[c]⟩) H
theorem ix_list : IxR X (rIxL X.K) := by
  intro value slice pins s σ H x y v u Q I rx ry h hs
  obtain ⟨p, xs, i, z, rfl, rfl, hq, he, q⟩ := h
  cases rx
  obtain ⟨t, rfl⟩ := ry
  obtain ⟨its, r, pl, hz⟩ := I.list hq
  obtain ⟨j, h1, h2, h3, h4, h5⟩ := atI_get he
  obtain ⟨w, ew, rw'⟩ := r.get h2
  have hl := r.length
  have hn := line63
  have fin : EP X pins σ Q w s := ⟨z, H, I, rw', q⟩
  by_cases h0 : 0 ≤ i
  · have hj : i.toNat = j := by
      rw [seqIndex_of h0 h5] at h1
      exact Option.some.inj h1
    exact item_listR pl.isList h0 (by omega) (by rw [hj]; simpa using ew) fin hs
  · have hj : (i + (its.toArray.size : Int)).toNat = j := by
      rw [seqIndex_neg (by omega) h4] at h1
      rw [List.size_toArray, ← hl]
      exact Option.some.inj h1
    exact subscriptTail_builtinR (x := w) pl.isList.typeIs slot_list_getitem.lookup
      (wpAny_getItem_list_neg (Q := fun r s' => r = w ∧ EP X pins σ Q r s') pl.isList (by omega) (by rw [List.size_toArray] <;> omega) (by omega) (by rw [hj]; simpa using ew) ⟨rfl, fin⟩) hs
theorem ix_tup : IxR X (rIxT X.K) := by
  intro value slice pins s σ H x y v u Q I rx ry h hs
  obtain ⟨p, xs, i, z, rfl, rfl, hq, he, q⟩ := h
  cases rx
  obtain ⟨t, rfl⟩ := ry
  obtain ⟨its, r, pl, hz⟩ := I.tuple hq
  obtain ⟨j, h1, h2, h3, h4, h5⟩ := atI_get he
  obtain ⟨w, ew, rw'⟩ := r.get h2
  have hl := r.length
  have hn := line63
  have fin : EP X pins σ Q w s := ⟨z, H, I, rw', q⟩
  exact subscriptTail_builtinR (x := w) pl.typeIs slot_tuple_getitem.lookup
    (getItem_tuple (j := j) (Q := fun r s' => r = w ∧ EP X pins σ Q r s') pl (by omega) (by omega) (by rw [List.size_toArray, ← hl]; exact h1) (by simpa using ew) ⟨rfl, fin⟩) hs
theorem ix_str : IxR X rIxS := by
  intro value slice pins s σ H x y v u Q I rx ry h hs
  obtain ⟨z, i, c, rfl, rfl, hz, he, q⟩ := h
  obtain ⟨t, rfl⟩ := rx
  obtain ⟨t', rfl⟩ := ry
  obtain ⟨j, h1, h2, h3, h4, h5⟩ := atI_get he
  have hl : z.cps.toList.length = z.length := by simp [Str.length]
  rw [hl] at h1 h4 h5
  have hn := line63
  exact tail_any (typeIs_str s z t) slot_str_getitem.lookup (getItem_str (c := c) (by
    have e1 : decide (i < -(2 ^ 63 : Int)) = false := decide_eq_false (by omega)
    have e2 : decide (i ≥ 2 ^ 63) = false := decide_eq_false (by omega)
    rw [e1, e2, Bool.or_false]) (by rw [h1]; simpa using h2) ⟨.str ⟨#[c]⟩, H, I.tok _, ⟨_, rfl⟩, q⟩) hs
theorem mapSeq_set (its : List Value) (n j : Nat) (u : Value) : Obj.mapSeq (·.setIfInBounds j u) { cls := .type "list", data := .seq its.toArray n } = { cls := .type "list", data := .seq (its.set j u).toArray n } := by
  simp [Obj.mapSeq]
theorem Inv.lst {pins : List (Addr × Obj)} {σ : St} {H : Hp} {s : Shared} {p : Addr} {xs : List V} (I : Inv X pins σ H s) (h : H p = some (.lst xs)) :
    ∃ (its : List Value) (n : Nat), Vals xs its ∧ s.heap.get? p = some { cls := .type "list", data := .seq its.toArray n } ∧ xs.length ≤ sizeLine := by
  obtain ⟨z, its, n, r, e⟩ := I.hok p _ h
  exact ⟨its, n, r, e, z⟩
theorem Inv.lstUpd {pins : List (Addr × Obj)} {σ : St} {H : Hp} {s : Shared} {p : Addr} {xs ys : List V} {its its' : List Value} {n n' : Nat} {f : Obj → Obj} (I : Inv X pins σ H s) (h : H p = some (.lst xs))
    (ho : s.heap.get? p = some { cls := .type "list", data := .seq its.toArray n }) (hf : f { cls := .type "list", data := .seq its.toArray n } = { cls := .type "list", data := .seq its'.toArray n' }) (r : Vals ys its') (hz : ys.length ≤ sizeLine) (t : Nat) :
    Inv X pins σ (upd H p (.lst ys)) { s with heap := s.heap.update p f, toks := t } := by
  have e : (s.heap.update p f).get? p = some { cls := .type "list", data := .seq its'.toArray n' } := by
    rw [Heap.get?_update_self f ho (by rw [hf] <;> rfl), hf]
  refine I.write (x := p) (e := p) (by rw [h]; trivial) (.inl rfl) (fun b u hb q => (Heap.get?_update_other _ _ (Ne.symm hb)).trans q) ⟨_, e⟩ ?_
  exact ⟨hz, its', n', r, e⟩
def rSetL : V → V → V → Hp → (Hp → Prop) → Prop := fun o i v H Q => ∃ p xs k j, o = .ref p ∧ i = .int k ∧ H p = some (.lst xs) ∧ ixN xs.length k = some j ∧ Q (upd H p (.lst (xs.set j v)))
theorem set_list : PSet X rSetL := by
  intro pins s σ H o i v ov iv u Q I ro ri rv h
  obtain ⟨p, xs, k, j, rfl, rfl, hp, hj, q⟩ := h
  cases ro
  obtain ⟨t, rfl⟩ := ri
  obtain ⟨its, n, r, ho, hz⟩ := I.lst hp
  obtain ⟨h1, h2, h3, h4⟩ := ixN_seq hj
  have hl := r.length
  have hn := line63
  have I' : Inv X pins σ (upd H p (.lst (xs.set j v))) { s with heap := s.heap.update p (Obj.mapSeq (·.setIfInBounds j u)) } :=
    I.lstUpd hp ho (mapSeq_set its n j u) (r.set rv j) (by rw [List.length_set]; exact hz) s.toks
  by_cases h0 : 0 ≤ k
  · have hk : k.toNat = j := by
      rw [seqIndex_of h0 h4] at h1
      exact Option.some.inj h1
    exact PySem.W.ki_setAt ho h0 (by omega) (by rw [List.size_toArray, ← hl]; exact h4) (by rw [hk]; exact ⟨_, I', q⟩)
  · have hk : (k + (its.toArray.size : Int)).toNat = j := by
      rw [seqIndex_neg (by omega) h3] at h1
      rw [List.size_toArray, ← hl]
      exact Option.some.inj h1
    exact PySem.W.ki_setBack ho (by omega) (by rw [List.size_toArray, ← hl]; exact h3) (by omega) (by rw [hk]; exact ⟨_, I', q⟩)
theorem slice_bounds (lo hi : Option Int) (n : Nat) : (sliceBounds lo hi none n).1 = ((HT.sIx n 0 lo : Nat) : Int) ∧ (sliceBounds lo hi none n).2.1 = ((HT.sIx n n hi : Nat) : Int) ∧ (sliceBounds lo hi none n).2.2 = 1 := by
  refine ⟨?_, ?_, rfl⟩
  · cases lo with
    | none => simp [sliceBounds, HT.sIx]
    | some i =>
      simp only [sliceBounds, HT.sIx, Option.getD_none, show (1 : Int) > 0 by decide, if_true]
      by_cases h : i < 0
      · simp only [h, if_true] <;> omega
      · simp only [h, if_false] <;> omega
  · cases hi with
    | none => simp [sliceBounds, HT.sIx]
    | some i =>
      simp only [sliceBounds, HT.sIx, Option.getD_none, show (1 : Int) > 0 by decide, if_true]
      by_cases h : i < 0
      · simp only [h, if_true] <;> omega
      · simp only [h, if_false] <;> omega
theorem slicePick_cut (its : List Value) (lo hi : Option Int) : slicePick its.toArray lo hi none = ((its.drop (HT.sIx its.length 0 lo)).take (HT.sIx its.length its.length hi - HT.sIx its.length 0 lo)).toArray := by
  obtain ⟨h1, h2, h3⟩ := slice_bounds lo hi its.toArray.size
  unfold slicePick
  rw [h1, h2, h3]
  simp only [sliceRange_one, pick_run, List.size_toArray] <;> rfl
def rSlL (K : PySem.W.Frag) : V → Option Int → Option Int → Hp → VK → Prop := fun x lo hi H Q => ∃ a xs, x = .ref a ∧ SqL K H a xs ∧ ∀ p, H p = none → Q (.ref p) (upd H p (.lst (cutV xs lo hi)))
theorem sl_list : SlR X (rSlL X.K) := by
  intro pins s σ H x v vl vu lo hi sl Q I rx hs pl pu h
  obtain ⟨a, xs, rfl, hx, q⟩ := h
  cases rx
  obtain ⟨its, r, ht, hz⟩ := I.list hx
  have hlen := r.length
  refine ⟨"list", _, slot_list_getitem.lookup, ht.isList.typeIs, ?_⟩
  refine wpAny_getItem_list_slice ht.isList hs pl pu .none (by simp) ?_ (by rw [List.size_toArray] <;> omega)
  rw [slicePick_cut, ← hlen]
  refine ⟨.ref s.heap.objs.size, _, I.laid (t' := s.toks) (o := .lst (cutV xs lo hi)) (fun b ob q => Heap.get?_push_of_some _ q) (Nat.le_refl _) ?_, rfl, q _ (I.hok.fresh (Nat.le_refl _))⟩
  exact ⟨Nat.le_trans (cutV_length xs lo hi) hz, _, 0, (r.drop (HT.sIx xs.length 0 lo)).take (HT.sIx xs.length xs.length hi - HT.sIx xs.length 0 lo), Heap.get?_push_size _ rfl⟩
def flatV : V → Bool
  | .non => true
  | .bl _ => true
  | .int _ => true
  | .str _ => true
  | _ => false
def eqV : V → V → Bool
  | .non, .non => true
  | .bl a, .bl b => a == b
  | .bl a, .int b => (if a then 1 else 0) == b
  | .int a, .bl b => a == (if b then 1 else 0)
  | .int a, .int b => a == b
  | .str a, .str b => a == b
  | _, _ => false
theorem eqAt_V {A : Around} {s : Shared} {y x : V} {u v : Value} (ry : RelV y u) (rx : RelV x v) (fy : flatV y = true) (fx : flatV x = true) : SeqAt.EqAt A s u v (eqV y x) := by
  cases y with
  | non =>
    cases ry
    cases x with
    | non => cases rx; exact SeqAt.EqAt.same _
    | bl b => cases rx; exact SeqAt.EqAt.none_bool b
    | int b => obtain ⟨t, rfl⟩ := rx; exact SeqAt.EqAt.none_int b t
    | str b => obtain ⟨t, rfl⟩ := rx; exact SeqAt.EqAt.none_str b t
    | _ => exact absurd (show false = true from fx) Bool.false_ne_true
  | bl a =>
    cases ry
    cases x with
    | non => cases rx; exact SeqAt.EqAt.bool_none a
    | bl b => cases rx; exact SeqAt.EqAt.bool_bool a b
    | int b => obtain ⟨t, rfl⟩ := rx; exact SeqAt.EqAt.bool_int a b t
    | str b => obtain ⟨t, rfl⟩ := rx; exact SeqAt.EqAt.bool_str a b t
    | _ => exact absurd (show false = true from fx) Bool.false_ne_true
  | int a =>
    obtain ⟨t', rfl⟩ := ry
    cases x with
    | non => cases rx; exact SeqAt.EqAt.int_none a t'
    | bl b => cases rx; exact SeqAt.EqAt.int_bool a t' b
    | int b => obtain ⟨t, rfl⟩ := rx; exact SeqAt.EqAt.int_int a t' b t
    | str b => obtain ⟨t, rfl⟩ := rx; exact SeqAt.EqAt.int_str a t' b t
    | _ => exact absurd (show false = true from fx) Bool.false_ne_true
  | str a =>
    obtain ⟨t', rfl⟩ := ry
    cases x with
    | non => cases rx; exact SeqAt.EqAt.str_none a t'
    | bl b => cases rx; exact SeqAt.EqAt.str_bool a t' b
    | int b => obtain ⟨t, rfl⟩ := rx; exact SeqAt.EqAt.str_int a t' b t
    | str b => obtain ⟨t, rfl⟩ := rx; exact SeqAt.EqAt.str_str a t' b t
    | _ => exact absurd (show false = true from fx) Bool.false_ne_true
  | _ => exact absurd (show false = true from fy) Bool.false_ne_true
def eqU (x : V) (u : Value) : Bool := match u with
  | .none => eqV .non x
  | .bool b => eqV (.bl b) x
  | .int i _ => eqV (.int i) x
  | .str z _ => eqV (.str z) x
  | _ => false
theorem eqU_of {x y : V} {u : Value} (r : RelV y u) (f : flatV y = true) : eqU x u = eqV y x := by
  cases y with
  | non => cases r; rfl
  | bl b => cases r; rfl
  | int i => obtain ⟨t, rfl⟩ := r; rfl
  | str z => obtain ⟨t, rfl⟩ := r; rfl
  | _ => exact absurd (show false = true from f) Bool.false_ne_true
theorem any_eqU {x : V} : ∀ {xs : List V} {us : List Value}, Vals xs us → xs.all flatV = true → us.any (eqU x) = xs.any fun y => eqV y x
  | _, _, .nil, _ => rfl
  | y :: xs, u :: us, .cons r t, f => by
    rw [List.all_cons, Bool.and_eq_true] at f
    rw [List.any_cons, List.any_cons, eqU_of r f.1, any_eqU t f.2]
theorem mem_eqAt {A : Around} {s : Shared} {x : V} {v : Value} (rx : RelV x v) (fx : flatV x = true) : ∀ {xs : List V} {us : List Value}, Vals xs us → xs.all flatV = true → ∀ u ∈ us, SeqAt.EqAt A s u v (eqU x u)
  | _, _, .nil, _ => fun u hu => by cases hu
  | y :: xs, u :: us, .cons r t, f => fun u' hu => by
    rw [List.all_cons, Bool.and_eq_true] at f
    rcases List.mem_cons.mp hu with rfl | hu
    · rw [eqU_of r f.1]; exact eqAt_V r rx f.1 fx
    · exact mem_eqAt rx fx t f.2 u' hu
def inV (x : V) (xs : List V) : Bool := xs.any fun y => eqV y x
def rIn (K : PySem.W.Frag) (neg : Bool) : R2 := fun x y H Q => ∃ p xs, y = .ref p ∧ (SqL K H p xs ∨ SqT K H p xs) ∧ flatV x = true ∧ xs.all flatV = true ∧ Q (.bl (if neg then !inV x xs else inV x xs)) H
theorem op_in_seq : OpR X (compareOp .In) (rIn X.K false) := by
  intro pins s σ H x y v u Q I rx ry h
  obtain ⟨p, xs, rfl, hq, fx, fs, q⟩ := h
  cases ry
  rcases hq with hq | hq
  · obtain ⟨its, r, pl, hz⟩ := I.list hq
    refine SeqAt.in_listAt (eqU x) pl.isList (fun w hw => mem_eqAt rx fx r fs w (by simpa using hw)) ⟨.bl _, H, I, rfl, ?_⟩
    rw [show its.toArray.any (eqU x) = its.any (eqU x) by simp, any_eqU r fs]
    exact q
  · obtain ⟨its, r, pl, hz⟩ := I.tuple hq
    refine SeqAt.in_tupleAt (eqU x) pl (fun w hw => mem_eqAt rx fx r fs w (by simpa using hw)) ⟨.bl _, H, I, rfl, ?_⟩
    rw [show its.toArray.any (eqU x) = its.any (eqU x) by simp, any_eqU r fs]
    exact q
theorem op_notIn_seq : OpR X (compareOp .NotIn) (rIn X.K true) := by
  intro pins s σ H x y v u Q I rx ry h
  obtain ⟨p, xs, rfl, hq, fx, fs, q⟩ := h
  cases ry
  rcases hq with hq | hq
  · obtain ⟨its, r, pl, hz⟩ := I.list hq
    refine SeqAt.notIn_listAt (eqU x) pl.isList (fun w hw => mem_eqAt rx fx r fs w (by simpa using hw)) ⟨.bl _, H, I, rfl, ?_⟩
    rw [show its.toArray.any (eqU x) = its.any (eqU x) by simp, any_eqU r fs]
    exact q
  · obtain ⟨its, r, pl, hz⟩ := I.tuple hq
    refine SeqAt.notIn_tupleAt (eqU x) pl (fun w hw => mem_eqAt rx fx r fs w (by simpa using hw)) ⟨.bl _, H, I, rfl, ?_⟩
    rw [show its.toArray.any (eqU x) = its.any (eqU x) by simp, any_eqU r fs]
    exact q
theorem call_len_seq : CallR X (.builtin "len") (fun xs H Q => ∃ p ys, xs = [.ref p] ∧ (SqL X.K H p ys ∨ SqT X.K H p ys) ∧ Q (.int ys.length) H) := by
  intro pins s σ H xs us Q I r h
  obtain ⟨p, ys, rfl, hq, q⟩ := h
  obtain ⟨u, rfl, rx⟩ := vals1 r
  cases rx
  have hn := line63
  rcases hq with hq | hq
  · obtain ⟨its, r', pl, hz⟩ := I.list hq
    have hlen := r'.length
    exact Calls.call_len_list pl.isList (by simp only [List.size_toArray] <;> omega) ⟨.int ys.length, H, I.tok _, ⟨s.toks + 1, by rw [List.size_toArray, hlen]⟩, q⟩
  · obtain ⟨its, r', pl, hz⟩ := I.tuple hq
    have hlen := r'.length
    exact len_tuple pl (by simp only [List.size_toArray] <;> omega) ⟨.int ys.length, H, I.tok _, ⟨s.toks + 1, by rw [List.size_toArray, hlen]⟩, q⟩
theorem call_len_str : CallR X (.builtin "len") (fun xs H Q => ∃ z, xs = [.str z] ∧ z.length ≤ sizeLine ∧ Q (.int z.length) H) := by
  intro pins s σ H xs us Q I r h
  obtain ⟨z, rfl, hz, q⟩ := h
  obtain ⟨u, rfl, t, rfl⟩ := vals1 r
  have hn := line63
  exact len_str (by omega) ⟨.int z.length, H, I.tok _, ⟨_, rfl⟩, q⟩
theorem call_list_of : CallR X (.type "list") (fun xs H Q => ∃ p ys, xs = [.ref p] ∧ (SqL X.K H p ys ∨ SqT X.K H p ys) ∧ ∀ l, H l = none → Q (.ref l) (upd H l (.lst ys))) := by
  intro pins s σ H xs us Q I r h
  obtain ⟨p, ys, rfl, hq, q⟩ := h
  obtain ⟨u, rfl, rx⟩ := vals1 r
  cases rx
  have fin : ∀ (its : List Value), Vals ys its → ys.length ≤ sizeLine → ∀ (h' : Heap) (c' : Nat), (∀ b o', s.heap.get? b = some o' → h'.get? b = some o') →
      h'.get? s.heap.objs.size = some { cls := .type "list", dict := none, data := .seq its.toArray c', slots := #[] } → EP X pins σ Q (.ref s.heap.objs.size) { s with heap := h' } := fun its r' hz h' c' kp e =>
    ⟨.ref s.heap.objs.size, _, I.laid (t' := s.toks) kp (Nat.le_refl _) (show ObjOk X.prog X.w _ h' _ (.lst ys) from ⟨hz, its, c', r', e⟩), rfl, q _ (I.hok.fresh (Nat.le_refl _))⟩
  rcases hq with hq | hq
  · obtain ⟨its, r', pl, hz⟩ := I.list hq
    have hlen := r'.length
    obtain ⟨o, ho, hc, n, hd⟩ := pl.isList
    exact call_list_seq p (.inl rfl) ho hc hd (fun h' c' kp e => fin its r' hz h' c' kp e) (by simp only [List.size_toArray] <;> omega)
  · obtain ⟨its, r', pl, hz⟩ := I.tuple hq
    have hlen := r'.length
    obtain ⟨o, ho, hc, n, hd⟩ := pl
    exact call_list_seq p (.inr rfl) ho hc hd (fun h' c' kp e => fin its r' hz h' c' kp e) (by simp only [List.size_toArray] <;> omega)
theorem call_tuple_of : CallR X (.type "tuple") (fun xs H Q => ∃ p ys, xs = [.ref p] ∧ ((SqL X.K H p ys ∧ ∀ l, H l = none → Q (.ref l) (upd H l (.tup ys))) ∨ (SqT X.K H p ys ∧ Q (.ref p) H))) := by
  intro pins s σ H xs us Q I r h
  obtain ⟨p, ys, rfl, h⟩ := h
  obtain ⟨u, rfl, rx⟩ := vals1 r
  cases rx
  rcases h with ⟨hq, q⟩ | ⟨hq, q⟩
  · obtain ⟨its, r', pl, hz⟩ := I.list hq
    have hlen := r'.length
    refine call_tuple_list pl.isList (fun h' kp => ?_) (by simp only [List.size_toArray] <;> omega)
    have I1 : Inv X pins σ H { s with heap := h' } := I.kept (t' := s.toks) kp
    have I2 : Inv X pins σ (upd H h'.objs.size (.tup ys)) { s with heap := h'.push { cls := .type "tuple", data := .seq its.toArray } } :=
      I1.laid (t' := s.toks) (fun b o e => Heap.get?_push_of_some _ e) (Nat.le_refl _) (show ObjOk X.prog X.w _ _ _ (.tup ys) from ⟨hz, its, r', IsTup.new _ _⟩)
    exact ⟨.ref h'.objs.size, _, I2, rfl, q _ (I1.hok.fresh (Nat.le_refl _))⟩
  · obtain ⟨its, r', pl, hz⟩ := I.tuple hq
    exact call_tuple_same pl ⟨.ref p, H, I, rfl, q⟩
def tyV (K : PySem.W.Frag) (T : String) (x : V) (H : Hp) : Prop := match x with
  | .str _ => T = "str"
  | .int _ => T = "int"
  | .ref p => (T = "list" ∧ ∃ xs, SqL K H p xs) ∨ (T = "tuple" ∧ ∃ o, K.lookup p = some o ∧ o.cls = .type "tuple" ∧ o.dict = none) ∨
      (T = "dict" ∧ ((∃ kvs, H p = some (.dK kvs)) ∨ ∃ kvs, H p = some (.dT kvs))) ∨ (T = "set" ∧ ∃ S n, H p = some (.set S n))
  | _ => False
theorem tyV_is {pins : List (Addr × Obj)} {σ : St} {H : Hp} {s : Shared} {T : String} {x : V} {v : Value} (I : Inv X pins σ H s) (r : RelV x v) (ty : tyV X.K T x H) :
    s.TypeIs v T ∧ ∀ a, v = .ref a → ∃ ob, s.heap.get? a = some ob ∧ ob.dict = none := by
  cases x with
  | str z =>
    obtain ⟨t, rfl⟩ := r
    cases (show T = "str" from ty)
    exact ⟨typeIs_str s z t, fun _ e => nomatch e⟩
  | int i =>
    obtain ⟨t, rfl⟩ := r
    cases (show T = "int" from ty)
    exact ⟨typeIs_int s i t, fun _ e => nomatch e⟩
  | ref p =>
    cases r
    rcases ty with ⟨rfl, xs, hq⟩ | ⟨rfl, o, hk, hc, hd⟩ | ⟨rfl, hk⟩ | ⟨rfl, S, n, hk⟩
    · obtain ⟨its, _, pl, _⟩ := I.list hq
      refine ⟨pl.isList.typeIs, fun a e => ?_⟩
      cases e
      obtain ⟨o, n, e, c, hd, _⟩ := pl
      exact ⟨o, e, hd⟩
    · refine ⟨⟨o, I.kIn p o hk, hc⟩, fun a e => ?_⟩
      cases e
      exact ⟨o, I.kIn _ o hk, hd⟩
    · have z : ∃ o, s.heap.get? p = some o ∧ o.ExactDict := by
        rcases hk with ⟨kvs, hk⟩ | ⟨kvs, hk⟩
        · obtain ⟨_, _, _, _, o, _, _, e, ex, _⟩ := I.hok p _ hk
          exact ⟨o, e, ex⟩
        · obtain ⟨_, _, _, _, o, _, _, e, ex, _⟩ := I.hok p _ hk
          exact ⟨o, e, ex⟩
      obtain ⟨o, e, ex⟩ := z
      refine ⟨⟨o, e, ex.1⟩, fun a e2 => ?_⟩
      cases e2
      exact ⟨o, e, ex.2.1⟩
    · obtain ⟨o, _, _, _, e, ex, _⟩ := I.hok p _ hk
      refine ⟨⟨o, e, ex.1⟩, fun a e2 => ?_⟩
      cases e2
      exact ⟨o, e, ex.2.1⟩
  | _ => exact False.elim ty
def tBM0 (K : PySem.W.Frag) (T : String) (r : V → List V → Hp → VK → Prop) (to : TE) : TE := fun σ H Q => to σ H fun x H1 => tyV K T x H1 ∧ r x [] H1 Q
def tBM (K : PySem.W.Frag) (T : String) (r : V → List V → Hp → VK → Prop) (to : TE) (t : TA) : TE := fun σ H Q => to σ H fun x H1 => tyV K T x H1 ∧ t σ H1 fun xs H2 => r x xs H2 Q
variable {o e : Expr} {es : List Expr} {to : TE} {t : TA} {name : Str} {apos cpos : Pos} {T id : String} {r : V → List V → Hp → VK → Prop}
theorem pe_bm0 (pa : PlainAttrs T) (slot : Slot T name id) (hty : typeOf (.builtin id) = pure (.type "method_descriptor")) (hm : MtR X id r) (ho : PE X o to)
    (hbase : attributeBase o name X.env (eval o X.env) = eval o X.env := by rfl) (hline : (apos.endLine == cpos.line) = true := by rfl) : PE X (.Call (.Attribute o name apos) [] [] cpos) (tBM0 X.K T r to) := by
  intro pins s σ H Q I h
  refine wpAny_Call_method0_late hbase hline (thn (ho pins s σ H _ I h) fun v s1 ⟨x, H1, I1, r1, ty, q1⟩ => ?_)
  obtain ⟨h1, h2⟩ := tyV_is I1 r1 ty
  exact ⟨T, id, pa, slot, hty, h1, h2, Calls.callWith_builtin rfl (PySem.evalArgs_none (hm pins s1 σ H1 x [] v [] Q I1 r1 .nil q1))⟩
theorem pe_bm (pa : PlainAttrs T) (slot : Slot T name id) (hty : typeOf (.builtin id) = pure (.type "method_descriptor")) (hm : MtR X id r) (ho : PE X o to) (ha : PA X (e :: es) t)
    (hbase : attributeBase o name X.env (eval o X.env) = eval o X.env := by rfl)
    (hfew : ((backTo cpos (starEach (e :: es) X.env)).all (fun x => !x.1) && (backToKw cpos (keywordEach [] X.env)).all (fun x => x.1.isSome)
      && decide ((e :: es).length + ([] : List Keyword).length + (if ([] : List Keyword).isEmpty then 0 else 1) < 30)) = true := by rfl)
    (hline : (apos.endLine == cpos.line) = true := by rfl) (hs : starEach (e :: es) X.env = (false, eval e X.env) :: starEach es X.env := by rfl) (hplain : (backTo cpos (starEach es X.env)).any (·.1) = false := by rfl) :
    PE X (.Call (.Attribute o name apos) (e :: es) [] cpos) (tBM X.K T r to t) := by
  intro pins s σ H Q I h
  refine wpAny_Call_method_late hbase hfew hline rfl (thn (ho pins s σ H _ I h) fun v s1 ⟨x, H1, I1, r1, ty, q1⟩ => ?_)
  obtain ⟨h1, h2⟩ := tyV_is I1 r1 ty
  refine ⟨T, id, pa, slot, hty, h1, h2, ?_⟩
  have hA := ha cpos pins s1 σ H1 _ I1 q1
  rw [hs] at hA ⊢
  refine Calls.callWith_builtin (by show (false || (backTo cpos (starEach es X.env)).any (·.1)) = false; rw [hplain] <;> rfl) (Calls.evalArgs_plain ?_)
  exact thn hA fun us s2 ⟨vs, H2, I2, r2, q2⟩ => hm pins s2 σ H2 x vs v us Q I2 r1 r2 q2
end
end L2
namespace L2
open PySem PySem.Spec PyProof.Rows
def MtM (X : Cx) (id : String) (r : V → List V → Hp → VK → Prop) : Prop :=
  ∀ (pins : List (Addr × Obj)) (s : Shared) (σ : St) (H : Hp) (x : V) (xs : List V) (v : Value) (us : List Value) (Q : VK), Inv X pins σ H s → RelV x v → Vals xs us → r x xs H Q →
    wpAny (model X.prog X.w) X.A (call (.builtin id) (v :: us)) (EP X pins σ Q) X.xe s
theorem Vals.one : ∀ {x : V} {us : List Value}, Vals [x] us → ∃ u, us = [u] ∧ RelV x u
  | _, _, .cons r .nil => ⟨_, rfl, r⟩
theorem Vals.zero : ∀ {us : List Value}, Vals [] us → us = []
  | _, .nil => rfl
section
variable {X : Cx} {pins : List (Addr × Obj)} {σ : St} {H : Hp} {s : Shared} {l b : Addr} {xs ys zs : List V}
theorem Inv.lset {its its' : List Value} {n : Nat} {f : Array Value → Array Value} {t' : Nat} (I : Inv X pins σ H s) (hH : H l = some (.lst xs))
    (e : s.heap.get? l = some { cls := .type "list", data := .seq its.toArray n }) (hf : f its.toArray = its'.toArray) (hv : Vals ys its') (hz : ys.length ≤ sizeLine) :
    Inv X pins σ (upd H l (.lst ys)) { s with heap := s.heap.update l (Obj.mapSeq f), toks := t' } := by
  have q := PySem.IsL.update e f
  rw [hf] at q
  refine I.write (x := l) (e := l) (by rw [hH]; exact trivial) (.inl rfl) (fun b' u hb hu => (Heap.get?_update_other s.heap (Obj.mapSeq f) (Ne.symm hb)).trans hu) ⟨_, q⟩ ?_
  exact ⟨hz, its', _, hv, q⟩
theorem Inv.lnew {its : List Value} {t' : Nat} (I : Inv X pins σ H s) (hv : Vals ys its) (hz : ys.length ≤ sizeLine) :
    Inv X pins σ (upd H s.heap.objs.size (.lst ys)) { s with heap := s.heap.push { cls := .type "list", data := .seq its.toArray }, toks := t' } :=
  I.laid (fun _ _ q => Heap.get?_push_of_some _ q) (Nat.le_refl _) ⟨hz, its, 0, hv, Heap.get?_push_size _ rfl⟩
theorem Inv.fresh (I : Inv X pins σ H s) : H s.heap.objs.size = none := I.hok.fresh (Nat.le_refl _)
theorem Inv.lstM (I : Inv X pins σ H s) (hH : H l = some (.lst xs)) : xs.length ≤ sizeLine ∧ ∃ (its : List Value) (n : Nat), Vals xs its ∧ xs.length = its.length ∧ s.heap.get? l = some { cls := .type "list", data := .seq its.toArray n } := by
  obtain ⟨z, its, n, r, e⟩ := I.hok l _ hH
  exact ⟨z, its, n, r, r.length, e⟩
end
section
variable {X : Cx}
def rAppend : V → List V → Hp → VK → Prop := fun x vs H Q => ∃ l xs y, x = .ref l ∧ vs = [y] ∧ H l = some (.lst xs) ∧ xs.length < sizeLine ∧ Q .non (upd H l (.lst (xs ++ [y])))
theorem mt_append : MtM X "list.append" rAppend := by
  intro pins s σ H x vs v us Q I rx rv h
  obtain ⟨l, xs, y, rfl, rfl, hH, hz, q⟩ := h
  cases rx
  obtain ⟨u, rfl, ru⟩ := rv.one
  obtain ⟨z, its, n, r, hl, e⟩ := I.lstM hH
  refine call_meets F.slot_list_append ⟨_, e, rfl⟩ F.entry_list_append (F.args_list_append_2 _ _) (PySem.list_append l its.toArray n u (by rw [List.size_toArray]; omega)) ⟨e, ?_⟩
  refine ⟨.non, _, I.lset (its' := its ++ [u]) hH e (by simp) (r.append (.cons ru .nil)) ?_, rfl, q⟩
  rw [List.length_append, List.length_singleton]
  omega
def rClear : V → List V → Hp → VK → Prop := fun x vs H Q => ∃ l xs, x = .ref l ∧ vs = [] ∧ H l = some (.lst xs) ∧ Q .non (upd H l (.lst []))
theorem mt_clear : MtM X "list.clear" rClear := by
  intro pins s σ H x vs v us Q I rx rv h
  obtain ⟨l, xs, rfl, rfl, hH, q⟩ := h
  cases rx
  have hus := rv.zero
  subst hus
  obtain ⟨z, its, n, r, hl, e⟩ := I.lstM hH
  refine call_meets F.slot_list_clear ⟨_, e, rfl⟩ F.entry_list_clear (F.args_list_clear_1 _) (AutoSeq1.list_clear_list_0 l its.toArray n (by rw [List.size_toArray]; omega)) ⟨e, ?_⟩
  exact ⟨.non, _, I.lset (its' := []) (ys := []) hH e rfl .nil (Nat.zero_le _), rfl, q⟩
def rCat : R2 := fun x y H Q => ∃ l b xs zs, x = .ref l ∧ y = .ref b ∧ H l = some (.lst xs) ∧ H b = some (.lst zs) ∧ xs.length + zs.length ≤ sizeLine ∧ ∀ p, H p = none → Q (.ref p) (upd H p (.lst (xs ++ zs)))
theorem op_cat : OpR X (binaryOp .Add) rCat := by
  intro pins s σ H x y v u Q I rx ry h
  obtain ⟨l, b, xs, zs, rfl, rfl, hH, hB, hz, q⟩ := h
  cases rx
  cases ry
  obtain ⟨z, its, n, r, hl, e⟩ := I.lstM hH
  obtain ⟨z2, its2, n2, r2, hl2, e2⟩ := I.lstM hB
  refine PySem.P.add_list e e2 ?_ (by rw [List.size_toArray, List.size_toArray]; omega)
  have ea : its.toArray ++ its2.toArray = (its ++ its2).toArray := by simp
  rw [ea]
  exact ⟨.ref _, _, I.lnew (t' := s.toks) (r.append r2) (by rw [List.length_append]; omega), rfl, q _ I.fresh⟩
end
end L2
namespace L2
open PySem PySem.Spec PyProof.Rows
theorem Vals.ints : ∀ {ns : List Int} {us : List Value}, Vals (ns.map V.int) us → IntsAre us ns
  | [], us, h => by
    rw [List.map_nil] at h
    cases h
    exact IntsAre.nil
  | n :: ns, us, h => by
    rw [List.map_cons] at h
    cases h with
    | cons r t =>
      obtain ⟨k, rfl⟩ := r
      exact IntsAre.cons n k (Vals.ints t)
theorem Vals.strs : ∀ {xs : List Str} {us : List Value}, Vals (xs.map V.str) us → StrsAre us xs
  | [], us, h => by
    rw [List.map_nil] at h
    cases h
    exact StrsAre.nil
  | x :: xs, us, h => by
    rw [List.map_cons] at h
    cases h with
    | cons r t =>
      obtain ⟨k, rfl⟩ := r
      exact StrsAre.cons x k (Vals.strs t)
theorem Vals.bls : ∀ {bs : List Bool} {us : List Value}, Vals (bs.map V.bl) us → us = bs.map Value.bool
  | [], us, h => by
    rw [List.map_nil] at h
    cases h
    rfl
  | b :: bs, us, h => by
    rw [List.map_cons] at h
    cases h with
    | cons r t =>
      cases r
      rw [Vals.bls t, List.map_cons]
theorem Vals.ref1 {a : Addr} {us : List Value} (r : Vals [V.ref a] us) : us = [Value.ref a] := by
  cases r with
  | cons r t =>
    cases t
    cases r
    rfl
section
variable {prog : Program} {w : World} {A : Around} {E : Value → Shared → Prop} {s : Shared} {l : Addr} {its : List Value} {ns : List Int} {Q : Value → Shared → Prop}
theorem sum_raw (hh : A.handled = none) (hl : s.heap.IsList l its.toArray) (hi : IntsAre its ns)
    (h : ∀ h' tk t', (∀ b o, s.heap.get? b = some o → h'.get? b = some o) → Q (.int ns.sum t') { s with heap := h', toks := tk }) : wpAny (model prog w) A (call (.builtin "sum") [.ref l]) Q E s := by
  obtain ⟨xs, e⟩ := hi.allInts.items
  have hn : numsOf (intItems xs).toList = ns := by rw [← e]; exact hi.numsOf
  rw [nums_intItems] at hn
  rw [e] at hl
  refine PySem.sum_intListG hh hl fun h' tk t' hk => ?_
  have := h h' tk t' hk
  rw [preSum_eq, List.take_of_length_le (by simp), hn]; exact this
theorem max_raw (hh : A.handled = none) (hl : s.heap.IsList l its.toArray) (hi : IntsAre its ns) (hne : 0 < ns.length)
    (h : ∀ h' tk M t', (∀ b o, s.heap.get? b = some o → h'.get? b = some o) → M ∈ ns → (∀ a, a ∈ ns → a ≤ M) → Q (.int M t') { s with heap := h', toks := tk }) : wpAny (model prog w) A (call (.builtin "max") [.ref l]) Q E s := by
  obtain ⟨xs, e⟩ := hi.allInts.items
  have hn : numsOf (intItems xs).toList = ns := by rw [← e]; exact hi.numsOf
  rw [nums_intItems] at hn
  subst hn
  rw [e] at hl
  have hsz : 0 < xs.size := by simpa using hne
  refine PySem.max_intList hh hl hsz fun v h' tk hv hk => ?_
  obtain ⟨t, rfl⟩ := intItems_at hv
  obtain ⟨h1, h2⟩ := argBest_gt (numAt xs) (xs.size - 1)
  refine h h' tk _ t hk ?_ fun a ha => ?_
  · rw [numAt_eq]; exact PySem.getD_mem (by rw [List.length_map, Array.length_toList]; omega)
  · obtain ⟨j, hj, rfl⟩ := mem_getD ha
    rw [List.length_map, Array.length_toList] at hj
    rw [← numAt_eq]; exact h2 j (by omega)
theorem min_raw (hh : A.handled = none) (hl : s.heap.IsList l its.toArray) (hi : IntsAre its ns) (hne : 0 < ns.length)
    (h : ∀ h' tk M t', (∀ b o, s.heap.get? b = some o → h'.get? b = some o) → M ∈ ns → (∀ a, a ∈ ns → M ≤ a) → Q (.int M t') { s with heap := h', toks := tk }) : wpAny (model prog w) A (call (.builtin "min") [.ref l]) Q E s := by
  obtain ⟨xs, e⟩ := hi.allInts.items
  have hn : numsOf (intItems xs).toList = ns := by rw [← e]; exact hi.numsOf
  rw [nums_intItems] at hn
  subst hn
  rw [e] at hl
  have hsz : 0 < xs.size := by simpa using hne
  refine PySem.min_intList hh hl hsz fun v h' tk hv hk => ?_
  obtain ⟨t, rfl⟩ := intItems_at hv
  obtain ⟨h1, h2⟩ := argBest_lt (numAt xs) (xs.size - 1)
  refine h h' tk _ t hk ?_ fun a ha => ?_
  · rw [numAt_eq]; exact PySem.getD_mem (by rw [List.length_map, Array.length_toList]; omega)
  · obtain ⟨j, hj, rfl⟩ := mem_getD ha
    rw [List.length_map, Array.length_toList] at hj
    rw [← numAt_eq]; exact h2 j (by omega)
end
section
variable {X : Cx}
def rSum (K : PySem.W.Frag) : List V → Hp → VK → Prop := fun vs H Q => ∃ (a : Addr) (ns : List Int), vs = [V.ref a] ∧ SqL K H a (ns.map V.int) ∧ Q (.int ns.sum) H
def rMax (K : PySem.W.Frag) : List V → Hp → VK → Prop := fun vs H Q => ∃ (a : Addr) (ns : List Int), vs = [V.ref a] ∧ SqL K H a (ns.map V.int) ∧ 0 < ns.length ∧ ∀ m, m ∈ ns → (∀ y, y ∈ ns → y ≤ m) → Q (.int m) H
def rMin (K : PySem.W.Frag) : List V → Hp → VK → Prop := fun vs H Q => ∃ (a : Addr) (ns : List Int), vs = [V.ref a] ∧ SqL K H a (ns.map V.int) ∧ 0 < ns.length ∧ ∀ m, m ∈ ns → (∀ y, y ∈ ns → m ≤ y) → Q (.int m) H
theorem cr_sum (hc : X.calm = true) : CallR X (.builtin "sum") (rSum X.K) := by
  intro pins s σ H vs us Q I r h
  obtain ⟨a, ns, rfl, hs, q⟩ := h
  obtain ⟨its, rv, hl, _⟩ := I.list hs
  rw [Vals.ref1 r]
  exact sum_raw (I.ok.hd hc) hl.isList rv.ints fun h' tk t' hk => ⟨.int _, H, I.kept hk, ⟨_, rfl⟩, q⟩
theorem cr_max (hc : X.calm = true) : CallR X (.builtin "max") (rMax X.K) := by
  intro pins s σ H vs us Q I r h
  obtain ⟨a, ns, rfl, hs, hne, q⟩ := h
  obtain ⟨its, rv, hl, _⟩ := I.list hs
  rw [Vals.ref1 r]
  exact max_raw (I.ok.hd hc) hl.isList rv.ints hne fun h' tk m t' hk h1 h2 => ⟨.int _, H, I.kept hk, ⟨_, rfl⟩, q m h1 h2⟩
theorem cr_min (hc : X.calm = true) : CallR X (.builtin "min") (rMin X.K) := by
  intro pins s σ H vs us Q I r h
  obtain ⟨a, ns, rfl, hs, hne, q⟩ := h
  obtain ⟨its, rv, hl, _⟩ := I.list hs
  rw [Vals.ref1 r]
  exact min_raw (I.ok.hd hc) hl.isList rv.ints hne fun h' tk m t' hk h1 h2 => ⟨.int _, H, I.kept hk, ⟨_, rfl⟩, q m h1 h2⟩
end
theorem iter_any {prog : Program} {w : World} {A : Around} {E : Value → Shared → Prop} {s : Shared} {l : Addr} {items : Array Value} {Q : Value → Shared → Prop} (hl : s.heap.IsList l items)
    (h : ∀ s₂ : Shared, s₂ = { s with heap := s.heap.push { cls := .type "list_iterator", data := .fields #[.ref l, .int 0 0] } } →
      (s₂.heap.IsListIter s.heap.objs.size l 0 ∧ s₂.heap.IsList l items) → l ≠ s.heap.objs.size → Q (.ref s.heap.objs.size) s₂) : wpAny (model prog w) A (pyIter (.ref l)) Q E s := by
  have hlt : l < s.heap.objs.size := by obtain ⟨_, e, _⟩ := hl; exact Heap.lt_size e
  exact wpAny_pyIter_list hl (h _ rfl ⟨⟨_, Heap.get?_push_size _ rfl, rfl, rfl⟩, hl.push _⟩ (Nat.ne_of_lt hlt))
theorem truth_bools {prog : Program} {w : World} {A : Around} {bs : List Bool} {its : List Value} (e : its = bs.map Value.bool) :
    TruthOf prog w A (fun i v => its.toArray[i]? = some v) (fun i => bs.getD i false) := fun i v s Q E hv hq => by
  have hv' : its[i]? = some v := by simpa using hv
  rw [e, List.getElem?_map] at hv'
  obtain ⟨b, hb, rfl⟩ := Option.map_eq_some_iff.mp hv'
  have hg : bs.getD i false = b := by rw [List.getD_eq_getElem?_getD, hb] <;> rfl
  have hq' : Q (bs.getD i false) s := hq
  rw [hg] at hq'
  exact wpAny_truthy_bool hq'
theorem all_range : ∀ bs : List Bool, (List.range bs.length).all (fun i => bs.getD i false) = bs.all id
  | [] => rfl
  | b :: bs => by
    rw [List.length_cons, List.range_succ_eq_map, List.all_cons, List.all_map, List.all_cons, ← all_range bs]
    all_goals rfl
section
variable {X : Cx}
def rAll (K : PySem.W.Frag) : List V → Hp → VK → Prop := fun vs H Q => ∃ (a : Addr) (bs : List Bool), vs = [V.ref a] ∧ SqL K H a (bs.map V.bl) ∧ Q (.bl (bs.all id)) H
theorem cr_all (hc : X.calm = true) : CallR X (.builtin "all") (rAll X.K) := by
  intro pins s σ H vs us Q I r h
  obtain ⟨a, bs, rfl, hs, q⟩ := h
  obtain ⟨its, rv, hl, _⟩ := I.list hs
  rw [Vals.ref1 r]
  have hb := rv.bls
  refine call_all_walk (iter_any hl.isList fun s₂ e2 st hne => ?_)
  subst e2
  refine ⟨_, _, _, _, _, _, _, rfl, Walks.list (A := X.A.in1) (I.ok.hd hc) _ a hne its.toArray, st, truth_bools hb, fun h' tk hk => ?_⟩
  refine ⟨.bl _, H, I.kept fun b o eo => hk b o (fun hmem => ?_) (Heap.get?_push_of_some _ eo), ?_, q⟩
  · rcases List.mem_cons.mp hmem with e1 | hmem
    · exact absurd (e1 ▸ Heap.lt_size eo) (Nat.lt_irrefl _)
    · cases hmem
  · show Value.bool _ = Value.bool _
    rw [← all_range, hb, List.size_toArray, List.length_map]
end
mutual
inductive Dp (K : PySem.W.Frag) (H : Hp) : V → PyData → Prop
  | non : Dp K H .non .none
  | bl (b : Bool) : Dp K H (.bl b) (.bool b)
  | int (i : Int) : Dp K H (.int i) (.int i)
  | str (x : Str) : Dp K H (.str x) (.str x)
  | lst {a : Addr} {xs : List V} {ds : List PyData} : SqL K H a xs → DpAll K H xs ds → Dp K H (.ref a) (.list ds)
  | tup {a : Addr} {xs : List V} {ds : List PyData} : SqT K H a xs → DpAll K H xs ds → Dp K H (.ref a) (.tuple ds)
inductive DpAll (K : PySem.W.Frag) (H : Hp) : List V → List PyData → Prop
  | nil : DpAll K H [] []
  | cons {v : V} {vs : List V} {d : PyData} {ds : List PyData} : Dp K H v d → DpAll K H vs ds → DpAll K H (v :: vs) (d :: ds)
end
section
variable {X : Cx} {pins : List (Addr × Obj)} {σ : St} {H : Hp} {s : Shared}
mutual
theorem Dp.reads (I : Inv X pins σ H s) : ∀ (d : PyData) (v : V) (u : Value), Dp X.K H v d → RelV v u → ∃ as, Reads s.heap u d as
  | .none, _, _, h, r => by
    cases h
    cases r
    exact ⟨_, Reads.none⟩
  | .bool b, _, _, h, r => by
    cases h
    cases r
    exact ⟨_, Reads.bool b⟩
  | .int i, _, _, h, r => by
    cases h
    obtain ⟨t, rfl⟩ := r
    exact ⟨_, Reads.int i t⟩
  | .str x, _, _, h, r => by
    cases h
    obtain ⟨t, rfl⟩ := r
    exact ⟨_, Reads.str x t⟩
  | .list ds, _, _, h, r => by
    cases h with
    | lst hs ha =>
      cases r
      obtain ⟨its, rv, ⟨o, n, ho, hc, _, hd⟩, _⟩ := I.list hs
      obtain ⟨as, hr⟩ := Dp.readsAll I ds _ its ha rv
      exact ⟨_, Reads.list ho hc hd hr⟩
  | .tuple ds, _, _, h, r => by
    cases h with
    | tup hs ha =>
      cases r
      obtain ⟨its, rv, ⟨o, ho, hc, n, hd⟩, _⟩ := I.tuple hs
      obtain ⟨as, hr⟩ := Dp.readsAll I ds _ its ha rv
      exact ⟨_, Reads.tuple ho hc hd hr⟩
  | .dict _, _, _, h, _ => by cases h
theorem Dp.readsAll (I : Inv X pins σ H s) : ∀ (ds : List PyData) (vs : List V) (us : List Value), DpAll X.K H vs ds → Vals vs us → ∃ as, ReadsAll s.heap us ds as
  | [], _, _, h, r => by
    cases h
    cases r
    exact ⟨_, ReadsAll.nil⟩
  | d :: ds, _, _, h, r => by
    cases h with
    | cons h1 h2 =>
      cases r with
      | cons r1 r2 =>
        obtain ⟨as, q1⟩ := Dp.reads I d _ _ h1 r1
        obtain ⟨bs, q2⟩ := Dp.readsAll I ds _ _ h2 r2
        exact ⟨_, ReadsAll.cons q1 q2⟩
end
end
section
variable {X : Cx}
def rNeD (K : PySem.W.Frag) : R2 := fun x y H Q => ∃ d e, Dp K H x d ∧ Dp K H y e ∧ SeqAt.shaped d = true ∧ SeqAt.shaped e = true ∧ Q (.bl (!PyData.eqv d e)) H
theorem op_neD (hu : X.A.units + 64 < cLine) : OpR X (compareOp .NotEq) (rNeD X.K) := by
  intro pins s σ H x y v u Q I rx ry h
  obtain ⟨d, e, hd, he, sd, se, q⟩ := h
  obtain ⟨as, r1⟩ := Dp.reads I d x v hd rx
  obtain ⟨bs, r2⟩ := Dp.reads I e y u he ry
  exact SeqAt.compareNe_shaped r1 r2 sd se hu ⟨.bl _, H, I, rfl, q⟩
end
end L2
namespace L2
open PySem PySem.Spec PyProof.Rows
abbrev CellAt (h : Heap) (c : Addr) (v : Option Value) : Prop := h.IsCell c v
def relS (scope sc : Scope) : Scope :=
  { scope with names := scope.names.map fun (n, k) => if (k == .free && sc.kind == .function && sc.names.lookup n == some .cell) then (n, .cell) else (n, k) }
def cloFrom (cells : List (Str × Addr)) : List (Str × NameKind) → List (Str × Addr) → List (Str × Addr)
  | [], acc => acc
  | (n, k) :: r, acc => if k == .free then cloFrom cells r ((n, (cells.lookup n).getD 0) :: acc) else cloFrom cells r acc
theorem closure_loop (env : Env) (f : Str × NameKind → List (Str × Addr) → Sem (ForInStep (List (Str × Addr))))
    (hf : ∀ n k c, f (n, k) c = if k == .free then (do let a ← cellOf env n; pure (.yield ((n, a) :: c))) else pure (.yield c)) :
    ∀ (names : List (Str × NameKind)) (acc : List (Str × Addr)), (∀ y ∈ names, y.2 = .free → ∃ c, env.cells.lookup y.1 = some c) → forIn names acc f = pure (cloFrom env.cells names acc)
  | [], acc, _ => by rw [List.forIn_nil]; rfl
  | (n, k) :: r, acc, h => by
    rw [List.forIn_cons, hf]
    have ih := fun acc => closure_loop env f hf r acc fun y hy => h y (List.mem_cons_of_mem _ hy)
    unfold cloFrom
    by_cases hk : (k == NameKind.free) = true
    · rw [if_pos hk, if_pos hk]
      obtain ⟨c, hc⟩ := h (n, k) List.mem_cons_self (by simpa using hk)
      have e : cellOf env n = pure c := by unfold cellOf; rw [hc]
      rw [e]
      have e2 : (env.cells.lookup n).getD 0 = c := by rw [hc]; rfl
      rw [e2]
      exact ih _
    · rw [if_neg hk, if_neg hk]
      exact ih _
theorem closure_ok {scope : Scope} {env : Env} (h : ∀ y ∈ scope.names, y.2 = .free → ∃ c, env.cells.lookup y.1 = some c) : closureFor scope env = pure (cloFrom env.cells scope.names []) := by
  simp only [closureFor]
  rw [closure_loop env _ (fun n k c => rfl) scope.names [] h]
  rfl
theorem mem_lookup {α : Type} : ∀ {l : List (Str × α)} {n : Str} {c : α}, (n, c) ∈ l → ∃ c', l.lookup n = some c'
  | (k, v) :: r, n, c, h => by
    rw [List.lookup_cons]
    cases hb : n == k with
    | true => exact ⟨_, rfl⟩
    | false =>
      rcases List.mem_cons.mp h with e | h
      · cases e; simp at hb
      · exact mem_lookup h
theorem cloFrom_mem {cells : List (Str × Addr)} : ∀ {names : List (Str × NameKind)} {acc : List (Str × Addr)} {n : Str} {c : Addr}, (n, c) ∈ cloFrom cells names acc → (n, c) ∈ acc ∨ ((n, .free) ∈ names ∧ c = (cells.lookup n).getD 0)
  | [], _, _, _, h => .inl h
  | (m, k) :: r, acc, n, c, h => by
    unfold cloFrom at h
    split at h
    · rename_i hk
      have hk : k = .free := by simpa using hk
      rcases cloFrom_mem h with h | ⟨h1, h2⟩
      · rcases List.mem_cons.mp h with e | h
        · cases e; exact .inr ⟨hk ▸ List.mem_cons_self, rfl⟩
        · exact .inl h
      · exact .inr ⟨List.mem_cons_of_mem _ h1, h2⟩
    · rcases cloFrom_mem h with h | ⟨h1, h2⟩
      · exact .inl h
      · exact .inr ⟨List.mem_cons_of_mem _ h1, h2⟩
theorem cloFrom_acc {cells : List (Str × Addr)} : ∀ {names : List (Str × NameKind)} {acc : List (Str × Addr)} {p : Str × Addr}, p ∈ acc → p ∈ cloFrom cells names acc
  | [], _, _, h => h
  | (m, k) :: r, acc, p, h => by
    unfold cloFrom
    split
    · exact cloFrom_acc (List.mem_cons_of_mem _ h)
    · exact cloFrom_acc h
theorem cloFrom_has {cells : List (Str × Addr)} : ∀ {names : List (Str × NameKind)} {acc : List (Str × Addr)} {n : Str}, (n, .free) ∈ names → (n, (cells.lookup n).getD 0) ∈ cloFrom cells names acc
  | (m, k) :: r, acc, n, h => by
    unfold cloFrom
    rcases List.mem_cons.mp h with e | h
    · cases e
      exact cloFrom_acc List.mem_cons_self
    · split
      · exact cloFrom_has h
      · exact cloFrom_has h
theorem cells_mem : ∀ {names : List (Str × NameKind)} {h : Heap} {acc : List (Str × Addr)} {x : Str} {c : Addr}, (x, c) ∈ cellsFrom h.objs.size names acc →
    (x, c) ∈ acc ∨ ((x, .cell) ∈ names ∧ h.objs.size ≤ c ∧ CellAt (pushCells h names) c none)
  | [], _, _, _, _, h => .inl h
  | (n, k) :: r, h, acc, x, c, hm => by
    unfold cellsFrom at hm
    unfold pushCells
    split at hm
    · rename_i hk
      rw [if_pos hk]
      have hk : k = .cell := by simpa using hk
      rw [← Heap.size_push h { cls := .type "cell", data := .cell none }] at hm
      rcases cells_mem hm with hm | ⟨h1, h2, h3⟩
      · rcases List.mem_cons.mp hm with e | hm
        · cases e
          exact .inr ⟨hk ▸ List.mem_cons_self, Nat.le_refl _, _, pushCells_keeps r _ _ _ (Heap.get?_push_size _ rfl), rfl⟩
        · exact .inl hm
      · rw [Heap.size_push] at h2
        exact .inr ⟨List.mem_cons_of_mem _ h1, Nat.le_of_succ_le h2, h3⟩
    · rename_i hk
      rw [if_neg hk]
      rcases cells_mem hm with hm | ⟨h1, h2, h3⟩
      · exact .inl hm
      · exact .inr ⟨List.mem_cons_of_mem _ h1, h2, h3⟩
theorem cells_acc : ∀ {names : List (Str × NameKind)} {n : Nat} {acc : List (Str × Addr)} {p : Str × Addr}, p ∈ acc → p ∈ cellsFrom n names acc
  | [], _, _, _, h => h
  | (m, k) :: r, n, acc, p, h => by
    unfold cellsFrom
    split
    · exact cells_acc (List.mem_cons_of_mem _ h)
    · exact cells_acc h
theorem cells_has : ∀ {names : List (Str × NameKind)} {n : Nat} {acc : List (Str × Addr)} {x : Str}, (x, .cell) ∈ names → ∃ c, (x, c) ∈ cellsFrom n names acc
  | (m, k) :: r, n, acc, x, h => by
    unfold cellsFrom
    rcases List.mem_cons.mp h with e | h
    · cases e
      exact ⟨n, cells_acc List.mem_cons_self⟩
    · split
      · exact cells_has h
      · exact cells_has h
theorem cells_inj : ∀ {names : List (Str × NameKind)} {h : Heap} {acc : List (Str × Addr)} {x y : Str} {c : Addr}, (∀ p ∈ acc, p.2 < h.objs.size) → (∀ x y c, (x, c) ∈ acc → (y, c) ∈ acc → x = y) →
    (x, c) ∈ cellsFrom h.objs.size names acc → (y, c) ∈ cellsFrom h.objs.size names acc → x = y
  | [], _, _, _, _, _, _, hi, h1, h2 => hi _ _ _ h1 h2
  | (n, k) :: r, h, acc, x, y, c, hl, hi, h1, h2 => by
    unfold cellsFrom at h1 h2
    split at h1
    · rename_i hk
      rw [if_pos hk] at h2
      rw [← Heap.size_push h { cls := .type "cell", data := .cell none }] at h1 h2
      refine cells_inj (h := h.push _) (fun p hp => ?_) (fun x y c a b => ?_) h1 h2
      · rw [Heap.size_push]
        rcases List.mem_cons.mp hp with rfl | hp
        · exact Nat.lt_succ_self _
        · exact Nat.lt_succ_of_lt (hl p hp)
      · rcases List.mem_cons.mp a with e | a <;> rcases List.mem_cons.mp b with e' | b
        · cases e; cases e'; rfl
        · cases e; exact absurd (hl _ b) (Nat.lt_irrefl _)
        · cases e'; exact absurd (hl _ a) (Nat.lt_irrefl _)
        · exact hi _ _ _ a b
    · rename_i hk
      rw [if_neg hk] at h2
      exact cells_inj hl hi h1 h2
theorem newEnv_comp {M : Model} {A : Around} {E : Value → Shared → Prop} {s : Shared} {scope : Scope} {globals : Addr} {closure : List (Str × Addr)} {qual : Str} {func : Option Addr} {code : Value} {around : Env} {builtins : Addr} {Q : Env → Shared → Prop}
    (h : Q (newEnv scope s.heap.objs.size globals (cellsFrom (s.heap.objs.size + 1) scope.names closure) qual func code (some around) builtins)
      { s with heap := pushCells (s.heap.push { cls := .type "dict", data := .dict #[] }) scope.names }) :
    wpAny M A (newFunctionEnv scope globals closure [] qual func code (some around) builtins) Q E s := by
  simp only [newFunctionEnv, Option.isSome_some, if_true]
  refine wpAny_bind (wpAny_alloc ?_)
  refine wpAny_bind (wpAny_layCells _ (fun n k c => rfl) scope.names closure _ _ ?_)
  rw [show ({ s with heap := s.heap.push { cls := .type "dict", data := .dict #[] } } : Shared).heap.objs.size = s.heap.objs.size + 1 from Heap.size_push ..]
  rw [List.forIn_nil]
  exact wpAny_bind (wpAny_pure (wpAny_pure h))
theorem lookup_relS {sc : Scope} : ∀ {names : List (Str × NameKind)} {x : Str} {k : NameKind},
    (names.map fun (n, k) => if (k == NameKind.free && sc.kind == .function && sc.names.lookup n == some .cell) then (n, NameKind.cell) else (n, k)).lookup x = some k →
    ∃ k', names.lookup x = some k' ∧ (k = k' ∨ (k' = .free ∧ k = .cell))
  | [], _, _, h => by simp at h
  | (n, k₀) :: r, x, k, h => by
    have ih := @lookup_relS sc r x k
    have h' : List.lookup x ((if (k₀ == NameKind.free && sc.kind == .function && sc.names.lookup n == some .cell) = true then (n, NameKind.cell) else (n, k₀)) :: (r.map _)) = some k := h
    cases hx : x == n with
    | true =>
      simp only [List.lookup_cons, hx]
      by_cases hc : (k₀ == NameKind.free && sc.kind == .function && sc.names.lookup n == some .cell) = true
      · rw [if_pos hc] at h'
        simp only [List.lookup_cons, hx] at h'
        cases h'
        simp only [Bool.and_eq_true, beq_iff_eq] at hc
        exact ⟨k₀, rfl, .inr ⟨hc.1.1, rfl⟩⟩
      · rw [if_neg hc] at h'
        simp only [List.lookup_cons, hx] at h'
        cases h'
        exact ⟨_, rfl, .inl rfl⟩
    | false =>
      simp only [List.lookup_cons, hx]
      by_cases hc : (k₀ == NameKind.free && sc.kind == .function && sc.names.lookup n == some .cell) = true
      · rw [if_pos hc] at h'
        simp only [List.lookup_cons, hx] at h'
        exact ih h'
      · rw [if_neg hc] at h'
        simp only [List.lookup_cons, hx] at h'
        exact ih h'
structure BlkOk (N : List Str) (sc scope : Scope) (own : List (Str × Nat)) : Prop where
  kind : scope.kind = .function
  uniq : ∀ y ∈ scope.names, scope.names.lookup y.1 = some y.2
  ix : ∀ p ∈ own, N[p.2]? = some p.1
  free : ∀ y ∈ scope.names, y.2 = .free → sc.names.lookup y.1 = some .cell ∨ sc.names.lookup y.1 = some .free
  own : ∀ y ∈ scope.names, y.2 = .local ∨ y.2 = .cell → y.1 ∈ own.map (·.1) ∨ y.1 ∉ N
def wipe (σ : St) : List Nat → St
  | [] => σ
  | v :: vs => (wipe σ vs).set v none
theorem wipe_length (σ : St) : ∀ vs : List Nat, (wipe σ vs).length = σ.length
  | [] => rfl
  | v :: vs => by unfold wipe; rw [List.length_set, wipe_length σ vs]
theorem wipe_some {σ : St} {i : Nat} {x : V} : ∀ {vs : List Nat}, (wipe σ vs)[i]? = some (some x) → σ[i]? = some (some x) ∧ i ∉ vs
  | [], h => ⟨h, by simp⟩
  | v :: vs, h => by
    unfold wipe at h
    by_cases hi : v = i
    · subst hi
      by_cases hv : v < (wipe σ vs).length
      · rw [List.getElem?_set_self hv] at h; cases h
      · rw [List.getElem?_eq_none (by simpa using hv)] at h; cases h
    · rw [List.getElem?_set_ne hi] at h
      obtain ⟨h1, h2⟩ := wipe_some h
      exact ⟨h1, by simp only [List.mem_cons, not_or]; exact ⟨fun e => hi e.symm, h2⟩⟩
abbrev Cx.blk (X : Cx) (s : Shared) (H : Hp) (scope : Scope) (cenv : Env) (fp : List Addr) : Cx := { X with s_0 := s, H_0 := H, env := cenv, outer := X.stack, ex := fp, fn := fun x => scope.names.lookup x == some .cell, pn := [], xe := fun _ _ => False }
section
variable {X : Cx} {pins : List (Addr × Obj)} {σ : St} {H : Hp} {s : Shared}
theorem block_start {scope : Scope} {own : List (Str × Nat)} {fp : List Addr} (I : Inv X pins σ H s) (ok : BlkOk X.N X.env.scope scope own) (hN : X.N.Nodup) (hfp : ∀ b ∈ fp, FpOk X pins H b ∧ b < s.heap.objs.size) :
    Inv (X.blk s H scope (compEnvC scope (cellsFrom (s.heap.objs.size + 1) scope.names (cloFrom X.env.cells scope.names [])) s.heap.objs.size X.env) fp) [] (wipe σ (own.map (·.2))) H { s with heap := pushCells (s.heap.push { cls := .type "dict", data := .dict #[] }) scope.names } := by
  have hfree : ∀ y ∈ scope.names, y.2 = .free → ∃ c, X.env.cells.lookup y.1 = some c := fun y hy e => by
    rcases ok.free y hy e with k | k
    · exact I.ok.has _ (.inl k)
    · exact I.ok.has _ (.inr k)
  generalize hcenv : compEnvC scope (cellsFrom (s.heap.objs.size + 1) scope.names (cloFrom X.env.cells scope.names [])) s.heap.objs.size X.env = cenv
  have kp : ∀ b o, s.heap.get? b = some o → (pushCells (s.heap.push { cls := .type "dict", data := .dict #[] }) scope.names).get? b = some o := fun b o e => pushCells_keeps _ _ _ _ (Heap.get?_push_of_some _ e)
  have hL : cenv.locals = s.heap.objs.size := by rw [← hcenv]; rfl
  have hcl : cenv.cells = cellsFrom (s.heap.objs.size + 1) scope.names (cloFrom X.env.cells scope.names []) := by rw [← hcenv]; rfl
  have hsc : cenv.scope = relS scope X.env.scope := by rw [← hcenv]; rfl
  rw [← Heap.size_push s.heap { cls := .type "dict", data := .dict #[] }] at hcl
  have cm : ∀ {y c}, (y, c) ∈ cloFrom X.env.cells scope.names [] → X.env.cells.lookup y = some c ∧ c < s.heap.objs.size := fun {y c} hm => by
    rcases cloFrom_mem hm with hm | ⟨h1, rfl⟩
    · cases hm
    · obtain ⟨c, hc⟩ := hfree _ h1 rfl
      rw [hc]
      obtain ⟨w, z⟩ := I.cell _ _ hc
      exact ⟨rfl, z.lt⟩
  have mem : ∀ {y c}, cenv.cells.lookup y = some c → (X.env.cells.lookup y = some c ∧ c < s.heap.objs.size) ∨ (s.heap.objs.size + 1 ≤ c ∧ CellAt (pushCells (s.heap.push { cls := .type "dict", data := .dict #[] }) scope.names) c none) := fun {y c} e => by
    rw [hcl] at e
    rcases cells_mem (PySem.mem_of_lookup e) with hm | ⟨_, h2, h3⟩
    · exact .inl (cm hm)
    · rw [Heap.size_push] at h2; exact .inr ⟨h2, h3⟩
  have look : ∀ {y}, scope.names.lookup y = some .free → ∃ c, cenv.cells.lookup y = some c ∧ X.env.cells.lookup y = some c := fun {y} hl => by
    have hy : (y, NameKind.free) ∈ scope.names := PySem.mem_of_lookup hl
    obtain ⟨c', e'⟩ := mem_lookup (cells_acc (names := scope.names) (n := (s.heap.push { cls := .type "dict", data := .dict #[] }).objs.size) (cloFrom_has (cells := X.env.cells) (acc := []) hy))
    rw [← hcl] at e'
    refine ⟨c', e', ?_⟩
    rw [hcl] at e'
    rcases cells_mem (PySem.mem_of_lookup e') with hm | ⟨h1, _, _⟩
    · exact (cm hm).1
    · have := ok.uniq _ h1
      rw [hl] at this; cases this
  have okB : (X.blk s H scope cenv fp).Ok := by
    refine ⟨I.ok.mod, by show cenv.scope.kind = _; rw [hsc]; exact ok.kind, by show cenv.globals = _; rw [← hcenv]; exact I.ok.glob, by show cenv.builtins = _; rw [← hcenv]; exact I.ok.blt, by show s.heap.objs.size ≤ cenv.locals; rw [hL]; exact Nat.le_refl _,
      fun y z c e1 e2 => ?_, fun y hy => ?_, fun y c z e => ?_, I.ok.hd, I.ok.frames, .inl rfl, fun b hb => ⟨?_, fun y c e z => ?_⟩, I.bs, Nat.le_trans I.ok.bsz I.sz, fun b o e hb => ?_, fun b hb z => ?_, I.stack, I.stkFree⟩
    · have e1 : cenv.cells.lookup y = some c := e1
      have e2 : cenv.cells.lookup z = some c := e2
      rw [hcl] at e1 e2
      refine cells_inj (fun p hp => ?_) (fun y z c a b => I.ok.inj y z c (cm a).1 (cm b).1) (PySem.mem_of_lookup e1) (PySem.mem_of_lookup e2)
      rw [Heap.size_push]
      exact Nat.lt_succ_of_lt (cm (y := p.1) (c := p.2) hp).2
    · show ∃ c, cenv.cells.lookup y = some c
      have key : ∀ k, cenv.kindOf y = some k → (k = .cell ∨ k = .free) → ∃ c, cenv.cells.lookup y = some c := fun k hk hk' => by
        unfold Env.kindOf at hk
        rw [hsc] at hk
        obtain ⟨k', e, r⟩ := lookup_relS hk
        have : k' = .cell ∨ k' = .free := by
          rcases r with rfl | ⟨rfl, _⟩
          · exact hk'
          · exact .inr rfl
        rcases this with rfl | rfl
        · obtain ⟨c, hm⟩ := cells_has (n := (s.heap.push { cls := .type "dict", data := .dict #[] }).objs.size) (acc := cloFrom X.env.cells scope.names []) (PySem.mem_of_lookup e)
          obtain ⟨c', e'⟩ := mem_lookup hm
          exact ⟨c', by rw [hcl]; exact e'⟩
        · obtain ⟨c, h1, _⟩ := look e
          exact ⟨c, h1⟩
      rcases hy with hy | hy
      · exact key _ hy (.inl rfl)
      · exact key _ hy (.inr rfl)
    · have z : (scope.names.lookup y == some NameKind.cell) = true := z
      have z : scope.names.lookup y = some .cell := by simpa using z
      have e : cenv.cells.lookup y = some c := e
      rw [hcl] at e
      rcases cells_mem (PySem.mem_of_lookup e) with hm | ⟨_, h2, _⟩
      · rcases cloFrom_mem hm with hm | ⟨h1, _⟩
        · cases hm
        · have q := ok.uniq _ h1
          rw [z] at q; cases q
      · rw [Heap.size_push] at h2
        exact Nat.le_of_succ_le h2
    · show b ≠ cenv.locals
      rw [hL]; exact Nat.ne_of_lt (hfp b hb).2
    · have e : cenv.cells.lookup y = some c := e
      rcases mem e with ⟨h1, _⟩ | ⟨h1, _⟩
      · exact (hfp b hb).1.2.2.2.2.1 y c h1 z
      · have h2 : s.heap.objs.size + 1 ≤ b := by rw [← z]; exact h1
        exact absurd (Nat.lt_of_lt_of_le (hfp b hb).2 (Nat.le_of_succ_le h2)) (Nat.lt_irrefl _)
    · rcases (hfp b hb).1.2.2.2.1 with z | z
      · exact I.ok.noex b o e z
      · exact absurd (Nat.lt_of_lt_of_le (Heap.lt_size e) (Nat.le_trans I.ok.bsz z)) (Nat.lt_irrefl _)
    · rcases List.mem_cons.mp (I.stkSub b z) with z | z
      · exact (hfp b hb).1.2.1 z
      · exact (hfp b hb).1.2.2.1 z
  refine ⟨okB, rfl, I.bare, Un.kept kp, ⟨fun _ => none, ?_, fun i y av e1 e2 e3 => ?_⟩, fun y c e => ?_, ?_, fun y c e => ?_, fun p hp => ?_, I.hok.kept kp, by rw [wipe_length]; exact I.len⟩
  · show Heap.Ns _ cenv.locals _
    rw [hL]
    exact Heap.Ns.keeps (Heap.Ns.new ..) fun b o e => pushCells_keeps _ _ _ _ e
  · obtain ⟨e2, hne⟩ := wipe_some e2
    have hfr : scope.names.lookup y = some .free ∧ (cenv.kindOf y = some .cell ∨ cenv.kindOf y = some .free) := by
      have key : ∀ k, cenv.scope.names.lookup y = some k → k = .local ∨ k = .cell ∨ k = .free → scope.names.lookup y = some .free ∧ (cenv.kindOf y = some .cell ∨ cenv.kindOf y = some .free) := fun k hk hk' => by
        have hk0 := hk
        rw [hsc] at hk
        obtain ⟨k', e, r⟩ := lookup_relS hk
        have no : ¬ (k' = .local ∨ k' = .cell) := fun hh => by
          rcases ok.own _ (PySem.mem_of_lookup e) hh with e' | e'
          · obtain ⟨p, hp, hpy⟩ := List.mem_map.mp e'
            have e3 := ok.ix p hp
            have : p.1 = y := hpy
            rw [this] at e3
            exact hne (List.mem_map.mpr ⟨p, hp, nodup_ix hN e3 e1⟩)
          · exact e' (List.mem_of_getElem? e1)
        rcases r with rfl | ⟨rfl, rfl⟩
        · rcases hk' with rfl | rfl | rfl
          · exact absurd (.inl rfl) no
          · exact absurd (.inr rfl) no
          · exact ⟨e, .inr hk0⟩
        · exact ⟨e, .inl hk0⟩
      have e3 : Vis cenv.scope y := e3
      rcases e3 with e3 | e3 | e3
      · exact key _ e3 (.inl rfl)
      · exact key _ e3 (.inr (.inl rfl))
      · exact key _ e3 (.inr (.inr rfl))
    obtain ⟨m, hn, hl⟩ := I.loc
    have hvis : Vis X.env.scope y := (ok.free _ (PySem.mem_of_lookup hfr.1) rfl).elim (fun k => .inr (.inl k)) (fun k => .inr (.inr k))
    obtain ⟨w, r, q⟩ := hl i y av e1 e2 hvis
    refine ⟨w, r, .inr ⟨hfr.2, ?_⟩⟩
    obtain ⟨c, h1, h2⟩ := look hfr.1
    rcases q with ⟨k, _⟩ | ⟨_, c', e', z⟩
    · have k : X.env.scope.names.lookup y = some .local := k
      rcases ok.free _ (PySem.mem_of_lookup hfr.1) rfl with k' | k' <;> rw [show X.env.scope.names.lookup y = _ from k'] at k <;> cases k
    · rw [h2] at e'; cases e'
      exact ⟨c, h1, z.keeps kp⟩
  · have e : cenv.cells.lookup y = some c := e
    rcases mem e with ⟨h1, _⟩ | ⟨_, z⟩
    · obtain ⟨w, z⟩ := I.cell y c h1
      exact ⟨w, z.keeps kp⟩
    · exact ⟨_, z⟩
  · show H cenv.locals = none
    rw [hL]; exact I.hok.fresh (Nat.le_refl _)
  · have e : cenv.cells.lookup y = some c := e
    rcases mem e with ⟨h1, _⟩ | ⟨h1, _⟩
    · exact I.freeC y c h1
    · exact I.hok.fresh (Nat.le_of_succ_le h1)
  · exact absurd (show p ∈ ([] : List (Addr × Obj)) ++ [] from hp) (by simp)
theorem app_ok {E : Value → Shared → Prop} {D : Addr} {xs : List V} {y : V} {v : Value} {Q : Value → Shared → Prop} (I : Inv X pins σ H s) (hD : H D = some (.lst xs)) (hz : xs.length < sizeLine) (r : RelV y v)
    (h : ∀ s', Inv X pins σ (upd H D (.lst (xs ++ [y]))) s' → Q .none s') : wpAny (model X.prog X.w) X.A (call (.builtin "list.append") [.ref D, v]) Q E s := by
  obtain ⟨hz', its, n, ri, e⟩ := I.hok D _ hD
  have hl := ri.length
  refine append_at (hsz := by rw [List.size_toArray]; omega) e fun h' sb ho' => ?_
  refine h { s with heap := h' } (I.write (t' := s.toks) (by rw [hD]; trivial) (.inl rfl) (fun b u hb q => (sb.2 b hb).trans q) ⟨_, ho'⟩ ⟨by rw [List.length_append]; exact hz, its ++ [v], n + 1, ri.append (.cons r .nil), ?_⟩)
  rw [ho']
  simp
def PTs (X : Cx) (ifs : List Expr) (t : TT) : Prop :=
  ∀ (pins : List (Addr × Obj)) (s : Shared) (σ : St) (H : Hp) (Q : Bool → Hp → Prop), Inv X pins σ H s → t σ H Q →
    wpAny (model X.prog X.w) X.A (forIn ifs true fun c r => if r = true then do let ok ← isTrue c X.env (eval c X.env); pure (ForInStep.yield ok) else pure (ForInStep.yield r)) (TP X pins σ Q) X.xe s
def tYes : TT := fun _ H Q => Q true H
theorem pts_nil : PTs X [] tYes := fun _ _ _ H _ I h => wpAny_tests_nil ⟨H, I, h⟩
theorem pts_one {c : Expr} {t : TT} (h : PT X c t) : PTs X [c] t := fun pins s σ H Q I hw => wpAny_tests_one (h pins s σ H Q I hw)
end
theorem thnF {α : Type} {t : Sem α} {Q Q' : α → Shared → Prop} {M : Model} {A : Around} {E : Value → Shared → Prop} {s : Shared} (h : wpAny M A t Q (fun _ _ => False) s) (hQ : ∀ a s, Q a s → Q' a s) : wpAny M A t Q' E s := wpAny_mono h hQ fun _ _ z => False.elim z
theorem compLoop_any {prog : Program} {w : World} {A : Around} {R : Result → Shared → Prop} {s : Shared} {elt target iter : Expr} {ifs : List Expr} {scope : Scope} {pos : Pos} {it acc : Value} {env : Env} (I : Nat → Shared → Prop)
    (turn : ∀ n s, I n s → wpAny (model prog w) A (pyNext it) (fun r s₁ => match r with
      | none => R (.ok .next) s₁
      | some v => wpAny (model prog w) A (letOwnedTupleGo target it v) (fun _ s₁' => wpAny (model prog w) A (assign target env v) (fun _ s₂ =>
          wpAny (model prog w) A (forIn ifs true fun c r => if r = true then do let ok ← isTrue c env (eval c env); pure (ForInStep.yield ok) else pure (ForInStep.yield r)) (fun ok s₃ =>
            if ok = true then wpAny (model prog w) A (eval elt env) (fun x s₄ =>
              wpAny (model prog w) A (call (.builtin "list.append") [acc, x]) (fun _ s₅ => ∃ m, m < n ∧ I m s₅) (notedBy (model prog w) A env fun e s' => R (.error e) s') s₄) (notedBy (model prog w) A env fun e s' => R (.error e) s') s₃
            else ∃ m, m < n ∧ I m s₃) (notedBy (model prog w) A env fun e s' => R (.error e) s') s₂) (notedBy (model prog w) A env fun e s' => R (.error e) s') s₁') (notedBy (model prog w) A env fun e s' => R (.error e) s') s₁) (notedBy (model prog w) A env fun e s' => R (.error e) s') s)
    (n : Nat) (h : I n s) :
    codeAny (model prog w) A (.compLoop (.ListComp elt [⟨target, iter, ifs, 0⟩] scope pos) 0 it acc env) R s := by
  refine codeAny_loop rfl I (fun n s hI => ?_) n h
  show wpAny _ A ((compTurn (.ListComp elt [⟨target, iter, ifs, 0⟩] scope pos) 0 it acc env).onRaise (fun x => do noteFrame x env; theTreesLotGoes x)) _ _ s
  refine wpAny_noted ?_
  rw [compTurn_list]
  refine wpAny_bind (wpAny_standAt (wpAny_bind (wpAny_mono (turn n s hI) (fun r s₁ h₁ => ?_) fun _ _ h' => h')))
  cases r with
  | none => exact wpAny_pure h₁
  | some v =>
    refine wpAny_bind (wpAny_mono h₁ (fun _ s₁' h₁' => ?_) fun _ _ h' => h')
    refine wpAny_bind (wpAny_mono h₁' (fun _ s₂ h₂ => wpAny_bind (wpAny_mono h₂ (fun ok s₃ h₃ => ?_) fun _ _ h' => h')) fun _ _ h' => h')
    cases ok with
    | false => exact wpAny_pure ⟨rfl, h₃⟩
    | true =>
      exact wpAny_bind (wpAny_bind (wpAny_mono h₃ (fun x s₄ h₄ => wpAny_bind (wpAny_mono h₄ (fun _ s₅ h₅ => wpAny_pure (wpAny_pure ⟨rfl, h₅⟩)) fun _ _ h' => h')) fun _ _ h' => h'))
section
variable {X : Cx}
def tLc (wi : TI) (g : TG) (tt : TT) (te : TE) (vs : List Nat) : TE := fun σ H Q => wi σ H fun J H1 => ∀ D, H1 D = none → ∃ W : Nat → Nat → Hp → Prop, (∃ m, W 0 m (upd H1 D (.lst []))) ∧ ∀ i m H, W i m H →
  (J.stop i H ∧ Q (.ref D) H) ∨ (J.go i H ∧ ∃ Nx : Hp → Prop, (∀ H', Nx H' → ∃ m', m' < m ∧ W (i + 1) m' H') ∧ ∀ x H', J.yld i H x H' → g x (wipe σ vs) H' fun σ2 H2 => wipe σ2 vs = wipe σ vs ∧ tt σ2 H2 fun b H3 =>
    if b = true then te σ2 H3 fun y H4 => ∃ acc, H4 D = some (.lst acc) ∧ acc.length < sizeLine ∧ Nx (upd H4 D (.lst (acc ++ [y]))) else Nx H3)
theorem lc_core {pins : List (Addr × Obj)} {s : Shared} {σ : St} {H : Hp} {Q : VK} {elt tg iter : Expr} {ifs : List Expr} {scope : Scope} {own : List (Str × Nat)} {pos pos' : Pos} {wi : TI} {g : TG} {tt : TT} {te : TE} {use : Option (Value → Sem Unit)} {Qf : Value → Shared → Prop}
    (hc : X.calm = true) (hN : X.N.Nodup) (I : Inv X pins σ H s) (hi : PI X tg iter wi) (ok : BlkOk X.N X.env.scope scope own)
    (hg : ∀ (s : Shared) (H : Hp) (C : Addr) (cl : List (Str × Addr)) (fp : List Addr), PG (X.blk s H scope (compEnvC scope cl C X.env) fp) tg g) (ht : ∀ (s : Shared) (H : Hp) (C : Addr) (cl : List (Str × Addr)) (fp : List Addr), PTs (X.blk s H scope (compEnvC scope cl C X.env) fp) ifs tt)
    (he : ∀ (s : Shared) (H : Hp) (C : Addr) (cl : List (Str × Addr)) (fp : List Addr), PE (X.blk s H scope (compEnvC scope cl C X.env) fp) elt te) (hs : ∀ x, foldedSetIterable iter X.env x = pure x)
    (h : tLc wi g tt te (own.map (·.2)) σ H Q)
    (hRR : ∀ D C s' m H', Inv X pins σ H' s' → Q (.ref D) H' → s'.heap.Ns C m → FpOk X pins H' C → compPost (model X.prog X.w) X.A X.xe use Qf (.ref D) C (.ok .next) s') :
    wpAny (model X.prog X.w) X.A (comprehension (.ListComp elt [⟨tg, iter, ifs, 0⟩] scope pos) scope X.env pos' (newList []) false (eval iter X.env) use) Qf X.xe s := by
  have hfree : ∀ y ∈ scope.names, y.2 = .free → ∃ c, X.env.cells.lookup y.1 = some c := fun y hy e => by
    rcases ok.free y hy e with k | k
    · exact I.ok.has _ (.inl k)
    · exact I.ok.has _ (.inr k)
  refine wpAny_comprehension_free (use := use) rfl hs (closure_ok hfree) ok.kind (fun y hy e => by rw [ok.uniq y hy, e])
    (thn (hi pins s σ H _ I h) fun xv s1 hx => thn hx fun itv s2 h2 => ?_)
  obtain ⟨it, fp, tn, J, H2, e, I2, T, st2, f2, q⟩ := h2
  subst e
  refine wpAny_newObj_type (newEnv_comp ?_) (by show 0 ≤ sizeLine; decide)
  generalize hD : s2.heap.objs.size = D
  have hDn : H2 D = none := I2.hok.fresh (Nat.le_of_eq hD)
  obtain ⟨W, ⟨m0, w0⟩, turn⟩ := q D hDn
  generalize hs3 : ({ s2 with heap := s2.heap.push { cls := .type "list", data := .seq ([] : List Value).toArray } } : Shared) = s3
  have I3 : Inv X pins σ (upd H2 D (.lst [])) s3 := by
    rw [← hs3]
    refine I2.laid (t' := s2.toks) (fun b o e => Heap.get?_push_of_some _ e) (Nat.le_of_eq hD) ⟨Nat.zero_le _, [], 0, .nil, ?_⟩
    rw [← hD]
    exact Heap.get?_push_size _ rfl
  have h3 : s3.heap = s2.heap.push { cls := .type "list", data := .seq ([] : List Value).toArray } := by rw [← hs3]
  have sz : ∀ b ∈ fp, b < s2.heap.objs.size := fun b hb => by
    obtain ⟨o, e, _⟩ := T.obj _ _ st2 b hb
    exact Heap.lt_size e
  have f3 : ∀ b ∈ fp, FpOk X pins (upd H2 D (.lst [])) b ∧ b < s3.heap.objs.size := fun b hb => by
    have hlt := sz b hb
    refine ⟨⟨?_, (f2 b hb).2⟩, by rw [h3, Heap.size_push]; exact Nat.lt_succ_of_lt hlt⟩
    rw [upd_ne (by rw [← hD]; exact Nat.ne_of_lt hlt)]
    exact (f2 b hb).1
  have st3 : tn 0 s3.heap := T.keep _ _ _ st2 fun b _ o e => by rw [h3]; exact Heap.get?_push_of_some _ e
  have I4 := block_start I3 ok hN f3
  have pg := hg s3 (upd H2 D (.lst [])) s3.heap.objs.size (cellsFrom (s3.heap.objs.size + 1) scope.names (cloFrom X.env.cells scope.names [])) fp
  have pt := ht s3 (upd H2 D (.lst [])) s3.heap.objs.size (cellsFrom (s3.heap.objs.size + 1) scope.names (cloFrom X.env.cells scope.names [])) fp
  have pe := he s3 (upd H2 D (.lst [])) s3.heap.objs.size (cellsFrom (s3.heap.objs.size + 1) scope.names (cloFrom X.env.cells scope.names [])) fp
  show codeAny _ _ (.compStart (.ListComp elt [⟨tg, iter, ifs, 0⟩] scope pos) 0 (.ref it) (.ref D) (compEnvC scope (cellsFrom (s3.heap.objs.size + 1) scope.names (cloFrom X.env.cells scope.names [])) s3.heap.objs.size X.env)) (compPost (model X.prog X.w) X.A X.xe use Qf (.ref D) s3.heap.objs.size) { s3 with heap := pushCells (s3.heap.push { cls := .type "dict", data := .dict #[] }) scope.names }
  have nfp : ∀ b ∈ fp, (upd H2 D (.lst [])) b = none := fun b hb => (f3 b hb).1.1
  generalize hce : compEnvC scope (cellsFrom (s3.heap.objs.size + 1) scope.names (cloFrom X.env.cells scope.names [])) s3.heap.objs.size X.env = ce at I4 pg pt pe ⊢
  have cL : ce.locals = s3.heap.objs.size := by subst hce; rfl
  generalize hH3 : upd H2 D (.lst []) = H3 at I3 I4 pg pt pe w0 nfp f3
  generalize hs4 : ({ s3 with heap := pushCells (s3.heap.push { cls := .type "dict", data := .dict #[] }) scope.names } : Shared) = s4 at I4 ⊢
  have st4 : tn 0 s4.heap := T.keep _ _ _ st3 fun b _ o e => by rw [← hs4]; exact pushCells_keeps _ _ _ _ (Heap.get?_push_of_some _ e)
  have stat : ∀ {σ' : St} {H' : Hp} {s' : Shared}, Inv (X.blk s3 H3 scope ce fp) [] σ' H' s' → (∀ b ∈ fp, H' b = none) → ∀ b ∈ fp, FpOk (X.blk s3 H3 scope ce fp) [] H' b := fun {σ' H' s'} I' hn b hb =>
    ⟨hn b hb, (I'.ok.exf b hb).1, I'.ok.exfs b hb, .inl hb, fun x c e => (I'.ok.exf b hb).2 x c e, fun p hp => absurd (show p ∈ ([] : List (Addr × Obj)) ++ [] from hp) (by simp)⟩
  have loop : codeAny (model X.prog X.w) X.A (.compLoop (.ListComp elt [⟨tg, iter, ifs, 0⟩] scope pos) 0 (.ref it) (.ref D) ce) (compPost (model X.prog X.w) X.A X.xe use Qf (.ref D) s3.heap.objs.size) s4 := by
    refine compLoop_any (fun n s' => ∃ i H', Inv (X.blk s3 H3 scope ce fp) [] (wipe σ (own.map (·.2))) H' s' ∧ tn i s'.heap ∧ (∀ b ∈ fp, H' b = none) ∧ W i n H') ?_ m0 ⟨0, H3, I4, st4, nfp, w0⟩
    rintro n s5 ⟨i, H5, I5, st5, n5, w5⟩
    rcases turn i n H5 w5 with ⟨stop, qq⟩ | ⟨go, Nx, hNx, step⟩
    · have td := T.done (X.blk s3 H3 scope ce fp) rfl rfl rfl hc i [] s5 _ H5 (fun _ _ => False) I5 (stat I5 n5) st5 stop
      refine thnF td fun r s6 ⟨hr, I6⟩ => ?_
      subst hr
      have I7 : Inv X pins σ H5 s6 := I3.call' (ch := fp) I6.os I6.base I6.hok I6.bare fun b hb => ⟨(f3 b hb).1.2.2.2.1, (f3 b hb).1.2.1, (f3 b hb).1.2.2.2.2.1, (f3 b hb).1.2.2.2.2.2⟩
      have nC : H5 s3.heap.objs.size = none := by
        have z : H5 ce.locals = none := I6.free
        rw [cL] at z
        exact z
      obtain ⟨m, hn, _⟩ := I6.loc
      have hn : s6.heap.Ns ce.locals m := hn
      rw [cL] at hn
      exact hRR D s3.heap.objs.size s6 m H5 I7 qq hn (I3.fpOk (Nat.le_refl _) nC)
    · have ti := T.item (X.blk s3 H3 scope ce fp) rfl rfl rfl hc i [] s5 _ H5 (fun _ _ => False) I5 (stat I5 n5) st5 go
      refine thnF ti fun r s6 ⟨u, hr, h6⟩ => ?_
      subst hr
      refine thnF h6 fun _ s7 ⟨x, H7, I7, r7, y7, st7, n7⟩ => ?_
      have I7' := I7.pinned (stat I7 n7) (T.obj _ _ st7)
      refine thnF (pg _ s7 _ H7 x u _ I7' r7 (step x H7 y7)) fun _ s8 ⟨σ8, H8, I8, hw8, q8⟩ => ?_
      refine thnF (pt _ s8 σ8 H8 _ I8 q8) fun b s9 ⟨H9, I9, q9⟩ => ?_
      have fin : ∀ {s' : Shared} {H' : Hp}, Inv (X.blk s3 H3 scope ce fp) ([] ++ pinsAt fp s7.heap) σ8 H' s' → Nx H' → ∃ m, m < n ∧ ∃ i H', Inv (X.blk s3 H3 scope ce fp) [] (wipe σ (own.map (·.2))) H' s' ∧ tn i s'.heap ∧ (∀ b ∈ fp, H' b = none) ∧ W i m H' := fun {s' H'} I' nx => by
        obtain ⟨m', hm, w'⟩ := hNx H' nx
        have pin' : ∀ b ∈ fp, ∀ o, s7.heap.get? b = some o → s'.heap.get? b = some o ∧ H' b = none := fun b hb o e =>
          let z := I'.pin (b, o) (List.mem_append_right _ (List.mem_append_right _ (mem_pinsAt hb e)))
          ⟨z.1, z.2.1⟩
        have hl : (wipe σ (own.map (·.2))).length = σ8.length := by rw [← hw8, wipe_length]
        refine ⟨m', hm, i + 1, H', (I'.unpinned (pins := [])).weak hl (fun j v e => ?_), T.keep _ _ _ st7 fun b hb o e => (pin' b hb o e).1, fun b hb => ?_, w'⟩
        · rw [← hw8] at e
          exact (wipe_some e).1
        · obtain ⟨o, e, _⟩ := T.obj _ _ st7 b hb
          exact (pin' b hb o e).2
      cases b with
      | false =>
        simp only [Bool.false_eq_true, if_false] at q9 ⊢
        exact fin I9 q9
      | true =>
        simp only [if_true] at q9 ⊢
        refine thnF (pe _ s9 σ8 H9 _ I9 q9) fun z s10 ⟨yv, H10, I10, r10, acc, hD10, hz10, nx⟩ => ?_
        exact app_ok (X := X.blk s3 H3 scope ce fp) I10 hD10 hz10 r10 fun s11 I11 => fin I11 nx
  exact codeAny_compStart_list loop (T.self X.A 0 _ _ _ st4 loop)
theorem pe_lc {elt tg iter : Expr} {ifs : List Expr} {scope : Scope} {own : List (Str × Nat)} {pos : Pos} {wi : TI} {g : TG} {tt : TT} {te : TE} (hc : X.calm = true) (hN : X.N.Nodup) (hi : PI X tg iter wi) (ok : BlkOk X.N X.env.scope scope own)
    (hg : ∀ (s : Shared) (H : Hp) (C : Addr) (cl : List (Str × Addr)) (fp : List Addr), PG (X.blk s H scope (compEnvC scope cl C X.env) fp) tg g) (ht : ∀ (s : Shared) (H : Hp) (C : Addr) (cl : List (Str × Addr)) (fp : List Addr), PTs (X.blk s H scope (compEnvC scope cl C X.env) fp) ifs tt)
    (he : ∀ (s : Shared) (H : Hp) (C : Addr) (cl : List (Str × Addr)) (fp : List Addr), PE (X.blk s H scope (compEnvC scope cl C X.env) fp) elt te) (hs : ∀ x, foldedSetIterable iter X.env x = pure x := by intro _; rfl) :
    PE X (.ListComp elt [⟨tg, iter, ifs, 0⟩] scope pos) (tLc wi g tt te (own.map (·.2))) := by
  intro pins s σ H Q I h
  rw [eval_ListComp]
  refine lc_core hc hN I hi ok hg ht he hs h fun D C s' m H' I' q hn f => ⟨m, hn, fun h'' sb => ?_⟩
  obtain ⟨f0, f1, f2, f3, f4, f5⟩ := f
  exact ⟨.ref D, H', I'.turned (t' := s'.toks) (fun b o hb e => (sb.2 b hb).trans e) f0 f1 f3 f4 f5, rfl, q⟩
theorem ps_setLc {i : Nat} {y : Str} {py : Pos} {elt tg iter : Expr} {ifs : List Expr} {scope : Scope} {own : List (Str × Nat)} {pos spos : Pos} {wi : TI} {g : TG} {tt : TT} {te : TE} (hc : X.calm = true) (hN : X.N.Nodup) (hy : X.N[i]? = some y) (hyl : X.env.scope.names.lookup y = some .local)
    (hsw : swapsWith (.ListComp elt [⟨tg, iter, ifs, 0⟩] scope pos) (some (.Name y py)) spos.line X.env = pure true) (hi : PI X tg iter wi) (ok : BlkOk X.N X.env.scope scope own)
    (hg : ∀ (s : Shared) (H : Hp) (C : Addr) (cl : List (Str × Addr)) (fp : List Addr), PG (X.blk s H scope (compEnvC scope cl C X.env) fp) tg g) (ht : ∀ (s : Shared) (H : Hp) (C : Addr) (cl : List (Str × Addr)) (fp : List Addr), PTs (X.blk s H scope (compEnvC scope cl C X.env) fp) ifs tt)
    (he : ∀ (s : Shared) (H : Hp) (C : Addr) (cl : List (Str × Addr)) (fp : List Addr), PE (X.blk s H scope (compEnvC scope cl C X.env) fp) elt te) (hs : ∀ x, foldedSetIterable iter X.env x = pure x := by intro _; rfl) :
    PS X (.Assign [.Name y py] (.ListComp elt [⟨tg, iter, ifs, 0⟩] scope pos) spos) (tAsg (tLc wi g tt te (own.map (·.2))) (gName i)) := by
  intro pins s σ H D I h
  rw [exec_Assign_Name_used _ _ _ _ hsw]
  refine wpAny_bind (wpAny_standAt (wpAny_bind ?_))
  show wpAny _ X.A (do let _ ← comprehension (.ListComp elt [⟨tg, iter, ifs, 0⟩] scope pos) scope X.env (firstIterPos [⟨tg, iter, ifs, 0⟩] pos) (newList []) false (eval iter X.env) (some (assign (.Name y py) X.env))) _ _ s
  have h : tLc wi g tt te (own.map (·.2)) σ H (fun x H1 => gName i x σ H1 D.nx) := h
  refine wpAny_bind (thn (lc_core (Qf := fun _ s' => SP X pins D .next s') hc hN I hi ok hg ht he hs h fun L C s' m H' I' q hn f => ?_) fun _ s' hq => wpAny_pure (wpAny_pure hq))
  show wpAny _ _ (assign (.Name y py) X.env (.ref L)) _ _ _
  refine wpAny_assign_Name (store_ok2 (v := V.ref L) I' hN hy (.inl hyl) rfl (fun s2 I2 ⟨a, sb, ha⟩ => ?_) (.inr hyl))
  obtain ⟨f0, f1, f2, f3, f4, f5⟩ := f
  have haC : C ≠ a := by
    rcases ha with z | z
    · rw [z]; exact f1
    · exact fun e => f4 y a z e.symm
  refine ⟨m, hn.sameBut sb haC, fun h3 sb3 => ?_⟩
  exact ⟨_, H', I2.turned (t' := s2.toks) (fun b o hb e => (sb3.2 b hb).trans e) f0 f1 f3 f4 f5, q⟩
theorem sw_true {elt : Expr} {gs : List Comprehension} {scope : Scope} {pos py : Pos} {y : Str} {l : Nat} {env : Env} (hk : env.scope.kind = .function) (hy : env.scope.names.lookup y = some .local) (hl : (py.line == pos.line) = true)
    (ha : (scope.names.any fun (n, k) => n == y && (k == .local || k == .cell)) = false) : swapsWith (.ListComp elt gs scope pos) (some (.Name y py)) l env = pure true := by
  have ky : env.kindOf y = some .local := hy
  have hb : env.blockKind = .function := by unfold Env.blockKind; rw [hk]; rfl
  unfold swapsWith
  simp only [hb, ky, ha, Expr.pos, hl]
  rfl
end
theorem lc_range {lo : Int} {n : Nat} {g : TG} {tt : TT} {te : TE} {vs : List Nat} {σ : St} {H1 : Hp} {D : Addr} {Qd : Hp → Prop} (Pv : Nat → Hp → Prop) (h0 : Pv 0 (upd H1 D (.lst [])))
    (hs : ∀ i H, i < n → Pv i H → g (.int (lo + i)) (wipe σ vs) H fun σ2 H2 => wipe σ2 vs = wipe σ vs ∧ tt σ2 H2 fun b H3 =>
      if b = true then te σ2 H3 fun y H4 => ∃ acc, H4 D = some (.lst acc) ∧ acc.length < sizeLine ∧ Pv (i + 1) (upd H4 D (.lst (acc ++ [y]))) else Pv (i + 1) H3) (hd : ∀ H, Pv n H → Qd H) :
    ∃ W : Nat → Nat → Hp → Prop, (∃ m, W 0 m (upd H1 D (.lst []))) ∧ ∀ i m H, W i m H →
      ((Itr lo n).stop i H ∧ Qd H) ∨ ((Itr lo n).go i H ∧ ∃ Nx : Hp → Prop, (∀ H', Nx H' → ∃ m', m' < m ∧ W (i + 1) m' H') ∧ ∀ x H', (Itr lo n).yld i H x H' → g x (wipe σ vs) H' fun σ2 H2 => wipe σ2 vs = wipe σ vs ∧ tt σ2 H2 fun b H3 =>
        if b = true then te σ2 H3 fun y H4 => ∃ acc, H4 D = some (.lst acc) ∧ acc.length < sizeLine ∧ Nx (upd H4 D (.lst (acc ++ [y]))) else Nx H3) := by
  refine ⟨fun i m H => m = n - i ∧ i ≤ n ∧ Pv i H, ⟨n, by simp, Nat.zero_le _, h0⟩, ?_⟩
  rintro i m H ⟨rfl, hi, p⟩
  by_cases hlt : i < n
  · refine .inr ⟨hlt, Pv (i + 1), fun H' p' => ⟨n - (i + 1), by omega, rfl, hlt, p'⟩, fun x H' y => ?_⟩
    obtain ⟨e, y⟩ := y
    subst e y
    exact hs i _ hlt p
  · have e : i = n := by omega
    subst e
    exact .inl ⟨Nat.le_refl _, hd H p⟩
theorem lc_list {K : PySem.W.Frag} {a : Addr} {xs : List V} {g : TG} {tt : TT} {te : TE} {vs : List Nat} {σ : St} {H1 : Hp} {D : Addr} {Qd : Hp → Prop} (Pv : Nat → Hp → Prop) (h0 : Pv 0 (upd H1 D (.lst []))) (hl : ∀ i H, i ≤ xs.length → Pv i H → SqL K H a xs)
    (hs : ∀ i x H, xs[i]? = some x → Pv i H → g x (wipe σ vs) H fun σ2 H2 => wipe σ2 vs = wipe σ vs ∧ tt σ2 H2 fun b H3 =>
      if b = true then te σ2 H3 fun y H4 => ∃ acc, H4 D = some (.lst acc) ∧ acc.length < sizeLine ∧ Pv (i + 1) (upd H4 D (.lst (acc ++ [y]))) else Pv (i + 1) H3) (hd : ∀ H, Pv xs.length H → Qd H) :
    ∃ W : Nat → Nat → Hp → Prop, (∃ m, W 0 m (upd H1 D (.lst []))) ∧ ∀ i m H, W i m H →
      ((Itl K a).stop i H ∧ Qd H) ∨ ((Itl K a).go i H ∧ ∃ Nx : Hp → Prop, (∀ H', Nx H' → ∃ m', m' < m ∧ W (i + 1) m' H') ∧ ∀ x H', (Itl K a).yld i H x H' → g x (wipe σ vs) H' fun σ2 H2 => wipe σ2 vs = wipe σ vs ∧ tt σ2 H2 fun b H3 =>
        if b = true then te σ2 H3 fun y H4 => ∃ acc, H4 D = some (.lst acc) ∧ acc.length < sizeLine ∧ Nx (upd H4 D (.lst (acc ++ [y]))) else Nx H3) := by
  refine ⟨fun i m H => m = xs.length - i ∧ i ≤ xs.length ∧ Pv i H, ⟨xs.length, by simp, Nat.zero_le _, h0⟩, ?_⟩
  rintro i m H ⟨rfl, hi, p⟩
  have q := hl i H hi p
  by_cases hlt : i < xs.length
  · refine .inr ⟨⟨xs, xs[i], q, by simp [hlt]⟩, Pv (i + 1), fun H' p' => ⟨xs.length - (i + 1), by omega, rfl, hlt, p'⟩, fun x H' y => ?_⟩
    obtain ⟨e, y⟩ := y
    subst e
    exact hs i x _ (y xs q) p
  · have e : i = xs.length := by omega
    subst e
    exact .inl ⟨⟨xs, q, Nat.le_refl _⟩, hd H p⟩
theorem lc_tup {K : PySem.W.Frag} {a : Addr} {xs : List V} {g : TG} {tt : TT} {te : TE} {vs : List Nat} {σ : St} {H1 : Hp} {D : Addr} {Qd : Hp → Prop} (Pv : Nat → Hp → Prop) (h0 : Pv 0 (upd H1 D (.lst []))) (hl : ∀ i H, i ≤ xs.length → Pv i H → SqT K H a xs)
    (hs : ∀ i x H, xs[i]? = some x → Pv i H → g x (wipe σ vs) H fun σ2 H2 => wipe σ2 vs = wipe σ vs ∧ tt σ2 H2 fun b H3 =>
      if b = true then te σ2 H3 fun y H4 => ∃ acc, H4 D = some (.lst acc) ∧ acc.length < sizeLine ∧ Pv (i + 1) (upd H4 D (.lst (acc ++ [y]))) else Pv (i + 1) H3) (hd : ∀ H, Pv xs.length H → Qd H) :
    ∃ W : Nat → Nat → Hp → Prop, (∃ m, W 0 m (upd H1 D (.lst []))) ∧ ∀ i m H, W i m H →
      ((Itt K a).stop i H ∧ Qd H) ∨ ((Itt K a).go i H ∧ ∃ Nx : Hp → Prop, (∀ H', Nx H' → ∃ m', m' < m ∧ W (i + 1) m' H') ∧ ∀ x H', (Itt K a).yld i H x H' → g x (wipe σ vs) H' fun σ2 H2 => wipe σ2 vs = wipe σ vs ∧ tt σ2 H2 fun b H3 =>
        if b = true then te σ2 H3 fun y H4 => ∃ acc, H4 D = some (.lst acc) ∧ acc.length < sizeLine ∧ Nx (upd H4 D (.lst (acc ++ [y]))) else Nx H3) := by
  refine ⟨fun i m H => m = xs.length - i ∧ i ≤ xs.length ∧ Pv i H, ⟨xs.length, by simp, Nat.zero_le _, h0⟩, ?_⟩
  rintro i m H ⟨rfl, hi, p⟩
  have q := hl i H hi p
  by_cases hlt : i < xs.length
  · refine .inr ⟨⟨xs, xs[i], q, by simp [hlt]⟩, Pv (i + 1), fun H' p' => ⟨xs.length - (i + 1), by omega, rfl, hlt, p'⟩, fun x H' y => ?_⟩
    obtain ⟨e, y⟩ := y
    subst e
    exact hs i x _ (y xs q) p
  · have e : i = xs.length := by omega
    subst e
    exact .inl ⟨⟨xs, q, Nat.le_refl _⟩, hd H p⟩
def blkC (N : List Str) (sc scope : Scope) (own : List (Str × Nat)) : Bool :=
  (match scope.kind with | .function => true | _ => false) && (scope.names.all fun y => decide (scope.names.lookup y.1 = some y.2)) && (own.all fun p => decide (N[p.2]? = some p.1)) &&
    (scope.names.all fun y => match y.2 with
      | .free => (match sc.names.lookup y.1 with | some .cell => true | some .free => true | _ => false)
      | .local => decide (y.1 ∈ own.map (·.1)) || decide (y.1 ∉ N)
      | .cell => decide (y.1 ∈ own.map (·.1)) || decide (y.1 ∉ N)
      | _ => true)
theorem blkOk_by {N : List Str} {sc scope : Scope} {own : List (Str × Nat)} (h : blkC N sc scope own = true) : BlkOk N sc scope own := by
  unfold blkC at h
  simp only [Bool.and_eq_true, List.all_eq_true, decide_eq_true_eq] at h
  obtain ⟨⟨⟨h1, h2⟩, h3⟩, h4⟩ := h
  refine ⟨?_, h2, h3, fun y hy e => ?_, fun y hy e => ?_⟩
  · split at h1
    · assumption
    · cases h1
  · have q := h4 y hy
    simp only [e] at q
    split at q <;> first | exact .inl (by assumption) | exact .inr (by assumption) | cases q
  · have q := h4 y hy
    rcases e with e | e <;> (simp only [e, Bool.or_eq_true, decide_eq_true_eq] at q; exact q)
end L2
namespace L2
open PySem PySem.Spec PyProof.Rows
end L2
namespace L2
open PySem PySem.Spec PyProof.Rows
section
variable {κ : Type} [DecidableEq κ]
def valV (kvs : List (κ × V)) (k : κ) : Option V := (kvs.find? fun kv => decide (kv.1 = k)).map (·.2)
def putK (kvs : List (κ × V)) (k : κ) (v : V) : List (κ × V) :=
  if (kvs.any fun kv => decide (kv.1 = k)) = true then kvs.map (fun kv => if kv.1 = k then (kv.1, v) else kv) else kvs ++ [(k, v)]
def dropK (kvs : List (κ × V)) (k : κ) : List (κ × V) := kvs.filter fun kv => decide (kv.1 ≠ k)
theorem valV_pos {p : κ × V} {r : List (κ × V)} {k : κ} (e : p.1 = k) : valV (p :: r) k = some p.2 := by simp [valV, List.find?_cons, e]
theorem valV_neg {p : κ × V} {r : List (κ × V)} {k : κ} (e : ¬ p.1 = k) : valV (p :: r) k = valV r k := by simp [valV, List.find?_cons, e]
theorem valV_any (k : κ) : ∀ kvs : List (κ × V), (kvs.any fun kv => decide (kv.1 = k)) = (valV kvs k).isSome
  | [] => rfl
  | p :: r => by
    rw [List.any_cons]
    by_cases e : p.1 = k
    · simp only [valV_pos e, decide_eq_true e, Bool.true_or, Option.isSome_some]
    · rw [valV_neg e, decide_eq_false e, Bool.false_or]; exact valV_any k r
theorem valV_map (k j : κ) (y : V) : ∀ kvs : List (κ × V), valV (kvs.map fun kv => if kv.1 = k then (kv.1, y) else kv) j = (valV kvs j).map fun x => if j = k then y else x
  | [] => rfl
  | p :: r => by
    have ih := valV_map k j y r
    rw [List.map_cons]
    by_cases h : p.1 = k
    · rw [if_pos h]
      by_cases e : p.1 = j
      · rw [valV_pos (p := (p.1, y)) e, valV_pos e, Option.map_some, if_pos (e.symm.trans h)]
      · rw [valV_neg (p := (p.1, y)) e, valV_neg e, ih]
    · rw [if_neg h]
      by_cases e : p.1 = j
      · rw [valV_pos (p := p) e, valV_pos e, Option.map_some, if_neg (fun z => h (e.trans z))]
      · rw [valV_neg (p := p) e, valV_neg e, ih]
theorem valV_snoc (k j : κ) (y : V) : ∀ kvs : List (κ × V), valV kvs k = none → valV (kvs ++ [(k, y)]) j = if j = k then some y else valV kvs j
  | [], _ => by
    by_cases e : k = j
    · rw [if_pos e.symm]; exact valV_pos (p := (k, y)) e
    · rw [if_neg (fun z => e z.symm)]; exact valV_neg (p := (k, y)) e
  | p :: r, hn => by
    rw [List.cons_append]
    have hk : ¬ p.1 = k := fun z => by rw [valV_pos z] at hn; cases hn
    rw [valV_neg hk] at hn
    have ih := valV_snoc k j y r hn
    by_cases e : p.1 = j
    · rw [valV_pos e, valV_pos e, if_neg (fun z => hk (e.trans z))]
    · rw [valV_neg e, valV_neg e, ih]
theorem valV_put (kvs : List (κ × V)) (k j : κ) (y : V) : valV (putK kvs k y) j = if j = k then some y else valV kvs j := by
  unfold putK
  by_cases a : (kvs.any fun kv => decide (kv.1 = k)) = true
  · rw [if_pos a, valV_map]
    rw [valV_any] at a
    by_cases e : j = k
    · obtain ⟨x, hx⟩ := Option.isSome_iff_exists.mp a
      rw [if_pos e, e, hx, Option.map_some, if_pos rfl]
    · rw [if_neg e]
      cases valV kvs j with
      | none => rfl
      | some x => rw [Option.map_some, if_neg e]
  · rw [if_neg a]
    refine valV_snoc k j y kvs ?_
    rw [valV_any] at a
    cases q : valV kvs k with
    | none => rfl
    | some x => rw [q] at a; exact (a rfl).elim
theorem length_putK (kvs : List (κ × V)) (k : κ) (v : V) : (putK kvs k v).length ≤ kvs.length + 1 := by
  unfold putK
  split
  · rw [List.length_map]; omega
  · rw [List.length_append, List.length_cons, List.length_nil]; omega
theorem RelO.isSome_eq {o : Option V} {u : Option Value} (r : RelO o u) : o.isSome = u.isSome := by
  cases o with
  | none => cases u with
    | none => rfl
    | some _ => exact (show False from r).elim
  | some _ => cases u with
    | none => exact (show False from r).elim
    | some _ => rfl
theorem RelO.getD {o : Option V} {u : Option Value} {d : V} {d' : Value} (r : RelO o u) (rd : RelV d d') : RelV (o.getD d) (u.getD d') := by
  cases o with
  | none => cases u with
    | none => exact rd
    | some _ => exact (show False from r).elim
  | some _ => cases u with
    | none => exact (show False from r).elim
    | some _ => exact r
theorem KV.val {kvs : List (κ × V)} {vs : List (κ × Value)} (r : KV kvs vs) (k : κ) : RelO (valV kvs k) (valueAt vs k) := by
  unfold KV at r
  induction r with
  | nil => exact True.intro
  | @cons p q ps qs h t ih =>
    obtain ⟨h1, h2⟩ := h
    by_cases e : p.1 = k
    · have e' : q.1 = k := h1.symm.trans e
      have b : valueAt (q :: qs) k = some q.2 := by simp [valueAt, List.find?_cons, e']
      rw [valV_pos e, b]; exact h2
    · have e' : ¬ q.1 = k := fun z => e (h1.trans z)
      have b : valueAt (q :: qs) k = valueAt qs k := by simp [valueAt, List.find?_cons, e']
      rw [valV_neg e, b]; exact ih
theorem KV.any {kvs : List (κ × V)} {vs : List (κ × Value)} (r : KV kvs vs) (k : κ) : (kvs.any fun kv => decide (kv.1 = k)) = vs.any fun kv => decide (kv.1 = k) := by
  unfold KV at r
  induction r with
  | nil => rfl
  | cons h t ih => rw [List.any_cons, List.any_cons, ih, h.1]
theorem KV.repl {kvs : List (κ × V)} {vs : List (κ × Value)} (r : KV kvs vs) (k : κ) {y : V} {u : Value} (ry : RelV y u) :
    KV (kvs.map fun kv => if kv.1 = k then (kv.1, y) else kv) (vs.map fun kv => if kv.1 = k then (kv.1, u) else kv) := by
  unfold KV at r ⊢
  induction r with
  | nil => exact .nil
  | @cons p q ps qs h t ih =>
    rw [List.map_cons, List.map_cons]
    refine .cons ?_ ih
    obtain ⟨h1, h2⟩ := h
    by_cases e : p.1 = k
    · rw [if_pos e, if_pos (h1.symm.trans e)]; exact ⟨h1, ry⟩
    · rw [if_neg e, if_neg (fun z => e (h1.trans z))]; exact ⟨h1, h2⟩
theorem KV.put {kvs : List (κ × V)} {vs : List (κ × Value)} (r : KV kvs vs) (k : κ) {y : V} {u : Value} (ry : RelV y u) : KV (putK kvs k y) (stored vs k u) := by
  unfold putK stored
  rw [r.any k]
  by_cases e : (vs.any fun kv => decide (kv.1 = k)) = true
  · rw [if_pos e, if_pos e]; exact r.repl k ry
  · rw [if_neg e, if_neg e]; exact Paired.snoc r ⟨rfl, ry⟩
theorem KV.drop {kvs : List (κ × V)} {vs : List (κ × Value)} (r : KV kvs vs) (k : κ) : KV (dropK kvs k) (without vs k) := by
  unfold KV at r ⊢
  unfold dropK without
  induction r with
  | nil => exact .nil
  | @cons p q ps qs h t ih =>
    obtain ⟨h1, h2⟩ := h
    rw [List.filter_cons, List.filter_cons]
    by_cases e : p.1 = k
    · have a : ¬ decide (p.1 ≠ k) = true := by simp [e]
      have b : ¬ decide (q.1 ≠ k) = true := by simp [h1.symm.trans e]
      rw [if_neg a, if_neg b]; exact ih
    · have e' : ¬ q.1 = k := fun z => e (h1.trans z)
      have a : decide (p.1 ≠ k) = true := by simp [e]
      have b : decide (q.1 ≠ k) = true := by simp [e']
      rw [if_pos a, if_pos b]; exact .cons ⟨h1, h2⟩ ih
theorem KV.keys {kvs : List (κ × V)} {vs : List (κ × Value)} (r : KV kvs vs) : kvs.map (·.1) = vs.map (·.1) := by
  unfold KV at r
  induction r with
  | nil => rfl
  | cons h t ih => rw [List.map_cons, List.map_cons, ih, h.1]
theorem KV.length {kvs : List (κ × V)} {vs : List (κ × Value)} (r : KV kvs vs) : kvs.length = vs.length := Paired.length r
end
theorem kV_is {P : Program} {w : World} {k : Key} {u : Value} (r : RelV (kV k) u) : (mixKind P w).is k u = true := by
  cases k with
  | inl i => obtain ⟨t, e⟩ := (show ∃ t, u = Value.int i t from r); subst e; exact mixKind_int P w i t
  | inr x => obtain ⟨t, e⟩ := (show ∃ t, u = Value.str x t from r); subst e; exact mixKind_str P w x t
theorem items_are {P : Program} {w : World} : ∀ {ks : List Key} {us : List Value}, Vals (ks.map kV) us → ItemsAre (mixKind P w) ks us
  | [], _, r => by rw [List.map_nil] at r; cases r; exact .nil
  | k :: ks, _, r => by
    rw [List.map_cons] at r
    cases r with
    | cons h t => exact .cons (kV_is h) (items_are t)
abbrev KT (H : Hp) : List (List Key × V) → List (List Key × Addr × Value) → Prop := Paired fun p q => p.1 = q.1 ∧ H q.2.1 = some (.tup (p.1.map kV)) ∧ RelV p.2 q.2.2
theorem KT.val {H : Hp} {kvs : List (List Key × V)} {xs : List (List Key × Addr × Value)} (r : KT H kvs xs) (k : List Key) : RelO (valV kvs k) ((atKey xs k).map (·.2)) := by
  induction r with
  | nil => exact True.intro
  | @cons p q ps qs h t ih =>
    obtain ⟨h1, _, h2⟩ := h
    by_cases e : p.1 = k
    · have e' : q.1 = k := h1.symm.trans e
      have b : atKey (q :: qs) k = some q.2 := by simp [atKey, List.find?_cons, e']
      rw [valV_pos e, b]; exact h2
    · have e' : ¬ q.1 = k := fun z => e (h1.trans z)
      have b : atKey (q :: qs) k = atKey qs k := by simp [atKey, List.find?_cons, e']
      rw [valV_neg e, b]; exact ih
theorem KT.repl {H : Hp} {kvs : List (List Key × V)} {xs : List (List Key × Addr × Value)} (r : KT H kvs xs) (k : List Key) {y : V} {u : Value} (ry : RelV y u) :
    KT H (kvs.map fun kv => if kv.1 = k then (kv.1, y) else kv) (xs.map (putAt k u)) := by
  induction r with
  | nil => exact .nil
  | @cons p q ps qs h t ih =>
    rw [List.map_cons, List.map_cons]
    refine .cons ?_ ih
    obtain ⟨h1, h2, h3⟩ := h
    unfold putAt
    by_cases e : p.1 = k
    · rw [if_pos e, if_pos (h1.symm.trans e)]; exact ⟨h1, h2, ry⟩
    · rw [if_neg e, if_neg (fun z => e (h1.trans z))]; exact ⟨h1, h2, h3⟩
theorem KT.put {H : Hp} {kvs : List (List Key × V)} {xs : List (List Key × Addr × Value)} (r : KT H kvs xs) (k : List Key) {b : Addr} {y : V} {u : Value} (hb : H b = some (.tup (k.map kV))) (ry : RelV y u) :
    KT H (putK kvs k y) (storedH xs k b u) := by
  have e : (kvs.any fun kv => decide (kv.1 = k)) = (atKey xs k).isSome := by
    rw [valV_any, (r.val k).isSome_eq, Option.isSome_map]
  unfold putK storedH
  rw [e]
  by_cases q : (atKey xs k).isSome = true
  · rw [if_pos q, if_pos q]; exact r.repl k ry
  · rw [if_neg q, if_neg q]; exact Paired.snoc r ⟨rfl, hb, ry⟩
theorem KT.keeps {H H' : Hp} {kvs : List (List Key × V)} {xs : List (List Key × Addr × Value)} (r : KT H kvs xs) (ht : ∀ b ys, H b = some (.tup ys) → H' b = some (.tup ys)) : KT H' kvs xs :=
  Paired.mapP r fun _ _ z => ⟨z.1, ht _ _ z.2.1, z.2.2⟩
section
variable {P : Program} {w : World} {H : Hp} {h : Heap} {a : Addr}
theorem rd_of {u : HO} (ok : HOk P w H h) (e : Rd H a u) : ObjOk P w H h a u := e.ok ok
theorem dk_rd {kvs : List (Key × V)} (ok : HOk P w H h) (e : Rd H a (.dK kvs)) : kvs.length ≤ sizeLine ∧ (a == sysModules) = false ∧ ∃ vs, KV kvs vs ∧ h.DictOf (mixKind P w) a vs :=
  show ObjOk P w H h a (.dK kvs) from rd_of ok e
theorem dk_of {kvs : List (Key × V)} (ok : HOk P w H h) (e : H a = some (.dK kvs)) : kvs.length ≤ sizeLine ∧ (a == sysModules) = false ∧ ∃ vs, KV kvs vs ∧ h.DictOf (mixKind P w) a vs := dk_rd ok (.inl e)
theorem key_of {ks : List Key} (ok : HOk P w H h) (e : H a = some (.tup (ks.map kV))) : (tupleKind (mixKind P w)).is h ks a := by
  obtain ⟨_, its, r, o, h1, h2, n, h3⟩ := (show ObjOk P w H h a (.tup (ks.map kV)) from ok a _ e)
  exact ⟨o, its.toArray, n, h1, h2, h3, by simpa using items_are r⟩
theorem dt_rd {kvs : List (List Key × V)} (ok : HOk P w H h) (e : Rd H a (.dT kvs)) : kvs.length ≤ sizeLine ∧ (a == sysModules) = false ∧
    ∃ xs, KT H kvs xs ∧ h.DictOfH (tupleKind (mixKind P w)) a xs := by
  obtain ⟨z, y, xs, r, o, es, ep, h1, h2, h3, h4, h5⟩ := (show ObjOk P w H h a (.dT kvs) from rd_of ok e)
  refine ⟨z, y, xs, r, o, es, ep, h1, h2, h3, h4, fun x hx => ?_, h5⟩
  have all : ∀ {l : List (List Key × V)} {m : List (List Key × Addr × Value)}, KT H l m → ∀ x ∈ m, (tupleKind (mixKind P w)).is h x.1 x.2.1 := by
    intro l m q
    induction q with
    | nil => intro x hx; exact nomatch hx
    | @cons p q ps qs hq t ih =>
      intro x hx
      rcases List.mem_cons.mp hx with e | hx
      · subst e
        exact key_of ok (by rw [← hq.1]; exact hq.2.1)
      · exact ih x hx
  exact all r x hx
theorem dt_of {kvs : List (List Key × V)} (ok : HOk P w H h) (e : H a = some (.dT kvs)) : kvs.length ≤ sizeLine ∧ (a == sysModules) = false ∧
    ∃ xs, KT H kvs xs ∧ h.DictOfH (tupleKind (mixKind P w)) a xs := dt_rd ok (.inl e)
end
def DGet (H : Hp) (a : Addr) (y : V) (r : Option V) : Prop :=
  (∃ kvs k, Rd H a (.dK kvs) ∧ y = kV k ∧ r = valV kvs k) ∨ ∃ kvs k b, Rd H a (.dT kvs) ∧ y = .ref b ∧ H b = some (.tup (k.map kV)) ∧ r = valV kvs k
def DPut (H : Hp) (a : Addr) (y v : V) (H' : Hp) : Prop :=
  (∃ kvs k, H a = some (.dK kvs) ∧ y = kV k ∧ kvs.length < sizeLine ∧ H' = upd H a (.dK (putK kvs k v))) ∨
  ∃ kvs k b, H a = some (.dT kvs) ∧ y = .ref b ∧ H b = some (.tup (k.map kV)) ∧ kvs.length < sizeLine ∧ H' = upd H a (.dT (putK kvs k v))
theorem DGet.k {H : Hp} {a : Addr} {kvs : List (Key × V)} {k : Key} (e : H a = some (.dK kvs)) : DGet H a (kV k) (valV kvs k) := .inl ⟨kvs, k, .inl e, rfl, rfl⟩
theorem DGet.t {H : Hp} {a b : Addr} {kvs : List (List Key × V)} {k : List Key} (e : H a = some (.dT kvs)) (eb : H b = some (.tup (k.map kV))) : DGet H a (.ref b) (valV kvs k) := .inr ⟨kvs, k, b, .inl e, rfl, eb, rfl⟩
theorem DPut.k {H : Hp} {a : Addr} {kvs : List (Key × V)} {k : Key} {v : V} (e : H a = some (.dK kvs)) (hl : kvs.length < sizeLine) : DPut H a (kV k) v (upd H a (.dK (putK kvs k v))) := .inl ⟨kvs, k, e, rfl, hl, rfl⟩
theorem DPut.t {H : Hp} {a b : Addr} {kvs : List (List Key × V)} {k : List Key} {v : V} (e : H a = some (.dT kvs)) (eb : H b = some (.tup (k.map kV))) (hl : kvs.length < sizeLine) :
    DPut H a (.ref b) v (upd H a (.dT (putK kvs k v))) := .inr ⟨kvs, k, b, e, rfl, eb, hl, rfl⟩
section
variable {X : Cx} {pins : List (Addr × Obj)} {σ : St} {H : Hp} {s : Shared} {a : Addr} {y v : V} {u r : Value} {o : Option V} {A : Around} {E : Value → Shared → Prop}
theorem Inv.big (I : Inv X pins σ H s) : sysModules < s.heap.objs.size := by
  have h : mainGlobals < s.heap.objs.size := (I.mod.glob.keeps I.bk).lt
  exact Nat.lt_trans (by decide) h
theorem d_getItem {Q : Value → Shared → Prop} (hu : A.units + 1 < cLine) (I : Inv X pins σ H s) (g : DGet H a y (some v)) (ry : RelV y u) (h : ∀ w' s', Inv X pins σ H s' → RelV v w' → Q w' s') :
    wpAny (model X.prog X.w) A (getItem (.ref a) u) Q E s := by
  rcases g with ⟨kvs, k, e, ey, l⟩ | ⟨kvs, k, b, e, ey, eb, l⟩
  · subst ey
    obtain ⟨z, hd, vs, rel, dd⟩ := dk_rd I.hok e
    obtain ⟨w', hw, rw'⟩ := RelO.some_of (v := v) (o := valueAt vs k) (by rw [l]; exact rel.val k)
    exact wpAny_getItem_of (kV_is ry) dd.mapOf hw (h w' _ (I.tok _) rw')
  · subst ey
    cases (show u = Value.ref b from ry)
    obtain ⟨z, hd, xs, rel, dd⟩ := dt_rd I.hok e
    obtain ⟨w', hw, rw'⟩ := RelO.some_of (v := v) (o := (atKey xs k).map (·.2)) (by rw [l]; exact rel.val k)
    obtain ⟨p, hp, hp2⟩ := Option.map_eq_some_iff.mp hw
    refine wpAny_getItem_heap (tupleKind_room_in1 hu) (key_of I.hok eb) dd hp ?_
    rw [hp2]
    exact h w' _ (I.tok _) rw'
theorem d_write {h' : Heap} {t' : Nat} {ob : HO} (I : Inv X pins σ H s) (mu : Mut (H a)) (hs : Heap.SameBut a s.heap h') (he : ∃ q, h'.get? a = some q) (new : ObjOk X.prog X.w (upd H a ob) h' a ob) :
    Inv X pins σ (upd H a ob) { s with heap := h', toks := t' } :=
  I.write (x := a) (e := a) mu (.inl rfl) (fun b q hb z => (hs.2 b hb).trans z) he new
theorem dk_new {P : Program} {w : World} {H' : Hp} {h' : Heap} {kvs : List (Key × V)} {vs : List (Key × Value)} (z : kvs.length ≤ sizeLine) (hd : (a == sysModules) = false) (rel : KV kvs vs) (dd : h'.DictOf (mixKind P w) a vs) :
    ObjOk P w H' h' a (.dK kvs) := ⟨z, hd, vs, rel, dd⟩
theorem d_setItem {H' : Hp} {Q : Unit → Shared → Prop} (hu : A.units + 1 < cLine) (I : Inv X pins σ H s) (g : DPut H a y v H') (ry : RelV y u) (rv : RelV v r) (h : ∀ s', Inv X pins σ H' s' → Q () s') :
    wpAny (model X.prog X.w) A (setItem (.ref a) u r) Q E s := by
  rcases g with ⟨kvs, k, e, ey, l, eH⟩ | ⟨kvs, k, b, e, ey, eb, l, eH⟩
  · subst ey eH
    obtain ⟨z, hd, vs, rel, dd⟩ := dk_of I.hok e
    have hz : vs.length ≤ sizeLine := by rw [← rel.length]; exact z
    have hl : (putK kvs k v).length ≤ sizeLine := by have := length_putK kvs k v; omega
    refine wpAny_setItem_pairs (hsz := hz) (kV_is ry) dd fun h' dd' hs => h _ ?_
    have he : ∃ q, h'.get? a = some q := let ⟨q, _, _, hq, _⟩ := dd'; ⟨q, hq⟩
    exact d_write I (by rw [e]; exact True.intro) hs he (dk_new hl hd (rel.put k rv) dd')
  · subst ey eH
    cases (show u = Value.ref b from ry)
    obtain ⟨z, hd, xs, rel, dd⟩ := dt_of I.hok e
    have hz : xs.length ≤ sizeLine := by rw [← Paired.length rel]; exact z
    have hl : (putK kvs k v).length ≤ sizeLine := by have := length_putK kvs k v; omega
    refine wpAny_setItem_heap (hsz := hz) (tupleKind_room_in1 hu) (key_of I.hok eb) dd fun h' dd' hs => h _ ?_
    obtain ⟨q, es, ep, hq, h2, h3, h4, _, h5⟩ := dd'
    refine d_write I (by rw [e]; exact True.intro) hs ⟨q, hq⟩ ⟨hl, hd, _, (rel.put k eb rv).keeps fun c ys ec => ?_, q, es, ep, hq, h2, h3, h4, h5⟩
    rw [upd_ne (ne_of ec e (fun z => nomatch z))]
    exact ec
end
def NoSl (i : Expr) : Prop := ∀ ov iv, subscripted i false ov iv = operate [ov, iv] (getItem ov iv)
theorem subD_of {prog : Program} {w : World} {A : Around} {E : Value → Shared → Prop} {s : Shared} {env : Env} {value slice : Expr} {pos : Pos} {T id : String} {Q : Value → Shared → Prop}
    (hl : typeLookup (.type T) "__getitem__" = pure (some (.builtin id))) (hs : NoSl slice)
    (h : wpAny (model prog w) A (eval value env) (fun o s₁ => wpAny (model prog w) A (eval slice env) (fun i s₂ => s₂.TypeIs o T ∧ wpAny (model prog w) A (getItem o i) Q E s₂) E s₁) E s) :
    wpAny (model prog w) A (eval (.Subscript value slice pos) env) Q E s := by
  refine Subscript_ (wpAny_mono h (fun o s₁ h₁ => wpAny_mono h₁ (fun i s₂ h₂ => ?_) fun _ _ x => x) fun _ _ x => x)
  obtain ⟨hT, h₂⟩ := h₂
  unfold subscriptTail
  refine wpAny_bind ?_
  rw [getitemInPython_of_ne hT.not_modules]
  refine wpAny_bind (wpAny_specialOf hT hl ?_)
  have fin : wpAny (model prog w) A (subscripted slice false o i) (fun r s₃ => wpAny (model prog w) A (letTemporaryGo value o r >>= fun _ => pure r) Q E s₃) E s₂ := by
    rw [hs o i]
    exact wpAny_operating (wpAny_mono h₂ (fun r s₃ h₃ => wpAny_bind (wpAny_letTemporaryGo (wpAny_pure h₃))) fun _ _ x => x)
  first
    | exact wpAny_pure (wpAny_bind fin)
    | exact wpAny_bind (wpAny_pure (wpAny_bind fin))
    | exact wpAny_bind fin
theorem dict_typeIs {X : Cx} {pins : List (Addr × Obj)} {σ : St} {H : Hp} {s : Shared} {a : Addr} {y : V} {o : Option V} (I : Inv X pins σ H s) (g : DGet H a y o) : s.TypeIs (.ref a) "dict" := by
  rcases g with ⟨kvs, k, e, _, _⟩ | ⟨kvs, k, b, e, _, _, _⟩
  · obtain ⟨_, _, vs, _, dd⟩ := dk_rd I.hok e
    exact dd.typeIs
  · obtain ⟨_, _, xs, _, dd⟩ := dt_rd I.hok e
    exact dd.typeIs
def tDGet (td ty : TE) : TE := fun σ H Q => td σ H fun x H1 => ty σ H1 fun y H2 => ∃ a v, x = .ref a ∧ DGet H2 a y (some v) ∧ Q v H2
def sDPut (td ty tv : TE) : TS := fun D σ H => tv σ H fun v H1 => td σ H1 fun x H2 => ty σ H2 fun y H3 => ∃ a H4, x = .ref a ∧ DPut H3 a y v H4 ∧ D.nx σ H4
section
variable {X : Cx} {o i e value : Expr} {pos pos' tpos : Pos} {td ty tv : TE}
theorem pe_dget (hu : X.A.units + 1 < cLine) (ho : PE X o td) (hi : PE X i ty) (hs : NoSl i) : PE X (.Subscript o i pos) (tDGet td ty) := by
  intro pins s σ H Q I h
  refine subD_of PySem.F.slot_dict_getitem.lookup hs (thn (ho pins s σ H _ I h) fun u s1 ⟨x, H1, I1, rx, q1⟩ => thn (hi pins s1 σ H1 _ I1 q1) fun iv s2 ⟨y, H2, I2, ry, a, v, ex, g, q2⟩ => ?_)
  subst ex
  obtain rfl : u = Value.ref a := rx
  exact ⟨dict_typeIs I2 g, d_getItem hu I2 g ry fun w' s3 I3 rw' => ⟨v, H2, I3, rw', q2⟩⟩
theorem ps_dput (hu : X.A.units + 1 < cLine) (ho : PE X o td) (hi : PE X i ty) (hv : PE X value tv) (hs : swapsWith value (some (.Subscript o i pos')) pos.line X.env = pure false) :
    PS X (.Assign [.Subscript o i pos'] value pos) (sDPut td ty tv) := by
  intro pins s σ H D I h
  refine wpAny_Assign_Subscript (thn (hv pins s σ H _ I h) fun r s1 ⟨v, H1, I1, rv, q1⟩ => thn (ho pins s1 σ H1 _ I1 q1) fun u s2 ⟨x, H2, I2, rx, q2⟩ => thn (hi pins s2 σ H2 _ I2 q2) fun iv s3 ⟨y, H3, I3, ry, a, H4, ex, g, q3⟩ => ?_) hs
  subst ex
  obtain rfl : u = Value.ref a := rx
  exact d_setItem hu I3 g ry rv fun s4 I4 => ⟨σ, H4, I4, q3⟩
end
theorem dk_empty {P : Program} {w : World} {H : Hp} (h : Heap) (hb : sysModules < h.objs.size) : ObjOk P w H (h.push { cls := .type "dict", data := .dict #[] }) h.objs.size (.dK []) :=
  ⟨Nat.zero_le _, beq_eq_false_iff_ne.mpr (Ne.symm (Nat.ne_of_lt hb)), [], .nil, Heap.DictOf.new h⟩
def tDNewK : TE := fun _ H Q => ∀ p, H p = none → Q (.ref p) (upd H p (.dK []))
section
variable {X : Cx} {pos : Pos}
theorem pe_dnewK : PE X (.Dict [] [] pos) tDNewK := fun pins s σ H Q I h =>
  wpAny_Dict_empty ⟨.ref s.heap.objs.size, _, I.laid (a := s.heap.objs.size) (o := .dK []) (t' := s.toks) (fun _ _ q => Heap.get?_push_of_some _ q) (Nat.le_refl _) (dk_empty s.heap I.big), rfl, h _ (I.hok.fresh (Nat.le_refl _))⟩
end
def tPairs : List (TE × TE) → St → Hp → (List (V × V) → Hp → Prop) → Prop
  | [], _, H, Q => Q [] H
  | (tk, tv) :: r, σ, H, Q => tk σ H fun x H1 => tv σ H1 fun y H2 => tPairs r σ H2 fun ps H3 => Q ((x, y) :: ps) H3
abbrev VV : List (V × V) → List (Value × Value) → Prop := Paired fun p q => RelV p.1 q.1 ∧ RelV p.2 q.2
def PPs (X : Cx) (pos : Pos) (keys : List (Option Expr)) (values : List Expr) (trs : List (TE × TE)) : Prop :=
  ∀ (pins : List (Addr × Obj)) (s : Shared) (σ : St) (H : Hp) (Q : List (V × V) → Hp → Prop), Inv X pins σ H s → tPairs trs σ H Q →
    wpAny (model X.prog X.w) X.A (evalPairs (pairTrees keys values X.env pos)) (fun vs s' => ∃ ps H', Inv X pins σ H' s' ∧ VV ps vs ∧ Q ps H') X.xe s
theorem pps_nil {X : Cx} {pos : Pos} : PPs X pos [] [] [] := fun pins s σ H Q I h => pairTrees_nil_walk ⟨[], H, I, .nil, h⟩
theorem pps_cons {X : Cx} {pos : Pos} {k v : Expr} {ks : List (Option Expr)} {vs : List Expr} {tk tv : TE} {trs : List (TE × TE)} (hk : PE X k tk) (hv : PE X v tv) (hr : PPs X pos ks vs trs) :
    PPs X pos (some k :: ks) (v :: vs) ((tk, tv) :: trs) := fun pins s σ H Q I h =>
  pairTrees_cons_walk (thn (hk pins s σ H _ I h) fun u s1 ⟨x, H1, I1, rx, q1⟩ => thn (hv pins s1 σ H1 _ I1 q1) fun w2 s2 ⟨y, H2, I2, ry, q2⟩ =>
    thn (hr pins s2 σ H2 _ I2 q2) fun ws s3 ⟨ps, H3, I3, rel, q3⟩ => ⟨(x, y) :: ps, H3, I3, .cons ⟨rx, ry⟩ rel, q3⟩)
def mergeK (kvs more : List (Key × V)) : List (Key × V) := more.foldl (fun acc kv => putK acc kv.1 kv.2) kvs
theorem KV.merge : ∀ {more : List (Key × V)} {rs : List (Key × Value)} {kvs : List (Key × V)} {vs : List (Key × Value)}, KV more rs → KV kvs vs → KV (mergeK kvs more) (merged vs rs) := by
  intro more rs kvs vs r
  unfold KV at r
  induction r generalizing kvs vs with
  | nil => intro q; exact q
  | @cons p q ps qs h t ih =>
    intro r0
    have e : KV (putK kvs p.1 p.2) (stored vs q.1 q.2) := by
      have := r0.put p.1 h.2
      rw [← h.1]; exact this
    exact ih e
theorem length_mergeK : ∀ (more kvs : List (Key × V)), (mergeK kvs more).length ≤ kvs.length + more.length
  | [], kvs => by show kvs.length ≤ kvs.length + 0; omega
  | p :: r, kvs => by
    have h1 := length_mergeK r (putK kvs p.1 p.2)
    have h2 := length_putK kvs p.1 p.2
    show (mergeK (putK kvs p.1 p.2) r).length ≤ _
    rw [List.length_cons]; omega
theorem carries_of {P : Program} {w : World} : ∀ {kvs : List (Key × V)} {ws : List (Value × Value)}, VV (kvs.map fun kv => (kV kv.1, kv.2)) ws → ∃ rs, Carries (mixKind P w) ws rs ∧ KV kvs rs
  | [], _, r => by rw [List.map_nil] at r; cases r; exact ⟨[], True.intro, .nil⟩
  | p :: kvs, _, r => by
    rw [List.map_cons] at r
    cases r with
    | @cons a b as bs h t =>
      obtain ⟨rs, c, q⟩ := carries_of (P := P) (w := w) t
      obtain ⟨b1, b2⟩ := b
      exact ⟨(p.1, b2) :: rs, ⟨kV_is h.1, rfl, c⟩, .cons ⟨rfl, h.2⟩ q⟩
def tDisp (trs : List (TE × TE)) : TE := fun σ H Q => ∀ p, H p = none → tPairs trs σ (upd H p (.dK [])) fun ps H2 => H2 p = some (.dK []) ∧ ∃ kvs : List (Key × V), ps = kvs.map (fun kv => (kV kv.1, kv.2)) ∧ kvs.length ≤ 15 ∧ Q (.ref p) (upd H2 p (.dK (mergeK [] kvs)))
theorem pe_disp {X : Cx} {pos : Pos} {keys : List (Option Expr)} {values : List Expr} {trs : List (TE × TE)} (h : PPs X pos keys values trs) (hall : keys.all (·.isSome) = true) (hl : keys.length = values.length) (h0 : keys ≠ [])
    (h15 : keys.length ≤ 15) : PE X (.Dict keys values pos) (tDisp trs) := by
  intro pins s σ H Q I q
  have hn := I.hok.fresh (Nat.le_refl s.heap.objs.size)
  have I1 := I.laid (a := s.heap.objs.size) (o := .dK []) (h' := s.heap.push { cls := .type "dict", data := .dict #[] }) (t' := s.toks) (fun _ _ q => Heap.get?_push_of_some _ q) (Nat.le_refl _) (dk_empty s.heap I.big)
  refine wpAny_Dict_walk (knd := mixKind X.prog X.w) hall hl h0 h15 (thn (h pins _ σ _ _ I1 (q _ hn)) fun ws s2 ⟨ps, H2, I2, rel, e, kvs, ep, lk, q2⟩ => ?_)
  subst ep
  obtain ⟨rs, c, rk⟩ := carries_of (P := X.prog) (w := X.w) rel
  obtain ⟨z, hd, vs0, r0, dd⟩ := dk_of I2.hok e
  cases r0
  refine ⟨rs, c, dd, fun h' dd' hs => ⟨.ref s.heap.objs.size, _, ?_, rfl, q2⟩⟩
  have hz : (mergeK [] kvs).length ≤ sizeLine := by
    have h1 := length_mergeK kvs []
    rw [List.length_nil] at h1
    rw [sizeLine_eq]; omega
  have he : ∃ q, h'.get? s.heap.objs.size = some q := let ⟨q, _, _, hq, _⟩ := dd'; ⟨q, hq⟩
  exact d_write I2 (by rw [e]; exact True.intro) hs he (dk_new hz hd (rk.merge .nil) dd')
structure M1 (X : Cx) (o : Expr) (m : Str) (apos : Pos) (e : Expr) (cpos : Pos) : Prop where
  base : attributeBase o m X.env (eval o X.env) = eval o X.env
  few : ((backTo cpos (starEach [e] X.env)).all (fun x => !x.1) && (backToKw cpos (keywordEach [] X.env)).all (fun x => x.1.isSome)
    && decide (([e] : List Expr).length + ([] : List Keyword).length + (if ([] : List Keyword).isEmpty then 0 else 1) < 30)) = true
  line : (apos.endLine == cpos.line) = true
  trees : backTo cpos (starEach [e] X.env) = [(false, eval e X.env)]
structure M2 (X : Cx) (o : Expr) (m : Str) (apos : Pos) (e f : Expr) (cpos : Pos) : Prop where
  base : attributeBase o m X.env (eval o X.env) = eval o X.env
  few : ((backTo cpos (starEach [e, f] X.env)).all (fun x => !x.1) && (backToKw cpos (keywordEach [] X.env)).all (fun x => x.1.isSome)
    && decide (([e, f] : List Expr).length + ([] : List Keyword).length + (if ([] : List Keyword).isEmpty then 0 else 1) < 30)) = true
  line : (apos.endLine == cpos.line) = true
  trees : backTo cpos (starEach [e, f] X.env) = [(false, eval e X.env), (false, eval f X.env)]
def IsD (H : Hp) (a : Addr) : Prop := (∃ kvs, Rd H a (.dK kvs)) ∨ ∃ kvs, Rd H a (.dT kvs)
theorem isD_at {X : Cx} {pins : List (Addr × Obj)} {σ : St} {H : Hp} {s : Shared} {a : Addr} (I : Inv X pins σ H s) (d : IsD H a) :
    s.TypeIs (.ref a) "dict" ∧ (∀ b, Value.ref a = .ref b → ∃ ob, s.heap.get? b = some ob ∧ ob.dict = none) ∧ (a == sysModules) = false := by
  rcases d with ⟨kvs, e⟩ | ⟨kvs, e⟩
  · obtain ⟨_, hd, vs, _, dd⟩ := dk_rd I.hok e
    refine ⟨dd.typeIs, fun b q => ?_, hd⟩
    cases q
    obtain ⟨ob, _, _, h1, h2, _⟩ := dd
    exact ⟨ob, h1, h2.2.1⟩
  · obtain ⟨_, hd, xs, _, dd⟩ := dt_rd I.hok e
    refine ⟨dd.typeIs, fun b q => ?_, hd⟩
    cases q
    obtain ⟨ob, _, _, h1, h2, _⟩ := dd
    exact ⟨ob, h1, h2.2.1⟩
section
variable {X : Cx} {pins : List (Addr × Obj)} {σ : St} {H : Hp} {s : Shared} {a : Addr} {y d : V} {u r : Value} {o : Option V} {A : Around} {E : Value → Shared → Prop}
theorem d_get2 {Q : Value → Shared → Prop} (hu : A.units + 1 < cLine) (I : Inv X pins σ H s) (g : DGet H a y o) (ry : RelV y u) (rd : RelV d r) (h : ∀ w' s', Inv X pins σ H s' → RelV (o.getD d) w' → Q w' s') :
    wpAny (model X.prog X.w) A (call (.builtin "dict.get") [.ref a, u, r]) Q E s := by
  rcases g with ⟨kvs, k, e, ey, l⟩ | ⟨kvs, k, b, e, ey, eb, l⟩
  · subst ey
    obtain ⟨z, hd, vs, rel, dd⟩ := dk_rd I.hok e
    refine call_meetsIn PySem.F.slot_dict_get dd.typeIs PySem.F.entry_dict_get (PySem.F.args_dict_get_3 _ _ _) (meets_dict_get_default (mixKind X.prog X.w) a (kV_is ry) hd r) ⟨_, dd.mapOf, h _ _ (I.tok _) ?_⟩
    rw [l]
    exact (rel.val k).getD rd
  · subst ey
    cases (show u = Value.ref b from ry)
    obtain ⟨z, hd, xs, rel, dd⟩ := dt_rd I.hok e
    refine call_meetsIn PySem.F.slot_dict_get dd.typeIs PySem.F.entry_dict_get (PySem.F.args_dict_get_3 _ _ _) (meetsH_dict_get_default (tupleKind (mixKind X.prog X.w)) a b hd r) ⟨tupleKind_room_in1 hu, k, xs, key_of I.hok eb, dd, h _ _ (I.tok _) ?_⟩
    rw [l]
    exact (rel.val k).getD rd
end
def tDGet2 (td ty tx : TE) : TE := fun σ H Q => td σ H fun x H1 => ∃ a, x = .ref a ∧ IsD H1 a ∧ ty σ H1 fun y H2 => tx σ H2 fun z H3 => ∃ o, DGet H3 a y o ∧ Q (o.getD z) H3
section
variable {X : Cx} {o e f : Expr} {apos cpos : Pos} {td ty tx : TE}
theorem pe_dget2 (hu : X.A.units + 1 < cLine) (ho : PE X o td) (he : PE X e ty) (hf : PE X f tx) (m : M2 X o "get" apos e f cpos) : PE X (.Call (.Attribute o "get" apos) [e, f] [] cpos) (tDGet2 td ty tx) := by
  intro pins s σ H Q I h
  refine wpAny_Call_method m.base m.few m.line PySem.F.plainAttrs_dict PySem.F.slot_dict_get PySem.F.type_dict_get (thn (ho pins s σ H _ I h) fun u s1 ⟨x, H1, I1, rx, a, ex, d, q1⟩ => ?_)
  subst ex
  obtain rfl : u = Value.ref a := rx
  obtain ⟨t1, t2, _⟩ := isD_at I1 d
  refine ⟨t1, t2, ?_⟩
  rw [m.trees]
  refine Calls.callWith_builtin rfl (Calls.evalArgs_plain (Calls.spliced_cons (thn (he pins s1 σ H1 _ I1 q1) fun iv s2 ⟨y, H2, I2, ry, q2⟩ =>
    Calls.spliced_cons (thn (hf pins s2 σ H2 _ I2 q2) fun fv s3 ⟨z, H3, I3, rz, ov, g, q3⟩ => Calls.spliced_nil ?_))))
  exact d_get2 hu I3 g ry rz fun w' s4 I4 rw' => ⟨_, H3, I4, rw', q3⟩
end
end L2
namespace L2
open PySem PySem.Spec PyProof.Rows
end L2
namespace L2
open PySem PySem.Spec PyProof.Rows
section
variable {X : Cx} {pins : List (Addr × Obj)} {σ : St} {H : Hp} {s : Shared} {h' : Heap}
theorem Inv.turnedL {t' : Nat} {ch : List Addr} (I : Inv X pins σ H s) (k : ∀ b o, b ∉ ch → s.heap.get? b = some o → h'.get? b = some o) (hf : ∀ b ∈ ch, FpOk X pins H b) : Inv X pins σ H { s with heap := h', toks := t' } := by
  have nit : ∀ b u, H b = some u → b ∉ ch := fun b u e z => by
    have q := (hf b z).1
    rw [q] at e; cases e
  refine I.step (g' := s.gens) (d' := s.drawn) (ch := ch) (fun b hb => ⟨(hf b hb).2.2.2.1, (hf b hb).2.1, (hf b hb).2.2.2.2.1, (hf b hb).2.2.2.2.2⟩) (fun b o _ _ hc e _ => k b o hc e) (fun b o _ _ hc e _ => ⟨o.slots, k b o hc e⟩)
    (fun _ _ _ _ n => n) (fun b o hc e => ⟨o, k b o hc e⟩) (fun _ _ e => e) (fun _ _ _ e => e) (fun b ps e => ⟨#[], by rw [e]; simp⟩) (fun m hm => ?_) (fun b u e => ?_) I.bare
  · obtain ⟨o, es, ep, ho, r⟩ := hm
    exact ⟨o, es, ep, k _ o (fun z => (hf _ z).2.1 rfl) ho, r⟩
  · refine (I.hok b u e).stay (fun c v hc q => k c v ?_ q) (fun _ q => q) fun _ _ q => q
    rcases hc with z | z
    · rw [z]; exact nit b u e
    · exact nit c _ z
theorem Inv.turnedNew {t' : Nat} {ch : List Addr} {T : Addr} {ob : HO} (I : Inv X pins σ H s) (k : ∀ b o, b ∉ ch → s.heap.get? b = some o → h'.get? b = some o) (hf : ∀ b ∈ ch, FpOk X pins H b) (hT : s.heap.objs.size ≤ T)
    (new : ObjOk X.prog X.w (upd H T ob) h' T ob) : Inv X pins σ (upd H T ob) { s with heap := h', toks := t' } := by
  have hn : H T = none := I.hok.fresh hT
  have nit : ∀ b u, H b = some u → b ∉ ch := fun b u e z => by
    have q := (hf b z).1
    rw [q] at e; cases e
  refine I.step (g' := s.gens) (d' := s.drawn) (ch := ch) (fun b hb => ⟨(hf b hb).2.2.2.1, (hf b hb).2.1, (hf b hb).2.2.2.2.1, (hf b hb).2.2.2.2.2⟩) (fun b o _ _ hc e _ => k b o hc e) (fun b o _ _ hc e _ => ⟨o.slots, k b o hc e⟩)
    (fun b o _ e n => ?_) (fun b o hc e => ⟨o, k b o hc e⟩) (fun b xs e => ?_) (fun b o u e => ?_) (fun b ps e => ⟨#[], ?_⟩) (fun m hm => ?_) (fun b u e => ?_) I.bare
  · rw [upd_ne (Nat.ne_of_lt (Nat.lt_of_lt_of_le (Heap.lt_size e) hT))]; exact n
  · rw [upd_ne (ne_of_none e hn)]; exact e
  · rw [upd_ne (ne_of_none e hn)]; exact e
  · rw [upd_ne (ne_of_none e hn), e]; simp
  · obtain ⟨o, es, ep, ho, r⟩ := hm
    exact ⟨o, es, ep, k _ o (fun z => (hf _ z).2.1 rfl) ho, r⟩
  · by_cases hb : b = T
    · subst hb
      rw [upd_same] at e
      cases e
      exact new
    · rw [upd_ne hb] at e
      refine (I.hok b u e).stay (fun c v hc q => k c v ?_ q) (fun c q => by rw [upd_ne (ne_of_none q hn)]; exact q) fun c xs q => by rw [upd_ne (ne_of_none q hn)]; exact q
      rcases hc with z | z
      · rw [z]; exact nit b u e
      · exact nit c _ z
theorem Inv.lock {d : Addr} {u : HO} (I : Inv X pins σ H s) (h : H d = some u) (mu : Mut (some u)) : ∃ od, Inv X pins σ (upd H d (.frz od u)) s := by
  have x := I.hok d u h
  have ex : ∃ od, s.heap.get? d = some od := by
    cases u with
    | lst xs => obtain ⟨_, _, _, _, e⟩ := x; exact ⟨_, e⟩
    | dK kvs => obtain ⟨_, _, _, _, o, _, _, e, _⟩ := x; exact ⟨o, e⟩
    | dT kvs => obtain ⟨_, _, _, _, o, _, _, e, _⟩ := x; exact ⟨o, e⟩
    | set S n => obtain ⟨o, _, _, _, e, _⟩ := x; exact ⟨o, e⟩
    | ins C dx fs => obtain ⟨_, _, _, e, _⟩ := x; exact ⟨_, e⟩
    | ext φ => obtain ⟨_, ⟨_, e⟩, _⟩ := x; exact ⟨_, e⟩
    | _ => exact False.elim mu
  obtain ⟨od, e⟩ := ex
  have new : ObjOk X.prog X.w (upd H d (.frz od u)) s.heap d (.frz od u) := by
    refine ⟨e, x.stay (fun b v _ q => q) (fun b q => ?_) fun b xs q => ?_⟩
    · rw [upd_ne (fun z => by rw [z, h] at q; cases q; exact mu)]; exact q
    · rw [upd_ne (fun z => by rw [z, h] at q; cases q; exact mu)]; exact q
  exact ⟨od, I.write (x := d) (e := d) (t' := s.toks) (h' := s.heap) (by rw [h]; exact mu) (.inl rfl) (fun b v _ q => q) ⟨od, e⟩ new⟩
theorem Inv.nofrz {d : Addr} {u : HO} (I : Inv X pins σ H s) (h : H d = some u) (mu : Mut (some u)) : ∀ o' u', X.H_0 d ≠ some (.frz o' u') := fun o' u' e => by
  have q := I.base.frzs d o' u' e
  rw [h] at q
  cases q
  exact mu
theorem Inv.unlock {d : Addr} {od : Obj} {u : HO} (I : Inv X pins σ H s) (h : H d = some (.frz od u)) (hn : ∀ o' u', X.H_0 d ≠ some (.frz o' u')) : Inv X pins σ (upd H d u) s := by
  have neH : ∀ b o, H b = some o → (∀ o' u', o ≠ .frz o' u') → b ≠ d := fun b o e hne z => by
    rw [z, h] at e
    cases e
    exact hne _ _ rfl
  have neN : ∀ b, H b = none → b ≠ d := fun b e z => by rw [z, h] at e; cases e
  refine ⟨I.ok, I.os, I.bare, ⟨I.base.keep, I.base.slot, fun b o e n hx => ?_, I.base.there, fun b xs e => ?_, fun b o x e => ?_, fun b ps e => ?_⟩, I.loc, I.cell, ?_, fun x c e => ?_, fun p hp => ?_, fun b o e => ?_, I.len⟩
  · rw [upd_ne (neN b (I.base.free b o e n hx))]; exact I.base.free b o e n hx
  · have q := I.base.tups b xs e
    rw [upd_ne (neH b _ q (fun _ _ z => nomatch z))]; exact q
  · have q := I.base.frzs b o x e
    rw [upd_ne (fun z => by rw [z] at e; exact hn _ _ e)]; exact q
  · obtain ⟨m, q⟩ := I.base.tbls b ps e
    exact ⟨m, by rw [upd_ne (neH b _ q (fun _ _ z => nomatch z))]; exact q⟩
  · rw [upd_ne (neN _ I.free)]; exact I.free
  · rw [upd_ne (neN c (I.freeC x c e))]; exact I.freeC x c e
  · obtain ⟨e, n, r⟩ := I.pin p hp
    exact ⟨e, by rw [upd_ne (neN _ n)]; exact n, r⟩
  · by_cases hb : b = d
    · rw [hb, upd_same] at e
      cases e
      rw [hb]
      obtain ⟨_, x⟩ := I.hok d _ h
      exact x.stay (fun c v _ q => q) (fun c q => by rw [upd_ne (neH c _ q (fun _ _ z => nomatch z))]; exact q) fun c xs q => by rw [upd_ne (neH c _ q (fun _ _ z => nomatch z))]; exact q
    · rw [upd_ne hb] at e
      exact (I.hok b o e).stay (fun c v _ q => q) (fun c q => by rw [upd_ne (neH c _ q (fun _ _ z => nomatch z))]; exact q) fun c xs q => by rw [upd_ne (neH c _ q (fun _ _ z => nomatch z))]; exact q
end
def tLock (t : TS) : TS := fun D σ H => ∃ d u, H d = some u ∧ Mut (some u) ∧ ∀ od, t ⟨fun σ' H' => H' d = some (.frz od u) ∧ D.nx σ' (upd H' d u), fun v H' => H' d = some (.frz od u) ∧ D.rt v (upd H' d u), fun σ' H' => H' d = some (.frz od u) ∧ D.bk σ' (upd H' d u), fun σ' H' => H' d = some (.frz od u) ∧ D.ct σ' (upd H' d u)⟩ σ (upd H d (.frz od u))
section
variable {X : Cx}
theorem ps_lock {st : Stmt} {t : TS} (h : PS X st t) : PS X st (tLock t) := by
  intro pins s σ H D I hw
  obtain ⟨d, u, hd, mu, hw⟩ := hw
  obtain ⟨od, I1⟩ := I.lock hd mu
  refine thn (h pins s σ _ _ I1 (hw od)) fun f s1 q => ?_
  cases f with
  | next => obtain ⟨σ', H', I2, e, q⟩ := q; exact ⟨σ', _, I2.unlock e (I.nofrz hd mu), q⟩
  | brk => obtain ⟨σ', H', I2, e, q⟩ := q; exact ⟨σ', _, I2.unlock e (I.nofrz hd mu), q⟩
  | cont => obtain ⟨σ', H', I2, e, q⟩ := q; exact ⟨σ', _, I2.unlock e (I.nofrz hd mu), q⟩
  | ret v => obtain ⟨x, σ', H', I2, r, e, q⟩ := q; exact ⟨x, σ', _, I2.unlock e (I.nofrz hd mu), r, q⟩
theorem pi_one {tg : Expr} {pins : List (Addr × Obj)} {σ : St} {H : Hp} {s : Shared} {R : It → Hp → Prop} {J : It} {tn : Nat → Heap → Prop} {tk : Nat} (I : Inv X pins σ H s) (o : Obj)
    (T : Turn X.prog X.w X.K tg J [s.heap.objs.size] s.heap.objs.size tn) (st : tn 0 (s.heap.push o)) (q : R J H) : PIE X pins σ tg R (.ref s.heap.objs.size) { s with heap := s.heap.push o, toks := tk } := by
  refine ⟨s.heap.objs.size, [s.heap.objs.size], tn, J, H, rfl, I.kept fun b ob e => Heap.get?_push_of_some _ e, T, st, fun b hb => ?_, q⟩
  have e : b = s.heap.objs.size := by simpa using hb
  subst e
  exact I.fpOk (Nat.le_refl _) (I.hok.fresh (Nat.le_refl _))
end
def RgC (i j c : Int) (n : Nat) : Prop := c ≠ 0 ∧ c.natAbs < 1073741824 ∧ Builtin.Range.small i j c = true ∧ Builtin.Range.rangeSize i j c = n
theorem RgC.neg {i j : Int} (ha : -(2 ^ 62) ≤ i) (ha' : i < 2 ^ 62) (hb : -(2 ^ 62) ≤ j) (hb' : j < 2 ^ 62) : RgC i j (-1) (i - j).toNat :=
  ⟨by decide, by decide, PySem.W.small_down ha ha' hb hb', PySem.W.rangeSize_downNat i j⟩
def Its (x : Str) : It := ⟨fun i _ => i < x.cps.size, fun i H v H' => H' = H ∧ ∃ c, x.cps[i]? = some c ∧ v = .str ⟨#[c]⟩, fun i _ => x.cps.size ≤ i⟩
theorem turn_str {P : Program} {w : World} {K : PySem.W.Frag} {tg : Expr} (it : Addr) (x : Str) (t : Tok) (ty : String) (hty : ty = "str_ascii_iterator" ∨ ty = "str_iterator") :
    Turn P w K tg (Its x) [it] it (fun i h => h.IsStrIter it ty x t i) where
  mem := by simp
  obj := fun i h st b hb => by
    have e : b = it := by simpa using hb
    subst e
    obtain ⟨o, e, c, d⟩ := st
    exact ⟨o, e, fun v z => by rw [d] at z; cases z⟩
  keep := fun i h h' st k => let ⟨o, ho, r⟩ := st; ⟨o, k it (by simp) o ho, r⟩
  item := by
    intro X hP hw hK hc i pins s σ H E I hf st hg
    subst hP hw hK
    obtain ⟨f0, f1, f2, f3, f4, f5⟩ := hf it (by simp)
    have W : Walks X.prog X.w X.A it [it] [it] x.cps.size (SignAt x) (fun i h => h.IsStrIter it ty x t i) := by
      rcases hty with e | e
      · rw [e]; exact Walks.strAscii (I.ok.hd hc) it x t
      · rw [e]; exact Walks.strWide (I.ok.hd hc) it x t
    have hno : ["enumerate", "zip", "dict_itemiterator", "dict_reverseitemiterator", "odict_iterator", "itertools.zip_longest", "itertools.pairwise"].contains ty = false := by
      rcases hty with e | e
      · rw [e]; decide
      · rw [e]; decide
    refine W.item i s _ _ hg st fun v h' tk hv st' kk => ?_
    obtain ⟨c, u, hcx, rfl⟩ := hv
    have I1 : Inv X pins σ H { s with heap := h', toks := tk } := I.turned (fun b o hb e => kk b o (by simpa using hb) e) f0 f1 f3 f4 f5
    obtain ⟨oi, e, cc, dd⟩ := id st'
    exact ⟨_, rfl, go_of (s := { s with heap := h', toks := tk }) e cc dd hno ⟨.str ⟨#[c]⟩, H, I1, ⟨u, rfl⟩, ⟨rfl, c, hcx, rfl⟩, st', fun b hb => (hf b hb).1⟩⟩
  done := by
    intro X hP hw hK hc i pins s σ H E I hf st hg
    subst hP hw hK
    obtain ⟨f0, f1, f2, f3, f4, f5⟩ := hf it (by simp)
    have hx : x.cps[i]? = none := Array.getElem?_eq_none hg
    rcases hty with e | e
    · rw [e] at st
      exact wpAny_pyNext_ascii_end (I.ok.hd hc) st hx fun h' eb => ⟨rfl, I.turned (t' := s.toks) (fun b o hb e => eb b o hb e) f0 f1 f3 f4 f5⟩
    · rw [e] at st
      exact wpAny_pyNext_wide_end (I.ok.hd hc) st hx fun h' eb => ⟨rfl, I.turned (t' := s.toks) (fun b o hb e => eb b o hb e) f0 f1 f3 f4 f5⟩
  self := fun A i s Q E st h => by
    rcases hty with e | e
    · rw [e] at st; exact wpAny_pyIter_striter_ascii st h
    · rw [e] at st; exact wpAny_pyIter_striter_wide st h
def iStr (te : TE) : TI := fun σ H R => te σ H fun v H1 => ∃ x, v = .str x ∧ R (Its x) H1
theorem pi_str {X : Cx} {tg e : Expr} {te : TE} (he : PE X e te) : PI X tg e (iStr te) := by
  intro pins s σ H R I h
  refine thn (he pins s σ H _ I h) fun v s1 ⟨y, H1, I1, r1, x, ex, q⟩ => ?_
  subst ex
  obtain ⟨t, rfl⟩ := r1
  cases ha : x.cps.all (· < 128)
  · exact wpAny_pyIter_wide ha (pi_one (tk := s1.toks) I1 _ (turn_str _ x t "str_iterator" (.inr rfl)) ⟨_, Heap.get?_push_size _ rfl, rfl, rfl⟩ q)
  · exact wpAny_pyIter_ascii ha (pi_one (tk := s1.toks) I1 _ (turn_str _ x t "str_ascii_iterator" (.inl rfl)) ⟨_, Heap.get?_push_size _ rfl, rfl, rfl⟩ q)
section
variable {prog : Program} {w : World} {A : Around} {E : Value → Shared → Prop} {s : Shared}
theorem iter_keys {d : Addr} {o : Obj} {es : Array DictEntry} {ep : Nat} {Q : Value → Shared → Prop} (hd : (d == sysModules) = false) (ho : s.heap.get? d = some o) (hc : o.ExactDict) (hdat : o.data = .dict es ep)
    (hQ : Q (.ref s.heap.objs.size) { s with heap := s.heap.push { cls := .type "dict_keyiterator", data := .fields #[.ref d, .int 0 0, .int es.size 0, .int ep 0] } }) :
    wpAny (model prog w) A (pyIter (.ref d)) Q E s := by
  have hT : s.TypeIs (.ref d) "dict" := ⟨o, ho, hc.1⟩
  refine wpAny_pyIter_slot hT F.slot_dict_iter (wpAny_call_entry F.slot_dict_iter hT F.entry_dict_iter ?_ (F.args_dict_iter_1 _))
  unfold Builtin.«dict.__iter__»
  refine wpAny_bind ?_
  unfold Builtin.Dict.dictSlotNone
  refine wpAny_bind (wpAny_notOrdered_dict hT ?_)
  show wpAny _ _ (pure (Value.ref d)) _ _ s
  refine wpAny_pure ?_
  show wpAny _ _ (Builtin.Dict.showsAll d >>= _) _ _ s
  unfold Builtin.Dict.showsAll
  rw [if_neg (by rw [hd]; exact Bool.false_ne_true)]
  refine wpAny_bind (wpAny_pure ?_)
  refine wpAny_bind (wpAny_dictEntries ho hdat ?_)
  refine wpAny_bind (wpAny_dictEpoch ho hdat ?_)
  refine wpAny_bind (wpAny_newObj_type (wpAny_pure ⟨_, rfl, "dict_keyiterator", _, ⟨_, Heap.get?_push_size _ rfl, rfl⟩, F.slot_dict_keyiterator_next.lookup, ?_⟩))
  simpa [rawInt] using hQ
theorem next_key_item {it d : Addr} {i n ep : Nat} {od : Obj} {es : Array DictEntry} {en : DictEntry} {Q : Option Value → Shared → Prop} (hit : s.heap.IsKeyIter it d i n ep) (hod : s.heap.get? d = some od) (hdd : od.data = .dict es ep)
    (hsz : es.size = n) (hx : es[i]? = some en) (hQ : ∀ h', h'.IsKeyIter it d (i + 1) n ep → Heap.SameBut it s.heap h' → Q (some en.key) { s with heap := h' }) : wpAny (model prog w) A (pyNext (.ref it)) Q E s := by
  obtain ⟨o, ho, hc, hd⟩ := id hit
  unfold pyNext
  refine wpAny_bind (wpAny_attempt (wpAny_callSpecial?_slot (name := Str.ofString "__next__") hit.typeIs F.slot_dict_keyiterator_next
    (wpAny_call_entry F.slot_dict_keyiterator_next hit.typeIs F.entry_dict_keyiterator_next ?_ (F.args_dict_keyiterator_next_1 _))))
  refine wpAny_bind (wpAny_pure ?_)
  refine wpAny_bind ?_
  refine wpAny_bind ?_
  first | refine wpAny_bind (wpAny_typeNameOfWhole_keyiter hit.typeIs (wpAny_pure ?_)) | refine wpAny_bind (wpAny_typeNameOf_keyiter hit.typeIs (wpAny_pure ?_))
  refine wpAny_bind (wpAny_fieldsOf ho hd ?_)
  have hown : Builtin.Dict_items.ownsTuple "dict_keyiterator" = false := by decide
  simp only [hown, Bool.false_eq_true, if_false]
  show wpAny _ _ (if (Value.ref d == Value.none) = true then _ else _) _ _ s
  rw [if_neg (show ¬ ((Value.ref d == Value.none) = true) from Bool.false_ne_true)]
  refine wpAny_bind (wpAny_pure ?_)
  refine wpAny_bind (wpAny_dictEntries hod hdd ?_)
  rw [if_neg (by rw [hsz]; simp)]
  refine wpAny_bind (wpAny_pure ?_)
  refine wpAny_bind (wpAny_dictEpoch hod hdd ?_)
  rw [if_neg (by simp)]
  refine wpAny_pure ?_
  obtain ⟨hlt', hen⟩ := Array.getElem?_eq_some_iff.mp hx
  simp only [show ¬ ((i : Int) < 0) from by omega, if_false, Int.toNat_natCast, Array.getElem?_eq_getElem hlt']
  refine wpAny_bind ?_
  first | refine wpAny_bind (wpAny_typeNameOfWhole_keyiter hit.typeIs (wpAny_pure ?_)) | refine wpAny_bind (wpAny_typeNameOf_keyiter hit.typeIs (wpAny_pure ?_))
  refine wpAny_bind (wpAny_isOneOf_keyiter hit.typeIs ?_)
  show wpAny _ _ (setField (.ref it) 1 (rawInt ((i : Int) + 1)) >>= _) _ _ s
  refine wpAny_bind (wpAny_setField ho hd (by simp) ?_)
  have hit' : (s.heap.update it (Obj.mapFields (·.setIfInBounds 1 (rawInt ((i : Int) + 1))))).IsKeyIter it d (i + 1) n ep :=
    ⟨_, Heap.get?_update_self _ ho (Obj.isFreed_of_fields (Obj.data_mapFields hd _)), (Obj.cls_mapFields ..).trans hc, by rw [Obj.data_mapFields hd]; simp [rawInt]⟩
  refine wpAny_bind (wpAny_holding ?_)
  refine wpAny_bind (wpAny_isOneOf_keyiter (s := { s with heap := s.heap.update it (Obj.mapFields (·.setIfInBounds 1 (rawInt ((i : Int) + 1)))) }) hit'.typeIs ?_)
  show wpAny _ _ (pure es[i].key) _ _ _
  rw [hen]
  exact wpAny_pure (wpAny_pure ⟨_, rfl, wpAny_pure (hQ _ hit' (Heap.SameBut.update ..))⟩)
theorem next_key_end {it d : Addr} {i n ep : Nat} {od : Obj} {es : Array DictEntry} {Q : Option Value → Shared → Prop} (hh : A.handled = none) (hit : s.heap.IsKeyIter it d i n ep) (hod : s.heap.get? d = some od) (hdd : od.data = .dict es ep)
    (hsz : es.size = n) (hge : n ≤ i) (hQ : ∀ h', Heap.ExtBut it s.heap h' → Q none { s with heap := h' }) : wpAny (model prog w) A (pyNext (.ref it)) Q E s := by
  obtain ⟨o, ho, hc, hd⟩ := id hit
  unfold pyNext
  refine wpAny_bind (wpAny_attempt (wpAny_callSpecial?_slot (name := Str.ofString "__next__") hit.typeIs F.slot_dict_keyiterator_next
    (wpAny_call_entry F.slot_dict_keyiterator_next hit.typeIs F.entry_dict_keyiterator_next ?_ (F.args_dict_keyiterator_next_1 _))))
  refine wpAny_bind (wpAny_pure ?_)
  refine wpAny_bind ?_
  refine wpAny_bind ?_
  first | refine wpAny_bind (wpAny_typeNameOfWhole_keyiter hit.typeIs (wpAny_pure ?_)) | refine wpAny_bind (wpAny_typeNameOf_keyiter hit.typeIs (wpAny_pure ?_))
  refine wpAny_bind (wpAny_fieldsOf ho hd ?_)
  have hown : Builtin.Dict_items.ownsTuple "dict_keyiterator" = false := by decide
  simp only [hown, Bool.false_eq_true, if_false]
  show wpAny _ _ (if (Value.ref d == Value.none) = true then _ else _) _ _ s
  rw [if_neg (show ¬ ((Value.ref d == Value.none) = true) from Bool.false_ne_true)]
  refine wpAny_bind (wpAny_pure ?_)
  refine wpAny_bind (wpAny_dictEntries hod hdd ?_)
  rw [if_neg (by rw [hsz]; simp)]
  refine wpAny_bind (wpAny_pure ?_)
  refine wpAny_bind (wpAny_dictEpoch hod hdd ?_)
  rw [if_neg (by simp)]
  refine wpAny_pure ?_
  have hge' : es.size ≤ i := by rw [hsz]; exact hge
  simp only [show ¬ ((i : Int) < 0) from by omega, if_false, Int.toNat_natCast, Array.getElem?_eq_none hge']
  refine wpAny_bind ?_
  first | refine wpAny_bind (wpAny_typeNameOfWhole_keyiter hit.typeIs (wpAny_pure ?_)) | refine wpAny_bind (wpAny_typeNameOf_keyiter hit.typeIs (wpAny_pure ?_))
  show wpAny _ _ (setField (.ref it) 0 .none >>= _) _ _ s
  refine wpAny_bind (wpAny_setField ho hd (by simp) ?_)
  show wpAny _ _ (newExc (.type "StopIteration") [] >>= _) _ _ _
  refine wpAny_bind ?_
  simp only [newExc, newTuple]
  refine wpAny_bind (wpAny_newObj_type ?_ (by size_fits))
  refine wpAny_bind (m := firstArgMember _ _) (wpAny_of_eq (a := Value.none) (by first | rfl | (simp only [firstArgMember]; rfl)) ?_)
  refine wpAny_newObj_type ?_ (by size_fits)
  simp only [raiseNew]
  refine wpAny_bind (wpAny_handled ?_)
  rw [show A.in1.handled = none from hh]
  refine wpAny_bind (wpAny_pure (wpAny_throw ?_))
  refine wpAny_bind (wpAny_isInstance (T := "StopIteration") (b := true) ⟨_, Heap.get?_push_size _ rfl, rfl⟩ isSubtype_stop ?_)
  exact wpAny_pure (hQ _ (((Heap.SameBut.update ..).extBut.push _).push _))
end
theorem kv_get {κ : Type} {kvs : List (κ × V)} {vs : List (κ × Value)} (h : KV kvs vs) : ∀ {i : Nat} {k : κ} {v : V}, kvs[i]? = some (k, v) → ∃ u, vs[i]? = some (k, u) ∧ RelV v u := by
  unfold KV at h
  induction h with
  | nil => intro i k v e; simp at e
  | @cons a b l₁ l₂ r t ih =>
    intro i k v e
    cases i with
    | zero =>
      simp only [List.getElem?_cons_zero, Option.some.injEq] at e
      subst e
      refine ⟨b.2, ?_, r.2⟩
      simp only [List.getElem?_cons_zero]
      exact congrArg some (Prod.ext r.1.symm rfl)
    | succ j =>
      simp only [List.getElem?_cons_succ] at e ⊢
      exact ih e
theorem paired_get {α β : Type} {G : α → β → Prop} {l₁ : List α} {l₂ : List β} (h : Paired G l₁ l₂) : ∀ {i : Nat} {a : α}, l₁[i]? = some a → ∃ b, l₂[i]? = some b ∧ G a b := by
  induction h with
  | nil => intro i a e; simp at e
  | @cons a b l₁ l₂ r t ih =>
    intro i a' e
    cases i with
    | zero =>
      simp only [List.getElem?_cons_zero, Option.some.injEq] at e
      subst e
      exact ⟨b, rfl, r⟩
    | succ j =>
      simp only [List.getElem?_cons_succ] at e ⊢
      exact ih e
theorem relV_key {k : Key} {u : Value} (h : keyIs k u = true) : RelV (kV k) u := by
  rcases keyIs_shape h with ⟨i, t, rfl, rfl⟩ | ⟨x, t, rfl, rfl⟩
  · exact ⟨t, rfl⟩
  · exact ⟨t, rfl⟩
section
variable {X : Cx} {pins : List (Addr × Obj)} {σ : St} {H : Hp} {s : Shared} {d : Addr} {o : Obj}
theorem Inv.frzK {kvs : List (Key × V)} (I : Inv X pins σ H s) (h : H d = some (.frz o (.dK kvs))) :
    (d == sysModules) = false ∧ s.heap.get? d = some o ∧ o.ExactDict ∧ ∃ (es : Array DictEntry) (ep : Nat) (vs : List (Key × Value)), o.data = .dict es ep ∧ es.size = kvs.length ∧ KV kvs vs ∧ s.heap.DictAt (mixKind X.prog X.w) d vs ep := by
  obtain ⟨hd, z, hs, vs, kv, o', es, ep, ho, hx, hdt, r⟩ := I.hok d _ h
  rw [hd] at ho
  cases ho
  refine ⟨hs, hd, hx, es, ep, vs, hdt, ?_, kv, o, es, hd, hx, hdt, r⟩
  have l1 := r.2.1.length
  have l2 : kvs.length = vs.length := Paired.length kv
  rw [Array.length_toList] at l1
  omega
theorem Inv.frzT {kvs : List (List Key × V)} (I : Inv X pins σ H s) (h : H d = some (.frz o (.dT kvs))) :
    (d == sysModules) = false ∧ s.heap.get? d = some o ∧ o.ExactDict ∧ ∃ (es : Array DictEntry) (ep : Nat), o.data = .dict es ep ∧ es.size = kvs.length ∧
      ∀ (i : Nat) (k : List Key) (v : V), kvs[i]? = some (k, v) → ∃ (en : DictEntry) (q : Addr), es[i]? = some en ∧ en.key = .ref q ∧ H q = some (.tup (k.map kV)) := by
  obtain ⟨hd, z, hs, xs, pr, o', es, ep, ho, hx, hdt, he, _⟩ := I.hok d _ h
  rw [hd] at ho
  cases ho
  refine ⟨hs, hd, hx, es, ep, hdt, ?_, fun i k v e => ?_⟩
  · have l1 : es.size = xs.length := size_of_entries he
    have l2 : kvs.length = xs.length := Paired.length pr
    omega
  · obtain ⟨b, hb, e1, e2, _⟩ := paired_get pr e
    have q := entry_at he i
    rw [hb] at q
    exact ⟨_, b.2.1, q, rfl, e2⟩
end
def Itk (d : Addr) (o : Obj) (kvs : List (Key × V)) : It :=
  ⟨fun i H => H d = some (.frz o (.dK kvs)) ∧ i < kvs.length, fun i H x H' => H' = H ∧ ∃ k v, kvs[i]? = some (k, v) ∧ x = kV k, fun i H => H d = some (.frz o (.dK kvs)) ∧ kvs.length ≤ i⟩
def Itkt (d : Addr) (o : Obj) (kvs : List (List Key × V)) : It :=
  ⟨fun i H => H d = some (.frz o (.dT kvs)) ∧ i < kvs.length, fun i H x H' => H' = H ∧ ∃ (k : List Key) (v : V) (q : Addr), kvs[i]? = some (k, v) ∧ x = .ref q ∧ H q = some (.tup (k.map kV)), fun i H => H d = some (.frz o (.dT kvs)) ∧ kvs.length ≤ i⟩
theorem dict_ep {o : Obj} {es es' : Array DictEntry} {ep ep' : Nat} (h : o.data = .dict es ep) (h' : o.data = .dict es' ep') : es' = es ∧ ep' = ep := by
  rw [h] at h'
  cases h'
  exact ⟨rfl, rfl⟩
section
variable {P : Program} {w : World} {K : PySem.W.Frag} {tg : Expr} {d : Addr} {o : Obj} {es : Array DictEntry} {ep : Nat}
theorem turn_keys {kvs : List (Key × V)} (it : Addr) (hod : o.data = .dict es ep) : Turn P w K tg (Itk d o kvs) [it] it (fun i h => h.IsKeyIter it d i kvs.length ep) where
  mem := by simp
  obj := fun i h st b hb => by
    have e : b = it := by simpa using hb
    subst e
    obtain ⟨oi, e, c, dd⟩ := st
    exact ⟨oi, e, fun v z => by rw [dd] at z; cases z⟩
  keep := fun i h h' st k => st.at fun oi e => k it (by simp) oi e
  item := by
    intro X hP hw hK hc i pins s σ H E I hf st hg
    subst hP hw hK
    obtain ⟨hd, hi⟩ := hg
    obtain ⟨f0, f1, f2, f3, f4, f5⟩ := hf it (by simp)
    obtain ⟨hs, hgd, hx, es', ep', vs, hdt, hsz, kv, hm⟩ := I.frzK hd
    obtain ⟨rfl, rfl⟩ := dict_ep hod hdt
    obtain ⟨⟨k, v⟩, hkv⟩ : ∃ p, kvs[i]? = some p := ⟨kvs[i], List.getElem?_eq_getElem hi⟩
    obtain ⟨u, hu, ru⟩ := kv_get kv hkv
    have hl : kvs.length = vs.length := Paired.length kv
    rw [hl] at st
    refine wpAny_pyNext_dict_item st hm hu fun key h' hkey st' sb => ?_
    have I1 : Inv X pins σ H { s with heap := h' } := I.turned (t' := s.toks) (fun b ob hb e => (sb.2 b hb).trans e) f0 f1 f3 f4 f5
    obtain ⟨oi, e, c, dd⟩ := id st'
    refine ⟨key, rfl, go_of (s := { s with heap := h' }) e c dd (by decide) ⟨kV k, H, I1, relV_key (show keyIs k key = true from hkey), ⟨rfl, k, v, hkv, rfl⟩, ?_, fun b hb => (hf b hb).1⟩⟩
    show h'.IsKeyIter it d (i + 1) kvs.length _
    rw [hl]
    exact st'
  done := by
    intro X hP hw hK hc i pins s σ H E I hf st hg
    subst hP hw hK
    obtain ⟨hd, hi⟩ := hg
    obtain ⟨f0, f1, f2, f3, f4, f5⟩ := hf it (by simp)
    obtain ⟨hs, hgd, hx, es', ep', vs, hdt, hsz, kv, hm⟩ := I.frzK hd
    obtain ⟨rfl, rfl⟩ := dict_ep hod hdt
    exact next_key_end (I.ok.hd hc) st hgd hdt hsz hi fun h' eb => ⟨rfl, I.turned (t' := s.toks) (fun b ob hb e => eb b ob hb e) f0 f1 f3 f4 f5⟩
  self := fun A i s Q E st h => wpAny_pyIter_keyiter st h
theorem turn_keysT {kvs : List (List Key × V)} (it : Addr) (hod : o.data = .dict es ep) : Turn P w K tg (Itkt d o kvs) [it] it (fun i h => h.IsKeyIter it d i kvs.length ep) where
  mem := by simp
  obj := fun i h st b hb => by
    have e : b = it := by simpa using hb
    subst e
    obtain ⟨oi, e, c, dd⟩ := st
    exact ⟨oi, e, fun v z => by rw [dd] at z; cases z⟩
  keep := fun i h h' st k => st.at fun oi e => k it (by simp) oi e
  item := by
    intro X hP hw hK hc i pins s σ H E I hf st hg
    subst hP hw hK
    obtain ⟨hd, hi⟩ := hg
    obtain ⟨f0, f1, f2, f3, f4, f5⟩ := hf it (by simp)
    obtain ⟨hs, hgd, hx, es', ep', hdt, hsz, ent⟩ := I.frzT hd
    obtain ⟨rfl, rfl⟩ := dict_ep hod hdt
    obtain ⟨⟨k, v⟩, hkv⟩ : ∃ p, kvs[i]? = some p := ⟨kvs[i], List.getElem?_eq_getElem hi⟩
    obtain ⟨en, q, hen, hkey, hq⟩ := ent i k v hkv
    refine next_key_item st hgd hdt hsz hen fun h' st' sb => ?_
    have I1 : Inv X pins σ H { s with heap := h' } := I.turned (t' := s.toks) (fun b ob hb e => (sb.2 b hb).trans e) f0 f1 f3 f4 f5
    obtain ⟨oi, e, c, dd⟩ := id st'
    exact ⟨en.key, rfl, go_of (s := { s with heap := h' }) e c dd (by decide) ⟨.ref q, H, I1, hkey, ⟨rfl, k, v, q, hkv, rfl, hq⟩, st', fun b hb => (hf b hb).1⟩⟩
  done := by
    intro X hP hw hK hc i pins s σ H E I hf st hg
    subst hP hw hK
    obtain ⟨hd, hi⟩ := hg
    obtain ⟨f0, f1, f2, f3, f4, f5⟩ := hf it (by simp)
    obtain ⟨hs, hgd, hx, es', ep', hdt, hsz, ent⟩ := I.frzT hd
    obtain ⟨rfl, rfl⟩ := dict_ep hod hdt
    exact next_key_end (I.ok.hd hc) st hgd hdt hsz hi fun h' eb => ⟨rfl, I.turned (t' := s.toks) (fun b ob hb e => eb b ob hb e) f0 f1 f3 f4 f5⟩
  self := fun A i s Q E st h => by
    refine wpAny_pyIter_slot st.typeIs F.slot_dict_keyiterator_iter (wpAny_call_entry F.slot_dict_keyiterator_iter st.typeIs F.entry_dict_keyiterator_iter ?_ (F.args_dict_keyiterator_iter_1 _))
    show wpAny _ _ (ret (.ref it)) _ _ s
    exact wpAny_pure ⟨_, rfl, "dict_keyiterator", _, st.typeIs, F.slot_dict_keyiterator_next.lookup, h⟩
end
def iKeys (td : TE) : TI := fun σ H R => td σ H fun x H1 => ∃ d o, x = .ref d ∧ ((∃ kvs, H1 d = some (.frz o (.dK kvs)) ∧ R (Itk d o kvs) H1) ∨ ∃ kvs, H1 d = some (.frz o (.dT kvs)) ∧ R (Itkt d o kvs) H1)
section
variable {X : Cx} {tg e : Expr} {td : TE} {apos cpos : Pos}
theorem pi_keys (he : PE X e td) : PI X tg e (iKeys td) := by
  intro pins s σ H R I h
  refine thn (he pins s σ H _ I h) fun u s1 ⟨x, H1, I1, rx, d, o, ex, q⟩ => ?_
  subst ex
  obtain rfl : u = Value.ref d := rx
  rcases q with ⟨kvs, hd, q⟩ | ⟨kvs, hd, q⟩
  · obtain ⟨hs, hgd, hx, es, ep, vs, hdt, hsz, kv, hm⟩ := I1.frzK hd
    refine iter_keys hs hgd hx hdt (pi_one (tk := s1.toks) I1 _ (turn_keys _ hdt) ⟨_, Heap.get?_push_size _ rfl, rfl, ?_⟩ q)
    rw [hsz] <;> rfl
  · obtain ⟨hs, hgd, hx, es, ep, hdt, hsz, ent⟩ := I1.frzT hd
    refine iter_keys hs hgd hx hdt (pi_one (tk := s1.toks) I1 _ (turn_keysT _ hdt) ⟨_, Heap.get?_push_size _ rfl, rfl, ?_⟩ q)
    rw [hsz] <;> rfl
end
theorem boot_zip5 : bootBuiltins "zip" = some (.type "zip") := by decide +kernel
end L2
section
namespace Bits
open PySem PyProof.Rows
end Bits
end
section
namespace TL
open PySem PySem.Builtin PySem.Builtin.Str PySem.StrLaws
abbrev tl (x : Str) : List Nat := x.cps.toList
def pre (S l : List Nat) : Bool := l.take S.length == S
def par (S : List Nat) : List Nat → List Nat → Option (List Nat × List Nat)
  | _, [] => none
  | acc, c :: r => if pre S (c :: r) = true then some (acc, (c :: r).drop S.length) else par S (acc ++ [c]) r
end TL
end
namespace L2
open PySem PySem.Spec PyProof.Rows
end L2
namespace L2
open PySem PySem.Spec PyProof.Rows
section
variable {X : Cx}
theorem op_in_sign : OpR X (compareOp .In) (fun x y H Q => ∃ (c : Nat) (z : Str), x = .str ⟨#[c]⟩ ∧ y = .str z ∧ Q (.bl (decide (c ∈ z.cps.toList))) H) := by
  intro pins s σ H x y v u Q I rx ry h
  obtain ⟨c, z, rfl, rfl, q⟩ := h
  obtain ⟨t, rfl⟩ := rx
  obtain ⟨t', rfl⟩ := ry
  exact PyProof.Rows.in_str (fin_bl I q (PySem.StrLaws.found_one z c).symm)
end
theorem IsPart.raw {v : Value} {o : Option Int} (p : IsPart v o) : ∃ l : Option (Int × Tok), v = partValue l ∧ l.map (·.1) = o := by
  cases p with
  | none => exact ⟨none, rfl, rfl⟩
  | int i t => exact ⟨some (i, t), rfl, rfl⟩
def clipS (n d : Nat) : Option Int → Int
  | none => (d : Int)
  | some i => max 0 (min (if i < 0 then i + (n : Int) else i) (n : Int))
theorem clipS_eq (n d : Nat) (o : Option Int) : clipS n d o = ((HT.sIx n d o : Nat) : Int) := by
  cases o with
  | none => rfl
  | some v =>
    show max (0 : Int) (min (if v < 0 then v + (n : Int) else v) (n : Int)) = (((if v < 0 then (v + (n : Int)).toNat else min v.toNat n) : Nat) : Int)
    by_cases hv : v < 0
    · simp only [if_pos hv]
      omega
    · simp only [if_neg hv]
      omega
theorem sidx_clip (a b : Option Int) (n : Nat) : Builtin.Str.strSliceIndices a b 1 n = sliceRange (clipS n 0 a) (clipS n n b) 1 := by
  have h1 : ((1 : Int) > 0) = True := by simp
  cases a <;> cases b <;> first
    | rfl
    | (simp only [Builtin.Str.strSliceIndices, clipS, h1, if_true]; rfl)
    | simp [Builtin.Str.strSliceIndices, clipS]
theorem sidx (a b : Option Int) (n : Nat) : Builtin.Str.strSliceIndices a b 1 n = (List.range (HT.sIx n n b - HT.sIx n 0 a)).map (fun k => HT.sIx n 0 a + k) := by
  rw [sidx_clip, clipS_eq, clipS_eq]
  generalize HT.sIx n 0 a = p
  generalize HT.sIx n n b = q
  simp only [sliceRange, show ((1 : Int) > 0) = True from by simp, if_true]
  by_cases hlt : (p : Int) < q
  · have e3 : (((q : Int) - p + 1 - 1) / 1).toNat = q - p := by first | omega | (simp; done) | (simp; omega)
    simp only [hlt, if_true, e3]
    refine List.map_congr_left fun k _ => ?_
    omega
  · have : q - p = 0 := by omega
    simp [hlt, this]
def cutS (z : Str) (lo hi : Option Int) : Str :=
  ⟨((z.cps.toList.drop (HT.sIx z.length 0 lo)).take (HT.sIx z.length z.length hi - HT.sIx z.length 0 lo)).toArray⟩
theorem sliceText_cut (z : Str) (lo hi : Option Int) : PySem.StrLaws.sliceText z lo hi = cutS z lo hi := by
  have h1 : HT.sIx z.length 0 lo ≤ z.length := HT.sIx_le _ _ (Nat.zero_le _) _
  have h2 : HT.sIx z.length z.length hi ≤ z.length := HT.sIx_le _ _ (Nat.le_refl _) _
  have hp : HT.sIx z.length 0 lo ≤ max (HT.sIx z.length 0 lo) (HT.sIx z.length z.length hi) := Nat.le_max_left _ _
  have hq : max (HT.sIx z.length 0 lo) (HT.sIx z.length z.length hi) ≤ z.length := Nat.max_le.mpr ⟨h1, h2⟩
  have hd : max (HT.sIx z.length 0 lo) (HT.sIx z.length z.length hi) - HT.sIx z.length 0 lo = HT.sIx z.length z.length hi - HT.sIx z.length 0 lo := by omega
  have e : Builtin.Str.strSliceIndices lo hi 1 z.length =
      Builtin.Str.strSliceIndices (some ((HT.sIx z.length 0 lo : Nat) : Int)) (some ((max (HT.sIx z.length 0 lo) (HT.sIx z.length z.length hi) : Nat) : Int)) 1 z.length := by
    rw [PySem.StrLaws.strSliceIndices_plain hp hq, hd, sidx]
  have e2 : PySem.StrLaws.sliceText z lo hi =
      PySem.StrLaws.sliceText z (some ((HT.sIx z.length 0 lo : Nat) : Int)) (some ((max (HT.sIx z.length 0 lo) (HT.sIx z.length z.length hi) : Nat) : Int)) := by
    unfold PySem.StrLaws.sliceText
    rw [e]
  rw [e2, PySem.StrLaws.sliceText_nat z hp hq, hd]
  rfl
theorem cutS_length (z : Str) (lo hi : Option Int) : (cutS z lo hi).length ≤ z.length := by
  show (((z.cps.toList.drop (HT.sIx z.length 0 lo)).take (HT.sIx z.length z.length hi - HT.sIx z.length 0 lo)).toArray).size ≤ z.cps.size
  rw [List.size_toArray, List.length_take, List.length_drop, Array.length_toList]
  omega
def rSlS : V → Option Int → Option Int → Hp → VK → Prop := fun x lo hi H Q => ∃ z, x = .str z ∧ z.length ≤ sizeLine ∧ Q (.str (cutS z lo hi)) H
theorem sl_str {X : Cx} : SlR X rSlS := by
  intro pins s σ H x v vl vu lo hi sl Q I rx hs pl pu h
  obtain ⟨z, rfl, hz, q⟩ := h
  obtain ⟨t, rfl⟩ := rx
  obtain ⟨os, hos, hcs, hds⟩ := hs
  obtain ⟨l, rfl, rfl⟩ := IsPart.raw pl
  obtain ⟨u, rfl, rfl⟩ := IsPart.raw pu
  refine ⟨"str", _, F.slot_str_getitem.lookup, typeIs_str _ _ _, ?_⟩
  refine wpAny_getItem_str_slice (l := l) (u := u) (st := none) ⟨os, hos, hcs, hds⟩ rfl ?_
  have hl : (PySem.StrLaws.sliceText z (l.map (·.1)) (u.map (·.1))).length ≤ sizeLine := by
    rw [sliceText_cut]
    exact Nat.le_trans (cutS_length z _ _) hz
  rw [← sliceText_cut] at q
  unfold PySem.StrLaws.sliceText at q hl
  show Made.post (if ((1 : Int) == 1 && (Builtin.Str.strSliceIndices (l.map (·.1)) (u.map (·.1)) 1 z.length).length == z.length) = true then Made.val (.str z t)
    else Made.str ⟨((Builtin.Str.strSliceIndices (l.map (·.1)) (u.map (·.1)) 1 z.length).filterMap (z.cps[·]?)).toArray⟩) (EP X pins σ Q) s
  by_cases c : ((1 : Int) == 1 && (Builtin.Str.strSliceIndices (l.map (·.1)) (u.map (·.1)) 1 z.length).length == z.length) = true
  · rw [if_pos c] at q ⊢
    exact ⟨.str z, H, I, ⟨t, rfl⟩, q⟩
  · rw [if_neg c] at q hl ⊢
    exact ⟨hl, .str _, H, I.tok _, ⟨_, rfl⟩, q⟩
end L2
namespace Att
open PySem PySem.W PySem.Calls PyProof.Rows
theorem ints_of_wellAll {P : Params} {h : Heap} : ∀ (ns : List Int) (vs : List Value), WellAll P h vs (ns.map WData.int) → IntsAre vs ns := by
  intro ns
  induction ns with
  | nil =>
    intro vs w
    rw [List.map_nil] at w
    cases w
    exact .nil
  | cons n ns ih =>
    intro vs w
    rw [List.map_cons] at w
    cases w with
    | cons a b =>
      cases a
      exact .cons _ _ (ih _ b)
theorem script_of {l : OpenLaw} {n : Nat} (hn : l.most = some n) {P : Params} {h : Heap} {args : List WData} {vals : List Value}
    (hpre : l.row.toRowW.claim.pre args = true) (hwl : WellAll P h vals args) :
    ∃ a vs ns, vals = [Value.ref a] ∧ args = [WData.list (ns.map WData.int)] ∧ h.get? a = some { cls := .type "list", data := .seq vs.toArray } ∧ IntsAre vs ns ∧ ns.length ≤ n := by
  have hsh : WShape.hasAll [] args [.list .int] = true := (pre_splitW hpre).1
  have hc : l.pre.holds [] { args := args } = true := (pre_splitW hpre).2
  obtain ⟨d, r, rfl, h1, h2⟩ := hasAllW_cons hsh
  obtain rfl := hasAllW_nil h2
  obtain ⟨xs, rfl, h3⟩ := hasW_list h1
  obtain ⟨ns, rfl⟩ := items_int h3
  have hlen : ns.length ≤ n := by
    unfold OpenLaw.pre at hc
    have h4 : (WTm.not (.lt (.lit (.int (n : Int))) (.len (.arg 0)))).holds [] { args := [.list (ns.map .int)] } = true := by
      have h4 := (holds_andW hc).1
      rw [hn] at h4
      exact h4
    have h5 := condW_of h4 (w_not (w_lt w_lit (w_len_list (w_arg rfl))))
    rw [List.length_map] at h5
    refine Nat.le_of_not_lt fun q => ?_
    have q' : (n : Int) < ((ns.length : Nat) : Int) := by omega
    first
      | (rw [decide_eq_true q'] at h5; exact absurd h5 (by decide))
      | (simp at h5; omega)
  cases hwl with
  | cons w1 w2 =>
    cases w2
    cases w1 with
    | list ho hall => exact ⟨_, _, ns, rfl, rfl, ho, ints_of_wellAll ns _ hall, hlen⟩
theorem post_true (l : OpenLaw) (args : List WData) : l.row.toRowW.claim.post args (.bool true) args = true :=
  postW_of (r := l.row.toRowW) (X := (true == true))
    (show WShape.has [] (.bool true) .bool = true by first | rfl | decide | simp [WShape.has, WShape.arms, WShape.armsAll])
    (show (WTm.eq .res (.lit (.bool true))).value [] { args := args, res := some (.bool true), after := args } = some (.bool (true == true)) from w_eq_bool (w_res rfl) w_lit) rfl
theorem attach_call {l : OpenLaw} {n : Nat} {q : Program} {loose : List Str} {XP : (Str → Option Value) → Heap → Prop} {YP : World → Heap → Prop} {d : DefRec}
    (hn : l.most = some n) (hdf : d.params.defaults = [])
    (call : ∀ (w : World) (s₀ s₁ : Shared) (mg mb : Str → Option Value) (fa : Addr) (o : Obj) (pm cd doc : Value) (a : Addr) (vs : List Value) (ns : List Int),
      Ground q loose [] XP w s₀ mg mb s₁.heap → YP w s₁.heap →
      s₁.heap.get? fa = some o → o.data = .func (docDef d.name d.params d.body d.scope pm cd doc) → s₁.heap.CodeRec cd d.name → mg d.name = some (.ref fa) →
      s₁.heap.get? a = some { cls := .type "list", data := .seq vs.toArray } → IntsAre vs ns → ns.length ≤ n → s₁.gens = #[] →
      codeAny (model l.prog w) callerA (.call (.ref fa) ⟨[.ref a], []⟩) (fun r s' => r = .ok (.ret (.bool true)) ∧ OldK s₁.heap s'.heap ∧ s'.os = s₁.os ∧ AllBare s'.gens) s₁) :
    WalkO q loose XP YP l.row.toRowW d [] (fun f vs => PySem.call f vs) := by
  intro w s₀ s₁ mg mb G Y fa o pm cd doc dV kV ho hd hcd hD hmg hg args vals as hpre hlay hrd hwl hlo
  obtain rfl : dV = .none := Dflts.none hD hdf
  obtain rfl : kV = .none := Dflts.noKw hD
  obtain ⟨a, vs, ns, rfl, rfl, hobj, hints, hlen⟩ := script_of hn hpre hwl
  refine enter_call (codeAny_mono (call w s₀ s₁ mg mb fa o pm cd doc a vs ns G Y ho (fd_plain hd) hcd hmg hobj hints hlen hg) fun r s' hq => ?_)
  obtain ⟨rfl, h2, h3, h4⟩ := hq
  exact ⟨.inl ⟨.bool true, .bool true, [], rfl, fun _ => rfl, .bool true, post_true l _, fun _ => ⟨List.Pairwise.nil, fun _ hm => (nomatch hm)⟩⟩, h2, h3, h4⟩
end Att
namespace L2
open PySem PySem.Spec PyProof.Rows
theorem vals_ints : ∀ {vs : List Value} {ns : List Int}, IntsAre vs ns → Vals (ns.map V.int) vs
  | _, _, .nil => .nil
  | _, _, .cons n t h => .cons ⟨t, rfl⟩ (vals_ints h)
def Only (H : Hp) : Prop := ∀ b, H b = none ∨ ∃ o xs, H b = some (.frz o (.lst xs))
theorem law_call {P : Program} {w : World} {K : PySem.W.Frag} {mg mb : Str → Option Value} {CX : CXT} {k : Nat} {fa a : Addr} {fd : FuncData} {x : Str} {sp : Sp} {s₁ : Shared} {vs : List Value} {ns : List Int}
    (KX : K.In s₁.heap) (hns : s₁.heap.Ns mainGlobals mg) (hb : s₁.heap.Ns builtinsNs mb) (hbb : ∀ x : Str, x ≠ "__name__" → mb x = bootBuiltins x) (hlim : s₁.heap.NoLimit) (hg : s₁.gens = #[])
    (ha : s₁.heap.get? a = some { cls := .type "list", data := .seq vs.toArray }) (hi : IntsAre vs ns) (hl : ns.length ≤ sizeLine) (hr : Room k callerA)
    (F : ∀ base : Heap, K.In base → base.Ns mainGlobals mg → FnOk P w K mg base CX k fa fd [x] sp) (hbind : ∀ (s : Shared) (u : Value), BindsTo s fd ⟨[u], []⟩ [(x, u)])
    (hsp : ∀ H : Hp, Only H → SqL K H a (ns.map V.int) → sp [.ref a] H (fun v _ => v = .bl true) fun _ _ _ => False)
    (hCX : ∀ H e s', CX [] H s₁ (fun _ _ _ => False) e s' → False) :
    codeAny (model P w) callerA (.call (.ref fa) ⟨[.ref a], []⟩) (fun r s' => r = .ok (.ret (.bool true)) ∧ OldK s₁.heap s'.heap ∧ s'.os = s₁.os ∧ AllBare s'.gens) s₁ := by
  have rv := vals_ints hi
  have lenV := hi.length
  have core : ∀ H : Hp, Only H → SqL K H a (ns.map V.int) → HOk P w H s₁.heap → (∀ b, H b ≠ none → b = a) → (H a ≠ none → K.lookup a = none) →
      codeAny (model P w) callerA (.call (.ref fa) ⟨[.ref a], []⟩) (fun r s' => r = .ok (.ret (.bool true)) ∧ OldK s₁.heap s'.heap ∧ s'.os = s₁.os ∧ AllBare s'.gens) s₁ := by
    intro H hO hS hok hA hK
    have base_of : ∀ {b : Addr} {o : Obj}, s₁.heap.get? b = some o → H b = none → (hidT s₁.heap H).get? b = some o := fun e n => hidT_get e n
    have noA : ∀ {b : Addr} {o : Obj} {es : Array DictEntry} {ep : Nat}, s₁.heap.get? b = some o → o.data = .dict es ep → H b = none := fun {b o es ep} e d => by
      cases q : H b with
      | none => rfl
      | some u =>
        have e' : b = a := hA b (by rw [q]; simp)
        subst e'
        rw [ha] at e; cases e
        have d' : Data.seq vs.toArray _ = Data.dict es ep := d
        cases d'
    have nsK : ∀ {b : Addr} {m : Str → Option Value}, s₁.heap.Ns b m → (hidT s₁.heap H).Ns b m := fun {b m} ⟨o, es, ep, e, d, r⟩ => ⟨o, es, ep, base_of e (noA e d), d, r⟩
    have hKb : K.In (hidT s₁.heap H) := fun b o e => base_of (KX b o e) (by
      cases q : H b with
      | none => rfl
      | some u =>
        have e' : b = a := hA b (by rw [q]; simp)
        subst e'
        rw [hK (by rw [q]; simp)] at e; cases e)
    have hM : Mod K mg (hidT s₁.heap H) := ⟨hKb, nsK hns, ⟨mb, nsK hb, hbb⟩, let ⟨mc, h1, h2⟩ := hlim; ⟨mc, nsK h1, h2⟩⟩
    have e0 : Env0 P w K mg (hidT s₁.heap H) callerA [] s₁ H := ⟨rfl, hM, fun b o e => of_hidT e, Nat.le_of_eq (hidT_size _ _), trivial, fun b hb => absurd (show b ∈ ([] : List Addr) from hb) (by simp), hok, .of_eq hg⟩
    refine codeAny_mono ((F _ hKb (nsK hns)).run callerA [] s₁ H ⟨[.ref a], []⟩ [.ref a] [.ref a] _ _ hr e0 (hbind s₁ (.ref a)) (.cons rfl .nil) (hsp H hO hS)) fun r s' h => ?_
    cases r with
    | error e => exact (hCX H e s' h).elim
    | ok fl =>
      cases fl with
      | next => exact False.elim h
      | brk => exact False.elim h
      | cont => exact False.elim h
      | ret u =>
        obtain ⟨v, H', os, bare, un, hok', r', q⟩ := h
        have q' : v = .bl true := q
        subst q'
        obtain rfl : u = Value.bool true := r'
        refine ⟨rfl, OldK.of_keep fun b o e => ?_, os, bare⟩
        cases q : H b with
        | none => exact un.keep b o e q (by intro z; exact absurd (show b ∈ ([] : List Addr) from z) (by simp)) (by simp)
        | some u =>
          rcases hO b with z | ⟨ob, xs, z⟩
          · rw [q] at z; cases z
          · have z2 := un.frzs b ob _ z
            obtain ⟨e1, _⟩ := hok b _ z
            obtain ⟨e2, _⟩ := hok' b _ z2
            rw [e] at e1; cases e1
            exact e2
  cases hk : K.lookup a with
  | some o =>
    have e := KX a o hk
    rw [ha] at e
    cases e
    refine core (fun _ => none) (fun _ => .inl rfl) (.inr ⟨_, vs.toArray, _, hk, rfl, rfl, rfl, by rw [List.size_toArray, lenV]; exact hl, by simpa using rv⟩) (fun b u z => by have z' : (none : Option HO) = some u := z; cases z') (fun b z => absurd rfl z) fun z => absurd rfl z
  | none =>
    refine core (fun b => if b = a then some (.frz { cls := .type "list", data := .seq vs.toArray } (.lst (ns.map V.int))) else none) (fun b => ?_) (.inl (.inr ⟨{ cls := .type "list", data := .seq vs.toArray }, if_pos rfl⟩)) (fun b u z => ?_) (fun b z => ?_) fun _ => hk
    · by_cases hb : b = a
      · exact .inr ⟨_, _, if_pos hb⟩
      · exact .inl (if_neg hb)
    · by_cases hb : b = a
      · have z' := (if_pos hb).symm.trans z
        cases z'
        subst hb
        exact ⟨ha, by rw [List.length_map]; exact hl, vs, _, rv, ha⟩
      · have z' := (if_neg hb).symm.trans z
        cases z'
    · by_cases hb : b = a
      · exact hb
      · exact absurd (if_neg hb) z
end L2
namespace L2
open PySem PySem.Spec PyProof.Rows
theorem walk_of {l : PySem.W.OpenLaw} {n k : Nat} {q : Program} {loose : List Str} {XP : (Str → Option Value) → Heap → Prop} {YP : World → Heap → Prop} {d : DefRec} {K : Params → PySem.W.Frag} {CX : World → CXT} {sp : World → Sp} {x : Str}
    (hn : l.most = some n) (hn2 : n ≤ sizeLine) (hdf : d.params.defaults = []) (hr : Room k callerA)
    (hY : ∀ (w : World) (h : Heap), YP w h → (K w.params).In h)
    (F : ∀ (w : World) (mg : Str → Option Value) (fa : Addr) (h : Heap), (K w.params).In h → h.Ns mainGlobals mg → mg d.name = some (.ref fa) →
      ∃ fd : FuncData, (∀ (s : Shared) (u : Value), BindsTo s fd ⟨[u], []⟩ [(x, u)]) ∧
        ∀ base : Heap, (K w.params).In base → base.Ns mainGlobals mg → FnOk l.prog w (K w.params) mg base (CX w) k fa fd [x] (sp w))
    (hsp : ∀ (w : World) (H : Hp) (a : Addr) (ns : List Int), ns.length ≤ n → Only H → SqL (K w.params) H a (ns.map V.int) → sp w [.ref a] H (fun v _ => v = .bl true) fun _ _ _ => False)
    (hCX : ∀ (w : World) (H : Hp) (s : Shared) (e : Value) (s' : Shared), CX w [] H s (fun _ _ _ => False) e s' → False) :
    PySem.W.WalkO q loose XP YP l.row.toRowW d [] (fun f vs => PySem.call f vs) := by
  refine Att.attach_call hn hdf fun w s₀ s₁ mg mb fa o pm cd doc a vs ns G Y ho hd hcd hmg hobj hints hlen hg => ?_
  have KX := hY w _ Y
  obtain ⟨fd, hb, hF⟩ := F w mg fa _ KX G.T.g hmg
  exact law_call KX G.T.g G.T.b G.T.builtins G.T.nolimit hg hobj hints (Nat.le_trans hlen hn2) hr hF hb (fun H hO hS => hsp w H a ns hlen hO hS) fun H e s' => hCX w H s₁ e s'
end L2
namespace L2
open PySem PySem.Spec PyProof.Rows
def inClass (s : Stmt) (j : Nat) : Stmt := match s with
  | .ClassDef _ _ _ body _ _ _ _ _ _ _ => body.getD j (.Pass ⟨0, 0, 0, 0⟩)
  | _ => .Pass ⟨0, 0, 0, 0⟩
def defArgs (s : Stmt) : Arguments := match s with
  | .FunctionDef _ a _ _ _ _ _ _ _ _ => a
  | _ => { posonlyargs := [], args := [], vararg := none, kwonlyargs := [], kw_defaults := [], kwarg := none, defaults := [] }
def defBody (s : Stmt) : List Stmt := match s with
  | .FunctionDef _ _ b _ _ _ _ _ _ _ => b
  | _ => []
def defScope (s : Stmt) : Scope := match s with
  | .FunctionDef _ _ _ _ _ _ sc _ _ _ => sc
  | _ => { kind := .function, names := [], isGenerator := false, isCoroutine := false }
abbrev CX0 : CXT := fun _ _ _ _ _ _ => False
abbrev E0 : XK := fun _ _ _ => False
theorem pass0 {X : Cx} : Passes CX0 X E0 := fun _ _ _ _ _ _ _ h => h.elim
structure Fun (K : PySem.W.Frag) (x qual : Str) (st : Stmt) (f : Addr) (fd : FuncData) : Prop where
  ex : ∃ (oc : Value) (od : Option Addr) (kV doc pm : Value) (an : Option Addr) (cdv ct : Value) (osl : Array (Option Value)),
    fd = PySem.W.fnOf x qual (defArgs st) (defBody st) (defScope st) .none kV doc pm an cdv ct ∧ K.lookup f = some ⟨oc, od, .func fd, osl⟩ ∧ PySem.W.codeIn K cdv qual = true
  kp : PySem.W.keepIn K (.ref f) = true
section
variable {P : Program} {w : World} {K : PySem.W.Frag} {mg : Str → Option Value} {base : Heap}
theorem Fun.ok {x qual : Str} {st : Stmt} {f : Addr} {fd : FuncData} {N ps : List Str} {k : Nat} {sp : Sp} (F : Fun K x qual st f fd) (S : FnScope N ps (defScope st)) (len : ∀ vs H Q E, sp vs H Q E → vs.length = ps.length)
    (hbody : ∀ (cdv : Value) (A : Around) (outer : List Env) (s : Shared) (H : Hp) (vs : List V) (Q : VK) (E : XK), Room k (A.deeper (envOfC qual (defScope st) s.heap.objs.size f cdv)) → sp vs H Q E →
      ∃ t, PSs (cxOf CX0 P w K mg base N qual (defScope st) f cdv A outer s H E).nox (defBody st) t ∧ t { nx := fun _ H' => Q .non H', rt := Q } (start N vs) H) : FnOk P w K mg base CX0 (k + 1) f fd ps sp := by
  obtain ⟨oc, od, kV, doc, pm, an, cdv, ct, osl, rfl, lk, hcd⟩ := F.ex
  refine fn_of lk hcd S len fun A outer s H vs Q E hr hsp => ?_
  obtain ⟨t, h, q⟩ := hbody cdv A outer s H vs Q E hr hsp
  exact ⟨t, h.nox, q⟩
theorem Fun.binds {x qual : Str} {st : Stmt} {f : Addr} {fd : FuncData} {ps : List Str} (F : Fun K x qual st f fd)
    (h : ∀ (kV doc pm : Value) (an : Option Addr) (cdv ct : Value) (us : List Value), us.length = ps.length → bindArgs (PySem.W.fnOf x qual (defArgs st) (defBody st) (defScope st) .none kV doc pm an cdv ct) ⟨us, []⟩ = pure (ps.zip us)) : Binds K fd ps [] := by
  obtain ⟨oc, od, kV, doc, pm, an, cdv, ct, osl, rfl, lk, hcd⟩ := F.ex
  exact .all (h kV doc pm an cdv ct)
theorem fun_mk {x qual : Str} {st : Stmt} {f : Addr} {oc : Value} {od an : Option Addr} {osl : Array (Option Value)} {kV doc pm cdv ct : Value} (l : K.lookup f = some ⟨oc, od, .func (PySem.W.fnOf x qual (defArgs st) (defBody st) (defScope st) .none kV doc pm an cdv ct), osl⟩)
    (c : PySem.W.codeIn K cdv qual = true) (k : PySem.W.keepIn K (.ref f) = true) : Fun K x qual st f (PySem.W.fnOf x qual (defArgs st) (defBody st) (defScope st) .none kV doc pm an cdv ct) := ⟨⟨oc, od, kV, doc, pm, an, cdv, ct, osl, rfl, l, c⟩, k⟩
end
theorem hu_of {A : Around} {k : Nat} (hr : Room k A) : A.units + 1 < cLine := Nat.lt_of_le_of_lt (Nat.add_le_add_left (by decide : 1 ≤ 64) _) hr.units
theorem small1000 {n : Nat} (h : n ≤ 1000) : n < sizeLine := Nat.lt_of_le_of_lt h (by decide)
section
variable {X : Cx}
theorem pv (i : Nat) {x : Str} {pos : Pos} (hN : X.N[i]? = some x := by rfl) (hv : Vis X.env.scope x := by first | exact Or.inl rfl | exact Or.inr (Or.inl rfl) | exact Or.inr (Or.inr rfl)) (hd : (x == ("__debug__" : Str)) = false := by decide)
    (hcd : (x == ("__classdict__" : Str)) = false := by decide) : PE X (.Name x pos) (tVar i) := pe_var hN hv hd hcd
end
theorem iteF {A B : Prop} (h : B) : if false = true then A else B := by
  rw [if_neg Bool.false_ne_true]
  exact h
theorem iteT {A B : Prop} (h : A) : if true = true then A else B := by
  rw [if_pos rfl]
  exact h
theorem ite2 {c A B : Prop} [Decidable c] (h1 : c → A) (h2 : ¬ c → B) : if c then A else B := by
  by_cases h : c
  · rw [if_pos h]
    exact h1 h
  · rw [if_neg h]
    exact h2 h
def Same (H H' : Hp) : Prop := ∀ b o, H b = some o → H' b = some o
theorem Same.refl (H : Hp) : Same H H := fun _ _ h => h
theorem Same.trans {H H1 H2 : Hp} (a : Same H H1) (b : Same H1 H2) : Same H H2 := fun c o h => b c o (a c o h)
theorem Same.free {H H' : Hp} (e : Same H H') {l : Addr} (h : H' l = Option.none) : H l = Option.none := by
  cases q : H l with
  | none => rfl
  | some o =>
    rw [e l o q] at h
    cases h
theorem Same.seq {K : PySem.W.Frag} {H H' : Hp} {a : Addr} {xs : List V} (e : Same H H') (h : SqL K H a xs) : SqL K H' a xs := by
  rcases h with (h | ⟨o, h⟩) | h
  · exact .inl (.inl (e _ _ h))
  · exact .inl (.inr ⟨o, e _ _ h⟩)
  · exact .inr h
section
variable {κ : Type} [DecidableEq κ]
theorem valV_in {kvs : List (κ × V)} {k : κ} {v : V} (h : valV kvs k = some v) : k ∈ kvs.map (·.1) := by
  have q : (kvs.any fun kv => decide (kv.1 = k)) = true := by
    rw [valV_any, h]
    all_goals rfl
  obtain ⟨p, hp, e⟩ := List.any_eq_true.mp q
  exact List.mem_map.mpr ⟨p, hp, of_decide_eq_true e⟩
end
theorem at_of {xs : List V} {z : Int} {j : Nat} {v : V} (e : z = (j : Int)) (h : xs[j]? = some v) : atI xs z = some v := by
  rw [e]
  exact atI_nat h
theorem Same.made {H H1 : Hp} {x dx C : Addr} (nx : H x = Option.none) (nd : H dx = Option.none) (k : ∀ b o, (upd (upd H dx (.own x)) x (.ins C dx [])) b = some o → b ≠ x → H1 b = some o) : Same H H1 := fun b o e =>
  k b o (by rw [upd_ne (ne_of_none e nx), upd_ne (ne_of_none e nd)]; exact e) (ne_of_none e nx)
end L2
set_option Elab.async false
set_option linter.all false
set_option maxRecDepth 100000
set_option maxHeartbeats 4000000
namespace L2
open PySem PySem.Spec PyProof.Rows
structure QE (X : Cx) (e : Expr) (t : TE) : Prop where
  h : PE X e t
structure QT (X : Cx) (e : Expr) (t : TT) : Prop where
  h : PT X e t
structure QW (X : Cx) (e : Expr) (t : TT) : Prop where
  h : PW X e t
structure QA (X : Cx) (e : List Expr) (t : TA) : Prop where
  h : PA X e t
structure QS (X : Cx) (e : Stmt) (t : TS) : Prop where
  h : PS X e t
structure QSs (X : Cx) (e : List Stmt) (t : TS) : Prop where
  h : PSs X e t
structure QG (X : Cx) (e : Expr) (t : TG) : Prop where
  h : PG X e t
structure QGs (X : Cx) (e : List Expr) (t : TGs) : Prop where
  h : PGs X e t
structure QI (X : Cx) (g e : Expr) (t : TI) : Prop where
  h : PI X g e t
structure QO (X : Cx) (e : Option Expr) (t : TO) : Prop where
  h : PO X e t
structure QTs (X : Cx) (e : List Expr) (t : TT) : Prop where
  h : PTs X e t
theorem QW.pt {X : Cx} {e : Expr} {t : TT} (x : QW X e t) : QT X e t := ⟨x.h.pt⟩
section
variable {X : Cx}
theorem q_pe_int {i j pos} : QE X (.Constant (.int i) j pos) (tC (.int i)) := ⟨pe_int ⟩
end
section
variable {X : Cx}
theorem q_pe_bl {b j pos} : QE X (.Constant (.bool b) j pos) (tC (.bl b)) := ⟨pe_bl ⟩
end
section
variable {X : Cx}
theorem q_pe_non {j pos} : QE X (.Constant .none j pos) (tC .non) := ⟨pe_non ⟩
end
section
variable {X : Cx}
theorem q_pe_str {x j pos} : QE X (.Constant (.str x) j pos) (tC (.str x)) := ⟨pe_str ⟩
end
section
variable {X : Cx}
theorem q_pe_glob {x : Str} {v : V} {u : Value} {pos : Pos} (hg : Gl X x) (hm : X.mg x = some u) (r : RelV v u) (hd : (x == ("__debug__" : Str)) = false := by decide) : QE X (.Name x pos) (tC v) := ⟨pe_glob (hg := hg) (hm := hm) (r := r) (hd := hd)⟩
end
section
variable {X : Cx}
theorem q_pe_bltn {x : Str} {v : V} {u : Value} {pos : Pos} (hg : Gl X x) (hm : X.mg x = none) (hv : bootBuiltins x = some u) (r : RelV v u) (hn : x ≠ "__name__" := by decide) (hd : (x == ("__debug__" : Str)) = false := by decide) : QE X (.Name x pos) (tC v) := ⟨pe_bltn (hg := hg) (hm := hm) (hv := hv) (r := r) (hn := hn) (hd := hd)⟩
end
section
variable {X : Cx}
variable {a b : Expr} {ta tb : TE} {pos : Pos}
theorem q_pt_val {e : Expr} {t : TE} (h : QE X e t) (he : ∀ whole, isTrue e X.env whole = (do let v ← whole; standAt e.pos; holding [v] (truthy v)) := by intro _; rfl) : QT X e (tB t) := ⟨pt_val (h := h.h) (he := he)⟩
end
section
variable {X : Cx}
variable {a b : Expr} {ta tb : TE} {pos : Pos}
variable {tA tB' : TT} {rest : List Expr}
theorem q_pw_and1 (ha : QT X a tA) : QW X (.BoolOp .And [a] pos) tA := ⟨pw_and1 (ha := ha.h)⟩
end
section
variable {X : Cx}
variable {a b : Expr} {ta tb : TE} {pos : Pos}
variable {tA tB' : TT} {rest : List Expr}
theorem q_pw_or1 (ha : QT X a tA) : QW X (.BoolOp .Or [a] pos) tA := ⟨pw_or1 (ha := ha.h)⟩
end
section
variable {X : Cx}
variable {a b : Expr} {ta tb : TE} {pos : Pos}
variable {tA tB' : TT} {rest : List Expr}
theorem q_pw_and (ha : QT X a tA) (hb : QW X (.BoolOp .And (b :: rest) pos) tB') : QW X (.BoolOp .And (a :: b :: rest) pos) (tAnd tA tB') := ⟨pw_and (ha := ha.h) (hb := hb.h)⟩
end
section
variable {X : Cx}
variable {a b : Expr} {ta tb : TE} {pos : Pos}
variable {tA tB' : TT} {rest : List Expr}
theorem q_pw_or (ha : QT X a tA) (hb : QW X (.BoolOp .Or (b :: rest) pos) tB') : QW X (.BoolOp .Or (a :: b :: rest) pos) (tOr tA tB') := ⟨pw_or (ha := ha.h) (hb := hb.h)⟩
end
section
variable {X : Cx}
variable {a b : Expr} {ta tb : TE} {pos : Pos}
variable {tA tB' : TT} {rest : List Expr}
theorem q_pt_not (ha : QT X a tA) : QT X (.UnaryOp .Not a pos) (tNot tA) := ⟨pt_not (ha := ha.h)⟩
end
section
variable {X : Cx}
variable {a b : Expr} {ta tb : TE} {pos : Pos}
variable {tA tB' : TT} {rest : List Expr}
theorem q_pe_one {op} {t : TE} (h : QE X a t) : QE X (.BoolOp op [a] pos) t := ⟨pe_one (h := h.h)⟩
end
section
variable {X : Cx}
variable {a b : Expr} {ta tb : TE} {pos : Pos}
variable {tA tB' : TT} {rest : List Expr}
theorem q_pe_and (ha : QE X a ta) (hb : QE X (.BoolOp .And (b :: rest) pos) tb) : QE X (.BoolOp .And (a :: b :: rest) pos) (tAndV ta tb) := ⟨pe_and (ha := ha.h) (hb := hb.h)⟩
end
section
variable {X : Cx}
variable {a b : Expr} {ta tb : TE} {pos : Pos}
variable {tA tB' : TT} {rest : List Expr}
theorem q_pe_not (ha : QE X a ta) : QE X (.UnaryOp .Not a pos) (tNotV ta) := ⟨pe_not (ha := ha.h)⟩
end
section
variable {X : Cx}
variable {a b : Expr} {ta tb : TE} {pos : Pos}
variable {tA tB' : TT} {rest : List Expr}
theorem q_pe_ifExp {c : Expr} (hc : QT X c tA) (ha : QE X a ta) (hb : QE X b tb) : QE X (.IfExp c a b pos) (tIf tA ta tb) := ⟨pe_ifExp (hc := hc.h) (ha := ha.h) (hb := hb.h)⟩
end
section
variable {X : Cx} {st : Stmt} {rest : List Stmt} {t u : TS} {e : Expr} {te : TE} {pos : Pos}
theorem q_pss_nil  : QSs X [] tNext := ⟨pss_nil ⟩
end
section
variable {X : Cx} {st : Stmt} {rest : List Stmt} {t u : TS} {e : Expr} {te : TE} {pos : Pos}
theorem q_pss_cons (h1 : QS X st t) (h2 : QSs X rest u) : QSs X (st :: rest) (tSeq t u) := ⟨pss_cons (h1 := h1.h) (h2 := h2.h)⟩
end
section
variable {X : Cx} {st : Stmt} {rest : List Stmt} {t u : TS} {e : Expr} {te : TE} {pos : Pos}
theorem q_pss_one (h1 : QS X st t) : QSs X [st] t := ⟨pss_one (h1 := h1.h)⟩
end
section
variable {X : Cx} {st : Stmt} {rest : List Stmt} {t u : TS} {e : Expr} {te : TE} {pos : Pos}
theorem q_ps_expr (he : QE X e te) (hs : swapsWith e none pos.line X.env = pure false := by rfl) : QS X (.Expr e pos) (tDrop te) := ⟨ps_expr (he := he.h) (hs := hs)⟩
end
section
variable {X : Cx} {st : Stmt} {rest : List Stmt} {t u : TS} {e : Expr} {te : TE} {pos : Pos}
theorem q_ps_ret (he : QE X e te) : QS X (.Return (some e) pos) (tRet te) := ⟨ps_ret (he := he.h)⟩
end
section
variable {X : Cx} {st : Stmt} {rest : List Stmt} {t u : TS} {e : Expr} {te : TE} {pos : Pos}
theorem q_ps_if {c : Expr} {a b : List Stmt} {tc : TT} (hc : QT X c tc) (ha : QSs X a t) (hb : QSs X b u) : QS X (.If c a b pos) (tIfS tc t u) := ⟨ps_if (hc := hc.h) (ha := ha.h) (hb := hb.h)⟩
end
section
variable {X : Cx} {st : Stmt} {rest : List Stmt} {t u : TS} {e : Expr} {te : TE} {pos : Pos}
theorem q_ps_never  : QS X st tNever := ⟨ps_never ⟩
end
section
variable {X : Cx} {pos : Pos}
theorem q_pg_name {i : Nat} {x : Str} (hN : X.N.Nodup) (hi : X.N[i]? = some x) (hx : Loc X.env.scope x) (hf : X.fn x = true ∨ X.env.scope.names.lookup x = some .local := by first | exact .inl rfl | exact .inr rfl | assumption) : QG X (.Name x pos) (gName i) := ⟨pg_name (hN := hN) (hi := hi) (hx := hx) (hf := hf)⟩
end
section
variable {X : Cx} {pos : Pos}
theorem q_pgs_nil  : QGs X [] gNil := ⟨pgs_nil ⟩
end
section
variable {X : Cx} {pos : Pos}
theorem q_pgs_cons {e : Expr} {es : List Expr} {t : TG} {u : TGs} (h1 : QG X e t) (h2 : QGs X es u) (hs : (assignEach (e :: es) X.env).map (·.2) = assign e X.env :: (assignEach es X.env).map (·.2) := by rfl) : QGs X (e :: es) (gCons t u) := ⟨pgs_cons (h1 := h1.h) (h2 := h2.h) (hs := hs)⟩
end
section
variable {X : Cx} {pos : Pos}
theorem q_pg_tup {es : List Expr} {k : Nat} {t : TGs} {n : Nat} (hc : X.calm = true) (h : QGs X es t) (hn : (assignEach es X.env).length = n := by rfl) (hst : (assignEach es X.env).findIdx? (·.1) = none := by rfl) : QG X (.Tuple es k pos) (gTup X.K n t) := ⟨pg_tup (hc := hc) (h := h.h) (hn := hn) (hst := hst)⟩
end
section
variable {X : Cx} {pos : Pos}
theorem q_pg_sub {o i : Expr} {to ti : TE} {t : TSet} (ho : QE X o to) (hi : QE X i ti) (hs : PSet X t) (ha : ∀ v, assign (.Subscript o i pos) X.env v = (do
      let ov ← holding [v] (eval o X.env)
      let iv ← holding [v, ov] (eval i X.env)
      standAt pos
      holding [v, ov, iv] (setItem ov iv v)
      release [v, ov, iv] []) := by intro _; rfl) : QG X (.Subscript o i pos) (gSub to ti t) := ⟨pg_sub (ho := ho.h) (hi := hi.h) (hs := hs) (ha := ha)⟩
end
section
variable {X : Cx} {pos : Pos}
theorem q_ps_asg {tg e : Expr} {te : TE} {g : TG} (he : QE X e te) (hg : QG X tg g) (hs : swapsWithSole [tg] e pos.line X.env = pure false := by rfl) (hw : swappedStores [tg] e X.env = pure none := by rfl) (h1 : (assignEach [tg] X.env).map (·.2) = [assign tg X.env] := by rfl) : QS X (.Assign [tg] e pos) (tAsg te g) := ⟨ps_asg (he := he.h) (hg := hg.h) (hs := hs) (hw := hw) (h1 := h1)⟩
end
section
variable {X : Cx} {pos : Pos}
theorem q_ps_set {i : Nat} {x : Str} {e : Expr} {te : TE} {pos' : Pos} (hN : X.N.Nodup) (hi : X.N[i]? = some x) (hx : Loc X.env.scope x) (he : QE X e te) (hs : swapsWith e (some (.Name x pos')) pos.line X.env = pure false := by rfl) (hf : X.fn x = true ∨ X.env.scope.names.lookup x = some .local := by first | exact .inl rfl | exact .inr rfl | assumption) : QS X (.Assign [.Name x pos'] e pos) (tAsg te (gName i)) := ⟨ps_set (hN := hN) (hi := hi) (hx := hx) (he := he.h) (hs := hs) (hf := hf)⟩
end
section
variable {X : Cx} {tg : Expr}
theorem q_pi_list {l : Expr} {tl : TE} (hl : QE X l tl) : QI X tg l (iList X.K tl) := ⟨pi_list (hl := hl.h)⟩
end
section
variable {X : Cx} {tg : Expr}
theorem q_pi_tup {l : Expr} {tl : TE} (hl : QE X l tl) : QI X tg l (iTup X.K tl) := ⟨pi_tup (hl := hl.h)⟩
end
section
variable {X : Cx} {tg : Expr}
theorem q_pi_range1 {a : Expr} {ta : TA} {p pos : Pos} (hg : Gl X "range") (hm : X.mg "range" = none) (ha : QA X [a] ta) (hs : starEach [a] X.env = [(false, eval a X.env)] := by rfl) : QI X tg (.Call (.Name "range" p) [a] [] pos) (iRng1 ta) := ⟨pi_range1 (hg := hg) (hm := hm) (ha := ha.h) (hs := hs)⟩
end
section
variable {X : Cx} {tg : Expr}
theorem q_ps_for {iter : Expr} {body : List Stmt} {wi : TI} {g : TG} {tb : TS} {pos : Pos} (hp : PassesOwn (model X.prog X.w) X.A X.env X.xe) (hc : X.calm = true) (hi : QI X tg iter wi) (hg : QG X tg g) (hb : QSs X body tb) (hs : ∀ x, foldedSetIterable iter X.env x = pure x := by intro _; rfl) : QS X (.For tg iter body [] pos) (tFor wi g tb) := ⟨ps_for (hp := hp) (hc := hc) (hi := hi.h) (hg := hg.h) (hb := hb.h) (hs := hs)⟩
end
section
variable {X : Cx} {a b c : Expr} {ta tb tc : TE} {pos : Pos}
theorem q_pe_op {op : Operator} {r : R2} (ho : OpR X (binaryOp op) r) (ha : QE X a ta) (hb : QE X b tb) : QE X (.BinOp a op b pos) (tOp r ta tb) := ⟨pe_op (ho := ho) (ha := ha.h) (hb := hb.h)⟩
end
section
variable {X : Cx} {a b c : Expr} {ta tb tc : TE} {pos : Pos}
theorem q_pe_un {op : UnaryOp} {r : V → Hp → VK → Prop} (ho : UnR X (unaryOp op) r) (ha : QE X a ta) : QE X (.UnaryOp op a pos) (tUn r ta) := ⟨pe_un (ho := ho) (ha := ha.h)⟩
end
section
variable {X : Cx} {a b c : Expr} {ta tb tc : TE} {pos : Pos}
theorem q_pe_cmpR {op : CmpOp} {r : R2} (ho : OpR X (compareOp op) r) (ha : QE X a ta) (hb : QE X b tb) (hm : behindInMarks op b = false) : QE X (.Compare a [op] [b] pos) (tOp r ta tb) := ⟨pe_cmpR (ho := ho) (ha := ha.h) (hb := hb.h) (hm := hm)⟩
end
section
variable {X : Cx} {a b c : Expr} {ta tb tc : TE} {pos : Pos}
theorem q_pt_cmpR {op : CmpOp} {r : R2} (ho : OpR X (compareOp op) r) (ha : QE X a ta) (hb : QE X b tb) (hm : behindInMarks op b = false) : QT X (.Compare a [op] [b] pos) (tTest (tOp r ta tb)) := ⟨pt_cmpR (ho := ho) (ha := ha.h) (hb := hb.h) (hm := hm)⟩
end
section
variable {X : Cx} {a b c : Expr} {ta tb tc : TE} {pos : Pos}
theorem q_pe_chain {op op' : CmpOp} {r r' : R2} (ho : OpR X (compareOp op) r) (ho' : OpR X (compareOp op') r') (ha : QE X a ta) (hb : QE X b tb) (hc : QE X c tc) (hm : lastMarks [op, op'] [b, c] = false := by with_unfolding_all rfl) : QE X (.Compare a [op, op'] [b, c] pos) (tChain r r' ta tb tc) := ⟨pe_chain (ho := ho) (ho' := ho') (ha := ha.h) (hb := hb.h) (hc := hc.h) (hm := hm)⟩
end
section
variable {X : Cx} {a b c : Expr} {ta tb tc : TE} {pos : Pos}
theorem q_pt_chain {op op' : CmpOp} {r r' : R2} (ho : OpR X (compareOp op) r) (ho' : OpR X (compareOp op') r') (ha : QE X a ta) (hb : QE X b tb) (hc : QE X c tc) (hm : lastMarks [op, op'] [b, c] = false := by with_unfolding_all rfl) : QT X (.Compare a [op, op'] [b, c] pos) (tTest (tChain r r' ta tb tc)) := ⟨pt_chain (ho := ho) (ho' := ho') (ha := ha.h) (hb := hb.h) (hc := hc.h) (hm := hm)⟩
end
section
variable {X : Cx} {a b c : Expr} {ta tb tc : TE} {pos : Pos}
theorem q_pt_truth (ha : QE X a ta) (he : ∀ whole, isTrue a X.env whole = (do let v ← whole; standAt a.pos; holding [v] (truthy v))) : QT X a (fun σ H Q => ta σ H fun x H' => ∃ k, TruV X.K x H' k ∧ Q k H') := ⟨pt_truth (ha := ha.h) (he := he)⟩
end
section
variable {X : Cx} {o e value : Expr} {f : Str} {pos pos' tpos : Pos} {ta tv : TE}
theorem q_pe_fld (he : QE X e ta) (hb : attributeBase e f X.env (eval e X.env) = eval e X.env) : QE X (.Attribute e f pos) (tFld X.K ta f) := ⟨pe_fld (he := he.h) (hb := hb)⟩
end
section
variable {X : Cx} {o e value : Expr} {f : Str} {pos pos' tpos : Pos} {ta tv : TE}
theorem q_ps_fld (ha : QE X o ta) (hv : QE X value tv) (hs : swapsWith value (some (.Attribute o f pos')) pos.line X.env = pure false) : QS X (.Assign [.Attribute o f pos'] value pos) (sFld X.K ta tv f) := ⟨ps_fld (ha := ha.h) (hv := hv.h) (hs := hs)⟩
end
section
variable {X : Cx} {e : Expr} {es : List Expr} {te : TE} {t : TA} {pos : Pos}
theorem q_pa_nil  : QA X [] tNil := ⟨pa_nil ⟩
end
section
variable {X : Cx} {e : Expr} {es : List Expr} {te : TE} {t : TA} {pos : Pos}
theorem q_pa_cons (ha : QE X e te) (hr : QA X es t) (hs : starEach (e :: es) X.env = (false, eval e X.env) :: starEach es X.env := by rfl) : QA X (e :: es) (tCons te t) := ⟨pa_cons (ha := ha.h) (hr := hr.h) (hs := hs)⟩
end
section
variable {X : Cx} {e : Expr} {es : List Expr} {te : TE} {t : TA} {pos : Pos}
theorem q_pe_tup {x1} (h : QA X es t) : QE X (.Tuple es x1 pos) (tTup t) := ⟨pe_tup (h := h.h)⟩
end
section
variable {X : Cx} {e : Expr} {es : List Expr} {te : TE} {t : TA} {pos : Pos}
theorem q_pe_lst (h : QA X es t) : QE X (.List es pos) (tLst t) := ⟨pe_lst (h := h.h)⟩
end
section
variable {X : Cx} {CX : CXT} {k : Nat} {f C : Addr} {fd : FuncData} {ps : List Str} {sp : Sp} {dvs : List V} {ds : List Value} {E : XK} {x m : Str} {p pos apos : Pos} {e o : Expr} {es : List Expr} {ta : TE} {t : TA}
theorem q_pe_call (F : FnOk X.prog X.w X.K X.mg X.base CX k f fd ps sp) (hr : Room k X.A) (hg : Gl X x) (hm : X.mg x = some (.ref f)) (hk : PySem.W.keepIn X.K (.ref f) = true) (hb : Binds X.K fd ps ds) (hd : Vals dvs ds) (hx : Passes CX X E) (ha : QA X (e :: es) t) (hdb : (x == ("__debug__" : Str)) = false := by decide) (he : starEach (e :: es) X.env = (false, eval e X.env) :: starEach es X.env := by rfl) (hpl : (backTo pos (starEach es X.env)).any (·.1) = false := by rfl) : QE X (.Call (.Name x p) (e :: es) [] pos) (tCall sp dvs E t) := ⟨pe_call (F := F) (hr := hr) (hg := hg) (hm := hm) (hk := hk) (hb := hb) (hd := hd) (hx := hx) (ha := ha.h) (hdb := hdb) (he := he) (hpl := hpl)⟩
end
section
variable {X : Cx} {CX : CXT} {k : Nat} {f C : Addr} {fd : FuncData} {ps : List Str} {sp : Sp} {dvs : List V} {ds : List Value} {E : XK} {x m : Str} {p pos apos : Pos} {e o : Expr} {es : List Expr} {ta : TE} {t : TA}
theorem q_pe_meth {pl : Sem Bool} (he : QE X o ta) (c : Cls X.K C) (hm : Meth X.K C m f) (F : FnOk X.prog X.w X.K X.mg X.base CX k f fd ps sp) (hr : Room k X.A) (hb : Binds X.K fd ps ds) (hd : Vals dvs ds) (hx : Passes CX X E) (ha : QA X (e :: es) t) (hst : starEach (e :: es) X.env = (false, eval e X.env) :: starEach es X.env := by rfl) (hpl : (backTo pos (starEach es X.env)).any (·.1) = false := by rfl) (ht : eval (.Call (.Attribute o m apos) (e :: es) [] pos) X.env = (do
      let ov ← eval o X.env
      standAt apos.atName
      let (f, first) ← holding [ov] (getMethod ov m pl)
      callWith pos f first (backTo pos (starEach (e :: es) X.env)) (backToKw pos (keywordEach [] X.env))) := by rfl) : QE X (.Call (.Attribute o m apos) (e :: es) [] pos) (tMeth C m sp dvs E ta t) := ⟨pe_meth (he := he.h) (c := c) (hm := hm) (F := F) (hr := hr) (hb := hb) (hd := hd) (hx := hx) (ha := ha.h) (hst := hst) (hpl := hpl) (ht := ht)⟩
end
section
variable {X : Cx} {CX : CXT} {k : Nat} {f C : Addr} {fd : FuncData} {ps : List Str} {sp : Sp} {dvs : List V} {ds : List Value} {E : XK} {x m : Str} {p pos apos : Pos} {e o : Expr} {es : List Expr} {ta : TE} {t : TA}
theorem q_pe_meth0 {pl : Sem Bool} (he : QE X o ta) (c : Cls X.K C) (hm : Meth X.K C m f) (F : FnOk X.prog X.w X.K X.mg X.base CX k f fd ps sp) (hr : Room k X.A) (hb : Binds X.K fd ps ds) (hd : Vals dvs ds) (hx : Passes CX X E) (ht : eval (.Call (.Attribute o m apos) [] [] pos) X.env = (do
      let ov ← eval o X.env
      standAt apos.atName
      let (f, first) ← holding [ov] (getMethod ov m pl)
      callWith pos f first (backTo pos (starEach [] X.env)) (backToKw pos (keywordEach [] X.env))) := by rfl) : QE X (.Call (.Attribute o m apos) [] [] pos) (tMeth C m sp dvs E ta tNil) := ⟨pe_meth0 (he := he.h) (c := c) (hm := hm) (F := F) (hr := hr) (hb := hb) (hd := hd) (hx := hx) (ht := ht)⟩
end
section
variable {X : Cx} {CX : CXT} {k : Nat} {f C : Addr} {fd : FuncData} {ps : List Str} {sp : Sp} {dvs : List V} {ds : List Value} {E : XK} {x m : Str} {p pos apos : Pos} {e o : Expr} {es : List Expr} {ta : TE} {t : TA}
theorem q_pe_make (M : Mk X.K C f) (F : FnOk X.prog X.w X.K X.mg X.base CX k f fd ps sp) (hr : Room (k + 1) X.A) (hg : Gl X x) (hm : X.mg x = some (.ref C)) (hb : Binds X.K fd ps ds) (hd : Vals dvs ds) (hx : Passes CX X E) (ha : QA X (e :: es) t) (hdb : (x == ("__debug__" : Str)) = false := by decide) (he : starEach (e :: es) X.env = (false, eval e X.env) :: starEach es X.env := by rfl) (hpl : (backTo pos (starEach es X.env)).any (·.1) = false := by rfl) : QE X (.Call (.Name x p) (e :: es) [] pos) (tMake C sp dvs E t) := ⟨pe_make (M := M) (F := F) (hr := hr) (hg := hg) (hm := hm) (hb := hb) (hd := hd) (hx := hx) (ha := ha.h) (hdb := hdb) (he := he) (hpl := hpl)⟩
end
section
variable {X : Cx} {CX : CXT} {k : Nat} {f C : Addr} {fd : FuncData} {ps : List Str} {sp : Sp} {dvs : List V} {ds : List Value} {E : XK} {x m : Str} {p pos apos : Pos} {e o : Expr} {es : List Expr} {ta : TE} {t : TA}
theorem q_pe_make0 (M : Mk X.K C f) (F : FnOk X.prog X.w X.K X.mg X.base CX k f fd ps sp) (hr : Room (k + 1) X.A) (hg : Gl X x) (hm : X.mg x = some (.ref C)) (hb : Binds X.K fd ps ds) (hd : Vals dvs ds) (hx : Passes CX X E) (hdb : (x == ("__debug__" : Str)) = false := by decide) : QE X (.Call (.Name x p) [] [] pos) (tMake C sp dvs E tNil) := ⟨pe_make0 (M := M) (F := F) (hr := hr) (hg := hg) (hm := hm) (hb := hb) (hd := hd) (hx := hx) (hdb := hdb)⟩
end
section
variable {X : Cx} {x : Str} {p pos : Pos} {e : Expr} {es : List Expr} {t : TA} {id T : String} {r : List V → Hp → VK → Prop}
theorem q_pe_callB (hc : CallR X (.builtin id) r) (hg : Gl X x) (hm : X.mg x = none) (hv : bootBuiltins x = some (.builtin id)) (ha : QA X (e :: es) t) (hn : x ≠ "__name__" := by decide) (hdb : (x == ("__debug__" : Str)) = false := by decide) (he : starEach (e :: es) X.env = (false, eval e X.env) :: starEach es X.env := by rfl) (hpl : (backTo pos (starEach es X.env)).any (·.1) = false := by rfl) : QE X (.Call (.Name x p) (e :: es) [] pos) (tCB r t) := ⟨pe_callB (hc := hc) (hg := hg) (hm := hm) (hv := hv) (ha := ha.h) (hn := hn) (hdb := hdb) (he := he) (hpl := hpl)⟩
end
section
variable {X : Cx} {x : Str} {p pos : Pos} {e : Expr} {es : List Expr} {t : TA} {id T : String} {r : List V → Hp → VK → Prop}
theorem q_pe_callTy (hc : CallR X (.type T) r) (hg : Gl X x) (hm : X.mg x = none) (hv : bootBuiltins x = some (.type T)) (ha : QA X (e :: es) t) (hn : x ≠ "__name__" := by decide) (hdb : (x == ("__debug__" : Str)) = false := by decide) (he : starEach (e :: es) X.env = (false, eval e X.env) :: starEach es X.env := by rfl) (hpl : (backTo pos (starEach es X.env)).any (·.1) = false := by rfl) : QE X (.Call (.Name x p) (e :: es) [] pos) (tCB r t) := ⟨pe_callTy (hc := hc) (hg := hg) (hm := hm) (hv := hv) (ha := ha.h) (hn := hn) (hdb := hdb) (he := he) (hpl := hpl)⟩
end
section
variable {X : Cx} {e : Expr} {te : TE} {lo hi : Option Expr} {tl th : TO} {pos p2 : Pos}
theorem q_po_none  : QO X none tNoPart := ⟨po_none ⟩
end
section
variable {X : Cx} {e : Expr} {te : TE} {lo hi : Option Expr} {tl th : TO} {pos p2 : Pos}
theorem q_po_some (h : QE X e te) : QO X (some e) (tPart te) := ⟨po_some (h := h.h)⟩
end
section
variable {X : Cx} {e : Expr} {te : TE} {lo hi : Option Expr} {tl th : TO} {pos p2 : Pos}
theorem q_pe_slice {r : V → Option Int → Option Int → Hp → VK → Prop} (hr : SlR X r) (he : QE X e te) (hl : QO X lo tl) (hu : QO X hi th) : QE X (.Subscript e (.Slice lo hi none p2) pos) (tSl r te tl th) := ⟨pe_slice (hr := hr) (he := he.h) (hl := hl.h) (hu := hu.h)⟩
end
section
variable {X : Cx} {a b : Expr} {ta tb : TE} {pos : Pos}
theorem q_pe_ix {r : R2} (hr : IxR X r) (ha : QE X a ta) (hb : QE X b tb) (hs : PlainIx b) : QE X (.Subscript a b pos) (tOp r ta tb) := ⟨pe_ix (hr := hr) (ha := ha.h) (hb := hb.h) (hs := hs)⟩
end
section
variable {X : Cx} {a b : Expr} {ta tb : TE} {pos : Pos}
variable {o e : Expr} {es : List Expr} {to : TE} {t : TA} {name : Str} {apos cpos : Pos} {T id : String} {r : V → List V → Hp → VK → Prop}
theorem q_pe_bm0 (pa : PlainAttrs T) (slot : Slot T name id) (hty : typeOf (.builtin id) = pure (.type "method_descriptor")) (hm : MtR X id r) (ho : QE X o to) (hbase : attributeBase o name X.env (eval o X.env) = eval o X.env := by rfl) (hline : (apos.endLine == cpos.line) = true := by rfl) : QE X (.Call (.Attribute o name apos) [] [] cpos) (tBM0 X.K T r to) := ⟨pe_bm0 (pa := pa) (slot := slot) (hty := hty) (hm := hm) (ho := ho.h) (hbase := hbase) (hline := hline)⟩
end
section
variable {X : Cx} {a b : Expr} {ta tb : TE} {pos : Pos}
variable {o e : Expr} {es : List Expr} {to : TE} {t : TA} {name : Str} {apos cpos : Pos} {T id : String} {r : V → List V → Hp → VK → Prop}
theorem q_pe_bm (pa : PlainAttrs T) (slot : Slot T name id) (hty : typeOf (.builtin id) = pure (.type "method_descriptor")) (hm : MtR X id r) (ho : QE X o to) (ha : QA X (e :: es) t) (hbase : attributeBase o name X.env (eval o X.env) = eval o X.env := by rfl) (hfew : ((backTo cpos (starEach (e :: es) X.env)).all (fun x => !x.1) && (backToKw cpos (keywordEach [] X.env)).all (fun x => x.1.isSome)
      && decide ((e :: es).length + ([] : List Keyword).length + (if ([] : List Keyword).isEmpty then 0 else 1) < 30)) = true := by rfl) (hline : (apos.endLine == cpos.line) = true := by rfl) (hs : starEach (e :: es) X.env = (false, eval e X.env) :: starEach es X.env := by rfl) (hplain : (backTo cpos (starEach es X.env)).any (·.1) = false := by rfl) : QE X (.Call (.Attribute o name apos) (e :: es) [] cpos) (tBM X.K T r to t) := ⟨pe_bm (pa := pa) (slot := slot) (hty := hty) (hm := hm) (ho := ho.h) (ha := ha.h) (hbase := hbase) (hfew := hfew) (hline := hline) (hs := hs) (hplain := hplain)⟩
end
section
variable {X : Cx} {pins : List (Addr × Obj)} {σ : St} {H : Hp} {s : Shared}
theorem q_pts_nil  : QTs X [] tYes := ⟨pts_nil ⟩
end
section
variable {X : Cx} {pins : List (Addr × Obj)} {σ : St} {H : Hp} {s : Shared}
theorem q_pts_one {c : Expr} {t : TT} (h : QT X c t) : QTs X [c] t := ⟨pts_one (h := h.h)⟩
end
section
variable {X : Cx}
theorem q_pe_lc {elt tg iter : Expr} {ifs : List Expr} {scope : Scope} {own : List (Str × Nat)} {pos : Pos} {wi : TI} {g : TG} {tt : TT} {te : TE} (hc : X.calm = true) (hN : X.N.Nodup) (hi : QI X tg iter wi) (ok : BlkOk X.N X.env.scope scope own) (hg : ∀ (s : Shared) (H : Hp) (C : Addr) (cl : List (Str × Addr)) (fp : List Addr), QG (X.blk s H scope (compEnvC scope cl C X.env) fp) tg g) (ht : ∀ (s : Shared) (H : Hp) (C : Addr) (cl : List (Str × Addr)) (fp : List Addr), QTs (X.blk s H scope (compEnvC scope cl C X.env) fp) ifs tt) (he : ∀ (s : Shared) (H : Hp) (C : Addr) (cl : List (Str × Addr)) (fp : List Addr), QE (X.blk s H scope (compEnvC scope cl C X.env) fp) elt te) (hs : ∀ x, foldedSetIterable iter X.env x = pure x := by intro _; rfl) : QE X (.ListComp elt [⟨tg, iter, ifs, 0⟩] scope pos) (tLc wi g tt te (own.map (·.2))) := ⟨pe_lc (hc := hc) (hN := hN) (hi := hi.h) (ok := ok) (hg := fun _ _ _ _ _ => (hg _ _ _ _ _).h) (ht := fun _ _ _ _ _ => (ht _ _ _ _ _).h) (he := fun _ _ _ _ _ => (he _ _ _ _ _).h) (hs := hs)⟩
end
section
variable {X : Cx}
theorem q_ps_setLc {i : Nat} {y : Str} {py : Pos} {elt tg iter : Expr} {ifs : List Expr} {scope : Scope} {own : List (Str × Nat)} {pos spos : Pos} {wi : TI} {g : TG} {tt : TT} {te : TE} (hc : X.calm = true) (hN : X.N.Nodup) (hy : X.N[i]? = some y) (hyl : X.env.scope.names.lookup y = some .local) (hsw : swapsWith (.ListComp elt [⟨tg, iter, ifs, 0⟩] scope pos) (some (.Name y py)) spos.line X.env = pure true) (hi : QI X tg iter wi) (ok : BlkOk X.N X.env.scope scope own) (hg : ∀ (s : Shared) (H : Hp) (C : Addr) (cl : List (Str × Addr)) (fp : List Addr), QG (X.blk s H scope (compEnvC scope cl C X.env) fp) tg g) (ht : ∀ (s : Shared) (H : Hp) (C : Addr) (cl : List (Str × Addr)) (fp : List Addr), QTs (X.blk s H scope (compEnvC scope cl C X.env) fp) ifs tt) (he : ∀ (s : Shared) (H : Hp) (C : Addr) (cl : List (Str × Addr)) (fp : List Addr), QE (X.blk s H scope (compEnvC scope cl C X.env) fp) elt te) (hs : ∀ x, foldedSetIterable iter X.env x = pure x := by intro _; rfl) : QS X (.Assign [.Name y py] (.ListComp elt [⟨tg, iter, ifs, 0⟩] scope pos) spos) (tAsg (tLc wi g tt te (own.map (·.2))) (gName i)) := ⟨ps_setLc (hc := hc) (hN := hN) (hy := hy) (hyl := hyl) (hsw := hsw) (hi := hi.h) (ok := ok) (hg := fun _ _ _ _ _ => (hg _ _ _ _ _).h) (ht := fun _ _ _ _ _ => (ht _ _ _ _ _).h) (he := fun _ _ _ _ _ => (he _ _ _ _ _).h) (hs := hs)⟩
end
section
variable {X : Cx} {o i e value : Expr} {pos pos' tpos : Pos} {td ty tv : TE}
theorem q_pe_dget (hu : X.A.units + 1 < cLine) (ho : QE X o td) (hi : QE X i ty) (hs : NoSl i) : QE X (.Subscript o i pos) (tDGet td ty) := ⟨pe_dget (hu := hu) (ho := ho.h) (hi := hi.h) (hs := hs)⟩
end
section
variable {X : Cx} {o i e value : Expr} {pos pos' tpos : Pos} {td ty tv : TE}
theorem q_ps_dput (hu : X.A.units + 1 < cLine) (ho : QE X o td) (hi : QE X i ty) (hv : QE X value tv) (hs : swapsWith value (some (.Subscript o i pos')) pos.line X.env = pure false) : QS X (.Assign [.Subscript o i pos'] value pos) (sDPut td ty tv) := ⟨ps_dput (hu := hu) (ho := ho.h) (hi := hi.h) (hv := hv.h) (hs := hs)⟩
end
section
variable {X : Cx} {pos : Pos}
theorem q_pe_dnewK  : QE X (.Dict [] [] pos) tDNewK := ⟨pe_dnewK ⟩
end
section
variable {X : Cx} {o e f : Expr} {apos cpos : Pos} {td ty tx : TE}
theorem q_pe_dget2 (hu : X.A.units + 1 < cLine) (ho : QE X o td) (he : QE X e ty) (hf : QE X f tx) (m : M2 X o "get" apos e f cpos) : QE X (.Call (.Attribute o "get" apos) [e, f] [] cpos) (tDGet2 td ty tx) := ⟨pe_dget2 (hu := hu) (ho := ho.h) (he := he.h) (hf := hf.h) (m := m)⟩
end
section
variable {X : Cx}
theorem q_ps_lock {st : Stmt} {t : TS} (h : QS X st t) : QS X st (tLock t) := ⟨ps_lock (h := h.h)⟩
end
section
theorem q_pi_str {X : Cx} {tg e : Expr} {te : TE} (he : QE X e te) : QI X tg e (iStr te) := ⟨pi_str (he := he.h)⟩
end
section
variable {X : Cx} {tg e : Expr} {td : TE} {apos cpos : Pos}
theorem q_pi_keys (he : QE X e td) : QI X tg e (iKeys td) := ⟨pi_keys (he := he.h)⟩
end
section
variable {X : Cx}
theorem q_pv (i : Nat) {x : Str} {pos : Pos} (hN : X.N[i]? = some x := by rfl) (hv : Vis X.env.scope x := by first | exact Or.inl rfl | exact Or.inr (Or.inl rfl) | exact Or.inr (Or.inr rfl)) (hd : (x == ("__debug__" : Str)) = false := by decide) (hcd : (x == ("__classdict__" : Str)) = false := by decide) : QE X (.Name x pos) (tVar i) := ⟨pv (i := i) (hN := hN) (hv := hv) (hd := hd) (hcd := hcd)⟩
end
section
variable {P : Program} {w : World} {K : PySem.W.Frag} {mg : Str → Option Value} {base : Heap}
theorem Fun.okQ {x qual : Str} {st : Stmt} {f : Addr} {fd : FuncData} {N ps : List Str} {k : Nat} {sp : Sp} (F : Fun K x qual st f fd) (S : FnScope N ps (defScope st)) (len : ∀ vs H Q E, sp vs H Q E → vs.length = ps.length)
    (hbody : ∀ (cdv : Value) (A : Around) (outer : List Env) (s : Shared) (H : Hp) (vs : List V) (Q : VK) (E : XK), Room k (A.deeper (envOfC qual (defScope st) s.heap.objs.size f cdv)) → sp vs H Q E →
      ∃ t, QSs (cxOf CX0 P w K mg base N qual (defScope st) f cdv A outer s H E).nox (defBody st) t ∧ t { nx := fun _ H' => Q .non H', rt := Q } (start N vs) H) : FnOk P w K mg base CX0 (k + 1) f fd ps sp :=
  F.ok S len fun cdv A outer s H vs Q E hr h => let ⟨t, q, r⟩ := hbody cdv A outer s H vs Q E hr h; ⟨t, q.h, r⟩
end
end L2
set_option Elab.async false
set_option linter.all false
set_option maxRecDepth 100000
set_option maxHeartbeats 4000000
namespace Ck
open PySem L2
theorem star_Constant {c k p es env} : starEach (.Constant c k p :: es) env = (false, eval (.Constant c k p) env) :: starEach es env := by rfl
theorem star_Name {c p es env} : starEach (.Name c p :: es) env = (false, eval (.Name c p) env) :: starEach es env := by rfl
theorem star_Call {c k z p es env} : starEach (.Call c k z p :: es) env = (false, eval (.Call c k z p) env) :: starEach es env := by rfl
theorem star_BinOp {a o b p es env} : starEach (.BinOp a o b p :: es) env = (false, eval (.BinOp a o b p) env) :: starEach es env := by rfl
theorem star_Compare {a o b p es env} : starEach (.Compare a o b p :: es) env = (false, eval (.Compare a o b p) env) :: starEach es env := by rfl
theorem star_Subscript {a b p es env} : starEach (.Subscript a b p :: es) env = (false, eval (.Subscript a b p) env) :: starEach es env := by rfl
theorem star_Attribute {a b p es env} : starEach (.Attribute a b p :: es) env = (false, eval (.Attribute a b p) env) :: starEach es env := by rfl
theorem star_List {a p es env} : starEach (.List a p :: es) env = (false, eval (.List a p) env) :: starEach es env := by rfl
theorem star_Tuple {a k p es env} : starEach (.Tuple a k p :: es) env = (false, eval (.Tuple a k p) env) :: starEach es env := by rfl
theorem star_ListComp {a b sc p es env} : starEach (.ListComp a b sc p :: es) env = (false, eval (.ListComp a b sc p) env) :: starEach es env := by rfl
theorem star_IfExp {a b c p es env} : starEach (.IfExp a b c p :: es) env = (false, eval (.IfExp a b c p) env) :: starEach es env := by rfl
section
variable {X : Cx}
def CDivL (i j : Int) : Prop := 0 < j ∧ j.natAbs.log2 < 9000
theorem op_fdivL : OpR X (binaryOp .FloorDiv) (rI CDivL fun i j => .int (i / j)) := opI fun i j _ _ _ _ _ hc q => by
  have h1 : (0 : Int) < j := hc.1
  exact PyProof.Rows.floordiv_int (by omega) (by rw [Int.fdiv_eq_ediv_of_nonneg i (by omega)]; exact q) (.inl (PyProof.noPylong_of_log2 hc.2))
theorem call_isinst : CallR X (.builtin "isinstance") (fun xs H Q => ∃ x n t b, xs = [x, .ty n] ∧ TyOf X.K H x t ∧ PySem.W.kitOne X.K t (.type n) = some b ∧ Q (.bl b) H) := by
  intro pins s σ H xs us Q I r h
  obtain ⟨x, n, t, b, rfl, ty, e, q⟩ := h
  obtain ⟨u, u', rfl, ru, ru'⟩ := vals2 r
  cases ru'
  exact isinst_ok I ru ty e fun tk => ⟨.bl b, H, I.tok _, rfl, q⟩
theorem kit_same {K : PySem.W.Frag} {n : String} : PySem.W.kitOne K (.type n) (.type n) = some true := by
  unfold PySem.W.kitOne
  rw [if_pos (by simp)]
end
theorem lc_str {x : Str} {g : TG} {tt : TT} {te : TE} {vs : List Nat} {σ : St} {H1 : Hp} {D : Addr} {Qd : Hp → Prop} (Pv : Nat → Hp → Prop) (h0 : Pv 0 (upd H1 D (.lst [])))
    (hs : ∀ i c H, x.cps.toList[i]? = some c → Pv i H → g (.str ⟨#[c]⟩) (wipe σ vs) H fun σ2 H2 => wipe σ2 vs = wipe σ vs ∧ tt σ2 H2 fun b H3 =>
      if b = true then te σ2 H3 fun y H4 => ∃ acc, H4 D = some (.lst acc) ∧ acc.length < sizeLine ∧ Pv (i + 1) (upd H4 D (.lst (acc ++ [y]))) else Pv (i + 1) H3) (hd : ∀ H, Pv x.cps.toList.length H → Qd H) :
    ∃ W : Nat → Nat → Hp → Prop, (∃ m, W 0 m (upd H1 D (.lst []))) ∧ ∀ i m H, W i m H →
      ((Its x).stop i H ∧ Qd H) ∨ ((Its x).go i H ∧ ∃ Nx : Hp → Prop, (∀ H', Nx H' → ∃ m', m' < m ∧ W (i + 1) m' H') ∧ ∀ y H', (Its x).yld i H y H' → g y (wipe σ vs) H' fun σ2 H2 => wipe σ2 vs = wipe σ vs ∧ tt σ2 H2 fun b H3 =>
        if b = true then te σ2 H3 fun y H4 => ∃ acc, H4 D = some (.lst acc) ∧ acc.length < sizeLine ∧ Nx (upd H4 D (.lst (acc ++ [y]))) else Nx H3) := by
  refine ⟨fun i m H => m = x.cps.toList.length - i ∧ i ≤ x.cps.toList.length ∧ Pv i H, ⟨x.cps.toList.length, by simp, Nat.zero_le _, h0⟩, ?_⟩
  rintro i m H ⟨rfl, hi, p⟩
  by_cases hlt : i < x.cps.toList.length
  · refine .inr ⟨(show i < x.cps.size by simpa using hlt), Pv (i + 1), fun H' p' => ⟨x.cps.toList.length - (i + 1), by omega, rfl, hlt, p'⟩, fun y H' z => ?_⟩
    obtain ⟨e, c, hc, rfl⟩ := z
    subst e
    exact hs i c _ (by simpa using hc) p
  · have e : i = x.cps.toList.length := by omega
    subst e
    exact .inl ⟨by simp [Its], hd H p⟩
def Keep (d : Addr) (H H' : Hp) : Prop := ∀ b o, H b = some o → b ≠ d → H' b = some o
theorem Keep.refl (d : Addr) (H : Hp) : Keep d H H := fun _ _ h _ => h
theorem Keep.trans {d : Addr} {H H1 H2 : Hp} (a : Keep d H H1) (b : Keep d H1 H2) : Keep d H H2 := fun c o h n => b c o (a c o h n) n
theorem Keep.of {d : Addr} {H H' : Hp} (s : Same H H') : Keep d H H' := fun b o h _ => s b o h
def Scr (K : PySem.W.Frag) (H : Hp) (a : Addr) (ns : List Int) : Prop :=
  (∃ o, H a = some (.frz o (.lst (ns.map V.int)))) ∨ ∃ (o : Obj) (its : Array Value) (n : Nat), K.lookup a = some o ∧ o.cls = .type "list" ∧ o.dict = none ∧ o.data = .seq its n ∧ its.size ≤ sizeLine ∧ Vals (ns.map V.int) its.toList
theorem Scr.sq {K : PySem.W.Frag} {H : Hp} {a : Addr} {ns : List Int} (h : Scr K H a ns) : SqL K H a (ns.map V.int) := h.elim (fun z => .inl (.inr z)) .inr
theorem Scr.of {K : PySem.W.Frag} {H : Hp} {a : Addr} {ns : List Int} (h : SqL K H a (ns.map V.int)) (o : Only H) : Scr K H a ns := by
  rcases h with (h | h) | h
  · rcases o a with z | ⟨u, xs, z⟩
    · rw [h] at z; cases z
    · rw [h] at z; cases z
  · exact .inl h
  · exact .inr h
theorem Scr.keep {K : PySem.W.Frag} {H H' : Hp} {a d : Addr} {ns : List Int} (h : Scr K H a ns) (k : Keep d H H') (hd : ∀ o u, H d ≠ some (.frz o u)) : Scr K H' a ns := by
  rcases h with ⟨o, h⟩ | h
  · refine .inl ⟨o, k _ _ h ?_⟩
    rintro rfl
    exact hd _ _ h
  · exact .inr h
structure DrawAt (K : PySem.W.Frag) (H : Hp) (d a : Addr) (ns : List Int) : Prop where
  ex : ∃ z : Int, 0 ≤ z ∧ H d = some (.lst [.ref a, .int z])
  sc : Scr K H a ns
  len : ns.length ≤ 63
theorem DrawAt.sq {K : PySem.W.Frag} {H : Hp} {d a : Addr} {ns : List Int} (D : DrawAt K H d a ns) : SqL K H a (ns.map V.int) := D.sc.sq
theorem Scr.same {K : PySem.W.Frag} {H H' : Hp} {a : Addr} {ns : List Int} (h : Scr K H a ns) (s : Same H H') : Scr K H' a ns :=
  h.elim (fun ⟨o, z⟩ => .inl ⟨o, s _ _ z⟩) .inr
theorem DrawAt.same {K : PySem.W.Frag} {H H' : Hp} {d a : Addr} {ns : List Int} (D : DrawAt K H d a ns) (s : Same H H') : DrawAt K H' d a ns :=
  ⟨let ⟨z, h0, h⟩ := D.ex; ⟨z, h0, s _ _ h⟩, D.sc.same s, D.len⟩
theorem DrawAt.ne {K : PySem.W.Frag} {H : Hp} {d a p : Addr} {ns : List Int} (D : DrawAt K H d a ns) (h : H p = none) : p ≠ d := by
  obtain ⟨z, _, e⟩ := D.ex
  exact (ne_of_none e h).symm
theorem DrawAt.upd {K : PySem.W.Frag} {H : Hp} {d a p : Addr} {ns : List Int} {o : HO} (D : DrawAt K H d a ns) (np : p ≠ d) (hp : ∀ o u, H p ≠ some (.frz o u)) : DrawAt K (upd H p o) d a ns :=
  ⟨let ⟨z, h0, h⟩ := D.ex; ⟨z, h0, by rw [upd_ne np.symm]; exact h⟩, D.sc.keep (d := p) (fun b u e nb => by rw [upd_ne nb]; exact e) hp, D.len⟩
theorem nofrz {H : Hp} {p : Addr} {xs : List V} (h : H p = some (.lst xs)) : ∀ o u, H p ≠ some (.frz o u) := fun o u z => by rw [h] at z; cases z
theorem Keep.updNew {d L : Addr} {H H' : Hp} {o : HO} (k : Keep d H H') (hL : H L = none) : Keep d H (upd H' L o) := fun b u e nb => by
  rw [upd_ne (ne_of_none e hL)]
  exact k b u e nb
theorem same_new {H : Hp} {p : Addr} {o : HO} (h : H p = none) : Same H (upd H p o) := fun b u e => by
  rw [upd_ne (ne_of_none e h)]
  exact e
theorem dp_ints {K : PySem.W.Frag} {H : Hp} : ∀ ns : List Int, DpAll K H (ns.map V.int) (ns.map PyData.int)
  | [] => .nil
  | n :: r => .cons (.int n) (dp_ints r)
theorem lay_ints : ∀ ns : List Int, PyData.canLayAll0 (ns.map PyData.int) = true
  | [] => rfl
  | n :: r => by
    show PyData.canLayAll0 (PyData.int n :: r.map PyData.int) = true
    simp [PyData.canLayAll0, PyData.canLay0, lay_ints r]
def Okt (x : Str) : Prop := ∀ c ∈ x.cps.toList, c < 1114112
theorem Okt.ok {x : Str} (h : Okt x) : PyData.strOk x = true := by
  unfold PyData.strOk
  rw [← Array.all_toList, List.all_eq_true]
  intro c hc
  exact decide_eq_true (h c hc)
theorem shaped_ints (ns : List Int) : SeqAt.shaped (.list (ns.map PyData.int)) = true := by
  unfold SeqAt.shaped
  rw [Bool.and_eq_true_iff]
  refine ⟨by simp [PyData.canLay0, lay_ints ns], ?_⟩
  simp [PyData.depth, PyProof.Rows.depthAll_ints]
theorem eqv_nil (xs : List PyData) : PyData.eqv (.list xs) (.list []) = xs.isEmpty := by
  cases xs <;> simp [PyData.eqv, PyData.eqvAll]
theorem Okt.append {x y : Str} (h : Okt x) (h' : Okt y) : Okt (x ++ y) := by
  intro c hc
  have e : (x ++ y).cps.toList = x.cps.toList ++ y.cps.toList := by
    show (x.cps ++ y.cps).toList = _
    simp
  rw [e] at hc
  exact (List.mem_append.mp hc).elim (h c) (h' c)
theorem len_app (x y : Str) : (x ++ y).length = x.length + y.length := by
  show (x.cps ++ y.cps).size = x.cps.size + y.cps.size
  simp
theorem len_cut (z : Str) (lo hi : Option Int) : (cutS z lo hi).length ≤ z.length := by
  show (cutS z lo hi).cps.size ≤ z.cps.size
  unfold cutS
  simp only [List.size_toArray, List.length_take, List.length_drop, Array.length_toList]
  omega
theorem Okt.sign {z : Str} (h : Okt z) {c : Nat} (hc : c ∈ z.cps.toList) : Okt ⟨#[c]⟩ := by
  intro b hb
  have e : b = c := by simpa using hb
  rw [e]; exact h c hc
abbrev sgn (c : Nat) : Str := ⟨#[c]⟩
theorem at_bound {α : Type} {xs : List α} {r : Int} (h0 : 0 ≤ r) (h1 : r < xs.length) : ∃ v, atI xs r = some v ∧ v ∈ xs := by
  have hj : r.toNat < xs.length := by omega
  refine ⟨xs[r.toNat], ?_, List.getElem_mem hj⟩
  have e : ((r.toNat : Nat) : Int) = r := by omega
  exact (congrArg (atI xs) e).symm.trans (atI_nat (List.getElem?_eq_getElem hj))
theorem str_len (x : Str) : x.length = x.cps.toList.length := by
  show x.cps.size = _
  simp
theorem yes_i {σ : St} {H : Hp} {A B : Hp → Prop} (h : A H) : tYes σ H (fun b H3 => if b = true then A H3 else B H3) := by
  show (if true = true then A H else B H)
  rw [if_pos rfl]
  exact h
end Ck
set_option Elab.async false
set_option linter.all false
set_option maxRecDepth 100000
set_option maxHeartbeats 4000000
namespace L2
open PySem PySem.Spec PyProof.Rows
def CX1 (P : Program) (w : World) : CXT := fun outer H s E e s' => ∃ (ea C : Addr) (a0 : Value) (B : Heap) (H' : Hp), e = .ref ea ∧ s'.os = s.os ∧ AllBare s'.gens ∧ Un (frs outer) [] H H' s.heap s'.heap ∧ HOk P w H' B ∧
  Heap.FlyingW B outer ea (.ref C) a0 s'.heap ∧ (∀ b o, s.heap.get? b = some o → H b = none → b ∉ frs outer → B.get? b = some o) ∧ (∀ b o, s.heap.get? b = some o → b ∉ frs outer → ∃ o', B.get? b = some o') ∧ E (.ref C) none H'
structure XOk (X : Cx) (E : XK) : Prop where
  ex : X.ex = []
  st : X.stack = X.env :: X.outer
  fr : X.env.frame = some X.env.locals
  calm : X.calm = true
  xe : X.xe = fun e s' => wpAny (model X.prog X.w) X.A (leaving X.env e) (fun _ s'' => CX1 X.prog X.w X.outer X.H_0 X.s_0 E e s'') (fun e' s'' => CX1 X.prog X.w X.outer X.H_0 X.s_0 E e' s'') s'
structure ExcCls (K : PySem.W.Frag) (C : Addr) : Prop where
  ex : PySem.W.excIn K C [.type "ValueError", .type "Exception", .type "BaseException", .type "object"] "ValueError.__new__" = true
structure QX (X : Cx) (e : Stmt) (t : TS) : Prop where
  h : PS X e t
abbrev XC := Addr → St → Hp → Prop
def XS (X : Cx) (pins : List (Addr × Obj)) (EX : XC) (ex : Value) (s' : Shared) : Prop := ∃ σ H1 s1, Inv X pins σ H1 s1 ∧ CX1 X.prog X.w X.stack H1 s1 (fun c _ H' => ∃ C, c = .ref C ∧ EX C σ H') ex s'
abbrev TX := St → Hp → VK → XK → Prop
abbrev TSX := Ends → XC → St → Hp → Prop
structure QEX (X : Cx) (e : Expr) (t : TX) : Prop where
  h : ∀ (pins : List (Addr × Obj)) (s : Shared) (σ : St) (H : Hp) (Q : VK) (EX : XC), Inv X pins σ H s → t σ H Q (fun c _ H' => ∃ C, c = .ref C ∧ EX C σ H') →
    wpAny (model X.prog X.w) X.A (eval e X.env) (EP X pins σ Q) (XS X pins EX) s
structure QSX (X : Cx) (sts : List Stmt) (t : TSX) : Prop where
  h : ∀ (pins : List (Addr × Obj)) (s : Shared) (σ : St) (H : Hp) (D : Ends) (EX : XC), Inv X pins σ H s → t D EX σ H → wpAny (model X.prog X.w) X.A (execs sts X.env) (SP X pins D) (XS X pins EX) s
section
variable {X : Cx} {pins : List (Addr × Obj)} {σ : St} {H : Hp} {s : Shared}
def excAt (ea C : Addr) (h : Heap) : Prop := ∃ o vs, h.get? ea = some o ∧ o.cls = .ref C ∧ o.data = .fields vs
end
end L2
set_option Elab.async false
set_option linter.all false
set_option maxRecDepth 100000
set_option maxHeartbeats 4000000
namespace PySem
open Sem (wp)
end PySem
namespace L2
open PySem PySem.Spec PyProof.Rows
structure ExcI (K : PySem.W.Frag) (C : Addr) : Prop extends ExcCls K C where
  cl : PySem.W.findIn K (.ref C) "__class__" = some (some (.builtin "object.__class__"))
  ga : PySem.W.findIn K (.ref C) "__getattribute__" = some (some (.builtin "BaseException.__getattribute__"))
  gt : PySem.W.findIn K (.ref C) "__getattr__" = some none
theorem ExcCls.look {K : PySem.W.Frag} {C : Addr} (c : ExcCls K C) : ∃ o d cd sl, K.lookup C = some ⟨o, d, .cls cd, sl⟩ := by
  have q := c.ex
  unfold PySem.W.excIn at q
  split at q
  · rename_i dd cd sl ho
    exact ⟨_, _, _, _, ho⟩
  · cases q
inductive TyX (K : PySem.W.Frag) (H : Hp) : V → Value → Prop where
  | of {v : V} {t : Value} : TyOf K H v t → TyX K H v t
  | exc {ea C : Addr} (e : H ea = some (.ext (excAt ea C))) (c : ExcI K C) : TyX K H (.ref ea) (.ref C)
end L2
set_option Elab.async false
set_option linter.all false
set_option maxRecDepth 100000
set_option maxHeartbeats 4000000
namespace PySem
namespace F
end F
section
variable {prog : Program} {w : World} {A : Around} {E : Value → Shared → Prop} {s : Shared}
def Heap.IsRvd (h : Heap) (a l : Addr) (i : Int) : Prop := ∃ o, h.get? a = some o ∧ o.cls = .type "reversed" ∧ o.data = .fields #[.ref l, rawInt i]
theorem Heap.IsRvd.typeIs {a l : Addr} {i : Int} (x : s.heap.IsRvd a l i) : s.TypeIs (.ref a) "reversed" := let ⟨o, ho, hc, _⟩ := x; ⟨o, ho, hc⟩
theorem Heap.IsRvd.at {h h' : Heap} {a l : Addr} {i : Int} (x : h.IsRvd a l i) (e : ∀ o, h.get? a = some o → h'.get? a = some o) : h'.IsRvd a l i := let ⟨o, ho, r⟩ := x; ⟨o, e _ ho, r⟩
end
end PySem
namespace L2
open PySem PySem.Spec PyProof.Rows
end L2
set_option Elab.async false
set_option linter.all false
set_option maxRecDepth 100000
set_option maxHeartbeats 4000000
namespace PySem
namespace F
end F
end PySem
namespace L2
open PySem PySem.Spec PyProof.Rows
end L2
set_option Elab.async false
set_option linter.all false
set_option maxRecDepth 100000
set_option maxHeartbeats 4000000
namespace L2
open PySem PySem.Spec PyProof.Rows
end L2
set_option Elab.async false
set_option linter.all false
set_option maxRecDepth 100000
set_option maxHeartbeats 4000000
namespace PySem
section
variable {prog : Program} {w : World} {A : Around} {E : Value → Shared → Prop} {s : Shared}
theorem nextOf_tup_item {it t : Addr} {i : Nat} {items : Array Value} {x : Value} {Q : Value → Shared → Prop} (hit : s.heap.IsTupleIter it t i) (ht : s.heap.IsTuple t items) (hx : items[i]? = some x)
    (hQ : ∀ h', h'.IsTupleIter it t (i + 1) → Heap.SameBut it s.heap h' → Q x { s with heap := h' }) : wpAny (model prog w) A (Builtin.SmallTypes.nextOf (.ref it)) Q E s := by
  obtain ⟨o, ho, hc, hd⟩ := id hit
  obtain ⟨ol, hol, _, nl, hdl⟩ := ht
  unfold Builtin.SmallTypes.nextOf
  refine wpAny_bind (wpAny_callSpecial?_slot (name := Str.ofString "__next__") hit.typeIs F.slot_tuple_iterator_next
    (wpAny_call_entry F.slot_tuple_iterator_next hit.typeIs F.entry_tuple_iterator_next ?_ (F.args_tuple_iterator_next_1 _)))
  show wpAny _ _ (field (.ref it) 0 >>= _) _ _ s
  refine wpAny_bind (wpAny_field ho hd (x := .ref t) rfl ?_)
  show wpAny _ _ (if (Value.ref t == Value.none) = true then _ else _) _ _ s
  rw [if_neg (show ¬ ((Value.ref t == Value.none) = true) from Bool.false_ne_true)]
  show wpAny _ _ (field (.ref it) 1 >>= _) _ _ s
  refine wpAny_bind (wpAny_field ho hd (x := .int i 0) rfl ?_)
  show wpAny _ _ (seqItems? (.ref t) >>= _) _ _ s
  refine wpAny_bind (wpAny_seqItems hol hdl ?_)
  simp only [Int.toNat_natCast, hx]
  refine wpAny_bind (wpAny_setField ho hd (by simp) (wpAny_pure ⟨x, rfl, wpAny_pure (hQ _ ?_ (Heap.SameBut.update ..))⟩))
  exact ⟨_, Heap.get?_update_self _ ho (Obj.isFreed_of_fields (Obj.data_mapFields hd _)), (Obj.cls_mapFields ..).trans hc, by
    rw [Obj.data_mapFields hd]; simp [rawInt]⟩
theorem nextOf_tup_end {it t : Addr} {i : Nat} {items : Array Value} {Q : Value → Shared → Prop} (hh : A.handled = none) (hit : s.heap.IsTupleIter it t i) (ht : s.heap.IsTuple t items) (hx : items[i]? = none)
    (hE : ∀ h' e, Heap.ExtBut it s.heap h' → (∃ o, h'.get? e = some o ∧ o.cls = .type "StopIteration") → E (.ref e) { s with heap := h' }) : wpAny (model prog w) A (Builtin.SmallTypes.nextOf (.ref it)) Q E s := by
  obtain ⟨o, ho, hc, hd⟩ := id hit
  obtain ⟨ol, hol, _, nl, hdl⟩ := ht
  unfold Builtin.SmallTypes.nextOf
  refine wpAny_bind (wpAny_callSpecial?_slot (name := Str.ofString "__next__") hit.typeIs F.slot_tuple_iterator_next
    (wpAny_call_entry F.slot_tuple_iterator_next hit.typeIs F.entry_tuple_iterator_next ?_ (F.args_tuple_iterator_next_1 _)))
  show wpAny _ _ (field (.ref it) 0 >>= _) _ _ s
  refine wpAny_bind (wpAny_field ho hd (x := .ref t) rfl ?_)
  show wpAny _ _ (if (Value.ref t == Value.none) = true then _ else _) _ _ s
  rw [if_neg (show ¬ ((Value.ref t == Value.none) = true) from Bool.false_ne_true)]
  show wpAny _ _ (field (.ref it) 1 >>= _) _ _ s
  refine wpAny_bind (wpAny_field ho hd (x := .int i 0) rfl ?_)
  show wpAny _ _ (seqItems? (.ref t) >>= _) _ _ s
  refine wpAny_bind (wpAny_seqItems hol hdl ?_)
  simp only [Int.toNat_natCast, hx]
  refine wpAny_bind (wpAny_rule (wpAny_bind (wpAny_setField ho hd (by simp) ?_)))
  show wpAny _ _ (newExc (.type "StopIteration") [] >>= _) _ _ _
  refine wpAny_bind ?_
  simp only [newExc, newTuple]
  refine wpAny_bind (wpAny_newObj_type ?_ (by size_fits))
  refine wpAny_bind (m := firstArgMember _ _) (wpAny_of_eq (a := Value.none) (by first | rfl | (simp only [firstArgMember]; rfl)) ?_)
  refine wpAny_newObj_type ?_ (by size_fits)
  simp only [raiseNew]
  refine wpAny_bind (wpAny_handled ?_)
  first | rw [show A.in1.handled = none from hh] | rw [hh]
  refine wpAny_bind (wpAny_pure (wpAny_throw ?_))
  refine hE _ _ (fun b ob hb e => Heap.get?_push_of_some _ (Heap.get?_push_of_some _ ((Heap.get?_update_other _ _ (Ne.symm hb)).trans e))) ⟨_, Heap.get?_push_size _ rfl, rfl⟩
theorem Draws.tup {A : Around} (hh : A.handled = none) (it l : Addr) (hne : l ≠ it) (items : Array Value) :
    Draws prog w A it [it, l] items.size (fun i v => items[i]? = some v) (fun i h => h.IsTupleIter it l i ∧ h.IsTuple l items) where
  live := fun _ _ st => let ⟨o, ho, _⟩ := st.1; ⟨o, ho⟩
  frame := fun _ _ _ st hk => ⟨st.1.at fun o e => hk it (by simp) o e, let ⟨o, ho, r⟩ := st.2; ⟨o, hk l (by simp) o ho, r⟩⟩
  item := fun i s Q E hi st hQ => by
    refine nextOf_tup_item st.1 st.2 (x := items[i]) (by simp [hi]) fun h' hit' hs' => ?_
    exact hQ _ h' s.toks (by simp [hi]) ⟨hit', let ⟨o, ho, r⟩ := st.2; ⟨o, (hs'.2 l hne).trans ho, r⟩⟩ hs'
  done := fun s Q E st hE => nextOf_tup_end hh st.1 st.2 (by simp) hE
end
end PySem
namespace L2
open PySem PySem.Spec PyProof.Rows
end L2
set_option Elab.async false
set_option linter.all false
set_option maxRecDepth 100000
set_option maxHeartbeats 4000000
namespace PySem
open PyProof.Rows (SetOf_congr setObjOf_fresh)
def Cnt (ss : List Str) (i m : Nat) : Prop := m ≤ i ∧ (m = i ↔ (ss.take i).Nodup)
theorem Cnt.zero (ss : List Str) : Cnt ss 0 0 := ⟨Nat.le_refl _, by simp⟩
theorem take_nodup {ss : List Str} {i : Nat} {x : Str} (hx : ss[i]? = some x) : (ss.take (i + 1)).Nodup ↔ (ss.take i).Nodup ∧ x ∉ ss.take i := by
  rw [List.take_succ, hx]
  show (ss.take i ++ [x]).Nodup ↔ _
  rw [List.nodup_append]
  constructor
  · intro h
    exact ⟨h.1, fun m => h.2.2 x m x (by simp) rfl⟩
  · intro h
    refine ⟨h.1, by simp, fun a ha b hb e => ?_⟩
    have : b = x := by simpa using hb
    exact h.2 (by rw [← this, ← e]; exact ha)
theorem Cnt.next {ss : List Str} {i m : Nat} {x : Str} (h : Cnt ss i m) (hx : ss[i]? = some x) : Cnt ss (i + 1) (if decide (x ∈ ss.take i) = true then m else m + 1) := by
  obtain ⟨h1, h2⟩ := h
  refine ⟨by split <;> omega, ?_⟩
  rw [take_nodup hx]
  by_cases hm : x ∈ ss.take i
  · rw [if_pos (by simpa using hm)]
    constructor
    · intro e; omega
    · intro z; exact absurd hm z.2
  · rw [if_neg (by simpa using hm)]
    constructor
    · intro e; exact ⟨h2.mp (by omega), hm⟩
    · intro z; rw [h2.mpr z.1]
end PySem
namespace L2
open PySem PySem.Spec PyProof.Rows
end L2
set_option Elab.async false
set_option linter.all false
set_option maxRecDepth 100000
set_option maxHeartbeats 4000000
namespace L2
open PySem PySem.Spec PyProof.Rows
section
variable {X : Cx} {K : PySem.W.Frag}
theorem op_notIn_seqK (e : X.K = K) : OpR X (compareOp .NotIn) (rIn K true) := e ▸ op_notIn_seq
theorem ix_tupK (e : X.K = K) : IxR X (rIxT K) := e ▸ ix_tup
theorem q_pg_tupK {pos : Pos} {es : List Expr} {k : Nat} {t : TGs} (n : Nat) (e : X.K = K) (hc : X.calm = true) (h : QGs X es t) (hn : (assignEach es X.env).length = n := by rfl) (hst : (assignEach es X.env).findIdx? (·.1) = none := by rfl) : QG X (.Tuple es k pos) (gTup K n t) := by subst e; exact q_pg_tup hc h hn hst
end
end L2
set_option Elab.async false
set_option linter.all false
set_option maxRecDepth 100000
set_option maxHeartbeats 4000000
namespace Ck
open PySem L2
abbrev letters : Str := "abcdefghijklmnopqrstuvwxyz"
def madeOf (x y : Str) : Bool := decide (0 < x.length) && x.cps.toList.all fun c => decide (c ∈ y.cps.toList)
def nameOk (x : Str) : Bool := madeOf x letters && decide (x.length ≤ 8)
theorem tl_app (x y : Str) : (x ++ y).cps.toList = x.cps.toList ++ y.cps.toList := by
  show (x.cps ++ y.cps).toList = _
  simp
theorem nameOk_iff {x : Str} : nameOk x = true ↔ 0 < x.length ∧ x.length ≤ 8 ∧ ∀ c ∈ x.cps.toList, c ∈ letters.cps.toList := by
  unfold nameOk madeOf
  rw [Bool.and_eq_true, Bool.and_eq_true, decide_eq_true_eq, decide_eq_true_eq, List.all_eq_true]
  constructor
  · rintro ⟨⟨a, b⟩, c⟩
    exact ⟨a, c, fun z hz => of_decide_eq_true (b z hz)⟩
  · rintro ⟨a, c, b⟩
    exact ⟨⟨a, fun z hz => decide_eq_true (b z hz)⟩, c⟩
theorem inV_strs (x : Str) (ws : List Str) : inV (.str x) (ws.map V.str) = decide (x ∈ ws) := by
  unfold inV
  induction ws with
  | nil => rfl
  | cons y r ih =>
    rw [List.map_cons, List.any_cons, ih, Bool.eq_iff_iff]
    have e : eqV (V.str y) (V.str x) = (y == x) := rfl
    rw [e, Bool.or_eq_true, beq_iff_eq, decide_eq_true_eq, decide_eq_true_eq, List.mem_cons]
    constructor
    · rintro (rfl | z)
      · exact .inl rfl
      · exact .inr z
    · rintro (rfl | z)
      · exact .inl rfl
      · exact .inr z
theorem flat_strs (ws : List Str) : (ws.map V.str).all flatV = true := by
  rw [List.all_map, List.all_eq_true]
  intro x _
  rfl
theorem pigeon {α : Type} [DecidableEq α] : ∀ (l f : List α), l.Nodup → (∀ x ∈ l, x ∈ f) → l.length ≤ f.length
  | [], _, _, _ => Nat.zero_le _
  | x :: l, f, hn, h => by
    have hx := h x List.mem_cons_self
    rw [List.nodup_cons] at hn
    have ih := pigeon l (f.erase x) hn.2 fun y hy => by
      have ne : y ≠ x := fun e => hn.1 (e ▸ hy)
      exact (List.mem_erase_of_ne ne).mpr (h y (List.mem_cons_of_mem _ hy))
    rw [List.length_erase_of_mem hx] at ih
    have := List.length_pos_of_mem hx
    rw [List.length_cons]
    omega
theorem letters_nodup : letters.cps.toList.Nodup := by decide +kernel
theorem letters_len : letters.cps.toList.length = 26 := by decide +kernel
theorem free_sign (y : Str) (ws : List Str) (h : ws.length < 26) : (letters.cps.toList.filter fun c => !decide (y ++ sgn c ∈ ws)) ≠ [] := by
  intro e
  have hall : ∀ c ∈ letters.cps.toList, y ++ sgn c ∈ ws := fun c hc => by
    have z := List.filter_eq_nil_iff.mp e c hc
    simpa using z
  have hn : (letters.cps.toList.map fun c => y ++ sgn c).Nodup := by
    refine List.Pairwise.map _ ?_ letters_nodup
    intro a b ne e
    have e2 := congrArg (fun z : Str => z.cps.toList) e
    simp only [tl_app] at e2
    have e3 := List.append_cancel_left e2
    exact ne (by simpa using e3)
  have := pigeon _ ws hn fun x hx => by
    obtain ⟨c, hc, rfl⟩ := List.mem_map.mp hx
    exact hall c hc
  rw [List.length_map, letters_len] at this
  omega
theorem nameOk_cut {x : Str} {c : Nat} (h : nameOk x = true) (hc : c ∈ letters.cps.toList) : nameOk (cutS x none (some 7) ++ sgn c) = true := by
  obtain ⟨h0, h1, h2⟩ := nameOk_iff.mp h
  have hl : (cutS x none (some 7)).length ≤ 7 := by
    have e : (cutS x none (some 7)).length = (cutS x none (some 7)).cps.toList.length := str_len _
    rw [e]
    unfold cutS
    rw [List.length_take]
    have : HT.sIx x.length x.length (some 7) ≤ 7 := by
      unfold HT.sIx; dsimp only; split <;> omega
    first | omega | (show min (HT.sIx x.length x.length (some 7) - HT.sIx x.length 0 none) _ ≤ 7; omega)
  refine nameOk_iff.mpr ⟨by rw [len_app]; show 0 < _ + 1; omega, by rw [len_app]; show _ + 1 ≤ 8; omega, fun b hb => ?_⟩
  rw [tl_app] at hb
  rcases List.mem_append.mp hb with z | z
  · unfold cutS at z
    exact h2 b (List.mem_of_mem_drop (List.mem_of_mem_take z))
  · rw [show b = c by simpa using z]; exact hc
end Ck
set_option Elab.async false
set_option linter.all false
set_option maxRecDepth 100000
set_option maxHeartbeats 4000000
namespace Ck
open PySem L2
abbrev Un1 := Str × Int
structure UsAt (H : Hp) (rs : List Addr) (us : List Un1) : Prop where
  len : rs.length = us.length
  at_ : ∀ (i : Nat) (r : Addr), rs[i]? = some r → ∃ u, us[i]? = some u ∧ H r = some (.tup [.str u.1, .int u.2])
def Tups (H H' : Hp) : Prop := ∀ b xs, H b = some (.tup xs) → H' b = some (.tup xs)
theorem Tups.refl (H : Hp) : Tups H H := fun _ _ h => h
theorem Tups.trans {H H1 H2 : Hp} (a : Tups H H1) (b : Tups H1 H2) : Tups H H2 := fun c xs h => b c xs (a c xs h)
theorem Tups.same {H H' : Hp} (s : Same H H') : Tups H H' := fun b xs h => s b _ h
theorem Keep.tups {d : Addr} {H H' : Hp} {xs : List V} (k : Keep d H H') (hd : H d = some (.lst xs)) : Tups H H' := fun b ys h => k b _ h fun e => by rw [e, hd] at h; cases h
theorem DrawAt.tups {K : PySem.W.Frag} {H H' : Hp} {d a : Addr} {ns : List Int} (D : DrawAt K H d a ns) (k : Keep d H H') : Tups H H' := by
  obtain ⟨z, _, h⟩ := D.ex
  exact k.tups h
theorem Tups.upd {H : Hp} {p : Addr} {xs : List V} {o : HO} (h : H p = some (.lst xs)) : Tups H (upd H p o) := fun b ys e => by
  rw [upd_ne (fun z => by rw [z, h] at e; cases e)]
  exact e
theorem UsAt.mono {H H' : Hp} {rs : List Addr} {us : List Un1} (u : UsAt H rs us) (t : Tups H H') : UsAt H' rs us :=
  ⟨u.len, fun i r h => let ⟨x, hx, e⟩ := u.at_ i r h; ⟨x, hx, t _ _ e⟩⟩
theorem UsAt.nil (H : Hp) : UsAt H [] [] := ⟨rfl, fun i r h => by simp at h⟩
theorem UsAt.snoc {H : Hp} {rs : List Addr} {us : List Un1} {r : Addr} {n : Str} {m : Int} (u : UsAt H rs us) (h : H r = some (.tup [.str n, .int m])) : UsAt H (rs ++ [r]) (us ++ [(n, m)]) := by
  refine ⟨by rw [List.length_append, List.length_append, u.len]; rfl, fun i q hq => ?_⟩
  rw [List.getElem?_append] at hq ⊢
  by_cases hi : i < rs.length
  · rw [if_pos hi] at hq
    rw [if_pos (by rw [← u.len]; exact hi)]
    exact u.at_ i q hq
  · rw [if_neg hi] at hq
    rw [if_neg (by rw [← u.len]; exact hi), ← u.len]
    have e : i - rs.length = 0 := by
      have := (List.getElem?_eq_some_iff.mp hq).1
      simp at this; omega
    rw [e] at hq ⊢
    cases hq
    exact ⟨_, rfl, h⟩
theorem UsAt.init {H : Hp} {rs : List Addr} {us : List Un1} {r : Addr} {x : Un1} (u : UsAt H (rs ++ [r]) (us ++ [x])) : UsAt H rs us ∧ H r = some (.tup [.str x.1, .int x.2]) := by
  have l : rs.length = us.length := by have := u.len; simp at this; exact this
  refine ⟨⟨l, fun i q hq => ?_⟩, ?_⟩
  · have hi := (List.getElem?_eq_some_iff.mp hq).1
    obtain ⟨v, hv, e⟩ := u.at_ i q (by rw [List.getElem?_append_left hi]; exact hq)
    rw [List.getElem?_append_left (by omega)] at hv
    exact ⟨v, hv, e⟩
  · obtain ⟨v, hv, e⟩ := u.at_ rs.length r (by rw [List.getElem?_append_right (Nat.le_refl _)]; simp)
    rw [l, List.getElem?_append_right (Nat.le_refl _)] at hv
    simp at hv
    rw [← hv] at e; exact e
structure Good (pre : List Un1) (z : Str) : Prop where
  len : pre.length ≤ 5
  nm : ∀ u ∈ pre, nameOk u.1 = true
  nz : nameOk z = true
  many : ∀ u ∈ pre, 2 ≤ u.2 ∧ u.2 ≤ 1000
  nd : (pre.map (·.1) ++ [z]).Nodup
def Units (H : Hp) (p : Addr) (pre : List Un1) (z : Str) : Prop := ∃ (rs : List Addr) (r : Addr), H p = some (.tup (rs.map V.ref ++ [.ref r])) ∧ UsAt H rs pre ∧ H r = some (.tup [.str z, .int 1])
theorem Units.mono {H H' : Hp} {p : Addr} {pre : List Un1} {z : Str} (u : Units H p pre z) (t : Tups H H') : Units H' p pre z :=
  let ⟨rs, r, h, a, e⟩ := u; ⟨rs, r, t _ _ h, a.mono t, t _ _ e⟩
theorem Units.all {H : Hp} {p : Addr} {pre : List Un1} {z : Str} (u : Units H p pre z) : ∃ rs : List Addr, H p = some (.tup (rs.map V.ref)) ∧ UsAt H rs (pre ++ [(z, 1)]) := by
  obtain ⟨rs, r, h, a, e⟩ := u
  refine ⟨rs ++ [r], ?_, a.snoc e⟩
  rw [h, List.map_append]; rfl
theorem ref_at {rs : List Addr} {i : Nat} {x : V} (h : (rs.map V.ref)[i]? = some x) : ∃ r, rs[i]? = some r ∧ x = .ref r := by
  rw [List.getElem?_map] at h
  cases e : rs[i]? with
  | none => rw [e] at h; cases h
  | some r => rw [e] at h; cases h; exact ⟨r, rfl, rfl⟩
theorem Good.names {pre : List Un1} {z : Str} (g : Good pre z) : ∀ x ∈ (pre ++ [(z, (1 : Int))]).map (·.1), nameOk x = true := by
  intro x hx
  rw [List.map_append] at hx
  rcases List.mem_append.mp hx with h | h
  · obtain ⟨u, hu, rfl⟩ := List.mem_map.mp h
    exact g.nm u hu
  · rw [show x = z by simpa using h]; exact g.nz
end Ck
set_option Elab.async false
set_option linter.all false
set_option maxRecDepth 100000
set_option maxHeartbeats 4000000
namespace Ck
open PySem L2
theorem kit_int_bool {K : PySem.W.Frag} : PySem.W.kitOne K (.type "int") (.type "bool") = some false := by
  unfold PySem.W.kitOne PySem.W.kitCls
  rw [if_neg (by decide)]
  dsimp only
  rw [if_pos (by decide +kernel)]
  rfl
theorem kit_bool_int {K : PySem.W.Frag} : PySem.W.kitOne K (.type "bool") (.type "int") = some true := by
  unfold PySem.W.kitOne PySem.W.kitCls
  rw [if_neg (by decide)]
  dsimp only
  rw [if_pos (by decide +kernel)]
  rfl
theorem iteN {b : Bool} {A B : Prop} (hb : b = true) (h : B) : if (!b) = true then A else B := by subst hb; exact iteF h
def pr : List Int → Int
  | [] => 1
  | m :: r => m * pr r
def sz : List Int → List Int
  | [] => [1]
  | m :: r => m * pr r :: sz r
def rest (a : Int) (ms : List Int) : Nat → Int
  | 0 => a
  | k + 1 => a % pr (ms.drop k)
end Ck
namespace L2
open PySem
end L2
set_option Elab.async false
set_option linter.all false
set_option maxRecDepth 100000
set_option maxHeartbeats 4000000
namespace L2
open PySem PySem.Spec PyProof.Rows
structure QF (X : Cx) (e : Expr) (t : St → Hp → (Str → Hp → Prop) → Prop) : Prop where
  h : ∀ (pins : List (Addr × Obj)) (s : Shared) (σ : St) (H : Hp) (Q : Str → Hp → Prop), Inv X pins σ H s → t σ H Q →
    wpAny (model X.prog X.w) X.A (eval e X.env) (fun u s' => ∃ x H' tk, Inv X pins σ H' s' ∧ u = .str x tk ∧ Q x H') X.xe s
section
variable {X : Cx} {e : Expr} {te : TE} {pos : Pos}
inductive QFs (X : Cx) : List Expr → (St → Hp → Str → (Str → Hp → Prop) → Prop) → Prop
  | nil : QFs X [] (fun _ H out Q => Q out H)
  | cons {e : Expr} {es : List Expr} {t : St → Hp → (Str → Hp → Prop) → Prop} {r : St → Hp → Str → (Str → Hp → Prop) → Prop} : QF X e t → QFs X es r → QFs X (e :: es) (fun σ H out Q => t σ H fun y H1 => (out ++ y).length ≤ sizeLine ∧ r σ H1 (out ++ y) Q)
theorem QFs.run {es : List Expr} {r : St → Hp → Str → (Str → Hp → Prop) → Prop} (h : QFs X es r) : ∀ (pins : List (Addr × Obj)) (s : Shared) (σ : St) (H : Hp) (out : Str) (Q : VK), out.length ≤ sizeLine → Inv X pins σ H s → r σ H out (fun x H' => Q (.str x) H') →
    wpAny (model X.prog X.w) X.A (joinParts out (evalEach es X.env)) (EP X pins σ Q) X.xe s := by
  induction h with
  | nil =>
    intro pins s σ H out Q hz I h
    exact joinParts_nil ⟨.str out, H, I.tok _, ⟨_, rfl⟩, h⟩ hz
  | cons he hr ih =>
    intro pins s σ H out Q hz I h
    refine joinParts_cons (wpAny_mono (he.h pins s σ H _ I h) (fun u s1 ⟨y, H1, tk, I1, eu, hz1, q⟩ => ?_) fun _ _ z => z)
    subst eu
    exact ⟨hz1, ih pins s1 σ H1 _ Q hz1 I1 q⟩
end
end L2
set_option Elab.async false
set_option linter.all false
set_option maxRecDepth 100000
set_option maxHeartbeats 4000000
namespace PySem
open Sem (wp)
def ItG (t : Bool) (h : Heap) (it l : Addr) (k : Nat) : Prop := ∃ o, h.get? it = some o ∧ o.cls = .type (cond t "tuple_iterator" "list_iterator") ∧ o.data = .fields #[.ref l, .int k 0]
def SqG (t : Bool) (h : Heap) (l : Addr) (xs : Array Value) : Prop := ∃ o, h.get? l = some o ∧ o.cls = .type (cond t "tuple" "list") ∧ ∃ n, o.data = .seq xs n
theorem ItG.at_ {t : Bool} {h h' : Heap} {it l : Addr} {k : Nat} (x : ItG t h it l k) (e : ∀ o, h.get? it = some o → h'.get? it = some o) : ItG t h' it l k := let ⟨o, ho, r⟩ := x; ⟨o, e _ ho, r⟩
theorem SqG.at_ {t : Bool} {h h' : Heap} {l : Addr} {xs : Array Value} (x : SqG t h l xs) (e : ∀ o, h.get? l = some o → h'.get? l = some o) : SqG t h' l xs := let ⟨o, ho, r⟩ := x; ⟨o, e _ ho, r⟩
section
variable {prog : Program} {w : World} {A : Around} {E : Value → Shared → Prop} {s : Shared}
theorem nextG_item {t : Bool} {it l : Addr} {i : Nat} {items : Array Value} {x : Value} {Q : Value → Shared → Prop} (hit : ItG t s.heap it l i) (ht : SqG t s.heap l items) (hx : items[i]? = some x)
    (hQ : ∀ h', ItG t h' it l (i + 1) → Heap.SameBut it s.heap h' → Q x { s with heap := h' }) : wpAny (model prog w) A (Builtin.SmallTypes.nextOf (.ref it)) Q E s := by
  cases t with
  | true => exact nextOf_tup_item (it := it) (t := l) hit ht hx hQ
  | false => exact wpAny_nextOf_list_item (it := it) (l := l) hit ht hx hQ
theorem nextG_end {t : Bool} {it l : Addr} {i : Nat} {items : Array Value} {Q : Value → Shared → Prop} (hh : A.handled = none) (hit : ItG t s.heap it l i) (ht : SqG t s.heap l items) (hx : items[i]? = none)
    (hE : ∀ h' e, Heap.ExtBut it s.heap h' → (∃ o, h'.get? e = some o ∧ o.cls = .type "StopIteration") → E (.ref e) { s with heap := h' }) : wpAny (model prog w) A (Builtin.SmallTypes.nextOf (.ref it)) Q E s := by
  cases t with
  | true => exact nextOf_tup_end (it := it) (t := l) hh hit ht hx hE
  | false => exact wpAny_nextOf_list_end (it := it) (l := l) hh hit ht hx hE
theorem iterG {t : Bool} {l : Addr} {items : Array Value} {Q : Value → Shared → Prop} (hl : SqG t s.heap l items)
    (hQ : Q (.ref s.heap.objs.size) { s with heap := s.heap.push { cls := .type (cond t "tuple_iterator" "list_iterator"), data := .fields #[.ref l, .int 0 0] } }) : wpAny (model prog w) A (pyIter (.ref l)) Q E s := by
  cases t with
  | true => exact wpAny_pyIter_tuple (t := l) hl hQ
  | false => exact wpAny_pyIter_list (l := l) hl hQ
theorem zipG_item {t1 t2 : Bool} {z TI TO i1 i2 l1 l2 : Addr} {k1 k2 : Nat} {xs ys : Array Value} {x y a b : Value} {Q : Value → Shared → Prop} (D : ZipApart z TI TO i1 i2 l1 l2)
    (hz : IsZip s.heap z TI TO .none) (hTI : IsPair s.heap TI (.ref i1) (.ref i2)) (hTO : IsPair s.heap TO a b) (h1 : ItG t1 s.heap i1 l1 k1) (h2 : ItG t2 s.heap i2 l2 k2) (hl1 : SqG t1 s.heap l1 xs) (hl2 : SqG t2 s.heap l2 ys) (hx : xs[k1]? = some x) (hy : ys[k2]? = some y)
    (hQ : ∀ h', IsZip h' z TI TO (rawInt s.heap.objs.size) → IsPair h' TO x y → ItG t1 h' i1 l1 (k1 + 1) → ItG t2 h' i2 l2 (k2 + 1) → IsPair h' s.heap.objs.size x y → h'.objs.size = s.heap.objs.size + 1 →
      (∀ c o, c ≠ z → c ≠ TO → c ≠ i1 → c ≠ i2 → s.heap.get? c = some o → h'.get? c = some o) → Q (.ref s.heap.objs.size) { s with heap := h' }) :
    wpAny (model prog w) A (Builtin.«zip.__next__» ⟨[.ref z], []⟩) (fun fin s' => ∃ v, fin = .done (.ret v) ∧ Q v s') E s := by
  show wpAny _ _ (field (.ref z) 2 >>= _) _ _ _; refine wpAny_bind (wpAny_field hz rfl (x := .bool false) rfl ?_)
  show wpAny _ _ (field (.ref z) 3 >>= _) _ _ _; refine wpAny_bind (wpAny_field hz rfl (x := .ref TI) rfl (wpAny_bind (wpAny_seqItems hTI rfl ?_)))
  show wpAny _ _ (Builtin.SmallTypes.ownedTupleIsFree (.ref z) >>= _) _ _ _; refine wpAny_bind ?_; unfold Builtin.SmallTypes.ownedTupleIsFree
  refine wpAny_bind (wpAny_field hz rfl (x := .none) rfl (wpAny_pure ?_)); simp only [if_true]
  refine wpAny_bind (wpAny_rule (wpAny_bind (wpAny_field hz rfl (x := .ref TO) rfl (wpAny_bind (wpAny_setField_rec hz (by simp) fun g1 hz1 s1 => ?_)))))
  replace hz1 : IsZip g1 z TI TO .ellipsis := hz1
  refine wpAny_bind ?_; simp only [List.zipIdx_cons, List.zipIdx_nil, List.forIn_cons, List.forIn_nil]
  refine wpAny_bind (wpAny_bind (wpAny_onRaise ?_)); show wpAny _ _ (Builtin.SmallTypes.nextOf (.ref i1) >>= _) _ _ _
  refine wpAny_bind (nextG_item (h1.at_ fun _ q => s1.extBut _ _ D.i1z q) (hl1.at_ fun _ q => s1.extBut _ _ D.l1z q) hx fun g2 j1 s2 => wpAny_pure ?_)
  have q2 : IsPair g2 TO a b := s2.extBut _ _ D.TOi1 (s1.extBut _ _ D.TOz hTO)
  refine wpAny_bind (wpAny_seqItems q2 rfl (wpAny_bind (wpAny_updateSeq_pair q2 fun g3 q3 s3 => ?_)))
  replace q3 : IsPair g3 TO x b := q3
  refine wpAny_bind (wpAny_letGo (wpAny_pure (wpAny_bind (wpAny_bind (wpAny_onRaise ?_))))); show wpAny _ _ (Builtin.SmallTypes.nextOf (.ref i2) >>= _) _ _ _
  refine wpAny_bind (nextG_item (h2.at_ fun _ q => s3.extBut _ _ D.TOi2.symm (s2.extBut _ _ D.i12.symm (s1.extBut _ _ D.i2z q))) (hl2.at_ fun _ q => s3.extBut _ _ D.l2TO (s2.extBut _ _ D.l2i1 (s1.extBut _ _ D.l2z q))) hy fun g4 j2 s4 => wpAny_pure ?_)
  have q4 : IsPair g4 TO x b := s4.extBut _ _ D.TOi2 q3
  refine wpAny_bind (wpAny_seqItems q4 rfl (wpAny_bind (wpAny_updateSeq_pair q4 fun g5 q5 s5 => ?_)))
  replace q5 : IsPair g5 TO x y := q5
  refine wpAny_bind (wpAny_letGo (wpAny_pure (wpAny_pure (wpAny_bind (wpAny_seqItems q5 rfl (wpAny_bind (wpAny_newTuple ?_)))))))
  have sz5 : g5.objs.size = s.heap.objs.size := by rw [s5.1, s4.1, s3.1, s2.1, s1.1]
  have z5 : IsZip g5 z TI TO .ellipsis := s5.extBut _ _ D.TOz.symm (s4.extBut _ _ D.i2z.symm (s3.extBut _ _ D.TOz.symm (s2.extBut _ _ D.i1z.symm hz1)))
  have kp : ∀ c o, c ≠ z → c ≠ TO → c ≠ i1 → c ≠ i2 → s.heap.get? c = some o → g5.get? c = some o := fun c o a1 a2 a3 a4 e => s5.extBut _ _ a2 (s4.extBut _ _ a4 (s3.extBut _ _ a2 (s2.extBut _ _ a3 (s1.extBut _ _ a1 e))))
  have j15 : ItG t1 g5 i1 l1 (k1 + 1) := j1.at_ fun _ q => s5.extBut _ _ D.TOi1.symm (s4.extBut _ _ D.i12 (s3.extBut _ _ D.TOi1.symm q))
  have j25 : ItG t2 g5 i2 l2 (k2 + 1) := j2.at_ fun _ q => s5.extBut _ _ D.TOi2.symm q
  have zl : z < g5.objs.size := Heap.lt_size z5
  show wpAny _ _ (Builtin.SmallTypes.ownedTupleHandOut (.ref z) (.ref g5.objs.size) >>= _) _ _ _; refine wpAny_bind ?_; unfold Builtin.SmallTypes.ownedTupleHandOut
  have z6 : IsZip (g5.push { cls := .type "tuple", data := .seq #[x, y] }) z TI TO .ellipsis := Heap.get?_push_of_some _ z5
  refine wpAny_bind (wpAny_setField_rec z6 (by simp) fun g7 z7 s7 => ?_)
  replace z7 : IsZip g7 z TI TO (rawInt g5.objs.size) := z7
  refine wpAny_setField_rec z7 (by simp) fun g8 z8 s8 => ?_
  replace z8 : IsZip g8 z TI TO (rawInt g5.objs.size) := z8
  have up : ∀ c o, c ≠ z → g5.get? c = some o → g8.get? c = some o := fun c o a1 e => s8.extBut _ _ a1 (s7.extBut _ _ a1 (Heap.get?_push_of_some _ e))
  have T8 : IsPair g8 g5.objs.size x y := s8.extBut _ _ (Nat.ne_of_gt zl) (s7.extBut _ _ (Nat.ne_of_gt zl) (Heap.get?_push_size _ rfl))
  have sz8 : g8.objs.size = g5.objs.size + 1 := by rw [s8.1, s7.1, Heap.size_push]
  rw [sz5] at z8 T8 sz8
  refine wpAny_pure ⟨_, rfl, ?_⟩; show Q (.ref g5.objs.size) _; rw [sz5]
  exact hQ g8 z8 (up _ _ D.TOz q5) (j15.at_ fun o e => up _ o D.i1z e) (j25.at_ fun o e => up _ o D.i2z e) T8 sz8 fun c o a1 a2 a3 a4 e => up c o a1 (kp c o a1 a2 a3 a4 e)
theorem zipG_end {t1 t2 : Bool} {z TI TO i1 i2 l1 l2 : Addr} {k1 k2 : Nat} {xs ys : Array Value} {a b : Value} {Q : Fin → Shared → Prop} (hh : A.handled = none) (D : ZipApart z TI TO i1 i2 l1 l2)
    (hz : IsZip s.heap z TI TO .none) (hTI : IsPair s.heap TI (.ref i1) (.ref i2)) (hTO : IsPair s.heap TO a b) (h1 : ItG t1 s.heap i1 l1 k1) (h2 : ItG t2 s.heap i2 l2 k2) (hl1 : SqG t1 s.heap l1 xs) (hl2 : SqG t2 s.heap l2 ys) (hend : xs[k1]? = none ∨ ys[k2]? = none)
    (hE : ∀ h' e, (∀ c o, c ≠ z → c ≠ TO → c ≠ i1 → c ≠ i2 → s.heap.get? c = some o → h'.get? c = some o) → (∃ o, h'.get? e = some o ∧ o.cls = .type "StopIteration") → E (.ref e) { s with heap := h' }) :
    wpAny (model prog w) A (Builtin.«zip.__next__» ⟨[.ref z], []⟩) Q E s := by
  show wpAny _ _ (field (.ref z) 2 >>= _) _ _ _; refine wpAny_bind (wpAny_field hz rfl (x := .bool false) rfl ?_)
  show wpAny _ _ (field (.ref z) 3 >>= _) _ _ _; refine wpAny_bind (wpAny_field hz rfl (x := .ref TI) rfl (wpAny_bind (wpAny_seqItems hTI rfl ?_)))
  show wpAny _ _ (Builtin.SmallTypes.ownedTupleIsFree (.ref z) >>= _) _ _ _; refine wpAny_bind ?_; unfold Builtin.SmallTypes.ownedTupleIsFree
  refine wpAny_bind (wpAny_field hz rfl (x := .none) rfl (wpAny_pure ?_)); simp only [if_true]
  refine wpAny_bind (wpAny_rule (wpAny_bind (wpAny_field hz rfl (x := .ref TO) rfl (wpAny_bind (wpAny_setField_rec hz (by simp) fun g1 hz1 s1 => ?_)))))
  replace hz1 : IsZip g1 z TI TO .ellipsis := hz1
  refine wpAny_bind ?_; simp only [List.zipIdx_cons, List.zipIdx_nil, List.forIn_cons, List.forIn_nil]
  refine wpAny_bind (wpAny_bind (wpAny_onRaise ?_)); show wpAny _ _ (Builtin.SmallTypes.nextOf (.ref i1) >>= _) _ _ _
  cases hx : xs[k1]? with
  | none =>
    refine wpAny_bind (nextG_end hh (h1.at_ fun _ q => s1.extBut _ _ D.i1z q) (hl1.at_ fun _ q => s1.extBut _ _ D.l1z q) hx fun g2 e s2 he => ?_)
    obtain ⟨oe, hoe, hce⟩ := he
    have z2 : IsZip g2 z TI TO .ellipsis := s2 _ _ D.i1z.symm hz1
    have ez : e ≠ z := fun q => by subst q; rw [z2] at hoe; cases hoe; simp at hce
    refine wpAny_setField_rec z2 (by simp) fun g3 _ s3 => hE g3 e (fun c o a1 _ a3 _ q => s3.extBut _ _ a1 (s2 _ _ a3 (s1.extBut _ _ a1 q))) ⟨oe, s3.extBut _ _ ez hoe, hce⟩
  | some x =>
    have hy : ys[k2]? = none := hend.elim (fun q => by rw [hx] at q; cases q) id
    refine wpAny_bind (nextG_item (h1.at_ fun _ q => s1.extBut _ _ D.i1z q) (hl1.at_ fun _ q => s1.extBut _ _ D.l1z q) hx fun g2 j1 s2 => wpAny_pure ?_)
    have q2 : IsPair g2 TO a b := s2.extBut _ _ D.TOi1 (s1.extBut _ _ D.TOz hTO)
    refine wpAny_bind (wpAny_seqItems q2 rfl (wpAny_bind (wpAny_updateSeq_pair q2 fun g3 q3 s3 => ?_)))
    refine wpAny_bind (wpAny_letGo (wpAny_pure (wpAny_bind (wpAny_bind (wpAny_onRaise ?_))))); show wpAny _ _ (Builtin.SmallTypes.nextOf (.ref i2) >>= _) _ _ _
    refine wpAny_bind (nextG_end hh (h2.at_ fun _ q => s3.extBut _ _ D.TOi2.symm (s2.extBut _ _ D.i12.symm (s1.extBut _ _ D.i2z q))) (hl2.at_ fun _ q => s3.extBut _ _ D.l2TO (s2.extBut _ _ D.l2i1 (s1.extBut _ _ D.l2z q))) hy fun g4 e s4 he => ?_)
    obtain ⟨oe, hoe, hce⟩ := he
    have z4 : IsZip g4 z TI TO .ellipsis := s4 _ _ D.i2z.symm (s3.extBut _ _ D.TOz.symm (s2.extBut _ _ D.i1z.symm hz1))
    have ez : e ≠ z := fun q => by subst q; rw [z4] at hoe; cases hoe; simp at hce
    refine wpAny_setField_rec z4 (by simp) fun g5 _ s5 => hE g5 e (fun c o a1 a2 a3 a4 q => s5.extBut _ _ a1 (s4 _ _ a4 (s3.extBut _ _ a2 (s2.extBut _ _ a3 (s1.extBut _ _ a1 q))))) ⟨oe, s5.extBut _ _ ez hoe, hce⟩
theorem pyNext_zipG_item {t1 t2 : Bool} {z TI TO i1 i2 l1 l2 : Addr} {k1 k2 : Nat} {xs ys : Array Value} {x y a b : Value} {Q : Option Value → Shared → Prop} (D : ZipApart z TI TO i1 i2 l1 l2)
    (hz : IsZip s.heap z TI TO .none) (hTI : IsPair s.heap TI (.ref i1) (.ref i2)) (hTO : IsPair s.heap TO a b) (h1 : ItG t1 s.heap i1 l1 k1) (h2 : ItG t2 s.heap i2 l2 k2) (hl1 : SqG t1 s.heap l1 xs) (hl2 : SqG t2 s.heap l2 ys) (hx : xs[k1]? = some x) (hy : ys[k2]? = some y)
    (hQ : ∀ h', IsZip h' z TI TO (rawInt s.heap.objs.size) → IsPair h' TO x y → ItG t1 h' i1 l1 (k1 + 1) → ItG t2 h' i2 l2 (k2 + 1) → IsPair h' s.heap.objs.size x y → h'.objs.size = s.heap.objs.size + 1 →
      (∀ c o, c ≠ z → c ≠ TO → c ≠ i1 → c ≠ i2 → s.heap.get? c = some o → h'.get? c = some o) → Q (some (.ref s.heap.objs.size)) { s with heap := h' }) : wpAny (model prog w) A (pyNext (.ref z)) Q E s := by
  have hT : s.TypeIs (.ref z) "zip" := ⟨_, hz, rfl⟩
  unfold pyNext
  exact wpAny_bind (wpAny_attempt (wpAny_callSpecial?_slot (name := Str.ofString "__next__") hT F.slot_zip_next (wpAny_call_entry F.slot_zip_next hT F.entry_zip_next (zipG_item D hz hTI hTO h1 h2 hl1 hl2 hx hy fun h' a1 a2 a3 a4 a5 a6 a7 => wpAny_pure (hQ h' a1 a2 a3 a4 a5 a6 a7)) (F.args_zip_next_1 _))))
theorem pyNext_zipG_end {t1 t2 : Bool} {z TI TO i1 i2 l1 l2 : Addr} {k1 k2 : Nat} {xs ys : Array Value} {a b : Value} {Q : Option Value → Shared → Prop} (hh : A.handled = none) (D : ZipApart z TI TO i1 i2 l1 l2)
    (hz : IsZip s.heap z TI TO .none) (hTI : IsPair s.heap TI (.ref i1) (.ref i2)) (hTO : IsPair s.heap TO a b) (h1 : ItG t1 s.heap i1 l1 k1) (h2 : ItG t2 s.heap i2 l2 k2) (hl1 : SqG t1 s.heap l1 xs) (hl2 : SqG t2 s.heap l2 ys) (hend : xs[k1]? = none ∨ ys[k2]? = none)
    (hQ : ∀ h', (∀ c o, c ≠ z → c ≠ TO → c ≠ i1 → c ≠ i2 → s.heap.get? c = some o → h'.get? c = some o) → Q none { s with heap := h' }) : wpAny (model prog w) A (pyNext (.ref z)) Q E s := by
  have hT : s.TypeIs (.ref z) "zip" := ⟨_, hz, rfl⟩
  unfold pyNext
  refine wpAny_bind (wpAny_attempt (wpAny_callSpecial?_slot (name := Str.ofString "__next__") hT F.slot_zip_next (wpAny_call_entry F.slot_zip_next hT F.entry_zip_next (zipG_end hh D hz hTI hTO h1 h2 hl1 hl2 hend fun h' e hk he => ?_) (F.args_zip_next_1 _))))
  obtain ⟨o, ho, hc⟩ := he
  exact wpAny_bind (wpAny_isInstance (T := "StopIteration") (b := true) ⟨o, ho, hc⟩ isSubtype_stop (wpAny_pure (hQ _ hk)))
end
abbrev itO (t : Bool) (l : Addr) : Obj := { cls := .type (cond t "tuple_iterator" "list_iterator"), data := .fields #[.ref l, .int 0 0] }
abbrev zg1 (t1 : Bool) (h : Heap) (l1 : Addr) : Heap := h.push (itO t1 l1)
abbrev zg2 (t1 t2 : Bool) (h : Heap) (l1 l2 : Addr) : Heap := (zg1 t1 h l1).push (itO t2 l2)
abbrev zg3 (t1 t2 : Bool) (h : Heap) (l1 l2 : Addr) : Heap := (zg2 t1 t2 h l1 l2).push { cls := .type "tuple", data := .seq #[.ref h.objs.size, .ref (zg1 t1 h l1).objs.size] }
abbrev zg4 (t1 t2 : Bool) (h : Heap) (l1 l2 : Addr) : Heap := (zg3 t1 t2 h l1 l2).push { cls := .type "tuple", data := .seq #[.none, .none] }
abbrev zg5 (t1 t2 : Bool) (h : Heap) (l1 l2 : Addr) : Heap := (zg4 t1 t2 h l1 l2).push { cls := .type "zip", data := .fields #[.none, .bool false, .bool false, .ref (zg2 t1 t2 h l1 l2).objs.size, .ref (zg3 t1 t2 h l1 l2).objs.size] }
theorem meets_zipG (t1 t2 : Bool) (l1 l2 : Addr) (xs ys : Array Value) :
    Meets (Builtin.«zip.__new__» ⟨[.type "zip", .ref l1, .ref l2], []⟩) (fun _ R s => SqG t1 s.heap l1 xs ∧ SqG t2 s.heap l2 ys ∧ R (.ok (.ret (.ref (zg4 t1 t2 s.heap l1 l2).objs.size))) { s with heap := zg5 t1 t2 s.heap l1 l2 }) :=
  .of_wp fun prog w A R s h => by
    obtain ⟨hp, g, d, tk, os⟩ := s; obtain ⟨hl1, hl2, h⟩ := h
    have hsub := sub_zip
    have hL1 : SqG t1 (Shared.heap ⟨hp, g, d, tk, os⟩) l1 xs := hl1
    have hL2 : SqG t2 (Shared.heap ⟨hp.push (itO t1 l1), g, d, tk, os⟩) l2 ys := hl2.at_ fun o e => Heap.get?_push_of_some _ e
    wp_walk using iterG hL1, iterG hL2
    exact ⟨_, rfl, h⟩
end PySem
set_option Elab.async false
set_option linter.all false
set_option maxRecDepth 100000
set_option maxHeartbeats 4000000
namespace PySem
section
variable {prog : Program} {w : World} {A : Around} {E : Value → Shared → Prop} {s : Shared}
theorem call_zipG {t1 t2 : Bool} {l1 l2 : Addr} {xs ys : Array Value} {Q : Value → Shared → Prop} (hl1 : SqG t1 s.heap l1 xs) (hl2 : SqG t2 s.heap l2 ys)
    (h : ∀ h', IsZip h' (s.heap.objs.size + 4) (s.heap.objs.size + 2) (s.heap.objs.size + 3) .none → IsPair h' (s.heap.objs.size + 2) (.ref s.heap.objs.size) (.ref (s.heap.objs.size + 1)) → IsPair h' (s.heap.objs.size + 3) .none .none →
      ItG t1 h' s.heap.objs.size l1 0 → ItG t2 h' (s.heap.objs.size + 1) l2 0 → h'.objs.size = s.heap.objs.size + 5 → (∀ c o, s.heap.get? c = some o → h'.get? c = some o) → Q (.ref (s.heap.objs.size + 4)) { s with heap := h' }) :
    wpAny (model prog w) A (call (.type "zip") [.ref l1, .ref l2]) Q E s := by
  refine callType_new F.called_zip (by decide) (F.typeCall_zip_2 _ _) (F.newCall_zip_2 _ _) (fun obj => F.args_object_init_3 obj _ _) F.entry_zip_new (meets_zipG t1 t2 l1 l2 xs ys) ⟨hl1, hl2, ?_⟩
  have z1 : (zg1 t1 s.heap l1).objs.size = s.heap.objs.size + 1 := Heap.size_push ..
  have z2 : (zg2 t1 t2 s.heap l1 l2).objs.size = s.heap.objs.size + 2 := by rw [Heap.size_push, z1]
  have z3 : (zg3 t1 t2 s.heap l1 l2).objs.size = s.heap.objs.size + 3 := by rw [Heap.size_push, z2]
  have z4 : (zg4 t1 t2 s.heap l1 l2).objs.size = s.heap.objs.size + 4 := by rw [Heap.size_push, z3]
  have z5 : (zg5 t1 t2 s.heap l1 l2).objs.size = s.heap.objs.size + 5 := by rw [Heap.size_push, z4]
  have g5 : (zg5 t1 t2 s.heap l1 l2).get? (zg4 t1 t2 s.heap l1 l2).objs.size = some _ := Heap.get?_push_size _ rfl
  have g4 : (zg5 t1 t2 s.heap l1 l2).get? (zg3 t1 t2 s.heap l1 l2).objs.size = some _ := Heap.get?_push_of_some _ (Heap.get?_push_size _ rfl)
  have g3 : (zg5 t1 t2 s.heap l1 l2).get? (zg2 t1 t2 s.heap l1 l2).objs.size = some _ := Heap.get?_push_of_some _ (Heap.get?_push_of_some _ (Heap.get?_push_size _ rfl))
  have g2 : (zg5 t1 t2 s.heap l1 l2).get? (zg1 t1 s.heap l1).objs.size = some _ := Heap.get?_push_of_some _ (Heap.get?_push_of_some _ (Heap.get?_push_of_some _ (Heap.get?_push_size _ rfl)))
  have g1 : (zg5 t1 t2 s.heap l1 l2).get? s.heap.objs.size = some _ := Heap.get?_push_of_some _ (Heap.get?_push_of_some _ (Heap.get?_push_of_some _ (Heap.get?_push_of_some _ (Heap.get?_push_size _ rfl))))
  show _ ∧ _
  rw [z2, z3, z4] at g5
  rw [z1, z2] at g3
  rw [z3] at g4
  rw [z1] at g2
  rw [z4]
  exact ⟨⟨_, g5, rfl⟩, h _ g5 g3 g4 ⟨_, g1, rfl, rfl⟩ ⟨_, g2, rfl, rfl⟩ z5 fun c o e => Heap.get?_push_of_some _ (Heap.get?_push_of_some _ (Heap.get?_push_of_some _ (Heap.get?_push_of_some _ (Heap.get?_push_of_some _ e))))⟩
end
end PySem
namespace L2
open PySem PySem.Spec PyProof.Rows
def SqB (t : Bool) (K : PySem.W.Frag) (H : Hp) (a : Addr) (xs : List V) : Prop := match t with
  | true => SqT K H a xs
  | false => SqL K H a xs
section
variable {X : Cx} {pins : List (Addr × Obj)} {σ : St} {H : Hp} {s : Shared}
theorem Inv.sqB {t : Bool} {a : Addr} {xs : List V} (I : Inv X pins σ H s) (h : SqB t X.K H a xs) : ∃ its : List Value, Vals xs its ∧ SqG t s.heap a its.toArray ∧ a < s.heap.objs.size := by
  cases t with
  | true =>
    obtain ⟨its, r, ⟨o, e, c, n, d⟩, _⟩ := I.tuple h
    exact ⟨its, r, ⟨o, e, c, n, d⟩, Heap.lt_size e⟩
  | false =>
    obtain ⟨its, r, p, _⟩ := I.list h
    obtain ⟨o, e, c, n, d⟩ := p.isList
    exact ⟨its, r, ⟨o, e, c, n, d⟩, Heap.lt_size e⟩
theorem Inv.sqB_inj {t : Bool} {a : Addr} {xs ys : List V} (I : Inv X pins σ H s) (h : SqB t X.K H a xs) (h' : SqB t X.K H a ys) : xs = ys := by
  cases t with
  | true => exact I.tuple_inj h h'
  | false => exact I.list_inj h h'
end
def ItzG (t1 t2 : Bool) (K : PySem.W.Frag) (a b : Addr) : It :=
  ⟨fun i H => ∃ (xs ys : List V) (x y : V), SqB t1 K H a xs ∧ SqB t2 K H b ys ∧ xs[i]? = some x ∧ ys[i]? = some y,
    fun i H v H' => ∃ T x y, v = .ref T ∧ H T = none ∧ H' = upd H T (.tup [x, y]) ∧ (∀ xs, SqB t1 K H a xs → xs[i]? = some x) ∧ ∀ ys, SqB t2 K H b ys → ys[i]? = some y,
    fun i H => ∃ xs ys : List V, SqB t1 K H a xs ∧ SqB t2 K H b ys ∧ (xs.length ≤ i ∨ ys.length ≤ i)⟩
theorem turn_zipG {P : Program} {w : World} {K : PySem.W.Frag} {t1 t2 : Bool} {elts : List Expr} {kk : Nat} {tpos : Pos} {a b z TI TO i1 i2 : Addr} (D : ZipApart z TI TO i1 i2 a b) :
    Turn P w K (.Tuple elts kk tpos) (ItzG t1 t2 K a b) [z, TI, TO, i1, i2] z (fun i h => IsZip h z TI TO .none ∧ IsPair h TI (.ref i1) (.ref i2) ∧ (∃ x y, IsPair h TO x y) ∧ ItG t1 h i1 a i ∧ ItG t2 h i2 b i) where
  mem := by simp
  obj := fun i h st c hc => by
    obtain ⟨hz, hTI, ⟨x, y, hTO⟩, ⟨o1, e1, _, d1⟩, ⟨o2, e2, _, d2⟩⟩ := st
    have e' : c = z ∨ c = TI ∨ c = TO ∨ c = i1 ∨ c = i2 := by simpa using hc
    rcases e' with q | q | q | q | q <;> rw [q]
    · exact ⟨_, hz, fun v q => nomatch q⟩
    · exact ⟨_, hTI, fun v q => nomatch q⟩
    · exact ⟨_, hTO, fun v q => nomatch q⟩
    · exact ⟨o1, e1, fun v q => by rw [d1] at q; cases q⟩
    · exact ⟨o2, e2, fun v q => by rw [d2] at q; cases q⟩
  keep := fun i h h' ⟨hz, hTI, ⟨x, y, hTO⟩, h1, h2⟩ k => ⟨k z (by simp) _ hz, k TI (by simp) _ hTI, ⟨x, y, k TO (by simp) _ hTO⟩, h1.at_ fun o q => k i1 (by simp) o q, h2.at_ fun o q => k i2 (by simp) o q⟩
  item := by
    intro X hP hw hK hc i pins s σ H E I hf st hg
    subst hP hw hK
    obtain ⟨hz, hTI, ⟨x0, y0, hTO⟩, h1, h2⟩ := st
    obtain ⟨xs, ys, x, y, hqx, hqy, hx, hy⟩ := hg
    obtain ⟨its, rv, p, _⟩ := I.sqB hqx
    obtain ⟨its2, rv2, p2, _⟩ := I.sqB hqy
    obtain ⟨u, hu, ru⟩ := rv.get hx
    obtain ⟨u2, hu2, ru2⟩ := rv2.get hy
    have zl : z < s.heap.objs.size := Heap.lt_size hz
    refine pyNext_zipG_item D hz hTI hTO h1 h2 p p2 (x := u) (y := u2) (by simpa using hu) (by simpa using hu2) fun h' z' TO' h1' h2' hT hsz hk => ?_
    refine ⟨_, rfl, wpAny_letOwnedTupleGo_zip (s := { s with heap := h' }) z' fun h'' z'' sb => ?_⟩
    have hT2 : h''.get? s.heap.objs.size = some { cls := .type "tuple", data := .seq #[u, u2] } := (sb.2 _ (Nat.ne_of_gt zl)).trans hT
    have new : ObjOk X.prog X.w (upd H s.heap.objs.size (.tup [x, y])) h'' s.heap.objs.size (.tup [x, y]) := ⟨by show 2 ≤ sizeLine; decide, [u, u2], .cons ru (.cons ru2 .nil), ⟨_, hT2, rfl, _, rfl⟩⟩
    have off : ∀ c o, c ∉ [z, TI, TO, i1, i2] → s.heap.get? c = some o → h''.get? c = some o := fun c o hb q =>
      (sb.2 c (fun q' => hb (by simp [q']))).trans (hk c o (fun q' => hb (by simp [q'])) (fun q' => hb (by simp [q'])) (fun q' => hb (by simp [q'])) (fun q' => hb (by simp [q'])) q)
    have I1 : Inv X pins σ (upd H s.heap.objs.size (.tup [x, y])) { s with heap := h'' } := I.turnedNew (t' := s.toks) (ch := [z, TI, TO, i1, i2]) off hf (Nat.le_refl _) new
    refine ⟨.ref s.heap.objs.size, _, I1, rfl, ⟨_, x, y, rfl, I.hok.fresh (Nat.le_refl _), rfl, fun l hl => by rw [I.sqB_inj hl hqx]; exact hx, fun l hl => by rw [I.sqB_inj hl hqy]; exact hy⟩, ⟨z'', (sb.2 _ D.TIz).trans (hk _ _ D.TIz D.TITO D.TIi1 D.TIi2 hTI), ⟨u, u2, (sb.2 _ D.TOz).trans TO'⟩, h1'.at_ fun o q => (sb.2 _ D.i1z).trans q, h2'.at_ fun o q => (sb.2 _ D.i2z).trans q⟩, fun c hcm => ?_⟩
    have lt : c < s.heap.objs.size := by
      have e' : c = z ∨ c = TI ∨ c = TO ∨ c = i1 ∨ c = i2 := by simpa using hcm
      rcases e' with q | q | q | q | q <;> rw [q]
      · exact zl
      · exact Heap.lt_size hTI
      · exact Heap.lt_size hTO
      · obtain ⟨_, e1, _⟩ := h1; exact Heap.lt_size e1
      · obtain ⟨_, e2, _⟩ := h2; exact Heap.lt_size e2
    rw [upd_ne (Nat.ne_of_lt lt)]
    exact (hf c hcm).1
  done := by
    intro X hP hw hK hc i pins s σ H E I hf st hg
    subst hP hw hK
    obtain ⟨hz, hTI, ⟨x0, y0, hTO⟩, h1, h2⟩ := st
    obtain ⟨xs, ys, hqx, hqy, hend⟩ := hg
    obtain ⟨its, rv, p, _⟩ := I.sqB hqx
    obtain ⟨its2, rv2, p2, _⟩ := I.sqB hqy
    have l1 := rv.length
    have l2 := rv2.length
    have he : its.toArray[i]? = none ∨ its2.toArray[i]? = none := hend.elim (fun q => .inl (by simp; omega)) fun q => .inr (by simp; omega)
    refine pyNext_zipG_end (I.ok.hd hc) D hz hTI hTO h1 h2 p p2 he fun h' hk => ⟨rfl, I.turnedL (t' := s.toks) (ch := [z, TI, TO, i1, i2]) (fun c o hb q => ?_) hf⟩
    exact hk c o (fun q' => hb (by simp [q'])) (fun q' => hb (by simp [q'])) (fun q' => hb (by simp [q'])) (fun q' => hb (by simp [q'])) q
  self := fun A i s Q E st h => wpAny_pyIter_zip st.1 h
def iZipG (t1 t2 : Bool) (K : PySem.W.Frag) (ta : TA) : TI := fun σ H R => ta σ H fun vs H1 => ∃ a b xs ys, vs = [.ref a, .ref b] ∧ SqB t1 K H1 a xs ∧ SqB t2 K H1 b ys ∧ R (ItzG t1 t2 K a b) H1
theorem q_pi_zipG (t1 t2 : Bool) {X : Cx} {e e2 : Expr} {ta : TA} {p pos tpos : Pos} {elts : List Expr} {kk : Nat} (hg : Gl X "zip") (hm : X.mg "zip" = none) (ha : QA X [e, e2] ta)
    (hs : starEach [e, e2] X.env = (false, eval e X.env) :: starEach [e2] X.env := by rfl) (hpl : (backTo pos (starEach [e2] X.env)).any (·.1) = false := by rfl) :
    QI X (.Tuple elts kk tpos) (.Call (.Name "zip" p) [e, e2] [] pos) (iZipG t1 t2 X.K ta) := by
  refine ⟨?_⟩
  intro pins s σ H R I h
  refine Call_ (ld_blt I hg hm boot_zip5 (PyProof.Rows.callWith_type1 (thn (ha.h pos pins s σ H _ I h) fun us s1 ⟨vs, H1, I1, r1, a, b, xs, ys, ex, hqx, hqy, q⟩ => ?_) hs hpl))
  subst ex
  obtain ⟨u, u', rfl, ru, ru'⟩ := vals2 r1
  cases ru
  cases ru'
  obtain ⟨its, rv, p1, la⟩ := I1.sqB hqx
  obtain ⟨its2, rv2, p2, lb⟩ := I1.sqB hqy
  refine call_zipG p1 p2 fun h' hz hTI hTO h1 h2 hsz hk => wpAny_pyIter_zip hz ?_
  have I2 : Inv X pins σ H1 { s1 with heap := h' } := I1.kept (t' := s1.toks) hk
  refine ⟨s1.heap.objs.size + 4, [s1.heap.objs.size + 4, s1.heap.objs.size + 2, s1.heap.objs.size + 3, s1.heap.objs.size, s1.heap.objs.size + 1], _, _, H1, rfl, I2, turn_zipG (PySem.W.ktu_apart s1.heap.objs.size a b la lb), ⟨hz, hTI, ⟨_, _, hTO⟩, h1, h2⟩, fun c hcm => ?_, q⟩
  have hle : s1.heap.objs.size ≤ c := by
    have e' : c = s1.heap.objs.size + 4 ∨ c = s1.heap.objs.size + 2 ∨ c = s1.heap.objs.size + 3 ∨ c = s1.heap.objs.size ∨ c = s1.heap.objs.size + 1 := by simpa using hcm
    rcases e' with y | y | y | y | y <;> rw [y] <;> first | exact Nat.le_refl _ | exact Nat.le_add_right _ _
  exact I1.fpOk hle (I1.hok.fresh hle)
end L2
set_option Elab.async false
set_option linter.all false
set_option maxRecDepth 100000
set_option maxHeartbeats 4000000
namespace L2
open PySem PySem.Spec PyProof.Rows
end L2
set_option Elab.async false
set_option linter.all false
set_option maxRecDepth 100000
set_option maxHeartbeats 4000000
namespace Ck
open PySem L2
theorem lc_zipG {t1 t2 : Bool} {K : PySem.W.Frag} {a b : Addr} {xs ys : List V} {g : TG} {tt : TT} {te : TE} {vs : List Nat} {σ : St} {H1 : Hp} {D : Addr} {Qd : Hp → Prop} (he : xs.length = ys.length) (Pv : Nat → Hp → Prop) (h0 : Pv 0 (upd H1 D (.lst [])))
    (hl : ∀ i H, i ≤ xs.length → Pv i H → SqB t1 K H a xs ∧ SqB t2 K H b ys)
    (hs : ∀ (i : Nat) (x y : V) (T : Addr) (H : Hp), xs[i]? = some x → ys[i]? = some y → Pv i H → H T = none → g (.ref T) (wipe σ vs) (upd H T (.tup [x, y])) fun σ2 H2 => wipe σ2 vs = wipe σ vs ∧ tt σ2 H2 fun b H3 =>
      if b = true then te σ2 H3 fun y H4 => ∃ acc, H4 D = some (.lst acc) ∧ acc.length < sizeLine ∧ Pv (i + 1) (upd H4 D (.lst (acc ++ [y]))) else Pv (i + 1) H3) (hd : ∀ H, Pv xs.length H → Qd H) :
    ∃ W : Nat → Nat → Hp → Prop, (∃ m, W 0 m (upd H1 D (.lst []))) ∧ ∀ i m H, W i m H →
      ((ItzG t1 t2 K a b).stop i H ∧ Qd H) ∨ ((ItzG t1 t2 K a b).go i H ∧ ∃ Nx : Hp → Prop, (∀ H', Nx H' → ∃ m', m' < m ∧ W (i + 1) m' H') ∧ ∀ x H', (ItzG t1 t2 K a b).yld i H x H' → g x (wipe σ vs) H' fun σ2 H2 => wipe σ2 vs = wipe σ vs ∧ tt σ2 H2 fun b H3 =>
        if b = true then te σ2 H3 fun y H4 => ∃ acc, H4 D = some (.lst acc) ∧ acc.length < sizeLine ∧ Nx (upd H4 D (.lst (acc ++ [y]))) else Nx H3) := by
  refine ⟨fun i m H => m = xs.length - i ∧ i ≤ xs.length ∧ Pv i H, ⟨xs.length, by simp, Nat.zero_le _, h0⟩, ?_⟩
  rintro i m H ⟨rfl, hi, p⟩
  obtain ⟨q1, q2⟩ := hl i H hi p
  by_cases hlt : i < xs.length
  · have hlt2 : i < ys.length := by omega
    refine .inr ⟨⟨xs, ys, xs[i], ys[i], q1, q2, List.getElem?_eq_getElem hlt, List.getElem?_eq_getElem hlt2⟩, Pv (i + 1), fun H' p' => ⟨xs.length - (i + 1), by omega, rfl, hlt, p'⟩, fun v H' y => ?_⟩
    obtain ⟨T, x, y, rfl, hT, rfl, y1, y2⟩ := y
    exact hs i x y T H (y1 xs q1) (y2 ys q2) p hT
  · have e : i = xs.length := by omega
    subst e
    exact .inl ⟨⟨xs, ys, q1, q2, .inl (Nat.le_refl _)⟩, hd H p⟩
def dig (i : Int) : Str := toString i
def wd (i : Int) (nm : Str) : Str := (dig i ++ " ") ++ nm
end Ck
set_option Elab.async false
set_option linter.all false
set_option maxRecDepth 100000
set_option maxHeartbeats 4000000
namespace L2
open PySem PySem.Spec PyProof.Rows
structure FunD (K : PySem.W.Frag) (x qual : Str) (st : Stmt) (f : Addr) (fd : FuncData) (ds : List Value) : Prop where
  ex : ∃ (oc : Value) (od : Option Addr) (kV doc pm : Value) (an : Option Addr) (cdv ct : Value) (osl : Array (Option Value)) (T : Addr) (oT : Value) (dT : Option Addr) (nT : Nat) (sT : Array (Option Value)),
    fd = PySem.W.fnOf x qual (defArgs st) (defBody st) (defScope st) (.ref T) kV doc pm an cdv ct ∧ K.lookup f = some ⟨oc, od, .func fd, osl⟩ ∧ PySem.W.codeIn K cdv qual = true ∧ K.lookup T = some ⟨oT, dT, .seq ds.toArray nT, sT⟩
  kp : PySem.W.keepIn K (.ref f) = true
section
variable {P : Program} {w : World} {K : PySem.W.Frag} {mg : Str → Option Value} {base : Heap}
theorem FunD.okQ {x qual : Str} {st : Stmt} {f : Addr} {fd : FuncData} {ds : List Value} {N ps : List Str} {k : Nat} {sp : Sp} (F : FunD K x qual st f fd ds) (S : FnScope N ps (defScope st)) (len : ∀ vs H Q E, sp vs H Q E → vs.length = ps.length)
    (hbody : ∀ (cdv : Value) (A : Around) (outer : List Env) (s : Shared) (H : Hp) (vs : List V) (Q : VK) (E : XK), Room k (A.deeper (envOfC qual (defScope st) s.heap.objs.size f cdv)) → sp vs H Q E →
      ∃ t, QSs (cxOf CX0 P w K mg base N qual (defScope st) f cdv A outer s H E).nox (defBody st) t ∧ t { nx := fun _ H' => Q .non H', rt := Q } (start N vs) H) : FnOk P w K mg base CX0 (k + 1) f fd ps sp := by
  obtain ⟨oc, od, kV, doc, pm, an, cdv, ct, osl, T, oT, dT, nT, sT, rfl, lk, hcd, _⟩ := F.ex
  refine fn_of lk hcd S len fun A outer s H vs Q E hr hsp => ?_
  obtain ⟨t, h, q⟩ := hbody cdv A outer s H vs Q E hr hsp
  exact ⟨t, h.h.nox, q⟩
theorem FunD.binds {x qual : Str} {st : Stmt} {f : Addr} {fd : FuncData} {ds : List Value} {ps : List Str} (F : FunD K x qual st f fd ds)
    (h : ∀ (T : Addr) (kV doc pm : Value) (an : Option Addr) (cdv ct : Value) (us : List Value), us.length = ps.length →
      ∃ k, bindArgs (PySem.W.fnOf x qual (defArgs st) (defBody st) (defScope st) (.ref T) kV doc pm an cdv ct) ⟨us, []⟩ = seqItems? (.ref T) >>= k ∧ k (some ds.toArray) = pure (ps.zip us)) : Binds K fd ps [] := by
  obtain ⟨oc, od, kV, doc, pm, an, cdv, ct, osl, T, oT, dT, nT, sT, rfl, lk, hcd, lT⟩ := F.ex
  intro s us X hl
  rw [List.append_nil] at hl ⊢
  obtain ⟨k, h1, h2⟩ := h T kV doc pm an cdv ct us hl
  exact BindsTo.of_defaults (T := T) rfl (X _ _ lT) rfl h1 h2
theorem FunD.bindsD {x qual : Str} {st : Stmt} {f : Addr} {fd : FuncData} {ds : List Value} {ps : List Str} {n : Nat} (F : FunD K x qual st f fd ds) (hn : n + ds.length = ps.length)
    (h : ∀ (T : Addr) (kV doc pm : Value) (an : Option Addr) (cdv ct : Value) (us : List Value), us.length = n →
      ∃ k, bindArgs (PySem.W.fnOf x qual (defArgs st) (defBody st) (defScope st) (.ref T) kV doc pm an cdv ct) ⟨us, []⟩ = seqItems? (.ref T) >>= k ∧ k (some ds.toArray) = pure (ps.zip (us ++ ds))) : Binds K fd ps ds := by
  obtain ⟨oc, od, kV, doc, pm, an, cdv, ct, osl, T, oT, dT, nT, sT, rfl, lk, hcd, lT⟩ := F.ex
  intro s us X hl
  obtain ⟨k, h1, h2⟩ := h T kV doc pm an cdv ct us (by rw [List.length_append] at hl; omega)
  exact BindsTo.of_defaults (T := T) rfl (X _ _ lT) rfl h1 h2
theorem funD_mk {x qual : Str} {st : Stmt} {f T : Addr} {oc oT : Value} {od an dT : Option Addr} {nT : Nat} {osl sT : Array (Option Value)} {kV doc pm cdv ct : Value} {ds : List Value} (l : K.lookup f = some ⟨oc, od, .func (PySem.W.fnOf x qual (defArgs st) (defBody st) (defScope st) (.ref T) kV doc pm an cdv ct), osl⟩)
    (c : PySem.W.codeIn K cdv qual = true) (k : PySem.W.keepIn K (.ref f) = true) (lT : K.lookup T = some ⟨oT, dT, .seq ds.toArray nT, sT⟩) : FunD K x qual st f (PySem.W.fnOf x qual (defArgs st) (defBody st) (defScope st) (.ref T) kV doc pm an cdv ct) ds :=
  ⟨⟨oc, od, kV, doc, pm, an, cdv, ct, osl, T, oT, dT, nT, sT, rfl, l, c, lT⟩, k⟩
end
theorem vals_none : Vals [V.non] [Value.none] := .cons rfl .nil
end L2
set_option Elab.async false
set_option linter.all false
set_option maxRecDepth 100000
set_option maxHeartbeats 4000000
namespace Ck
open PySem L2
theorem lc_keys {d : Addr} {o : Obj} {kvs : List (Key × V)} {g : TG} {tt : TT} {te : TE} {vs : List Nat} {σ : St} {H1 : Hp} {D : Addr} {Qd : Hp → Prop} (Pv : Nat → Hp → Prop) (h0 : Pv 0 (upd H1 D (.lst []))) (hl : ∀ i H, i ≤ kvs.length → Pv i H → H d = some (.frz o (.dK kvs)))
    (hs : ∀ i k v H, kvs[i]? = some (k, v) → Pv i H → g (kV k) (wipe σ vs) H fun σ2 H2 => wipe σ2 vs = wipe σ vs ∧ tt σ2 H2 fun b H3 =>
      if b = true then te σ2 H3 fun y H4 => ∃ acc, H4 D = some (.lst acc) ∧ acc.length < sizeLine ∧ Pv (i + 1) (upd H4 D (.lst (acc ++ [y]))) else Pv (i + 1) H3) (hd : ∀ H, Pv kvs.length H → Qd H) :
    ∃ W : Nat → Nat → Hp → Prop, (∃ m, W 0 m (upd H1 D (.lst []))) ∧ ∀ i m H, W i m H →
      ((Itk d o kvs).stop i H ∧ Qd H) ∨ ((Itk d o kvs).go i H ∧ ∃ Nx : Hp → Prop, (∀ H', Nx H' → ∃ m', m' < m ∧ W (i + 1) m' H') ∧ ∀ x H', (Itk d o kvs).yld i H x H' → g x (wipe σ vs) H' fun σ2 H2 => wipe σ2 vs = wipe σ vs ∧ tt σ2 H2 fun b H3 =>
        if b = true then te σ2 H3 fun y H4 => ∃ acc, H4 D = some (.lst acc) ∧ acc.length < sizeLine ∧ Nx (upd H4 D (.lst (acc ++ [y]))) else Nx H3) := by
  refine ⟨fun i m H => m = kvs.length - i ∧ i ≤ kvs.length ∧ Pv i H, ⟨kvs.length, by simp, Nat.zero_le _, h0⟩, ?_⟩
  rintro i m H ⟨rfl, hi, p⟩
  have q := hl i H hi p
  by_cases hlt : i < kvs.length
  · refine .inr ⟨⟨q, hlt⟩, Pv (i + 1), fun H' p' => ⟨kvs.length - (i + 1), by omega, rfl, hlt, p'⟩, fun x H' y => ?_⟩
    obtain ⟨e, k, v, hk, rfl⟩ := y
    subst e
    exact hs i k v _ hk p
  · have e : i = kvs.length := by omega
    subst e
    exact .inl ⟨⟨q, Nat.le_refl _⟩, hd H p⟩
theorem cut_take {xs : List V} {m : Int} (h : 0 ≤ m) : cutV xs none (some m) = xs.take m.toNat := by
  unfold cutV
  have e1 : HT.sIx xs.length 0 none = 0 := rfl
  have e2 : HT.sIx xs.length xs.length (some m) = min m.toNat xs.length := by
    unfold HT.sIx
    dsimp only
    rw [if_neg (by omega)]
  rw [e1, e2, Nat.sub_zero, List.drop_zero]
  rw [← List.take_take, List.take_length]
abbrev CRow := Str × Str × Int × Int
def rowVs (r : CRow) : List V := [.str r.1, .str r.2.1, .int r.2.2.1, .int r.2.2.2]
structure RowsAt (H : Hp) (rs : List Addr) (rows : List CRow) : Prop where
  len : rs.length = rows.length
  at_ : ∀ (i : Nat) (r : Addr), rs[i]? = some r → ∃ u, rows[i]? = some u ∧ H r = some (.tup (rowVs u))
theorem RowsAt.mono {H H' : Hp} {rs : List Addr} {rows : List CRow} (u : RowsAt H rs rows) (t : Tups H H') : RowsAt H' rs rows :=
  ⟨u.len, fun i r h => let ⟨x, hx, e⟩ := u.at_ i r h; ⟨x, hx, t _ _ e⟩⟩
theorem RowsAt.nil (H : Hp) : RowsAt H [] [] := ⟨rfl, fun i r h => by simp at h⟩
theorem RowsAt.snoc {H : Hp} {rs : List Addr} {rows : List CRow} {r : Addr} {x : CRow} (u : RowsAt H rs rows) (h : H r = some (.tup (rowVs x))) : RowsAt H (rs ++ [r]) (rows ++ [x]) := by
  refine ⟨by rw [List.length_append, List.length_append, u.len]; rfl, fun i q hq => ?_⟩
  rw [List.getElem?_append] at hq ⊢
  by_cases hi : i < rs.length
  · rw [if_pos hi] at hq
    rw [if_pos (by rw [← u.len]; exact hi)]
    exact u.at_ i q hq
  · rw [if_neg hi] at hq
    rw [if_neg (by rw [← u.len]; exact hi), ← u.len]
    have e : i - rs.length = 0 := by
      have := (List.getElem?_eq_some_iff.mp hq).1
      simp at this; omega
    rw [e] at hq ⊢
    cases hq
    exact ⟨_, rfl, h⟩
theorem RowsAt.take {H : Hp} {rs : List Addr} {rows : List CRow} (u : RowsAt H rs rows) (n : Nat) : RowsAt H (rs.take n) (rows.take n) := by
  refine ⟨by rw [List.length_take, List.length_take, u.len], fun i q hq => ?_⟩
  rw [List.getElem?_take] at hq ⊢
  by_cases hi : i < n
  · rw [if_pos hi] at hq ⊢
    exact u.at_ i q hq
  · rw [if_neg hi] at hq
    cases hq
def lastFor (rows : List CRow) (t k : Str) (d : Int) : Option Int := rows.foldl (fun acc r => if r.1 = t ∧ r.2.1 = k ∧ r.2.2.1 = d then some r.2.2.2 else acc) none
theorem lastFor_snoc (rows : List CRow) (r : CRow) (t k : Str) (d : Int) : lastFor (rows ++ [r]) t k d = if r.1 = t ∧ r.2.1 = k ∧ r.2.2.1 = d then some r.2.2.2 else lastFor rows t k d := by
  unfold lastFor
  rw [List.foldl_append]
  rfl
structure DOf (kvs : List (Key × V)) (rows : List CRow) (t k : Str) : Prop where
  ks : ∀ p ∈ kvs, ∃ d : Int, p.1 = .inl d
  vs : ∀ d : Int, valV kvs (.inl d) = (lastFor rows t k d).map V.int
  len : kvs.length ≤ rows.length
theorem DOf.nil (t k : Str) : DOf [] [] t k := ⟨fun p h => by simp at h, fun d => rfl, Nat.le_refl _⟩
theorem putK_keys {kvs : List (Key × V)} {d : Int} {v : V} (h : ∀ p ∈ kvs, ∃ d : Int, p.1 = .inl d) : ∀ p ∈ putK kvs (.inl d) v, ∃ d : Int, p.1 = .inl d := by
  intro p hp
  unfold putK at hp
  split at hp
  · obtain ⟨q, hq, rfl⟩ := List.mem_map.mp hp
    split
    · exact h q hq
    · exact h q hq
  · rcases List.mem_append.mp hp with z | z
    · exact h p z
    · rw [List.mem_singleton.mp z]; exact ⟨d, rfl⟩
theorem DOf.put {kvs : List (Key × V)} {rows : List CRow} {t k : Str} (D : DOf kvs rows t k) (r : CRow) (h1 : r.1 = t) (h2 : r.2.1 = k) : DOf (putK kvs (.inl r.2.2.1) (.int r.2.2.2)) (rows ++ [r]) t k := by
  refine ⟨putK_keys D.ks, fun d => ?_, ?_⟩
  · rw [valV_put, lastFor_snoc]
    by_cases e : r.2.2.1 = d
    · rw [if_pos (by rw [e]), if_pos ⟨h1, h2, e⟩]; rfl
    · rw [if_neg (fun z => e (by injection z with z; exact z.symm)), if_neg (fun z => e z.2.2)]
      exact D.vs d
  · have := length_putK kvs (.inl r.2.2.1) (.int r.2.2.2)
    have := D.len
    rw [List.length_append]
    simp only [List.length_cons, List.length_nil]
    omega
theorem DOf.skip {kvs : List (Key × V)} {rows : List CRow} {t k : Str} (D : DOf kvs rows t k) (r : CRow) (h : ¬ (r.1 = t ∧ r.2.1 = k)) : DOf kvs (rows ++ [r]) t k := by
  refine ⟨D.ks, fun d => ?_, ?_⟩
  · rw [lastFor_snoc, if_neg (fun z => h ⟨z.1, z.2.1⟩)]
    exact D.vs d
  · have := D.len
    rw [List.length_append]; omega
def IsWorth (rows : List CRow) (t k : Str) (day r : Int) : Prop :=
  (∃ d, d ≤ day ∧ lastFor rows t k d = some r ∧ ∀ d', d' ≤ day → (lastFor rows t k d').isSome = true → d' ≤ d) ∨ (r = 0 ∧ ∀ d', d' ≤ day → lastFor rows t k d' = none)
theorem IsWorth.unique {rows : List CRow} {t k : Str} {day r r' : Int} (h : IsWorth rows t k day r) (h' : IsWorth rows t k day r') : r = r' := by
  rcases h with ⟨d, h1, h2, h3⟩ | ⟨rfl, h3⟩ <;> rcases h' with ⟨e, g1, g2, g3⟩ | ⟨rfl, g3⟩
  · have a := h3 e g1 (by rw [g2]; rfl)
    have b := g3 d h1 (by rw [h2]; rfl)
    have : d = e := by omega
    subst this
    rw [h2] at g2
    injection g2
  · rw [g3 d h1] at h2; cases h2
  · rw [h3 e g1] at g2; cases g2
  · rfl
def dayOf : Key × V → Int
  | (.inl d, _) => d
  | (.inr _, _) => 0
def daysTo (kvs : List (Key × V)) (day : Int) : List Int := (kvs.filter fun p => decide (dayOf p ≤ day)).map dayOf
theorem valV_mem {kvs : List (Key × V)} {k : Key} {v : V} (h : valV kvs k = some v) : ∃ p ∈ kvs, p.1 = k := by
  obtain ⟨p, hp, e⟩ := List.mem_map.mp (valV_in h)
  exact ⟨p, hp, e⟩
theorem mem_valV {kvs : List (Key × V)} {p : Key × V} (h : p ∈ kvs) : (valV kvs p.1).isSome = true := by
  rw [← valV_any]
  exact List.any_eq_true.mpr ⟨p, h, decide_eq_true rfl⟩
theorem DOf.days {kvs : List (Key × V)} {rows : List CRow} {t k : Str} (D : DOf kvs rows t k) (day d : Int) : d ∈ daysTo kvs day ↔ d ≤ day ∧ (lastFor rows t k d).isSome = true := by
  unfold daysTo
  rw [List.mem_map]
  constructor
  · rintro ⟨p, hp, rfl⟩
    rw [List.mem_filter, decide_eq_true_eq] at hp
    obtain ⟨e, he⟩ := D.ks p hp.1
    have z := mem_valV hp.1
    have hd : dayOf p = e := by
      obtain ⟨a, b⟩ := p
      cases he
      rfl
    rw [he, D.vs, Option.isSome_map] at z
    rw [hd] at hp ⊢
    exact ⟨hp.2, z⟩
  · rintro ⟨h1, h2⟩
    have z : (valV kvs (.inl d)).isSome = true := by rw [D.vs, Option.isSome_map]; exact h2
    obtain ⟨v, hv⟩ := Option.isSome_iff_exists.mp z
    obtain ⟨p, hp, e⟩ := valV_mem hv
    have hd : dayOf p = d := by
      obtain ⟨a, b⟩ := p
      cases e
      rfl
    exact ⟨p, List.mem_filter.mpr ⟨hp, decide_eq_true (by rw [hd]; exact h1)⟩, hd⟩
theorem DOf.worth {kvs : List (Key × V)} {rows : List CRow} {t k : Str} (D : DOf kvs rows t k) {day m : Int} (hm : m ∈ daysTo kvs day) (ht : ∀ y ∈ daysTo kvs day, y ≤ m) : ∃ r, valV kvs (.inl m) = some (.int r) ∧ IsWorth rows t k day r := by
  obtain ⟨h1, h2⟩ := (D.days day m).mp hm
  obtain ⟨r, hr⟩ := Option.isSome_iff_exists.mp h2
  refine ⟨r, by rw [D.vs, hr]; rfl, .inl ⟨m, h1, hr, fun d' l s => ht d' ((D.days day d').mpr ⟨l, s⟩)⟩⟩
theorem DOf.none {kvs : List (Key × V)} {rows : List CRow} {t k : Str} (D : DOf kvs rows t k) {day : Int} (h : daysTo kvs day = []) : IsWorth rows t k day 0 := by
  refine .inr ⟨rfl, fun d' l => ?_⟩
  cases e : lastFor rows t k d' with
  | none => rfl
  | some r =>
    have z := (D.days day d').mpr ⟨l, by rw [e]; rfl⟩
    rw [h] at z
    cases z
def CallsAt (C : Addr) (H : Hp) (x L : Addr) (rows : List CRow) : Prop := ∃ (dx : Addr) (rs : List Addr), H x = some (.ins C dx [("rows", .ref L)]) ∧ H L = some (.lst (rs.map V.ref)) ∧ RowsAt H rs rows
theorem CallsAt.same {C : Addr} {H H' : Hp} {x L : Addr} {rows : List CRow} (c : CallsAt C H x L rows) (s : Same H H') : CallsAt C H' x L rows := by
  obtain ⟨dx, rs, h1, h2, h3⟩ := c
  exact ⟨dx, rs, s _ _ h1, s _ _ h2, h3.mono (.same s)⟩
theorem CallsAt.keep {C : Addr} {H H' : Hp} {x L d : Addr} {rows : List CRow} {xs : List V} (c : CallsAt C H x L rows) (k : Keep d H H') (hd : H d = some (.lst xs)) (nL : L ≠ d) : CallsAt C H' x L rows := by
  obtain ⟨dx, rs, h1, h2, h3⟩ := c
  refine ⟨dx, rs, k _ _ h1 fun e => ?_, k _ _ h2 nL, h3.mono (k.tups hd)⟩
  rw [e, hd] at h1; cases h1
def Known (kn : V) (rows rows' : List CRow) : Prop := (kn = .non ∧ rows' = rows) ∨ ∃ m : Int, kn = .int m ∧ 0 ≤ m ∧ m ≤ rows.length ∧ rows' = rows.take m.toNat
end Ck
namespace Ck
open PySem L2
end Ck
set_option Elab.async false
set_option linter.all false
set_option maxRecDepth 100000
set_option maxHeartbeats 4000000
namespace Ck
open PySem L2
theorem new_at {H : Hp} {p : Addr} {o : HO} (h : H p = none) : (upd H p o) p = some o := upd_same
theorem made_same {H H' : Hp} {x dx : Addr} {o1 o2 : HO} (hx : H x = none) (hdx : H dx = none) (k : Keep x (upd (upd H dx o1) x o2) H') : Same H H' := fun b o e => by
  have nx := ne_of_none e hx
  refine k b o ?_ nx
  rw [upd_ne nx, upd_ne (ne_of_none e hdx)]
  exact e
end Ck
set_option Elab.async false
set_option linter.all false
set_option maxRecDepth 100000
set_option maxHeartbeats 4000000
namespace L2
open PySem PySem.Spec PyProof.Rows Builtin
section
variable {X : Cx} {CX : CXT} {k n l : Nat} {f C : Addr} {fd : FuncData} {ps ks : List Str} {sp : Sp} {E : XK} {x m : Str} {p pos apos kpos : Pos} {e o : Expr} {es : List Expr} {kws : List Keyword} {te ta : TE} {t tk : TA} {nm : Option Str}
structure QK (X : Cx) (kws : List Keyword) (t : TA) : Prop where
  h : PK X kws t
end
end L2
namespace Ck
open PySem L2
end Ck
set_option Elab.async false
set_option linter.all false
set_option maxRecDepth 100000
set_option maxHeartbeats 4000000
namespace HT
open PySem PySem.Spec PyProof.Rows
end HT
namespace L2
open PySem PySem.Spec PyProof.Rows
end L2
set_option Elab.async false
set_option linter.all false
set_option maxRecDepth 100000
set_option maxHeartbeats 4000000
namespace L2
open PySem PySem.Spec PyProof.Rows
end L2
set_option Elab.async false
set_option linter.all false
set_option maxRecDepth 100000
set_option maxHeartbeats 4000000
namespace PySem
abbrev Ris (l : List Nat) : Prop := l.Pairwise (· < ·)
theorem belowGo_spec (xs : Array Nat) (j : Nat) (hR : Ris xs.toList) : ∀ (fuel lo hi : Nat), lo ≤ hi → hi ≤ xs.size → hi - lo ≤ fuel →
    (∀ i v, i < lo → xs.toList[i]? = some v → v < j) → (∀ i v, hi ≤ i → xs.toList[i]? = some v → j ≤ v) →
    ∃ r, SetTable.below.go xs j fuel lo hi = r ∧ r ≤ xs.size ∧ (∀ i v, i < r → xs.toList[i]? = some v → v < j) ∧ (∀ i v, r ≤ i → xs.toList[i]? = some v → j ≤ v) := by
  intro fuel
  induction fuel with
  | zero =>
    intro lo hi h1 h2 h3 a b
    have e : lo = hi := by omega
    subst e
    exact ⟨lo, rfl, h2, a, b⟩
  | succ n ih =>
    intro lo hi h1 h2 h3 a b
    unfold SetTable.below.go
    by_cases hl : lo < hi
    · rw [if_pos hl]
      dsimp only
      have hm : (lo + hi) / 2 < xs.size := by omega
      have hm1 : (lo + hi) / 2 < hi := by omega
      have hm0 : lo ≤ (lo + hi) / 2 := by omega
      generalize (lo + hi) / 2 = m at hm hm1 hm0 ⊢
      have hg : xs.toList[m]? = some xs[m] := by rw [Array.getElem?_toList]; exact Array.getElem?_eq_getElem hm
      have hgd : xs.getD m j = xs[m] := by simp [Array.getD, hm]
      rw [hgd]
      have mono : ∀ i k v u, i < k → xs.toList[i]? = some v → xs.toList[k]? = some u → v < u := fun i k v u hik hv hu => by
        obtain ⟨hi', ev⟩ := List.getElem?_eq_some_iff.mp hv
        obtain ⟨hk', eu⟩ := List.getElem?_eq_some_iff.mp hu
        rw [← ev, ← eu]
        exact List.pairwise_iff_getElem.mp hR i k hi' hk' hik
      by_cases hc : xs[m] < j
      · rw [if_pos hc]
        refine ih (m + 1) hi (by omega) h2 (by omega) (fun i v hi' hv => ?_) b
        by_cases e : i = m
        · subst e; rw [hg] at hv; cases hv; exact hc
        · exact Nat.lt_trans (mono i m v _ (by omega) hv hg) hc
      · rw [if_neg hc]
        refine ih lo m hm0 (by omega) (by omega) a (fun i v hi' hv => ?_)
        by_cases e : i = m
        · subst e; rw [hg] at hv; cases hv; omega
        · have := mono m i _ v (by omega) hg hv
          omega
    · rw [if_neg hl]
      have e : lo = hi := by omega
      subst e
      exact ⟨lo, rfl, h2, a, b⟩
theorem below_spec (xs : Array Nat) (j : Nat) (hR : Ris xs.toList) :
    ∃ r, SetTable.below xs j = r ∧ r ≤ xs.size ∧ (∀ i v, i < r → xs.toList[i]? = some v → v < j) ∧ (∀ i v, r ≤ i → xs.toList[i]? = some v → j ≤ v) := by
  refine belowGo_spec xs j hR xs.size 0 xs.size (Nat.zero_le _) (Nat.le_refl _) (by omega) (fun i v h => absurd h (Nat.not_lt_zero _)) (fun i v h hv => ?_)
  have := (List.getElem?_eq_some_iff.mp hv).1
  rw [Array.length_toList] at this
  omega
theorem insertAt_toList {α : Type} (xs : Array α) (p : Nat) (x : α) : (SetTable.insertAt xs p x).toList = xs.toList.take p ++ x :: xs.toList.drop p := by
  unfold SetTable.insertAt
  simp [Array.toList_append, Array.toList_push, Array.toList_extract, List.extract]
  exact List.take_of_length_le (by simp)
theorem ris_insert {xs : Array Nat} {j : Nat} (hR : Ris xs.toList) (hj : j ∉ xs.toList) : Ris (SetTable.insertAt xs (SetTable.below xs j) j).toList := by
  obtain ⟨r, e, hr, a, b⟩ := below_spec xs j hR
  rw [e, insertAt_toList]
  have h1 : ∀ v ∈ xs.toList.take r, v < j := fun v hv => by
    obtain ⟨i, hi, ev⟩ := List.getElem_of_mem hv
    rw [List.length_take] at hi
    rw [List.getElem_take] at ev
    exact a i v (by omega) (by rw [List.getElem?_eq_getElem (by omega), ev])
  have h2 : ∀ v ∈ xs.toList.drop r, j < v := fun v hv => by
    obtain ⟨i, hi, ev⟩ := List.getElem_of_mem hv
    rw [List.length_drop] at hi
    rw [List.getElem_drop] at ev
    have z := b (r + i) v (by omega) (by rw [List.getElem?_eq_getElem (by omega), ev])
    have n : j ≠ v := fun q => hj (by rw [q]; exact List.mem_of_mem_drop hv)
    omega
  refine List.pairwise_append.mpr ⟨hR.sublist (List.take_sublist _ _), List.pairwise_cons.mpr ⟨h2, hR.sublist (List.drop_sublist _ _)⟩, fun v hv u hu => ?_⟩
  rcases List.mem_cons.mp hu with rfl | hu
  · exact h1 v hv
  · exact Nat.lt_trans (h1 v hv) (h2 u hu)
structure TOk (L : Bool) (t : SetTable) : Prop where
  led : t.led = L
  dum : t.dummies = #[]
  ris : Ris t.place.toList
theorem TOk.fresh (f m : Nat) (L : Bool) : TOk L (.fresh f m L) := ⟨rfl, rfl, List.Pairwise.nil⟩
theorem TOk.put {L : Bool} {t : SetTable} (T : TOk L t) {j : Nat} (hj : j ∉ t.place.toList) : TOk L (t.put j).1 := by
  refine ⟨T.led, ?_, ris_insert T.ris hj⟩
  unfold SetTable.put
  dsimp only
  rw [T.dum]
  have e : SetTable.has #[] j = false := by unfold SetTable.has; simp
  rw [e]
  rfl
end PySem
set_option Elab.async false
set_option linter.all false
set_option maxRecDepth 100000
set_option maxHeartbeats 4000000
namespace PySem
open PyProof.Rows (SetOf_congr setObjOf_fresh)
def vInt : Value → Int
  | .int n _ => n
  | _ => 0
section
variable {prog : Program} {w : World} {A : Around} {E : Value → Shared → Prop} {s : Shared}
abbrev ledOf (w : World) : Bool := !(w.params.followText "set-order")
structure SetI (prog : Program) (w : World) (h : Heap) (a : Addr) (o : Obj) (es : Array (Int × Value)) (ep : Nat) (t : SetTable) (ns : List Int) : Prop where
  ho : h.get? a = some o
  hx : o.ExactSet
  hd : o.data = .set es ep t
  el : ElemsOf (intKind prog w) es.toList
  pm : (es.toList.map fun e => vInt e.2).Perm ns
  sz : es.size < scanBound
  ft : t.fits es.size = true
  tk : TOk (ledOf w) t
def HasSet (prog : Program) (w : World) (h : Heap) (a : Addr) (ns : List Int) : Prop := ∃ o es ep t, SetI prog w h a o es ep t ns
theorem HasSet.at {h h' : Heap} {a : Addr} {ns : List Int} (x : HasSet prog w h a ns) (k : ∀ o, h.get? a = some o → h'.get? a = some o) : HasSet prog w h' a ns :=
  let ⟨o, es, ep, t, z⟩ := x; ⟨o, es, ep, t, k _ z.ho, z.hx, z.hd, z.el, z.pm, z.sz, z.ft, z.tk⟩
end
end PySem
set_option Elab.async false
set_option linter.all false
set_option maxRecDepth 100000
set_option maxHeartbeats 4000000
namespace PySem
end PySem
set_option Elab.async false
set_option linter.all false
set_option maxRecDepth 100000
set_option maxHeartbeats 4000000
namespace PySem
namespace Fs
end Fs
def SIt (h : Heap) (I : Addr) (f : Value) (i : Nat) (a : Addr) (n ep : Nat) : Prop := ∃ o, h.get? I = some o ∧ o.cls = .type "set_iterator" ∧ o.data = .fields #[f, .int i 0, .ref a, .int n 0, .int ep 0]
theorem SIt.typeIs {s : Shared} {I : Addr} {f : Value} {i : Nat} {a : Addr} {n ep : Nat} (h : SIt s.heap I f i a n ep) : s.TypeIs (.ref I) "set_iterator" := let ⟨o, ho, hc, _⟩ := h; ⟨o, ho, hc⟩
theorem SIt.at {h h' : Heap} {I : Addr} {f : Value} {i : Nat} {a : Addr} {n ep : Nat} (x : SIt h I f i a n ep) (e : ∀ o, h.get? I = some o → h'.get? I = some o) : SIt h' I f i a n ep := let ⟨o, ho, r⟩ := x; ⟨o, e _ ho, r⟩
end PySem
set_option Elab.async false
set_option linter.all false
set_option maxRecDepth 100000
set_option maxHeartbeats 4000000
namespace PySem
end PySem
set_option Elab.async false
set_option linter.all false
set_option maxRecDepth 100000
set_option maxHeartbeats 4000000
namespace PySem
end PySem
set_option Elab.async false
set_option linter.all false
set_option maxRecDepth 100000
set_option maxHeartbeats 4000000
namespace PySem
open PySem.Calls PyProof.Rows PyProof.V PySem.Spec
structure Lft (s s' : Shared) : Prop where
  os : s'.os = s.os
  gens : s'.gens = s.gens
  keep : ∀ b o, s.heap.get? b = some o → s'.heap.get? b = some o
end PySem
namespace L2
open PySem PySem.Spec PyProof.Rows
end L2
set_option Elab.async false
set_option linter.all false
set_option maxRecDepth 100000
set_option maxHeartbeats 4000000
namespace Ck
open PySem L2
structure TA {α : Type} (f : α → List V) (H : Hp) (rs : List Addr) (xs : List α) : Prop where
  len : rs.length = xs.length
  at_ : ∀ (i : Nat) (r : Addr), rs[i]? = some r → ∃ u, xs[i]? = some u ∧ H r = some (.tup (f u))
section
variable {α : Type} {f : α → List V} {H H' : Hp} {rs : List Addr} {xs : List α}
theorem TA.mono (u : TA f H rs xs) (t : Tups H H') : TA f H' rs xs := ⟨u.len, fun i r h => let ⟨x, hx, e⟩ := u.at_ i r h; ⟨x, hx, t _ _ e⟩⟩
theorem TA.nil (f : α → List V) (H : Hp) : TA f H [] [] := ⟨rfl, fun i r h => by simp at h⟩
theorem TA.snoc {r : Addr} {x : α} (u : TA f H rs xs) (h : H r = some (.tup (f x))) : TA f H (rs ++ [r]) (xs ++ [x]) := by
  refine ⟨by rw [List.length_append, List.length_append, u.len]; rfl, fun i q hq => ?_⟩
  rw [List.getElem?_append] at hq ⊢
  by_cases hi : i < rs.length
  · rw [if_pos hi] at hq
    rw [if_pos (by rw [← u.len]; exact hi)]
    exact u.at_ i q hq
  · rw [if_neg hi] at hq
    rw [if_neg (by rw [← u.len]; exact hi), ← u.len]
    have e : i - rs.length = 0 := by
      have := (List.getElem?_eq_some_iff.mp hq).1
      simp at this; omega
    rw [e] at hq ⊢
    cases hq
    exact ⟨_, rfl, h⟩
theorem TA.dp {K : PySem.W.Frag} {g : α → PyData} (hg : ∀ (x : α) (p : Addr), H p = some (.tup (f x)) → Dp K H (.ref p) (g x)) : ∀ {rs : List Addr} {xs : List α}, TA f H rs xs → DpAll K H (rs.map V.ref) (xs.map g)
  | [], [], _ => .nil
  | [], _ :: _, u => by have := u.len; cases this
  | _ :: _, [], u => by have := u.len; cases this
  | r :: rs, x :: xs, u => by
    obtain ⟨y, hy, e⟩ := u.at_ 0 r rfl
    cases hy
    exact .cons (hg _ _ e) (TA.dp hg ⟨by simpa using u.len, fun i q hq => u.at_ (i + 1) q (by simpa using hq)⟩)
end
abbrev prV (u : Int × Int) : List V := [.int u.1, .int u.2]
def prD (u : Int × Int) : PyData := .tuple [.int u.1, .int u.2]
theorem dp_pr {K : PySem.W.Frag} {H : Hp} (x : Int × Int) (p : Addr) (h : H p = some (.tup (prV x))) : Dp K H (.ref p) (prD x) := .tup (SqT.of h) (.cons (.int _) (.cons (.int _) .nil))
def LPrs (H : Hp) (L : Addr) (ps : List (Int × Int)) : Prop := ∃ rs : List Addr, H L = some (.lst (rs.map V.ref)) ∧ TA prV H rs ps
theorem LPrs.same {H H' : Hp} {L : Addr} {ps : List (Int × Int)} (c : LPrs H L ps) (s : Same H H') : LPrs H' L ps := let ⟨rs, h, r⟩ := c; ⟨rs, s _ _ h, r.mono (.same s)⟩
theorem LPrs.dp {K : PySem.W.Frag} {H : Hp} {L : Addr} {ps : List (Int × Int)} (c : LPrs H L ps) : Dp K H (.ref L) (.list (ps.map prD)) := let ⟨rs, h, r⟩ := c; .lst (SqL.of h) (TA.dp dp_pr r)
theorem LPrs.push {H : Hp} {L p : Addr} {rs : List Addr} {ps : List (Int × Int)} {u : Int × Int} (h : H L = some (.lst (rs.map V.ref))) (ra : TA prV H rs ps) (hp : H p = some (.tup (prV u))) : LPrs (upd H L (.lst (rs.map V.ref ++ [V.ref p]))) L (ps ++ [u]) := by
  have t := Tups.upd (o := .lst (rs.map V.ref ++ [V.ref p])) h
  exact ⟨rs ++ [p], by rw [upd_same, List.map_append]; rfl, (ra.mono t).snoc (t _ _ hp)⟩
def stp (w : Int → Int) (acc : List (Int × Int) × Int) (d : Int) : List (Int × Int) × Int := (if w d ≠ acc.2 then acc.1 ++ [(d, w d)] else acc.1, w d)
def tnOf (w : Int → Int) (ds : List Int) : List (Int × Int) × Int := ds.foldl (stp w) ([], 0)
abbrev wdOf (rows : List CRow) (t k : Str) (d : Int) : Int := (lastFor rows t k d).getD 0
def IsTurns (rows : List CRow) (t k : Str) (ps : List (Int × Int)) : Prop := ∃ ms : List Int, ms.Pairwise (· < ·) ∧ (∀ x, x ∈ ms ↔ (lastFor rows t k x).isSome = true) ∧ ps = (tnOf (wdOf rows t k) ms).1
theorem ris_unique : ∀ {ms ns : List Int}, ms.Pairwise (· < ·) → ns.Pairwise (· < ·) → (∀ x, x ∈ ms ↔ x ∈ ns) → ms = ns
  | [], [], _, _, _ => rfl
  | [], b :: _, _, _, h => absurd ((h b).mpr (List.mem_cons_self ..)) (by simp)
  | a :: _, [], _, _, h => absurd ((h a).mp (List.mem_cons_self ..)) (by simp)
  | a :: r, b :: q, hm, hn, h => by
    obtain ⟨m1, m2⟩ := List.pairwise_cons.mp hm
    obtain ⟨n1, n2⟩ := List.pairwise_cons.mp hn
    have e : a = b := by
      rcases List.mem_cons.mp ((h a).mp (List.mem_cons_self ..)) with e | e
      · exact e
      · rcases List.mem_cons.mp ((h b).mpr (List.mem_cons_self ..)) with e' | e'
        · exact e'.symm
        · have := n1 a e
          have := m1 b e'
          omega
    subst e
    have t : r = q := ris_unique m2 n2 fun x => by
      constructor
      · intro hx
        rcases List.mem_cons.mp ((h x).mp (List.mem_cons_of_mem _ hx)) with e | e
        · have := m1 x hx; omega
        · exact e
      · intro hx
        rcases List.mem_cons.mp ((h x).mpr (List.mem_cons_of_mem _ hx)) with e | e
        · have := n1 x hx; omega
        · exact e
    rw [t]
theorem IsTurns.unique {rows : List CRow} {t k : Str} {ps ps' : List (Int × Int)} (h : IsTurns rows t k ps) (h' : IsTurns rows t k ps') : ps = ps' := by
  obtain ⟨ms, a, b, rfl⟩ := h
  obtain ⟨ns, c, d, rfl⟩ := h'
  have : ms = ns := ris_unique a c fun x => (b x).trans (d x).symm
  rw [this]
theorem DOf.keys {kvs : List (Key × V)} {rows : List CRow} {t k : Str} (D : DOf kvs rows t k) : ∃ ds : List Int, kvs.map (·.1) = ds.map Sum.inl ∧ ∀ x, x ∈ ds ↔ (lastFor rows t k x).isSome = true := by
  have e : kvs.map (·.1) = (kvs.map dayOf).map Sum.inl := by
    rw [List.map_map]
    refine List.map_congr_left fun p hp => ?_
    obtain ⟨d, hd⟩ := D.ks p hp
    obtain ⟨a, b⟩ := p
    cases hd
    rfl
  refine ⟨kvs.map dayOf, e, fun x => ?_⟩
  have z : (valV kvs (.inl x)).isSome = (lastFor rows t k x).isSome := by rw [D.vs, Option.isSome_map]
  rw [← z]
  constructor
  · intro hx
    obtain ⟨p, hp, rfl⟩ := List.mem_map.mp hx
    obtain ⟨d, hd⟩ := D.ks p hp
    have := mem_valV hp
    obtain ⟨a, b⟩ := p
    cases hd
    exact this
  · intro hs
    obtain ⟨v, hv⟩ := Option.isSome_iff_exists.mp hs
    obtain ⟨p, hp, e'⟩ := valV_mem hv
    refine List.mem_map.mpr ⟨p, hp, ?_⟩
    obtain ⟨a, b⟩ := p
    cases e'
    rfl
theorem DOf.at {kvs : List (Key × V)} {rows : List CRow} {t k : Str} (D : DOf kvs rows t k) {x : Int} (h : (lastFor rows t k x).isSome = true) : valV kvs (.inl x) = some (.int (wdOf rows t k x)) := by
  obtain ⟨v, hv⟩ := Option.isSome_iff_exists.mp h
  rw [D.vs, hv]
  unfold wdOf
  rw [hv]; rfl
end Ck
set_option Elab.async false
set_option linter.all false
set_option maxRecDepth 100000
set_option maxHeartbeats 4000000
namespace Ck
open PySem L2
def Lts (x : Str) : Prop := ∀ c ∈ x.cps.toList, c ∈ letters.cps.toList
theorem Lts.app {x y : Str} (hx : Lts x) (hy : Lts y) : Lts (x ++ y) := fun c hc => by
  rw [tl_app] at hc
  exact (List.mem_append.mp hc).elim (hx c) (hy c)
theorem Lts.sub {x y : Str} (hx : Lts x) (h : ∀ c ∈ y.cps.toList, c ∈ x.cps.toList) : Lts y := fun c hc => hx c (h c hc)
theorem Lts.sgn {c : Nat} (h : c ∈ letters.cps.toList) : Lts (sgn c) := fun b hb => by
  rw [show b = c by simpa using hb]; exact h
end Ck
set_option Elab.async false
set_option linter.all false
set_option maxRecDepth 100000
set_option maxHeartbeats 4000000
namespace L2
open PySem PySem.Spec PyProof.Rows Builtin
end L2
namespace Ck
open PySem L2
def Keep2 (d e : Addr) (H H' : Hp) : Prop := ∀ b o, H b = some o → b ≠ d → b ≠ e → H' b = some o
theorem Keep2.of {d e : Addr} {H H' : Hp} (k : Keep d H H') : Keep2 d e H H' := fun b o h n _ => k b o h n
theorem Keep2.trans {d e : Addr} {H H1 H2 : Hp} (a : Keep2 d e H H1) (b : Keep2 d e H1 H2) : Keep2 d e H H2 := fun c o h n m => b c o (a c o h n m) n m
theorem Keep2.new {d e : Addr} {H H' : Hp} (k : Keep2 d e H H') (h : H e = none) : Keep d H H' := fun b o hb n => k b o hb n (ne_of_none hb h)
end Ck
set_option Elab.async false
set_option linter.all false
set_option maxRecDepth 100000
set_option maxHeartbeats 4000000
namespace Ck
open PySem L2
end Ck
set_option Elab.async false
set_option linter.all false
set_option maxRecDepth 100000
set_option maxHeartbeats 4000000
namespace L2
open PySem PySem.Spec PyProof.Rows
def tAlt (t1 t2 : TE) : TE := fun σ H Q => t1 σ H Q ∨ t2 σ H Q
theorem q_pe_alt {X : Cx} {e : Expr} {t1 t2 : TE} (a : QE X e t1) (b : QE X e t2) : QE X e (tAlt t1 t2) := ⟨fun pins s σ H Q I h => h.elim (a.h pins s σ H Q I) (b.h pins s σ H Q I)⟩
structure QPPs (X : Cx) (pos : Pos) (keys : List (Option Expr)) (values : List Expr) (trs : List (TE × TE)) : Prop where
  h : PPs X pos keys values trs
theorem q_pps_nil {X : Cx} {pos : Pos} : QPPs X pos [] [] [] := ⟨pps_nil⟩
theorem q_pps_cons {X : Cx} {pos : Pos} {k v : Expr} {ks : List (Option Expr)} {vs : List Expr} {tk tv : TE} {trs : List (TE × TE)} (hk : QE X k tk) (hv : QE X v tv) (hr : QPPs X pos ks vs trs) : QPPs X pos (some k :: ks) (v :: vs) ((tk, tv) :: trs) := ⟨pps_cons hk.h hv.h hr.h⟩
theorem q_pe_disp {X : Cx} {pos : Pos} {keys : List (Option Expr)} {values : List Expr} {trs : List (TE × TE)} (h : QPPs X pos keys values trs) (hall : keys.all (·.isSome) = true) (hl : keys.length = values.length) (h0 : keys ≠ []) (h15 : keys.length ≤ 15) : QE X (.Dict keys values pos) (tDisp trs) := ⟨pe_disp h.h hall hl h0 h15⟩
theorem q_pe_fldK {X : Cx} {K : PySem.W.Frag} {e : Expr} {f : Str} {pos : Pos} {ta : TE} (ek : X.K = K) (he : QE X e ta) (hb : attributeBase e f X.env (eval e X.env) = eval e X.env) : QE X (.Attribute e f pos) (tFld K ta f) := by
  subst ek
  exact q_pe_fld he hb
end L2
set_option Elab.async false
set_option linter.all false
set_option pp.maxSteps 1500
set_option maxRecDepth 100000
set_option maxHeartbeats 4000000
namespace Ck
open PySem L2
def top (i : Nat) : Stmt := PySem.Challenge.pw_callcoin_k22_rules_asked.main.body.getD i (.Pass ⟨0, 0, 0, 0⟩)
abbrev s_is_made_of : Stmt := top 13
theorem sc_is_made_of : FnScope ["text", "signs", "sign"] ["text", "signs"] (defScope s_is_made_of) := ⟨rfl, rfl, rfl, by decide +kernel, rfl, by decide +kernel, by decide +kernel⟩
abbrev s_is_word : Stmt := top 14
theorem sc_is_word : FnScope ["text"] ["text"] (defScope s_is_word) := ⟨rfl, rfl, rfl, by decide +kernel, rfl, by decide +kernel, by decide +kernel⟩
abbrev s_is_name : Stmt := top 15
theorem sc_is_name : FnScope ["text"] ["text"] (defScope s_is_name) := ⟨rfl, rfl, rfl, by decide +kernel, rfl, by decide +kernel, by decide +kernel⟩
abbrev s_is_number : Stmt := top 16
theorem sc_is_number : FnScope ["number"] ["number"] (defScope s_is_number) := ⟨rfl, rfl, rfl, by decide +kernel, rfl, by decide +kernel, by decide +kernel⟩
abbrev s_is_within : Stmt := top 17
theorem sc_is_within : FnScope ["number", "least", "most"] ["number", "least", "most"] (defScope s_is_within) := ⟨rfl, rfl, rfl, by decide +kernel, rfl, by decide +kernel, by decide +kernel⟩
abbrev s_is_day : Stmt := top 18
theorem sc_is_day : FnScope ["number"] ["number"] (defScope s_is_day) := ⟨rfl, rfl, rfl, by decide +kernel, rfl, by decide +kernel, by decide +kernel⟩
abbrev s_is_worth : Stmt := top 19
theorem sc_is_worth : FnScope ["number"] ["number"] (defScope s_is_worth) := ⟨rfl, rfl, rfl, by decide +kernel, rfl, by decide +kernel, by decide +kernel⟩
abbrev s_check_name : Stmt := top 21
theorem sc_check_name : FnScope ["text"] ["text"] (defScope s_check_name) := ⟨rfl, rfl, rfl, by decide +kernel, rfl, by decide +kernel, by decide +kernel⟩
abbrev s_check_day : Stmt := top 22
theorem sc_check_day : FnScope ["number"] ["number"] (defScope s_check_day) := ⟨rfl, rfl, rfl, by decide +kernel, rfl, by decide +kernel, by decide +kernel⟩
abbrev s_check_worth : Stmt := top 23
theorem sc_check_worth : FnScope ["number"] ["number"] (defScope s_check_worth) := ⟨rfl, rfl, rfl, by decide +kernel, rfl, by decide +kernel, by decide +kernel⟩
abbrev s_Calls_init : Stmt := inClass (top 42) 0
theorem sc_Calls_init : FnScope ["self"] ["self"] (defScope s_Calls_init) := ⟨rfl, rfl, rfl, by decide +kernel, rfl, by decide +kernel, by decide +kernel⟩
abbrev s_Calls_tell : Stmt := inClass (top 42) 2
theorem sc_Calls_tell : FnScope ["self", "town", "kind", "day", "worth"] ["self", "town", "kind", "day", "worth"] (defScope s_Calls_tell) := ⟨rfl, rfl, rfl, by decide +kernel, rfl, by decide +kernel, by decide +kernel⟩
abbrev s_Calls_worth : Stmt := inClass (top 42) 3
theorem sc_Calls_worth : FnScope ["self", "town", "kind", "day", "known", "worths", "told_days", "told"] ["self", "town", "kind", "day", "known"] (defScope s_Calls_worth) := ⟨rfl, rfl, rfl, by decide +kernel, rfl, by decide +kernel, by decide +kernel⟩
abbrev s_Calls_tellings : Stmt := inClass (top 42) 5
theorem sc_Calls_tellings : FnScope ["self", "known"] ["self", "known"] (defScope s_Calls_tellings) := ⟨rfl, rfl, rfl, by decide +kernel, rfl, by decide +kernel, by decide +kernel⟩
abbrev s_Calls_worths_by_day : Stmt := inClass (top 42) 6
theorem sc_Calls_worths_by_day : FnScope ["self", "town", "kind", "known", "worths", "told_town", "told_kind", "day", "worth"] ["self", "town", "kind", "known"] (defScope s_Calls_worths_by_day) := ⟨rfl, rfl, rfl, by decide +kernel, rfl, by decide +kernel, by decide +kernel⟩
abbrev s_call_place : Stmt := top 29
theorem sc_call_place : FnScope ["when", "town", "case", "debt_town", "made", "paid", "days", "call_town"] ["when", "town", "case"] (defScope s_call_place) := ⟨rfl, rfl, rfl, by decide +kernel, rfl, by decide +kernel, by decide +kernel⟩
abbrev s_joined_size : Stmt := top 30
theorem sc_joined_size : FnScope ["terms", "term"] ["terms"] (defScope s_joined_size) := ⟨rfl, rfl, rfl, by decide +kernel, rfl, by decide +kernel, by decide +kernel⟩
abbrev s_joined_depth : Stmt := top 31
theorem sc_joined_depth : FnScope ["terms", "term"] ["terms"] (defScope s_joined_depth) := ⟨rfl, rfl, rfl, by decide +kernel, rfl, by decide +kernel, by decide +kernel⟩
abbrev s_check_joined : Stmt := top 32
theorem sc_check_joined : FnScope ["terms"] ["terms"] (defScope s_check_joined) := ⟨rfl, rfl, rfl, by decide +kernel, rfl, by decide +kernel, by decide +kernel⟩
abbrev s_joined_told : Stmt := top 33
theorem sc_joined_told : FnScope ["word", "terms", "term"] ["word", "terms"] (defScope s_joined_told) := ⟨rfl, rfl, rfl, by decide +kernel, rfl, by decide +kernel, by decide +kernel⟩
abbrev s_Level_init : Stmt := inClass (top 36) 0
theorem sc_Level_init : FnScope ["self", "level"] ["self", "level"] (defScope s_Level_init) := ⟨rfl, rfl, rfl, by decide +kernel, rfl, by decide +kernel, by decide +kernel⟩
abbrev s_Level_worth : Stmt := inClass (top 36) 3
theorem sc_Level_worth : FnScope ["self", "calls", "kind", "case"] ["self", "calls", "kind", "case"] (defScope s_Level_worth) := ⟨rfl, rfl, rfl, by decide +kernel, rfl, by decide +kernel, by decide +kernel⟩
abbrev s_Level_told : Stmt := inClass (top 36) 4
theorem sc_Level_told : FnScope ["self"] ["self"] (defScope s_Level_told) := ⟨rfl, rfl, rfl, by decide +kernel, rfl, by decide +kernel, by decide +kernel⟩
abbrev s_Called_init : Stmt := inClass (top 37) 0
theorem sc_Called_init : FnScope ["self", "when", "town"] ["self", "when", "town"] (defScope s_Called_init) := ⟨rfl, rfl, rfl, by decide +kernel, rfl, by decide +kernel, by decide +kernel⟩
abbrev s_Called_worth : Stmt := inClass (top 37) 3
theorem sc_Called_worth : FnScope ["self", "calls", "kind", "case", "town", "day"] ["self", "calls", "kind", "case"] (defScope s_Called_worth) := ⟨rfl, rfl, rfl, by decide +kernel, rfl, by decide +kernel, by decide +kernel⟩
abbrev s_Called_told : Stmt := inClass (top 37) 4
theorem sc_Called_told : FnScope ["self"] ["self"] (defScope s_Called_told) := ⟨rfl, rfl, rfl, by decide +kernel, rfl, by decide +kernel, by decide +kernel⟩
abbrev s_Least_init : Stmt := inClass (top 38) 0
theorem sc_Least_init : FnScope ["self", "terms", "own_terms"] ["self", "terms"] (defScope s_Least_init) := ⟨rfl, rfl, rfl, by decide +kernel, rfl, by decide +kernel, by decide +kernel⟩
abbrev s_Least_worth : Stmt := inClass (top 38) 3
theorem sc_Least_worth : FnScope ["self", "calls", "kind", "case", "term"] ["self", "calls", "kind", "case"] (defScope s_Least_worth) := ⟨rfl, rfl, rfl, by decide +kernel, rfl, by decide +kernel, by decide +kernel⟩
abbrev s_Least_told : Stmt := inClass (top 38) 4
theorem sc_Least_told : FnScope ["self"] ["self"] (defScope s_Least_told) := ⟨rfl, rfl, rfl, by decide +kernel, rfl, by decide +kernel, by decide +kernel⟩
abbrev s_Greatest_init : Stmt := inClass (top 39) 0
theorem sc_Greatest_init : FnScope ["self", "terms", "own_terms"] ["self", "terms"] (defScope s_Greatest_init) := ⟨rfl, rfl, rfl, by decide +kernel, rfl, by decide +kernel, by decide +kernel⟩
abbrev s_Greatest_worth : Stmt := inClass (top 39) 3
theorem sc_Greatest_worth : FnScope ["self", "calls", "kind", "case", "term"] ["self", "calls", "kind", "case"] (defScope s_Greatest_worth) := ⟨rfl, rfl, rfl, by decide +kernel, rfl, by decide +kernel, by decide +kernel⟩
abbrev s_Greatest_told : Stmt := inClass (top 39) 4
theorem sc_Greatest_told : FnScope ["self"] ["self"] (defScope s_Greatest_told) := ⟨rfl, rfl, rfl, by decide +kernel, rfl, by decide +kernel, by decide +kernel⟩
abbrev s_l_mixed : Stmt := top 44
theorem sc_l_mixed : FnScope ["_law_cell", "_law_k", "_law_mix"] ["_law_cell", "_law_k"] (defScope s_l_mixed) := ⟨rfl, rfl, rfl, by decide +kernel, rfl, by decide +kernel, by decide +kernel⟩
abbrev s_l_next : Stmt := top 45
theorem sc_l_next : FnScope ["_law_draw", "_law_size", "_law_at", "_law_many", "_law_cell"] ["_law_draw", "_law_size"] (defScope s_l_next) := ⟨rfl, rfl, rfl, by decide +kernel, rfl, by decide +kernel, by decide +kernel⟩
abbrev s_l_word : Stmt := top 46
theorem sc_l_word : FnScope ["_law_draw", "_law_some", "_law_word_here", "_law_k"] ["_law_draw"] (defScope s_l_word) := ⟨rfl, rfl, rfl, by decide +kernel, rfl, by decide +kernel, by decide +kernel⟩
abbrev s_l_words : Stmt := top 47
theorem sc_l_words : FnScope ["_law_draw", "_law_many", "_law_found", "_law_k", "_law_word_here", "_law_sign"] ["_law_draw", "_law_many"] (defScope s_l_words) := ⟨rfl, rfl, rfl, by decide +kernel, rfl, by decide +kernel, by decide +kernel⟩
abbrev s_l_level : Stmt := top 48
theorem sc_l_level : FnScope ["_law_draw", "_law_way"] ["_law_draw"] (defScope s_l_level) := ⟨rfl, rfl, rfl, by decide +kernel, rfl, by decide +kernel, by decide +kernel⟩
abbrev s_l_day : Stmt := top 49
theorem sc_l_day : FnScope ["_law_draw", "_law_way"] ["_law_draw"] (defScope s_l_day) := ⟨rfl, rfl, rfl, by decide +kernel, rfl, by decide +kernel, by decide +kernel⟩
abbrev s_l_calls : Stmt := top 50
theorem sc_l_calls : FnScope ["_law_draw", "_law_towns", "_law_days", "_law_many", "_law_calls_here", "_law_k", "_law_way", "_law_when"] ["_law_draw", "_law_towns", "_law_days", "_law_many"] (defScope s_l_calls) := ⟨rfl, rfl, rfl, by decide +kernel, rfl, by decide +kernel, by decide +kernel⟩
abbrev s_l_told : Stmt := top 51
theorem sc_l_told : FnScope ["_law_draw", "_law_calls_here", "_law_deep", "_law_room", "_law_way", "_law_many", "_law_word_here", "_law_parts", "_law_k"] ["_law_draw", "_law_calls_here", "_law_deep", "_law_room"] (defScope s_l_told) := ⟨rfl, rfl, rfl, by decide +kernel, rfl, by decide +kernel, by decide +kernel⟩
abbrev s_l_alike : Stmt := top 52
theorem sc_l_alike : FnScope ["_law_found", "_law_due", "_law_k"] ["_law_found", "_law_due"] (defScope s_l_alike) := ⟨rfl, rfl, rfl, by decide +kernel, rfl, by decide +kernel, by decide +kernel⟩
abbrev s_l_build : Stmt := top 53
theorem sc_l_build : FnScope ["_law_told_here", "_law_parts", "_law_term", "_law_part"] ["_law_told_here"] (defScope s_l_build) := ⟨rfl, rfl, rfl, by decide +kernel, rfl, by decide +kernel, by decide +kernel⟩
abbrev s_l_call_worth : Stmt := top 54
theorem sc_l_call_worth : FnScope ["_law_rows", "_law_town", "_law_kind", "_law_day_here", "_law_last", "_law_worth_here", "_law_row"] ["_law_rows", "_law_town", "_law_kind", "_law_day_here"] (defScope s_l_call_worth) := ⟨rfl, rfl, rfl, by decide +kernel, rfl, by decide +kernel, by decide +kernel⟩
abbrev s_l_worth : Stmt := top 55
theorem sc_l_worth : FnScope ["_law_told_here", "_law_rows", "_law_kind", "_law_case", "_law_found", "_law_day_here", "_law_part"] ["_law_told_here", "_law_rows", "_law_kind", "_law_case"] (defScope s_l_worth) := ⟨rfl, rfl, rfl, by decide +kernel, rfl, by decide +kernel, by decide +kernel⟩
abbrev s_l_beside : Stmt := top 56
theorem sc_l_beside : FnScope ["_law_draw", "_law_day_here"] ["_law_draw", "_law_day_here"] (defScope s_l_beside) := ⟨rfl, rfl, rfl, by decide +kernel, rfl, by decide +kernel, by decide +kernel⟩
abbrev s_l_asked : Stmt := top 57
theorem sc_l_asked : FnScope ["_law_draw", "_law_towns", "_law_kinds", "_law_days", "_law_terms", "_law_rules", "_law_books", "_law_rows", "_law_t", "_law_b", "_law_kind", "_law_made", "_law_paid", "_law_case", "_law_found"] ["_law_draw", "_law_towns", "_law_kinds", "_law_days", "_law_terms", "_law_rules", "_law_books", "_law_rows"] (defScope s_l_asked) := ⟨rfl, rfl, rfl, by decide +kernel, rfl, by decide +kernel, by decide +kernel⟩
abbrev s_law : Stmt := top 58
theorem sc_law : FnScope ["_law_script", "_law_draw", "_law_many", "_law_towns", "_law_kinds", "_law_days", "_law_calls_here", "_law_rules", "_law_terms", "_law_books", "_law_rows", "_law_k", "_law_at", "_law_row", "_law_told_here", "_law_term"] ["_law_script"] (defScope s_law) := ⟨rfl, rfl, rfl, by decide +kernel, rfl, by decide +kernel, by decide +kernel⟩
abbrev c_SMALL_LETTERS : V := .str "abcdefghijklmnopqrstuvwxyz"
abbrev c_LONGEST_NAME : V := .int 8
abbrev c_MOST_DAY : V := .int 9999
abbrev c_MOST_WORTH : V := .int 1000000
abbrev c_MOST_TELLINGS : V := .int 300
abbrev c_LEAST_TERMS : V := .int 2
abbrev c_MOST_TERMS : V := .int 8
abbrev c_MOST_SIZE : V := .int 60
abbrev c_MOST_DEPTH : V := .int 8
structure Ad where
  C_Called : Addr
  C_Calls : Addr
  C_Greatest : Addr
  C_Least : Addr
  C_Level : Addr
  a_is_made_of : Addr
  fd_is_made_of : FuncData
  a_is_word : Addr
  fd_is_word : FuncData
  a_is_name : Addr
  fd_is_name : FuncData
  a_is_number : Addr
  fd_is_number : FuncData
  a_is_within : Addr
  fd_is_within : FuncData
  a_is_day : Addr
  fd_is_day : FuncData
  a_is_worth : Addr
  fd_is_worth : FuncData
  a_check_name : Addr
  fd_check_name : FuncData
  a_check_day : Addr
  fd_check_day : FuncData
  a_check_worth : Addr
  fd_check_worth : FuncData
  a_Calls_init : Addr
  fd_Calls_init : FuncData
  a_Calls_tell : Addr
  fd_Calls_tell : FuncData
  a_Calls_worth : Addr
  fd_Calls_worth : FuncData
  a_Calls_tellings : Addr
  fd_Calls_tellings : FuncData
  a_Calls_worths_by_day : Addr
  fd_Calls_worths_by_day : FuncData
  a_call_place : Addr
  fd_call_place : FuncData
  a_joined_size : Addr
  fd_joined_size : FuncData
  a_joined_depth : Addr
  fd_joined_depth : FuncData
  a_check_joined : Addr
  fd_check_joined : FuncData
  a_joined_told : Addr
  fd_joined_told : FuncData
  a_Level_init : Addr
  fd_Level_init : FuncData
  a_Level_worth : Addr
  fd_Level_worth : FuncData
  a_Level_told : Addr
  fd_Level_told : FuncData
  a_Called_init : Addr
  fd_Called_init : FuncData
  a_Called_worth : Addr
  fd_Called_worth : FuncData
  a_Called_told : Addr
  fd_Called_told : FuncData
  a_Least_init : Addr
  fd_Least_init : FuncData
  a_Least_worth : Addr
  fd_Least_worth : FuncData
  a_Least_told : Addr
  fd_Least_told : FuncData
  a_Greatest_init : Addr
  fd_Greatest_init : FuncData
  a_Greatest_worth : Addr
  fd_Greatest_worth : FuncData
  a_Greatest_told : Addr
  fd_Greatest_told : FuncData
  a_l_mixed : Addr
  fd_l_mixed : FuncData
  a_l_next : Addr
  fd_l_next : FuncData
  a_l_word : Addr
  fd_l_word : FuncData
  a_l_words : Addr
  fd_l_words : FuncData
  a_l_level : Addr
  fd_l_level : FuncData
  a_l_day : Addr
  fd_l_day : FuncData
  a_l_calls : Addr
  fd_l_calls : FuncData
  a_l_told : Addr
  fd_l_told : FuncData
  a_l_alike : Addr
  fd_l_alike : FuncData
  a_l_build : Addr
  fd_l_build : FuncData
  a_l_call_worth : Addr
  fd_l_call_worth : FuncData
  a_l_worth : Addr
  fd_l_worth : FuncData
  a_l_beside : Addr
  fd_l_beside : FuncData
  a_l_asked : Addr
  fd_l_asked : FuncData
  a_law : Addr
  fd_law : FuncData
  k_SMALL_LETTERS : Tok
  k_LONGEST_NAME : Tok
  k_MOST_DAY : Tok
  k_MOST_WORTH : Tok
  k_MOST_TELLINGS : Tok
  k_LEAST_TERMS : Tok
  k_MOST_TERMS : Tok
  k_MOST_SIZE : Tok
  k_MOST_DEPTH : Tok
structure Env (K : PySem.W.Frag) (mg : Str → Option Value) (t : Ad) : Prop where
  cl_Called : Cls K t.C_Called
  mg_Called : mg "Called" = some (.ref t.C_Called)
  mk_Called : Mk K t.C_Called t.a_Called_init
  no_Called_when : NoAttr K t.C_Called "when"
  no_Called_town : NoAttr K t.C_Called "town"
  no_Called_size : NoAttr K t.C_Called "size"
  no_Called_depth : NoAttr K t.C_Called "depth"
  cl_Calls : Cls K t.C_Calls
  mg_Calls : mg "Calls" = some (.ref t.C_Calls)
  mk_Calls : Mk K t.C_Calls t.a_Calls_init
  no_Calls_rows : NoAttr K t.C_Calls "rows"
  cl_Greatest : Cls K t.C_Greatest
  mg_Greatest : mg "Greatest" = some (.ref t.C_Greatest)
  mk_Greatest : Mk K t.C_Greatest t.a_Greatest_init
  no_Greatest_terms : NoAttr K t.C_Greatest "terms"
  no_Greatest_size : NoAttr K t.C_Greatest "size"
  no_Greatest_depth : NoAttr K t.C_Greatest "depth"
  cl_Least : Cls K t.C_Least
  mg_Least : mg "Least" = some (.ref t.C_Least)
  mk_Least : Mk K t.C_Least t.a_Least_init
  no_Least_terms : NoAttr K t.C_Least "terms"
  no_Least_size : NoAttr K t.C_Least "size"
  no_Least_depth : NoAttr K t.C_Least "depth"
  cl_Level : Cls K t.C_Level
  mg_Level : mg "Level" = some (.ref t.C_Level)
  mk_Level : Mk K t.C_Level t.a_Level_init
  no_Level_level : NoAttr K t.C_Level "level"
  no_Level_size : NoAttr K t.C_Level "size"
  no_Level_depth : NoAttr K t.C_Level "depth"
  f_is_made_of : Fun K "is_made_of" "is_made_of" s_is_made_of t.a_is_made_of t.fd_is_made_of
  b_is_made_of : Binds K t.fd_is_made_of ["text", "signs"] []
  kp_is_made_of : PySem.W.keepIn K (.ref t.a_is_made_of) = true
  mg_is_made_of : mg "is_made_of" = some (.ref t.a_is_made_of)
  f_is_word : Fun K "is_word" "is_word" s_is_word t.a_is_word t.fd_is_word
  b_is_word : Binds K t.fd_is_word ["text"] []
  kp_is_word : PySem.W.keepIn K (.ref t.a_is_word) = true
  mg_is_word : mg "is_word" = some (.ref t.a_is_word)
  f_is_name : Fun K "is_name" "is_name" s_is_name t.a_is_name t.fd_is_name
  b_is_name : Binds K t.fd_is_name ["text"] []
  kp_is_name : PySem.W.keepIn K (.ref t.a_is_name) = true
  mg_is_name : mg "is_name" = some (.ref t.a_is_name)
  f_is_number : Fun K "is_number" "is_number" s_is_number t.a_is_number t.fd_is_number
  b_is_number : Binds K t.fd_is_number ["number"] []
  kp_is_number : PySem.W.keepIn K (.ref t.a_is_number) = true
  mg_is_number : mg "is_number" = some (.ref t.a_is_number)
  f_is_within : Fun K "is_within" "is_within" s_is_within t.a_is_within t.fd_is_within
  b_is_within : Binds K t.fd_is_within ["number", "least", "most"] []
  kp_is_within : PySem.W.keepIn K (.ref t.a_is_within) = true
  mg_is_within : mg "is_within" = some (.ref t.a_is_within)
  f_is_day : Fun K "is_day" "is_day" s_is_day t.a_is_day t.fd_is_day
  b_is_day : Binds K t.fd_is_day ["number"] []
  kp_is_day : PySem.W.keepIn K (.ref t.a_is_day) = true
  mg_is_day : mg "is_day" = some (.ref t.a_is_day)
  f_is_worth : Fun K "is_worth" "is_worth" s_is_worth t.a_is_worth t.fd_is_worth
  b_is_worth : Binds K t.fd_is_worth ["number"] []
  kp_is_worth : PySem.W.keepIn K (.ref t.a_is_worth) = true
  mg_is_worth : mg "is_worth" = some (.ref t.a_is_worth)
  f_check_name : Fun K "check_name" "check_name" s_check_name t.a_check_name t.fd_check_name
  b_check_name : Binds K t.fd_check_name ["text"] []
  kp_check_name : PySem.W.keepIn K (.ref t.a_check_name) = true
  mg_check_name : mg "check_name" = some (.ref t.a_check_name)
  f_check_day : Fun K "check_day" "check_day" s_check_day t.a_check_day t.fd_check_day
  b_check_day : Binds K t.fd_check_day ["number"] []
  kp_check_day : PySem.W.keepIn K (.ref t.a_check_day) = true
  mg_check_day : mg "check_day" = some (.ref t.a_check_day)
  f_check_worth : Fun K "check_worth" "check_worth" s_check_worth t.a_check_worth t.fd_check_worth
  b_check_worth : Binds K t.fd_check_worth ["number"] []
  kp_check_worth : PySem.W.keepIn K (.ref t.a_check_worth) = true
  mg_check_worth : mg "check_worth" = some (.ref t.a_check_worth)
  f_Calls_init : Fun K "__init__" "Calls.__init__" s_Calls_init t.a_Calls_init t.fd_Calls_init
  b_Calls_init : Binds K t.fd_Calls_init ["self"] []
  f_Calls_tell : Fun K "tell" "Calls.tell" s_Calls_tell t.a_Calls_tell t.fd_Calls_tell
  b_Calls_tell : Binds K t.fd_Calls_tell ["self", "town", "kind", "day", "worth"] []
  m_Calls_tell : Meth K t.C_Calls "tell" t.a_Calls_tell
  f_Calls_worth : FunD K "worth" "Calls.worth" s_Calls_worth t.a_Calls_worth t.fd_Calls_worth [Value.none]
  b_Calls_worth : Binds K t.fd_Calls_worth ["self", "town", "kind", "day", "known"] []
  bd_Calls_worth : Binds K t.fd_Calls_worth ["self", "town", "kind", "day", "known"] [Value.none]
  m_Calls_worth : Meth K t.C_Calls "worth" t.a_Calls_worth
  f_Calls_tellings : FunD K "tellings" "Calls.tellings" s_Calls_tellings t.a_Calls_tellings t.fd_Calls_tellings [Value.none]
  b_Calls_tellings : Binds K t.fd_Calls_tellings ["self", "known"] []
  bd_Calls_tellings : Binds K t.fd_Calls_tellings ["self", "known"] [Value.none]
  m_Calls_tellings : Meth K t.C_Calls "tellings" t.a_Calls_tellings
  f_Calls_worths_by_day : Fun K "worths_by_day" "Calls.worths_by_day" s_Calls_worths_by_day t.a_Calls_worths_by_day t.fd_Calls_worths_by_day
  b_Calls_worths_by_day : Binds K t.fd_Calls_worths_by_day ["self", "town", "kind", "known"] []
  m_Calls_worths_by_day : Meth K t.C_Calls "worths_by_day" t.a_Calls_worths_by_day
  f_call_place : Fun K "call_place" "call_place" s_call_place t.a_call_place t.fd_call_place
  b_call_place : Binds K t.fd_call_place ["when", "town", "case"] []
  kp_call_place : PySem.W.keepIn K (.ref t.a_call_place) = true
  mg_call_place : mg "call_place" = some (.ref t.a_call_place)
  f_joined_size : Fun K "joined_size" "joined_size" s_joined_size t.a_joined_size t.fd_joined_size
  b_joined_size : Binds K t.fd_joined_size ["terms"] []
  kp_joined_size : PySem.W.keepIn K (.ref t.a_joined_size) = true
  mg_joined_size : mg "joined_size" = some (.ref t.a_joined_size)
  f_joined_depth : Fun K "joined_depth" "joined_depth" s_joined_depth t.a_joined_depth t.fd_joined_depth
  b_joined_depth : Binds K t.fd_joined_depth ["terms"] []
  kp_joined_depth : PySem.W.keepIn K (.ref t.a_joined_depth) = true
  mg_joined_depth : mg "joined_depth" = some (.ref t.a_joined_depth)
  f_check_joined : Fun K "check_joined" "check_joined" s_check_joined t.a_check_joined t.fd_check_joined
  b_check_joined : Binds K t.fd_check_joined ["terms"] []
  kp_check_joined : PySem.W.keepIn K (.ref t.a_check_joined) = true
  mg_check_joined : mg "check_joined" = some (.ref t.a_check_joined)
  f_joined_told : Fun K "joined_told" "joined_told" s_joined_told t.a_joined_told t.fd_joined_told
  b_joined_told : Binds K t.fd_joined_told ["word", "terms"] []
  kp_joined_told : PySem.W.keepIn K (.ref t.a_joined_told) = true
  mg_joined_told : mg "joined_told" = some (.ref t.a_joined_told)
  f_Level_init : Fun K "__init__" "Level.__init__" s_Level_init t.a_Level_init t.fd_Level_init
  b_Level_init : Binds K t.fd_Level_init ["self", "level"] []
  f_Level_worth : Fun K "worth" "Level.worth" s_Level_worth t.a_Level_worth t.fd_Level_worth
  b_Level_worth : Binds K t.fd_Level_worth ["self", "calls", "kind", "case"] []
  m_Level_worth : Meth K t.C_Level "worth" t.a_Level_worth
  f_Level_told : Fun K "told" "Level.told" s_Level_told t.a_Level_told t.fd_Level_told
  b_Level_told : Binds K t.fd_Level_told ["self"] []
  m_Level_told : Meth K t.C_Level "told" t.a_Level_told
  f_Called_init : FunD K "__init__" "Called.__init__" s_Called_init t.a_Called_init t.fd_Called_init [Value.none]
  b_Called_init : Binds K t.fd_Called_init ["self", "when", "town"] []
  bd_Called_init : Binds K t.fd_Called_init ["self", "when", "town"] [Value.none]
  f_Called_worth : Fun K "worth" "Called.worth" s_Called_worth t.a_Called_worth t.fd_Called_worth
  b_Called_worth : Binds K t.fd_Called_worth ["self", "calls", "kind", "case"] []
  m_Called_worth : Meth K t.C_Called "worth" t.a_Called_worth
  f_Called_told : Fun K "told" "Called.told" s_Called_told t.a_Called_told t.fd_Called_told
  b_Called_told : Binds K t.fd_Called_told ["self"] []
  m_Called_told : Meth K t.C_Called "told" t.a_Called_told
  f_Least_init : Fun K "__init__" "Least.__init__" s_Least_init t.a_Least_init t.fd_Least_init
  b_Least_init : Binds K t.fd_Least_init ["self", "terms"] []
  f_Least_worth : Fun K "worth" "Least.worth" s_Least_worth t.a_Least_worth t.fd_Least_worth
  b_Least_worth : Binds K t.fd_Least_worth ["self", "calls", "kind", "case"] []
  m_Least_worth : Meth K t.C_Least "worth" t.a_Least_worth
  f_Least_told : Fun K "told" "Least.told" s_Least_told t.a_Least_told t.fd_Least_told
  b_Least_told : Binds K t.fd_Least_told ["self"] []
  m_Least_told : Meth K t.C_Least "told" t.a_Least_told
  f_Greatest_init : Fun K "__init__" "Greatest.__init__" s_Greatest_init t.a_Greatest_init t.fd_Greatest_init
  b_Greatest_init : Binds K t.fd_Greatest_init ["self", "terms"] []
  f_Greatest_worth : Fun K "worth" "Greatest.worth" s_Greatest_worth t.a_Greatest_worth t.fd_Greatest_worth
  b_Greatest_worth : Binds K t.fd_Greatest_worth ["self", "calls", "kind", "case"] []
  m_Greatest_worth : Meth K t.C_Greatest "worth" t.a_Greatest_worth
  f_Greatest_told : Fun K "told" "Greatest.told" s_Greatest_told t.a_Greatest_told t.fd_Greatest_told
  b_Greatest_told : Binds K t.fd_Greatest_told ["self"] []
  m_Greatest_told : Meth K t.C_Greatest "told" t.a_Greatest_told
  f_l_mixed : Fun K "_law_mixed" "_law_mixed" s_l_mixed t.a_l_mixed t.fd_l_mixed
  b_l_mixed : Binds K t.fd_l_mixed ["_law_cell", "_law_k"] []
  kp_l_mixed : PySem.W.keepIn K (.ref t.a_l_mixed) = true
  mg_l_mixed : mg "_law_mixed" = some (.ref t.a_l_mixed)
  f_l_next : Fun K "_law_next" "_law_next" s_l_next t.a_l_next t.fd_l_next
  b_l_next : Binds K t.fd_l_next ["_law_draw", "_law_size"] []
  kp_l_next : PySem.W.keepIn K (.ref t.a_l_next) = true
  mg_l_next : mg "_law_next" = some (.ref t.a_l_next)
  f_l_word : Fun K "_law_word" "_law_word" s_l_word t.a_l_word t.fd_l_word
  b_l_word : Binds K t.fd_l_word ["_law_draw"] []
  kp_l_word : PySem.W.keepIn K (.ref t.a_l_word) = true
  mg_l_word : mg "_law_word" = some (.ref t.a_l_word)
  f_l_words : Fun K "_law_words" "_law_words" s_l_words t.a_l_words t.fd_l_words
  b_l_words : Binds K t.fd_l_words ["_law_draw", "_law_many"] []
  kp_l_words : PySem.W.keepIn K (.ref t.a_l_words) = true
  mg_l_words : mg "_law_words" = some (.ref t.a_l_words)
  f_l_level : Fun K "_law_level" "_law_level" s_l_level t.a_l_level t.fd_l_level
  b_l_level : Binds K t.fd_l_level ["_law_draw"] []
  kp_l_level : PySem.W.keepIn K (.ref t.a_l_level) = true
  mg_l_level : mg "_law_level" = some (.ref t.a_l_level)
  f_l_day : Fun K "_law_day" "_law_day" s_l_day t.a_l_day t.fd_l_day
  b_l_day : Binds K t.fd_l_day ["_law_draw"] []
  kp_l_day : PySem.W.keepIn K (.ref t.a_l_day) = true
  mg_l_day : mg "_law_day" = some (.ref t.a_l_day)
  f_l_calls : Fun K "_law_calls" "_law_calls" s_l_calls t.a_l_calls t.fd_l_calls
  b_l_calls : Binds K t.fd_l_calls ["_law_draw", "_law_towns", "_law_days", "_law_many"] []
  kp_l_calls : PySem.W.keepIn K (.ref t.a_l_calls) = true
  mg_l_calls : mg "_law_calls" = some (.ref t.a_l_calls)
  f_l_told : Fun K "_law_told" "_law_told" s_l_told t.a_l_told t.fd_l_told
  b_l_told : Binds K t.fd_l_told ["_law_draw", "_law_calls_here", "_law_deep", "_law_room"] []
  kp_l_told : PySem.W.keepIn K (.ref t.a_l_told) = true
  mg_l_told : mg "_law_told" = some (.ref t.a_l_told)
  f_l_alike : Fun K "_law_alike" "_law_alike" s_l_alike t.a_l_alike t.fd_l_alike
  b_l_alike : Binds K t.fd_l_alike ["_law_found", "_law_due"] []
  kp_l_alike : PySem.W.keepIn K (.ref t.a_l_alike) = true
  mg_l_alike : mg "_law_alike" = some (.ref t.a_l_alike)
  f_l_build : Fun K "_law_build" "_law_build" s_l_build t.a_l_build t.fd_l_build
  b_l_build : Binds K t.fd_l_build ["_law_told_here"] []
  kp_l_build : PySem.W.keepIn K (.ref t.a_l_build) = true
  mg_l_build : mg "_law_build" = some (.ref t.a_l_build)
  f_l_call_worth : Fun K "_law_call_worth" "_law_call_worth" s_l_call_worth t.a_l_call_worth t.fd_l_call_worth
  b_l_call_worth : Binds K t.fd_l_call_worth ["_law_rows", "_law_town", "_law_kind", "_law_day_here"] []
  kp_l_call_worth : PySem.W.keepIn K (.ref t.a_l_call_worth) = true
  mg_l_call_worth : mg "_law_call_worth" = some (.ref t.a_l_call_worth)
  f_l_worth : Fun K "_law_worth" "_law_worth" s_l_worth t.a_l_worth t.fd_l_worth
  b_l_worth : Binds K t.fd_l_worth ["_law_told_here", "_law_rows", "_law_kind", "_law_case"] []
  kp_l_worth : PySem.W.keepIn K (.ref t.a_l_worth) = true
  mg_l_worth : mg "_law_worth" = some (.ref t.a_l_worth)
  f_l_beside : Fun K "_law_beside" "_law_beside" s_l_beside t.a_l_beside t.fd_l_beside
  b_l_beside : Binds K t.fd_l_beside ["_law_draw", "_law_day_here"] []
  kp_l_beside : PySem.W.keepIn K (.ref t.a_l_beside) = true
  mg_l_beside : mg "_law_beside" = some (.ref t.a_l_beside)
  f_l_asked : Fun K "_law_asked" "_law_asked" s_l_asked t.a_l_asked t.fd_l_asked
  b_l_asked : Binds K t.fd_l_asked ["_law_draw", "_law_towns", "_law_kinds", "_law_days", "_law_terms", "_law_rules", "_law_books", "_law_rows"] []
  kp_l_asked : PySem.W.keepIn K (.ref t.a_l_asked) = true
  mg_l_asked : mg "_law_asked" = some (.ref t.a_l_asked)
  f_law : Fun K "law" "law" s_law t.a_law t.fd_law
  b_law : Binds K t.fd_law ["_law_script"] []
  kp_law : PySem.W.keepIn K (.ref t.a_law) = true
  mg_law : mg "law" = some (.ref t.a_law)
  mg_SMALL_LETTERS : mg "SMALL_LETTERS" = some (Value.str "abcdefghijklmnopqrstuvwxyz" t.k_SMALL_LETTERS)
  mg_LONGEST_NAME : mg "LONGEST_NAME" = some (Value.int 8 t.k_LONGEST_NAME)
  mg_MOST_DAY : mg "MOST_DAY" = some (Value.int 9999 t.k_MOST_DAY)
  mg_MOST_WORTH : mg "MOST_WORTH" = some (Value.int 1000000 t.k_MOST_WORTH)
  mg_MOST_TELLINGS : mg "MOST_TELLINGS" = some (Value.int 300 t.k_MOST_TELLINGS)
  mg_LEAST_TERMS : mg "LEAST_TERMS" = some (Value.int 2 t.k_LEAST_TERMS)
  mg_MOST_TERMS : mg "MOST_TERMS" = some (Value.int 8 t.k_MOST_TERMS)
  mg_MOST_SIZE : mg "MOST_SIZE" = some (Value.int 60 t.k_MOST_SIZE)
  mg_MOST_DEPTH : mg "MOST_DEPTH" = some (Value.int 8 t.k_MOST_DEPTH)
  z_len : mg "len" = none
  z_range : mg "range" = none
  z_max : mg "max" = none
  z_min : mg "min" = none
  z_isinstance : mg "isinstance" = none
  z_all : mg "all" = none
  z_sum : mg "sum" = none
  z_str : mg "str" = none
  z_bool : mg "bool" = none
  z_int : mg "int" = none
  z_list : mg "list" = none
  z_tuple : mg "tuple" = none
  z_zip : mg "zip" = none
theorem env_mk {K : PySem.W.Frag} {h : Heap} {mg : Str → Option Value} {C_Called : Addr} {C_Calls : Addr} {C_Greatest : Addr} {C_Least : Addr} {C_Level : Addr} {a_is_made_of : Addr} {od_is_made_of an_is_made_of : Option Addr} {sl_is_made_of : Array (Option Value)} {oc_is_made_of kV_is_made_of dc_is_made_of pm_is_made_of cd_is_made_of ct_is_made_of : Value} {a_is_word : Addr} {od_is_word an_is_word : Option Addr} {sl_is_word : Array (Option Value)} {oc_is_word kV_is_word dc_is_word pm_is_word cd_is_word ct_is_word : Value} {a_is_name : Addr} {od_is_name an_is_name : Option Addr} {sl_is_name : Array (Option Value)} {oc_is_name kV_is_name dc_is_name pm_is_name cd_is_name ct_is_name : Value} {a_is_number : Addr} {od_is_number an_is_number : Option Addr} {sl_is_number : Array (Option Value)} {oc_is_number kV_is_number dc_is_number pm_is_number cd_is_number ct_is_number : Value} {a_is_within : Addr} {od_is_within an_is_within : Option Addr} {sl_is_within : Array (Option Value)} {oc_is_within kV_is_within dc_is_within pm_is_within cd_is_within ct_is_within : Value} {a_is_day : Addr} {od_is_day an_is_day : Option Addr} {sl_is_day : Array (Option Value)} {oc_is_day kV_is_day dc_is_day pm_is_day cd_is_day ct_is_day : Value} {a_is_worth : Addr} {od_is_worth an_is_worth : Option Addr} {sl_is_worth : Array (Option Value)} {oc_is_worth kV_is_worth dc_is_worth pm_is_worth cd_is_worth ct_is_worth : Value} {a_check_name : Addr} {od_check_name an_check_name : Option Addr} {sl_check_name : Array (Option Value)} {oc_check_name kV_check_name dc_check_name pm_check_name cd_check_name ct_check_name : Value} {a_check_day : Addr} {od_check_day an_check_day : Option Addr} {sl_check_day : Array (Option Value)} {oc_check_day kV_check_day dc_check_day pm_check_day cd_check_day ct_check_day : Value} {a_check_worth : Addr} {od_check_worth an_check_worth : Option Addr} {sl_check_worth : Array (Option Value)} {oc_check_worth kV_check_worth dc_check_worth pm_check_worth cd_check_worth ct_check_worth : Value} {a_Calls_init : Addr} {od_Calls_init an_Calls_init : Option Addr} {sl_Calls_init : Array (Option Value)} {oc_Calls_init kV_Calls_init dc_Calls_init pm_Calls_init cd_Calls_init ct_Calls_init : Value} {a_Calls_tell : Addr} {od_Calls_tell an_Calls_tell : Option Addr} {sl_Calls_tell : Array (Option Value)} {oc_Calls_tell kV_Calls_tell dc_Calls_tell pm_Calls_tell cd_Calls_tell ct_Calls_tell : Value} {a_Calls_worth : Addr} {od_Calls_worth an_Calls_worth : Option Addr} {sl_Calls_worth : Array (Option Value)} {oc_Calls_worth kV_Calls_worth dc_Calls_worth pm_Calls_worth cd_Calls_worth ct_Calls_worth : Value} {T_Calls_worth : Addr} {oT_Calls_worth : Value} {dT_Calls_worth : Option Addr} {nT_Calls_worth : Nat} {sT_Calls_worth : Array (Option Value)} {a_Calls_tellings : Addr} {od_Calls_tellings an_Calls_tellings : Option Addr} {sl_Calls_tellings : Array (Option Value)} {oc_Calls_tellings kV_Calls_tellings dc_Calls_tellings pm_Calls_tellings cd_Calls_tellings ct_Calls_tellings : Value} {T_Calls_tellings : Addr} {oT_Calls_tellings : Value} {dT_Calls_tellings : Option Addr} {nT_Calls_tellings : Nat} {sT_Calls_tellings : Array (Option Value)} {a_Calls_worths_by_day : Addr} {od_Calls_worths_by_day an_Calls_worths_by_day : Option Addr} {sl_Calls_worths_by_day : Array (Option Value)} {oc_Calls_worths_by_day kV_Calls_worths_by_day dc_Calls_worths_by_day pm_Calls_worths_by_day cd_Calls_worths_by_day ct_Calls_worths_by_day : Value} {a_call_place : Addr} {od_call_place an_call_place : Option Addr} {sl_call_place : Array (Option Value)} {oc_call_place kV_call_place dc_call_place pm_call_place cd_call_place ct_call_place : Value} {a_joined_size : Addr} {od_joined_size an_joined_size : Option Addr} {sl_joined_size : Array (Option Value)} {oc_joined_size kV_joined_size dc_joined_size pm_joined_size cd_joined_size ct_joined_size : Value} {a_joined_depth : Addr} {od_joined_depth an_joined_depth : Option Addr} {sl_joined_depth : Array (Option Value)} {oc_joined_depth kV_joined_depth dc_joined_depth pm_joined_depth cd_joined_depth ct_joined_depth : Value} {a_check_joined : Addr} {od_check_joined an_check_joined : Option Addr} {sl_check_joined : Array (Option Value)} {oc_check_joined kV_check_joined dc_check_joined pm_check_joined cd_check_joined ct_check_joined : Value} {a_joined_told : Addr} {od_joined_told an_joined_told : Option Addr} {sl_joined_told : Array (Option Value)} {oc_joined_told kV_joined_told dc_joined_told pm_joined_told cd_joined_told ct_joined_told : Value} {a_Level_init : Addr} {od_Level_init an_Level_init : Option Addr} {sl_Level_init : Array (Option Value)} {oc_Level_init kV_Level_init dc_Level_init pm_Level_init cd_Level_init ct_Level_init : Value} {a_Level_worth : Addr} {od_Level_worth an_Level_worth : Option Addr} {sl_Level_worth : Array (Option Value)} {oc_Level_worth kV_Level_worth dc_Level_worth pm_Level_worth cd_Level_worth ct_Level_worth : Value} {a_Level_told : Addr} {od_Level_told an_Level_told : Option Addr} {sl_Level_told : Array (Option Value)} {oc_Level_told kV_Level_told dc_Level_told pm_Level_told cd_Level_told ct_Level_told : Value} {a_Called_init : Addr} {od_Called_init an_Called_init : Option Addr} {sl_Called_init : Array (Option Value)} {oc_Called_init kV_Called_init dc_Called_init pm_Called_init cd_Called_init ct_Called_init : Value} {T_Called_init : Addr} {oT_Called_init : Value} {dT_Called_init : Option Addr} {nT_Called_init : Nat} {sT_Called_init : Array (Option Value)} {a_Called_worth : Addr} {od_Called_worth an_Called_worth : Option Addr} {sl_Called_worth : Array (Option Value)} {oc_Called_worth kV_Called_worth dc_Called_worth pm_Called_worth cd_Called_worth ct_Called_worth : Value} {a_Called_told : Addr} {od_Called_told an_Called_told : Option Addr} {sl_Called_told : Array (Option Value)} {oc_Called_told kV_Called_told dc_Called_told pm_Called_told cd_Called_told ct_Called_told : Value} {a_Least_init : Addr} {od_Least_init an_Least_init : Option Addr} {sl_Least_init : Array (Option Value)} {oc_Least_init kV_Least_init dc_Least_init pm_Least_init cd_Least_init ct_Least_init : Value} {a_Least_worth : Addr} {od_Least_worth an_Least_worth : Option Addr} {sl_Least_worth : Array (Option Value)} {oc_Least_worth kV_Least_worth dc_Least_worth pm_Least_worth cd_Least_worth ct_Least_worth : Value} {a_Least_told : Addr} {od_Least_told an_Least_told : Option Addr} {sl_Least_told : Array (Option Value)} {oc_Least_told kV_Least_told dc_Least_told pm_Least_told cd_Least_told ct_Least_told : Value} {a_Greatest_init : Addr} {od_Greatest_init an_Greatest_init : Option Addr} {sl_Greatest_init : Array (Option Value)} {oc_Greatest_init kV_Greatest_init dc_Greatest_init pm_Greatest_init cd_Greatest_init ct_Greatest_init : Value} {a_Greatest_worth : Addr} {od_Greatest_worth an_Greatest_worth : Option Addr} {sl_Greatest_worth : Array (Option Value)} {oc_Greatest_worth kV_Greatest_worth dc_Greatest_worth pm_Greatest_worth cd_Greatest_worth ct_Greatest_worth : Value} {a_Greatest_told : Addr} {od_Greatest_told an_Greatest_told : Option Addr} {sl_Greatest_told : Array (Option Value)} {oc_Greatest_told kV_Greatest_told dc_Greatest_told pm_Greatest_told cd_Greatest_told ct_Greatest_told : Value} {a_l_mixed : Addr} {od_l_mixed an_l_mixed : Option Addr} {sl_l_mixed : Array (Option Value)} {oc_l_mixed kV_l_mixed dc_l_mixed pm_l_mixed cd_l_mixed ct_l_mixed : Value} {a_l_next : Addr} {od_l_next an_l_next : Option Addr} {sl_l_next : Array (Option Value)} {oc_l_next kV_l_next dc_l_next pm_l_next cd_l_next ct_l_next : Value} {a_l_word : Addr} {od_l_word an_l_word : Option Addr} {sl_l_word : Array (Option Value)} {oc_l_word kV_l_word dc_l_word pm_l_word cd_l_word ct_l_word : Value} {a_l_words : Addr} {od_l_words an_l_words : Option Addr} {sl_l_words : Array (Option Value)} {oc_l_words kV_l_words dc_l_words pm_l_words cd_l_words ct_l_words : Value} {a_l_level : Addr} {od_l_level an_l_level : Option Addr} {sl_l_level : Array (Option Value)} {oc_l_level kV_l_level dc_l_level pm_l_level cd_l_level ct_l_level : Value} {a_l_day : Addr} {od_l_day an_l_day : Option Addr} {sl_l_day : Array (Option Value)} {oc_l_day kV_l_day dc_l_day pm_l_day cd_l_day ct_l_day : Value} {a_l_calls : Addr} {od_l_calls an_l_calls : Option Addr} {sl_l_calls : Array (Option Value)} {oc_l_calls kV_l_calls dc_l_calls pm_l_calls cd_l_calls ct_l_calls : Value} {a_l_told : Addr} {od_l_told an_l_told : Option Addr} {sl_l_told : Array (Option Value)} {oc_l_told kV_l_told dc_l_told pm_l_told cd_l_told ct_l_told : Value} {a_l_alike : Addr} {od_l_alike an_l_alike : Option Addr} {sl_l_alike : Array (Option Value)} {oc_l_alike kV_l_alike dc_l_alike pm_l_alike cd_l_alike ct_l_alike : Value} {a_l_build : Addr} {od_l_build an_l_build : Option Addr} {sl_l_build : Array (Option Value)} {oc_l_build kV_l_build dc_l_build pm_l_build cd_l_build ct_l_build : Value} {a_l_call_worth : Addr} {od_l_call_worth an_l_call_worth : Option Addr} {sl_l_call_worth : Array (Option Value)} {oc_l_call_worth kV_l_call_worth dc_l_call_worth pm_l_call_worth cd_l_call_worth ct_l_call_worth : Value} {a_l_worth : Addr} {od_l_worth an_l_worth : Option Addr} {sl_l_worth : Array (Option Value)} {oc_l_worth kV_l_worth dc_l_worth pm_l_worth cd_l_worth ct_l_worth : Value} {a_l_beside : Addr} {od_l_beside an_l_beside : Option Addr} {sl_l_beside : Array (Option Value)} {oc_l_beside kV_l_beside dc_l_beside pm_l_beside cd_l_beside ct_l_beside : Value} {a_l_asked : Addr} {od_l_asked an_l_asked : Option Addr} {sl_l_asked : Array (Option Value)} {oc_l_asked kV_l_asked dc_l_asked pm_l_asked cd_l_asked ct_l_asked : Value} {a_law : Addr} {od_law an_law : Option Addr} {sl_law : Array (Option Value)} {oc_law kV_law dc_law pm_law cd_law ct_law : Value} {k_SMALL_LETTERS : Tok} {k_LONGEST_NAME : Tok} {k_MOST_DAY : Tok} {k_MOST_WORTH : Tok} {k_MOST_TELLINGS : Tok} {k_LEAST_TERMS : Tok} {k_MOST_TERMS : Tok} {k_MOST_SIZE : Tok} {k_MOST_DEPTH : Tok} (X : K.In h) (G : h.Ns mainGlobals mg)
    (n_Called : PySem.W.nsIn K mainGlobals "Called" = some (some (.ref C_Called)))
    (pg_Called : PySem.W.plainGet K C_Called Str.empty = true)
    (hd_Called : PySem.W.hasDictIn K C_Called = true)
    (po_Called : PySem.W.plainOver K C_Called = true)
    (sa_Called : PySem.W.findIn K (.ref C_Called) "__setattr__" = some (some (.builtin "object.__setattr__")))
    (mk_Called : PySem.W.makesIn K C_Called = true)
    (kc_Called : PySem.W.keepIn K (.ref C_Called) = true)
    (no_Called_when : PySem.W.findIn K (.ref C_Called) "when" = some none)
    (no_Called_town : PySem.W.findIn K (.ref C_Called) "town" = some none)
    (no_Called_size : PySem.W.findIn K (.ref C_Called) "size" = some none)
    (no_Called_depth : PySem.W.findIn K (.ref C_Called) "depth" = some none)
    (n_Calls : PySem.W.nsIn K mainGlobals "Calls" = some (some (.ref C_Calls)))
    (pg_Calls : PySem.W.plainGet K C_Calls Str.empty = true)
    (hd_Calls : PySem.W.hasDictIn K C_Calls = true)
    (po_Calls : PySem.W.plainOver K C_Calls = true)
    (sa_Calls : PySem.W.findIn K (.ref C_Calls) "__setattr__" = some (some (.builtin "object.__setattr__")))
    (mk_Calls : PySem.W.makesIn K C_Calls = true)
    (kc_Calls : PySem.W.keepIn K (.ref C_Calls) = true)
    (no_Calls_rows : PySem.W.findIn K (.ref C_Calls) "rows" = some none)
    (n_Greatest : PySem.W.nsIn K mainGlobals "Greatest" = some (some (.ref C_Greatest)))
    (pg_Greatest : PySem.W.plainGet K C_Greatest Str.empty = true)
    (hd_Greatest : PySem.W.hasDictIn K C_Greatest = true)
    (po_Greatest : PySem.W.plainOver K C_Greatest = true)
    (sa_Greatest : PySem.W.findIn K (.ref C_Greatest) "__setattr__" = some (some (.builtin "object.__setattr__")))
    (mk_Greatest : PySem.W.makesIn K C_Greatest = true)
    (kc_Greatest : PySem.W.keepIn K (.ref C_Greatest) = true)
    (no_Greatest_terms : PySem.W.findIn K (.ref C_Greatest) "terms" = some none)
    (no_Greatest_size : PySem.W.findIn K (.ref C_Greatest) "size" = some none)
    (no_Greatest_depth : PySem.W.findIn K (.ref C_Greatest) "depth" = some none)
    (n_Least : PySem.W.nsIn K mainGlobals "Least" = some (some (.ref C_Least)))
    (pg_Least : PySem.W.plainGet K C_Least Str.empty = true)
    (hd_Least : PySem.W.hasDictIn K C_Least = true)
    (po_Least : PySem.W.plainOver K C_Least = true)
    (sa_Least : PySem.W.findIn K (.ref C_Least) "__setattr__" = some (some (.builtin "object.__setattr__")))
    (mk_Least : PySem.W.makesIn K C_Least = true)
    (kc_Least : PySem.W.keepIn K (.ref C_Least) = true)
    (no_Least_terms : PySem.W.findIn K (.ref C_Least) "terms" = some none)
    (no_Least_size : PySem.W.findIn K (.ref C_Least) "size" = some none)
    (no_Least_depth : PySem.W.findIn K (.ref C_Least) "depth" = some none)
    (n_Level : PySem.W.nsIn K mainGlobals "Level" = some (some (.ref C_Level)))
    (pg_Level : PySem.W.plainGet K C_Level Str.empty = true)
    (hd_Level : PySem.W.hasDictIn K C_Level = true)
    (po_Level : PySem.W.plainOver K C_Level = true)
    (sa_Level : PySem.W.findIn K (.ref C_Level) "__setattr__" = some (some (.builtin "object.__setattr__")))
    (mk_Level : PySem.W.makesIn K C_Level = true)
    (kc_Level : PySem.W.keepIn K (.ref C_Level) = true)
    (no_Level_level : PySem.W.findIn K (.ref C_Level) "level" = some none)
    (no_Level_size : PySem.W.findIn K (.ref C_Level) "size" = some none)
    (no_Level_depth : PySem.W.findIn K (.ref C_Level) "depth" = some none)
    (n_is_made_of : PySem.W.nsIn K mainGlobals "is_made_of" = some (some (.ref a_is_made_of)))
    (l_is_made_of : K.lookup a_is_made_of = some ⟨oc_is_made_of, od_is_made_of, .func (PySem.W.fnOf "is_made_of" "is_made_of" (defArgs s_is_made_of) (defBody s_is_made_of) (defScope s_is_made_of) .none kV_is_made_of dc_is_made_of pm_is_made_of an_is_made_of cd_is_made_of ct_is_made_of), sl_is_made_of⟩)
    (c_is_made_of : PySem.W.codeIn K cd_is_made_of "is_made_of" = true)
    (k_is_made_of : PySem.W.keepIn K (.ref a_is_made_of) = true)
    (n_is_word : PySem.W.nsIn K mainGlobals "is_word" = some (some (.ref a_is_word)))
    (l_is_word : K.lookup a_is_word = some ⟨oc_is_word, od_is_word, .func (PySem.W.fnOf "is_word" "is_word" (defArgs s_is_word) (defBody s_is_word) (defScope s_is_word) .none kV_is_word dc_is_word pm_is_word an_is_word cd_is_word ct_is_word), sl_is_word⟩)
    (c_is_word : PySem.W.codeIn K cd_is_word "is_word" = true)
    (k_is_word : PySem.W.keepIn K (.ref a_is_word) = true)
    (n_is_name : PySem.W.nsIn K mainGlobals "is_name" = some (some (.ref a_is_name)))
    (l_is_name : K.lookup a_is_name = some ⟨oc_is_name, od_is_name, .func (PySem.W.fnOf "is_name" "is_name" (defArgs s_is_name) (defBody s_is_name) (defScope s_is_name) .none kV_is_name dc_is_name pm_is_name an_is_name cd_is_name ct_is_name), sl_is_name⟩)
    (c_is_name : PySem.W.codeIn K cd_is_name "is_name" = true)
    (k_is_name : PySem.W.keepIn K (.ref a_is_name) = true)
    (n_is_number : PySem.W.nsIn K mainGlobals "is_number" = some (some (.ref a_is_number)))
    (l_is_number : K.lookup a_is_number = some ⟨oc_is_number, od_is_number, .func (PySem.W.fnOf "is_number" "is_number" (defArgs s_is_number) (defBody s_is_number) (defScope s_is_number) .none kV_is_number dc_is_number pm_is_number an_is_number cd_is_number ct_is_number), sl_is_number⟩)
    (c_is_number : PySem.W.codeIn K cd_is_number "is_number" = true)
    (k_is_number : PySem.W.keepIn K (.ref a_is_number) = true)
    (n_is_within : PySem.W.nsIn K mainGlobals "is_within" = some (some (.ref a_is_within)))
    (l_is_within : K.lookup a_is_within = some ⟨oc_is_within, od_is_within, .func (PySem.W.fnOf "is_within" "is_within" (defArgs s_is_within) (defBody s_is_within) (defScope s_is_within) .none kV_is_within dc_is_within pm_is_within an_is_within cd_is_within ct_is_within), sl_is_within⟩)
    (c_is_within : PySem.W.codeIn K cd_is_within "is_within" = true)
    (k_is_within : PySem.W.keepIn K (.ref a_is_within) = true)
    (n_is_day : PySem.W.nsIn K mainGlobals "is_day" = some (some (.ref a_is_day)))
    (l_is_day : K.lookup a_is_day = some ⟨oc_is_day, od_is_day, .func (PySem.W.fnOf "is_day" "is_day" (defArgs s_is_day) (defBody s_is_day) (defScope s_is_day) .none kV_is_day dc_is_day pm_is_day an_is_day cd_is_day ct_is_day), sl_is_day⟩)
    (c_is_day : PySem.W.codeIn K cd_is_day "is_day" = true)
    (k_is_day : PySem.W.keepIn K (.ref a_is_day) = true)
    (n_is_worth : PySem.W.nsIn K mainGlobals "is_worth" = some (some (.ref a_is_worth)))
    (l_is_worth : K.lookup a_is_worth = some ⟨oc_is_worth, od_is_worth, .func (PySem.W.fnOf "is_worth" "is_worth" (defArgs s_is_worth) (defBody s_is_worth) (defScope s_is_worth) .none kV_is_worth dc_is_worth pm_is_worth an_is_worth cd_is_worth ct_is_worth), sl_is_worth⟩)
    (c_is_worth : PySem.W.codeIn K cd_is_worth "is_worth" = true)
    (k_is_worth : PySem.W.keepIn K (.ref a_is_worth) = true)
    (n_check_name : PySem.W.nsIn K mainGlobals "check_name" = some (some (.ref a_check_name)))
    (l_check_name : K.lookup a_check_name = some ⟨oc_check_name, od_check_name, .func (PySem.W.fnOf "check_name" "check_name" (defArgs s_check_name) (defBody s_check_name) (defScope s_check_name) .none kV_check_name dc_check_name pm_check_name an_check_name cd_check_name ct_check_name), sl_check_name⟩)
    (c_check_name : PySem.W.codeIn K cd_check_name "check_name" = true)
    (k_check_name : PySem.W.keepIn K (.ref a_check_name) = true)
    (n_check_day : PySem.W.nsIn K mainGlobals "check_day" = some (some (.ref a_check_day)))
    (l_check_day : K.lookup a_check_day = some ⟨oc_check_day, od_check_day, .func (PySem.W.fnOf "check_day" "check_day" (defArgs s_check_day) (defBody s_check_day) (defScope s_check_day) .none kV_check_day dc_check_day pm_check_day an_check_day cd_check_day ct_check_day), sl_check_day⟩)
    (c_check_day : PySem.W.codeIn K cd_check_day "check_day" = true)
    (k_check_day : PySem.W.keepIn K (.ref a_check_day) = true)
    (n_check_worth : PySem.W.nsIn K mainGlobals "check_worth" = some (some (.ref a_check_worth)))
    (l_check_worth : K.lookup a_check_worth = some ⟨oc_check_worth, od_check_worth, .func (PySem.W.fnOf "check_worth" "check_worth" (defArgs s_check_worth) (defBody s_check_worth) (defScope s_check_worth) .none kV_check_worth dc_check_worth pm_check_worth an_check_worth cd_check_worth ct_check_worth), sl_check_worth⟩)
    (c_check_worth : PySem.W.codeIn K cd_check_worth "check_worth" = true)
    (k_check_worth : PySem.W.keepIn K (.ref a_check_worth) = true)
    (n_Calls_init : PySem.W.findIn K (.ref C_Calls) "__init__" = some (some (.ref a_Calls_init)))
    (i_Calls_init : PySem.W.isFn K (.ref a_Calls_init) = true)
    (l_Calls_init : K.lookup a_Calls_init = some ⟨oc_Calls_init, od_Calls_init, .func (PySem.W.fnOf "__init__" "Calls.__init__" (defArgs s_Calls_init) (defBody s_Calls_init) (defScope s_Calls_init) .none kV_Calls_init dc_Calls_init pm_Calls_init an_Calls_init cd_Calls_init ct_Calls_init), sl_Calls_init⟩)
    (c_Calls_init : PySem.W.codeIn K cd_Calls_init "Calls.__init__" = true)
    (k_Calls_init : PySem.W.keepIn K (.ref a_Calls_init) = true)
    (n_Calls_tell : PySem.W.findIn K (.ref C_Calls) "tell" = some (some (.ref a_Calls_tell)))
    (i_Calls_tell : PySem.W.isFn K (.ref a_Calls_tell) = true)
    (l_Calls_tell : K.lookup a_Calls_tell = some ⟨oc_Calls_tell, od_Calls_tell, .func (PySem.W.fnOf "tell" "Calls.tell" (defArgs s_Calls_tell) (defBody s_Calls_tell) (defScope s_Calls_tell) .none kV_Calls_tell dc_Calls_tell pm_Calls_tell an_Calls_tell cd_Calls_tell ct_Calls_tell), sl_Calls_tell⟩)
    (c_Calls_tell : PySem.W.codeIn K cd_Calls_tell "Calls.tell" = true)
    (k_Calls_tell : PySem.W.keepIn K (.ref a_Calls_tell) = true)
    (n_Calls_worth : PySem.W.findIn K (.ref C_Calls) "worth" = some (some (.ref a_Calls_worth)))
    (i_Calls_worth : PySem.W.isFn K (.ref a_Calls_worth) = true)
    (l_Calls_worth : K.lookup a_Calls_worth = some ⟨oc_Calls_worth, od_Calls_worth, .func (PySem.W.fnOf "worth" "Calls.worth" (defArgs s_Calls_worth) (defBody s_Calls_worth) (defScope s_Calls_worth) (.ref T_Calls_worth) kV_Calls_worth dc_Calls_worth pm_Calls_worth an_Calls_worth cd_Calls_worth ct_Calls_worth), sl_Calls_worth⟩)
    (lT_Calls_worth : K.lookup T_Calls_worth = some ⟨oT_Calls_worth, dT_Calls_worth, .seq ([Value.none] : List Value).toArray nT_Calls_worth, sT_Calls_worth⟩)
    (c_Calls_worth : PySem.W.codeIn K cd_Calls_worth "Calls.worth" = true)
    (k_Calls_worth : PySem.W.keepIn K (.ref a_Calls_worth) = true)
    (n_Calls_tellings : PySem.W.findIn K (.ref C_Calls) "tellings" = some (some (.ref a_Calls_tellings)))
    (i_Calls_tellings : PySem.W.isFn K (.ref a_Calls_tellings) = true)
    (l_Calls_tellings : K.lookup a_Calls_tellings = some ⟨oc_Calls_tellings, od_Calls_tellings, .func (PySem.W.fnOf "tellings" "Calls.tellings" (defArgs s_Calls_tellings) (defBody s_Calls_tellings) (defScope s_Calls_tellings) (.ref T_Calls_tellings) kV_Calls_tellings dc_Calls_tellings pm_Calls_tellings an_Calls_tellings cd_Calls_tellings ct_Calls_tellings), sl_Calls_tellings⟩)
    (lT_Calls_tellings : K.lookup T_Calls_tellings = some ⟨oT_Calls_tellings, dT_Calls_tellings, .seq ([Value.none] : List Value).toArray nT_Calls_tellings, sT_Calls_tellings⟩)
    (c_Calls_tellings : PySem.W.codeIn K cd_Calls_tellings "Calls.tellings" = true)
    (k_Calls_tellings : PySem.W.keepIn K (.ref a_Calls_tellings) = true)
    (n_Calls_worths_by_day : PySem.W.findIn K (.ref C_Calls) "worths_by_day" = some (some (.ref a_Calls_worths_by_day)))
    (i_Calls_worths_by_day : PySem.W.isFn K (.ref a_Calls_worths_by_day) = true)
    (l_Calls_worths_by_day : K.lookup a_Calls_worths_by_day = some ⟨oc_Calls_worths_by_day, od_Calls_worths_by_day, .func (PySem.W.fnOf "worths_by_day" "Calls.worths_by_day" (defArgs s_Calls_worths_by_day) (defBody s_Calls_worths_by_day) (defScope s_Calls_worths_by_day) .none kV_Calls_worths_by_day dc_Calls_worths_by_day pm_Calls_worths_by_day an_Calls_worths_by_day cd_Calls_worths_by_day ct_Calls_worths_by_day), sl_Calls_worths_by_day⟩)
    (c_Calls_worths_by_day : PySem.W.codeIn K cd_Calls_worths_by_day "Calls.worths_by_day" = true)
    (k_Calls_worths_by_day : PySem.W.keepIn K (.ref a_Calls_worths_by_day) = true)
    (n_call_place : PySem.W.nsIn K mainGlobals "call_place" = some (some (.ref a_call_place)))
    (l_call_place : K.lookup a_call_place = some ⟨oc_call_place, od_call_place, .func (PySem.W.fnOf "call_place" "call_place" (defArgs s_call_place) (defBody s_call_place) (defScope s_call_place) .none kV_call_place dc_call_place pm_call_place an_call_place cd_call_place ct_call_place), sl_call_place⟩)
    (c_call_place : PySem.W.codeIn K cd_call_place "call_place" = true)
    (k_call_place : PySem.W.keepIn K (.ref a_call_place) = true)
    (n_joined_size : PySem.W.nsIn K mainGlobals "joined_size" = some (some (.ref a_joined_size)))
    (l_joined_size : K.lookup a_joined_size = some ⟨oc_joined_size, od_joined_size, .func (PySem.W.fnOf "joined_size" "joined_size" (defArgs s_joined_size) (defBody s_joined_size) (defScope s_joined_size) .none kV_joined_size dc_joined_size pm_joined_size an_joined_size cd_joined_size ct_joined_size), sl_joined_size⟩)
    (c_joined_size : PySem.W.codeIn K cd_joined_size "joined_size" = true)
    (k_joined_size : PySem.W.keepIn K (.ref a_joined_size) = true)
    (n_joined_depth : PySem.W.nsIn K mainGlobals "joined_depth" = some (some (.ref a_joined_depth)))
    (l_joined_depth : K.lookup a_joined_depth = some ⟨oc_joined_depth, od_joined_depth, .func (PySem.W.fnOf "joined_depth" "joined_depth" (defArgs s_joined_depth) (defBody s_joined_depth) (defScope s_joined_depth) .none kV_joined_depth dc_joined_depth pm_joined_depth an_joined_depth cd_joined_depth ct_joined_depth), sl_joined_depth⟩)
    (c_joined_depth : PySem.W.codeIn K cd_joined_depth "joined_depth" = true)
    (k_joined_depth : PySem.W.keepIn K (.ref a_joined_depth) = true)
    (n_check_joined : PySem.W.nsIn K mainGlobals "check_joined" = some (some (.ref a_check_joined)))
    (l_check_joined : K.lookup a_check_joined = some ⟨oc_check_joined, od_check_joined, .func (PySem.W.fnOf "check_joined" "check_joined" (defArgs s_check_joined) (defBody s_check_joined) (defScope s_check_joined) .none kV_check_joined dc_check_joined pm_check_joined an_check_joined cd_check_joined ct_check_joined), sl_check_joined⟩)
    (c_check_joined : PySem.W.codeIn K cd_check_joined "check_joined" = true)
    (k_check_joined : PySem.W.keepIn K (.ref a_check_joined) = true)
    (n_joined_told : PySem.W.nsIn K mainGlobals "joined_told" = some (some (.ref a_joined_told)))
    (l_joined_told : K.lookup a_joined_told = some ⟨oc_joined_told, od_joined_told, .func (PySem.W.fnOf "joined_told" "joined_told" (defArgs s_joined_told) (defBody s_joined_told) (defScope s_joined_told) .none kV_joined_told dc_joined_told pm_joined_told an_joined_told cd_joined_told ct_joined_told), sl_joined_told⟩)
    (c_joined_told : PySem.W.codeIn K cd_joined_told "joined_told" = true)
    (k_joined_told : PySem.W.keepIn K (.ref a_joined_told) = true)
    (n_Level_init : PySem.W.findIn K (.ref C_Level) "__init__" = some (some (.ref a_Level_init)))
    (i_Level_init : PySem.W.isFn K (.ref a_Level_init) = true)
    (l_Level_init : K.lookup a_Level_init = some ⟨oc_Level_init, od_Level_init, .func (PySem.W.fnOf "__init__" "Level.__init__" (defArgs s_Level_init) (defBody s_Level_init) (defScope s_Level_init) .none kV_Level_init dc_Level_init pm_Level_init an_Level_init cd_Level_init ct_Level_init), sl_Level_init⟩)
    (c_Level_init : PySem.W.codeIn K cd_Level_init "Level.__init__" = true)
    (k_Level_init : PySem.W.keepIn K (.ref a_Level_init) = true)
    (n_Level_worth : PySem.W.findIn K (.ref C_Level) "worth" = some (some (.ref a_Level_worth)))
    (i_Level_worth : PySem.W.isFn K (.ref a_Level_worth) = true)
    (l_Level_worth : K.lookup a_Level_worth = some ⟨oc_Level_worth, od_Level_worth, .func (PySem.W.fnOf "worth" "Level.worth" (defArgs s_Level_worth) (defBody s_Level_worth) (defScope s_Level_worth) .none kV_Level_worth dc_Level_worth pm_Level_worth an_Level_worth cd_Level_worth ct_Level_worth), sl_Level_worth⟩)
    (c_Level_worth : PySem.W.codeIn K cd_Level_worth "Level.worth" = true)
    (k_Level_worth : PySem.W.keepIn K (.ref a_Level_worth) = true)
    (n_Level_told : PySem.W.findIn K (.ref C_Level) "told" = some (some (.ref a_Level_told)))
    (i_Level_told : PySem.W.isFn K (.ref a_Level_told) = true)
    (l_Level_told : K.lookup a_Level_told = some ⟨oc_Level_told, od_Level_told, .func (PySem.W.fnOf "told" "Level.told" (defArgs s_Level_told) (defBody s_Level_told) (defScope s_Level_told) .none kV_Level_told dc_Level_told pm_Level_told an_Level_told cd_Level_told ct_Level_told), sl_Level_told⟩)
    (c_Level_told : PySem.W.codeIn K cd_Level_told "Level.told" = true)
    (k_Level_told : PySem.W.keepIn K (.ref a_Level_told) = true)
    (n_Called_init : PySem.W.findIn K (.ref C_Called) "__init__" = some (some (.ref a_Called_init)))
    (i_Called_init : PySem.W.isFn K (.ref a_Called_init) = true)
    (l_Called_init : K.lookup a_Called_init = some ⟨oc_Called_init, od_Called_init, .func (PySem.W.fnOf "__init__" "Called.__init__" (defArgs s_Called_init) (defBody s_Called_init) (defScope s_Called_init) (.ref T_Called_init) kV_Called_init dc_Called_init pm_Called_init an_Called_init cd_Called_init ct_Called_init), sl_Called_init⟩)
    (lT_Called_init : K.lookup T_Called_init = some ⟨oT_Called_init, dT_Called_init, .seq ([Value.none] : List Value).toArray nT_Called_init, sT_Called_init⟩)
    (c_Called_init : PySem.W.codeIn K cd_Called_init "Called.__init__" = true)
    (k_Called_init : PySem.W.keepIn K (.ref a_Called_init) = true)
    (n_Called_worth : PySem.W.findIn K (.ref C_Called) "worth" = some (some (.ref a_Called_worth)))
    (i_Called_worth : PySem.W.isFn K (.ref a_Called_worth) = true)
    (l_Called_worth : K.lookup a_Called_worth = some ⟨oc_Called_worth, od_Called_worth, .func (PySem.W.fnOf "worth" "Called.worth" (defArgs s_Called_worth) (defBody s_Called_worth) (defScope s_Called_worth) .none kV_Called_worth dc_Called_worth pm_Called_worth an_Called_worth cd_Called_worth ct_Called_worth), sl_Called_worth⟩)
    (c_Called_worth : PySem.W.codeIn K cd_Called_worth "Called.worth" = true)
    (k_Called_worth : PySem.W.keepIn K (.ref a_Called_worth) = true)
    (n_Called_told : PySem.W.findIn K (.ref C_Called) "told" = some (some (.ref a_Called_told)))
    (i_Called_told : PySem.W.isFn K (.ref a_Called_told) = true)
    (l_Called_told : K.lookup a_Called_told = some ⟨oc_Called_told, od_Called_told, .func (PySem.W.fnOf "told" "Called.told" (defArgs s_Called_told) (defBody s_Called_told) (defScope s_Called_told) .none kV_Called_told dc_Called_told pm_Called_told an_Called_told cd_Called_told ct_Called_told), sl_Called_told⟩)
    (c_Called_told : PySem.W.codeIn K cd_Called_told "Called.told" = true)
    (k_Called_told : PySem.W.keepIn K (.ref a_Called_told) = true)
    (n_Least_init : PySem.W.findIn K (.ref C_Least) "__init__" = some (some (.ref a_Least_init)))
    (i_Least_init : PySem.W.isFn K (.ref a_Least_init) = true)
    (l_Least_init : K.lookup a_Least_init = some ⟨oc_Least_init, od_Least_init, .func (PySem.W.fnOf "__init__" "Least.__init__" (defArgs s_Least_init) (defBody s_Least_init) (defScope s_Least_init) .none kV_Least_init dc_Least_init pm_Least_init an_Least_init cd_Least_init ct_Least_init), sl_Least_init⟩)
    (c_Least_init : PySem.W.codeIn K cd_Least_init "Least.__init__" = true)
    (k_Least_init : PySem.W.keepIn K (.ref a_Least_init) = true)
    (n_Least_worth : PySem.W.findIn K (.ref C_Least) "worth" = some (some (.ref a_Least_worth)))
    (i_Least_worth : PySem.W.isFn K (.ref a_Least_worth) = true)
    (l_Least_worth : K.lookup a_Least_worth = some ⟨oc_Least_worth, od_Least_worth, .func (PySem.W.fnOf "worth" "Least.worth" (defArgs s_Least_worth) (defBody s_Least_worth) (defScope s_Least_worth) .none kV_Least_worth dc_Least_worth pm_Least_worth an_Least_worth cd_Least_worth ct_Least_worth), sl_Least_worth⟩)
    (c_Least_worth : PySem.W.codeIn K cd_Least_worth "Least.worth" = true)
    (k_Least_worth : PySem.W.keepIn K (.ref a_Least_worth) = true)
    (n_Least_told : PySem.W.findIn K (.ref C_Least) "told" = some (some (.ref a_Least_told)))
    (i_Least_told : PySem.W.isFn K (.ref a_Least_told) = true)
    (l_Least_told : K.lookup a_Least_told = some ⟨oc_Least_told, od_Least_told, .func (PySem.W.fnOf "told" "Least.told" (defArgs s_Least_told) (defBody s_Least_told) (defScope s_Least_told) .none kV_Least_told dc_Least_told pm_Least_told an_Least_told cd_Least_told ct_Least_told), sl_Least_told⟩)
    (c_Least_told : PySem.W.codeIn K cd_Least_told "Least.told" = true)
    (k_Least_told : PySem.W.keepIn K (.ref a_Least_told) = true)
    (n_Greatest_init : PySem.W.findIn K (.ref C_Greatest) "__init__" = some (some (.ref a_Greatest_init)))
    (i_Greatest_init : PySem.W.isFn K (.ref a_Greatest_init) = true)
    (l_Greatest_init : K.lookup a_Greatest_init = some ⟨oc_Greatest_init, od_Greatest_init, .func (PySem.W.fnOf "__init__" "Greatest.__init__" (defArgs s_Greatest_init) (defBody s_Greatest_init) (defScope s_Greatest_init) .none kV_Greatest_init dc_Greatest_init pm_Greatest_init an_Greatest_init cd_Greatest_init ct_Greatest_init), sl_Greatest_init⟩)
    (c_Greatest_init : PySem.W.codeIn K cd_Greatest_init "Greatest.__init__" = true)
    (k_Greatest_init : PySem.W.keepIn K (.ref a_Greatest_init) = true)
    (n_Greatest_worth : PySem.W.findIn K (.ref C_Greatest) "worth" = some (some (.ref a_Greatest_worth)))
    (i_Greatest_worth : PySem.W.isFn K (.ref a_Greatest_worth) = true)
    (l_Greatest_worth : K.lookup a_Greatest_worth = some ⟨oc_Greatest_worth, od_Greatest_worth, .func (PySem.W.fnOf "worth" "Greatest.worth" (defArgs s_Greatest_worth) (defBody s_Greatest_worth) (defScope s_Greatest_worth) .none kV_Greatest_worth dc_Greatest_worth pm_Greatest_worth an_Greatest_worth cd_Greatest_worth ct_Greatest_worth), sl_Greatest_worth⟩)
    (c_Greatest_worth : PySem.W.codeIn K cd_Greatest_worth "Greatest.worth" = true)
    (k_Greatest_worth : PySem.W.keepIn K (.ref a_Greatest_worth) = true)
    (n_Greatest_told : PySem.W.findIn K (.ref C_Greatest) "told" = some (some (.ref a_Greatest_told)))
    (i_Greatest_told : PySem.W.isFn K (.ref a_Greatest_told) = true)
    (l_Greatest_told : K.lookup a_Greatest_told = some ⟨oc_Greatest_told, od_Greatest_told, .func (PySem.W.fnOf "told" "Greatest.told" (defArgs s_Greatest_told) (defBody s_Greatest_told) (defScope s_Greatest_told) .none kV_Greatest_told dc_Greatest_told pm_Greatest_told an_Greatest_told cd_Greatest_told ct_Greatest_told), sl_Greatest_told⟩)
    (c_Greatest_told : PySem.W.codeIn K cd_Greatest_told "Greatest.told" = true)
    (k_Greatest_told : PySem.W.keepIn K (.ref a_Greatest_told) = true)
    (n_l_mixed : PySem.W.nsIn K mainGlobals "_law_mixed" = some (some (.ref a_l_mixed)))
    (l_l_mixed : K.lookup a_l_mixed = some ⟨oc_l_mixed, od_l_mixed, .func (PySem.W.fnOf "_law_mixed" "_law_mixed" (defArgs s_l_mixed) (defBody s_l_mixed) (defScope s_l_mixed) .none kV_l_mixed dc_l_mixed pm_l_mixed an_l_mixed cd_l_mixed ct_l_mixed), sl_l_mixed⟩)
    (c_l_mixed : PySem.W.codeIn K cd_l_mixed "_law_mixed" = true)
    (k_l_mixed : PySem.W.keepIn K (.ref a_l_mixed) = true)
    (n_l_next : PySem.W.nsIn K mainGlobals "_law_next" = some (some (.ref a_l_next)))
    (l_l_next : K.lookup a_l_next = some ⟨oc_l_next, od_l_next, .func (PySem.W.fnOf "_law_next" "_law_next" (defArgs s_l_next) (defBody s_l_next) (defScope s_l_next) .none kV_l_next dc_l_next pm_l_next an_l_next cd_l_next ct_l_next), sl_l_next⟩)
    (c_l_next : PySem.W.codeIn K cd_l_next "_law_next" = true)
    (k_l_next : PySem.W.keepIn K (.ref a_l_next) = true)
    (n_l_word : PySem.W.nsIn K mainGlobals "_law_word" = some (some (.ref a_l_word)))
    (l_l_word : K.lookup a_l_word = some ⟨oc_l_word, od_l_word, .func (PySem.W.fnOf "_law_word" "_law_word" (defArgs s_l_word) (defBody s_l_word) (defScope s_l_word) .none kV_l_word dc_l_word pm_l_word an_l_word cd_l_word ct_l_word), sl_l_word⟩)
    (c_l_word : PySem.W.codeIn K cd_l_word "_law_word" = true)
    (k_l_word : PySem.W.keepIn K (.ref a_l_word) = true)
    (n_l_words : PySem.W.nsIn K mainGlobals "_law_words" = some (some (.ref a_l_words)))
    (l_l_words : K.lookup a_l_words = some ⟨oc_l_words, od_l_words, .func (PySem.W.fnOf "_law_words" "_law_words" (defArgs s_l_words) (defBody s_l_words) (defScope s_l_words) .none kV_l_words dc_l_words pm_l_words an_l_words cd_l_words ct_l_words), sl_l_words⟩)
    (c_l_words : PySem.W.codeIn K cd_l_words "_law_words" = true)
    (k_l_words : PySem.W.keepIn K (.ref a_l_words) = true)
    (n_l_level : PySem.W.nsIn K mainGlobals "_law_level" = some (some (.ref a_l_level)))
    (l_l_level : K.lookup a_l_level = some ⟨oc_l_level, od_l_level, .func (PySem.W.fnOf "_law_level" "_law_level" (defArgs s_l_level) (defBody s_l_level) (defScope s_l_level) .none kV_l_level dc_l_level pm_l_level an_l_level cd_l_level ct_l_level), sl_l_level⟩)
    (c_l_level : PySem.W.codeIn K cd_l_level "_law_level" = true)
    (k_l_level : PySem.W.keepIn K (.ref a_l_level) = true)
    (n_l_day : PySem.W.nsIn K mainGlobals "_law_day" = some (some (.ref a_l_day)))
    (l_l_day : K.lookup a_l_day = some ⟨oc_l_day, od_l_day, .func (PySem.W.fnOf "_law_day" "_law_day" (defArgs s_l_day) (defBody s_l_day) (defScope s_l_day) .none kV_l_day dc_l_day pm_l_day an_l_day cd_l_day ct_l_day), sl_l_day⟩)
    (c_l_day : PySem.W.codeIn K cd_l_day "_law_day" = true)
    (k_l_day : PySem.W.keepIn K (.ref a_l_day) = true)
    (n_l_calls : PySem.W.nsIn K mainGlobals "_law_calls" = some (some (.ref a_l_calls)))
    (l_l_calls : K.lookup a_l_calls = some ⟨oc_l_calls, od_l_calls, .func (PySem.W.fnOf "_law_calls" "_law_calls" (defArgs s_l_calls) (defBody s_l_calls) (defScope s_l_calls) .none kV_l_calls dc_l_calls pm_l_calls an_l_calls cd_l_calls ct_l_calls), sl_l_calls⟩)
    (c_l_calls : PySem.W.codeIn K cd_l_calls "_law_calls" = true)
    (k_l_calls : PySem.W.keepIn K (.ref a_l_calls) = true)
    (n_l_told : PySem.W.nsIn K mainGlobals "_law_told" = some (some (.ref a_l_told)))
    (l_l_told : K.lookup a_l_told = some ⟨oc_l_told, od_l_told, .func (PySem.W.fnOf "_law_told" "_law_told" (defArgs s_l_told) (defBody s_l_told) (defScope s_l_told) .none kV_l_told dc_l_told pm_l_told an_l_told cd_l_told ct_l_told), sl_l_told⟩)
    (c_l_told : PySem.W.codeIn K cd_l_told "_law_told" = true)
    (k_l_told : PySem.W.keepIn K (.ref a_l_told) = true)
    (n_l_alike : PySem.W.nsIn K mainGlobals "_law_alike" = some (some (.ref a_l_alike)))
    (l_l_alike : K.lookup a_l_alike = some ⟨oc_l_alike, od_l_alike, .func (PySem.W.fnOf "_law_alike" "_law_alike" (defArgs s_l_alike) (defBody s_l_alike) (defScope s_l_alike) .none kV_l_alike dc_l_alike pm_l_alike an_l_alike cd_l_alike ct_l_alike), sl_l_alike⟩)
    (c_l_alike : PySem.W.codeIn K cd_l_alike "_law_alike" = true)
    (k_l_alike : PySem.W.keepIn K (.ref a_l_alike) = true)
    (n_l_build : PySem.W.nsIn K mainGlobals "_law_build" = some (some (.ref a_l_build)))
    (l_l_build : K.lookup a_l_build = some ⟨oc_l_build, od_l_build, .func (PySem.W.fnOf "_law_build" "_law_build" (defArgs s_l_build) (defBody s_l_build) (defScope s_l_build) .none kV_l_build dc_l_build pm_l_build an_l_build cd_l_build ct_l_build), sl_l_build⟩)
    (c_l_build : PySem.W.codeIn K cd_l_build "_law_build" = true)
    (k_l_build : PySem.W.keepIn K (.ref a_l_build) = true)
    (n_l_call_worth : PySem.W.nsIn K mainGlobals "_law_call_worth" = some (some (.ref a_l_call_worth)))
    (l_l_call_worth : K.lookup a_l_call_worth = some ⟨oc_l_call_worth, od_l_call_worth, .func (PySem.W.fnOf "_law_call_worth" "_law_call_worth" (defArgs s_l_call_worth) (defBody s_l_call_worth) (defScope s_l_call_worth) .none kV_l_call_worth dc_l_call_worth pm_l_call_worth an_l_call_worth cd_l_call_worth ct_l_call_worth), sl_l_call_worth⟩)
    (c_l_call_worth : PySem.W.codeIn K cd_l_call_worth "_law_call_worth" = true)
    (k_l_call_worth : PySem.W.keepIn K (.ref a_l_call_worth) = true)
    (n_l_worth : PySem.W.nsIn K mainGlobals "_law_worth" = some (some (.ref a_l_worth)))
    (l_l_worth : K.lookup a_l_worth = some ⟨oc_l_worth, od_l_worth, .func (PySem.W.fnOf "_law_worth" "_law_worth" (defArgs s_l_worth) (defBody s_l_worth) (defScope s_l_worth) .none kV_l_worth dc_l_worth pm_l_worth an_l_worth cd_l_worth ct_l_worth), sl_l_worth⟩)
    (c_l_worth : PySem.W.codeIn K cd_l_worth "_law_worth" = true)
    (k_l_worth : PySem.W.keepIn K (.ref a_l_worth) = true)
    (n_l_beside : PySem.W.nsIn K mainGlobals "_law_beside" = some (some (.ref a_l_beside)))
    (l_l_beside : K.lookup a_l_beside = some ⟨oc_l_beside, od_l_beside, .func (PySem.W.fnOf "_law_beside" "_law_beside" (defArgs s_l_beside) (defBody s_l_beside) (defScope s_l_beside) .none kV_l_beside dc_l_beside pm_l_beside an_l_beside cd_l_beside ct_l_beside), sl_l_beside⟩)
    (c_l_beside : PySem.W.codeIn K cd_l_beside "_law_beside" = true)
    (k_l_beside : PySem.W.keepIn K (.ref a_l_beside) = true)
    (n_l_asked : PySem.W.nsIn K mainGlobals "_law_asked" = some (some (.ref a_l_asked)))
    (l_l_asked : K.lookup a_l_asked = some ⟨oc_l_asked, od_l_asked, .func (PySem.W.fnOf "_law_asked" "_law_asked" (defArgs s_l_asked) (defBody s_l_asked) (defScope s_l_asked) .none kV_l_asked dc_l_asked pm_l_asked an_l_asked cd_l_asked ct_l_asked), sl_l_asked⟩)
    (c_l_asked : PySem.W.codeIn K cd_l_asked "_law_asked" = true)
    (k_l_asked : PySem.W.keepIn K (.ref a_l_asked) = true)
    (n_law : PySem.W.nsIn K mainGlobals "law" = some (some (.ref a_law)))
    (l_law : K.lookup a_law = some ⟨oc_law, od_law, .func (PySem.W.fnOf "law" "law" (defArgs s_law) (defBody s_law) (defScope s_law) .none kV_law dc_law pm_law an_law cd_law ct_law), sl_law⟩)
    (c_law : PySem.W.codeIn K cd_law "law" = true)
    (k_law : PySem.W.keepIn K (.ref a_law) = true)
    (n_SMALL_LETTERS : PySem.W.nsIn K mainGlobals "SMALL_LETTERS" = some (some (Value.str "abcdefghijklmnopqrstuvwxyz" k_SMALL_LETTERS)))
    (n_LONGEST_NAME : PySem.W.nsIn K mainGlobals "LONGEST_NAME" = some (some (Value.int 8 k_LONGEST_NAME)))
    (n_MOST_DAY : PySem.W.nsIn K mainGlobals "MOST_DAY" = some (some (Value.int 9999 k_MOST_DAY)))
    (n_MOST_WORTH : PySem.W.nsIn K mainGlobals "MOST_WORTH" = some (some (Value.int 1000000 k_MOST_WORTH)))
    (n_MOST_TELLINGS : PySem.W.nsIn K mainGlobals "MOST_TELLINGS" = some (some (Value.int 300 k_MOST_TELLINGS)))
    (n_LEAST_TERMS : PySem.W.nsIn K mainGlobals "LEAST_TERMS" = some (some (Value.int 2 k_LEAST_TERMS)))
    (n_MOST_TERMS : PySem.W.nsIn K mainGlobals "MOST_TERMS" = some (some (Value.int 8 k_MOST_TERMS)))
    (n_MOST_SIZE : PySem.W.nsIn K mainGlobals "MOST_SIZE" = some (some (Value.int 60 k_MOST_SIZE)))
    (n_MOST_DEPTH : PySem.W.nsIn K mainGlobals "MOST_DEPTH" = some (some (Value.int 8 k_MOST_DEPTH)))
    (z_len : PySem.W.nsIn K mainGlobals "len" = some none)
    (z_range : PySem.W.nsIn K mainGlobals "range" = some none)
    (z_max : PySem.W.nsIn K mainGlobals "max" = some none)
    (z_min : PySem.W.nsIn K mainGlobals "min" = some none)
    (z_isinstance : PySem.W.nsIn K mainGlobals "isinstance" = some none)
    (z_all : PySem.W.nsIn K mainGlobals "all" = some none)
    (z_sum : PySem.W.nsIn K mainGlobals "sum" = some none)
    (z_str : PySem.W.nsIn K mainGlobals "str" = some none)
    (z_bool : PySem.W.nsIn K mainGlobals "bool" = some none)
    (z_int : PySem.W.nsIn K mainGlobals "int" = some none)
    (z_list : PySem.W.nsIn K mainGlobals "list" = some none)
    (z_tuple : PySem.W.nsIn K mainGlobals "tuple" = some none)
    (z_zip : PySem.W.nsIn K mainGlobals "zip" = some none) : ∃ t : Ad, Env K mg t := by
  have F_is_made_of := fun_mk (st := s_is_made_of) l_is_made_of c_is_made_of k_is_made_of
  have B_is_made_of := F_is_made_of.binds (ps := ["text", "signs"]) fun _ _ _ _ _ _ us hl => match us, hl with | [_, _], _ => rfl
  have F_is_word := fun_mk (st := s_is_word) l_is_word c_is_word k_is_word
  have B_is_word := F_is_word.binds (ps := ["text"]) fun _ _ _ _ _ _ us hl => match us, hl with | [_], _ => rfl
  have F_is_name := fun_mk (st := s_is_name) l_is_name c_is_name k_is_name
  have B_is_name := F_is_name.binds (ps := ["text"]) fun _ _ _ _ _ _ us hl => match us, hl with | [_], _ => rfl
  have F_is_number := fun_mk (st := s_is_number) l_is_number c_is_number k_is_number
  have B_is_number := F_is_number.binds (ps := ["number"]) fun _ _ _ _ _ _ us hl => match us, hl with | [_], _ => rfl
  have F_is_within := fun_mk (st := s_is_within) l_is_within c_is_within k_is_within
  have B_is_within := F_is_within.binds (ps := ["number", "least", "most"]) fun _ _ _ _ _ _ us hl => match us, hl with | [_, _, _], _ => rfl
  have F_is_day := fun_mk (st := s_is_day) l_is_day c_is_day k_is_day
  have B_is_day := F_is_day.binds (ps := ["number"]) fun _ _ _ _ _ _ us hl => match us, hl with | [_], _ => rfl
  have F_is_worth := fun_mk (st := s_is_worth) l_is_worth c_is_worth k_is_worth
  have B_is_worth := F_is_worth.binds (ps := ["number"]) fun _ _ _ _ _ _ us hl => match us, hl with | [_], _ => rfl
  have F_check_name := fun_mk (st := s_check_name) l_check_name c_check_name k_check_name
  have B_check_name := F_check_name.binds (ps := ["text"]) fun _ _ _ _ _ _ us hl => match us, hl with | [_], _ => rfl
  have F_check_day := fun_mk (st := s_check_day) l_check_day c_check_day k_check_day
  have B_check_day := F_check_day.binds (ps := ["number"]) fun _ _ _ _ _ _ us hl => match us, hl with | [_], _ => rfl
  have F_check_worth := fun_mk (st := s_check_worth) l_check_worth c_check_worth k_check_worth
  have B_check_worth := F_check_worth.binds (ps := ["number"]) fun _ _ _ _ _ _ us hl => match us, hl with | [_], _ => rfl
  have F_Calls_init := fun_mk (st := s_Calls_init) l_Calls_init c_Calls_init k_Calls_init
  have B_Calls_init := F_Calls_init.binds (ps := ["self"]) fun _ _ _ _ _ _ us hl => match us, hl with | [_], _ => rfl
  have F_Calls_tell := fun_mk (st := s_Calls_tell) l_Calls_tell c_Calls_tell k_Calls_tell
  have B_Calls_tell := F_Calls_tell.binds (ps := ["self", "town", "kind", "day", "worth"]) fun _ _ _ _ _ _ us hl => match us, hl with | [_, _, _, _, _], _ => rfl
  have F_Calls_worth := funD_mk (st := s_Calls_worth) (ds := [Value.none]) l_Calls_worth c_Calls_worth k_Calls_worth lT_Calls_worth
  have B_Calls_worth := F_Calls_worth.binds (ps := ["self", "town", "kind", "day", "known"]) fun _ _ _ _ _ _ _ us hl => match us, hl with | [_, _, _, _, _], _ => ⟨_, rfl, rfl⟩
  have BD_Calls_worth := F_Calls_worth.bindsD (ps := ["self", "town", "kind", "day", "known"]) (n := 4) rfl fun _ _ _ _ _ _ _ us hl => match us, hl with | [_, _, _, _], _ => ⟨_, rfl, rfl⟩
  have F_Calls_tellings := funD_mk (st := s_Calls_tellings) (ds := [Value.none]) l_Calls_tellings c_Calls_tellings k_Calls_tellings lT_Calls_tellings
  have B_Calls_tellings := F_Calls_tellings.binds (ps := ["self", "known"]) fun _ _ _ _ _ _ _ us hl => match us, hl with | [_, _], _ => ⟨_, rfl, rfl⟩
  have BD_Calls_tellings := F_Calls_tellings.bindsD (ps := ["self", "known"]) (n := 1) rfl fun _ _ _ _ _ _ _ us hl => match us, hl with | [_], _ => ⟨_, rfl, rfl⟩
  have F_Calls_worths_by_day := fun_mk (st := s_Calls_worths_by_day) l_Calls_worths_by_day c_Calls_worths_by_day k_Calls_worths_by_day
  have B_Calls_worths_by_day := F_Calls_worths_by_day.binds (ps := ["self", "town", "kind", "known"]) fun _ _ _ _ _ _ us hl => match us, hl with | [_, _, _, _], _ => rfl
  have F_call_place := fun_mk (st := s_call_place) l_call_place c_call_place k_call_place
  have B_call_place := F_call_place.binds (ps := ["when", "town", "case"]) fun _ _ _ _ _ _ us hl => match us, hl with | [_, _, _], _ => rfl
  have F_joined_size := fun_mk (st := s_joined_size) l_joined_size c_joined_size k_joined_size
  have B_joined_size := F_joined_size.binds (ps := ["terms"]) fun _ _ _ _ _ _ us hl => match us, hl with | [_], _ => rfl
  have F_joined_depth := fun_mk (st := s_joined_depth) l_joined_depth c_joined_depth k_joined_depth
  have B_joined_depth := F_joined_depth.binds (ps := ["terms"]) fun _ _ _ _ _ _ us hl => match us, hl with | [_], _ => rfl
  have F_check_joined := fun_mk (st := s_check_joined) l_check_joined c_check_joined k_check_joined
  have B_check_joined := F_check_joined.binds (ps := ["terms"]) fun _ _ _ _ _ _ us hl => match us, hl with | [_], _ => rfl
  have F_joined_told := fun_mk (st := s_joined_told) l_joined_told c_joined_told k_joined_told
  have B_joined_told := F_joined_told.binds (ps := ["word", "terms"]) fun _ _ _ _ _ _ us hl => match us, hl with | [_, _], _ => rfl
  have F_Level_init := fun_mk (st := s_Level_init) l_Level_init c_Level_init k_Level_init
  have B_Level_init := F_Level_init.binds (ps := ["self", "level"]) fun _ _ _ _ _ _ us hl => match us, hl with | [_, _], _ => rfl
  have F_Level_worth := fun_mk (st := s_Level_worth) l_Level_worth c_Level_worth k_Level_worth
  have B_Level_worth := F_Level_worth.binds (ps := ["self", "calls", "kind", "case"]) fun _ _ _ _ _ _ us hl => match us, hl with | [_, _, _, _], _ => rfl
  have F_Level_told := fun_mk (st := s_Level_told) l_Level_told c_Level_told k_Level_told
  have B_Level_told := F_Level_told.binds (ps := ["self"]) fun _ _ _ _ _ _ us hl => match us, hl with | [_], _ => rfl
  have F_Called_init := funD_mk (st := s_Called_init) (ds := [Value.none]) l_Called_init c_Called_init k_Called_init lT_Called_init
  have B_Called_init := F_Called_init.binds (ps := ["self", "when", "town"]) fun _ _ _ _ _ _ _ us hl => match us, hl with | [_, _, _], _ => ⟨_, rfl, rfl⟩
  have BD_Called_init := F_Called_init.bindsD (ps := ["self", "when", "town"]) (n := 2) rfl fun _ _ _ _ _ _ _ us hl => match us, hl with | [_, _], _ => ⟨_, rfl, rfl⟩
  have F_Called_worth := fun_mk (st := s_Called_worth) l_Called_worth c_Called_worth k_Called_worth
  have B_Called_worth := F_Called_worth.binds (ps := ["self", "calls", "kind", "case"]) fun _ _ _ _ _ _ us hl => match us, hl with | [_, _, _, _], _ => rfl
  have F_Called_told := fun_mk (st := s_Called_told) l_Called_told c_Called_told k_Called_told
  have B_Called_told := F_Called_told.binds (ps := ["self"]) fun _ _ _ _ _ _ us hl => match us, hl with | [_], _ => rfl
  have F_Least_init := fun_mk (st := s_Least_init) l_Least_init c_Least_init k_Least_init
  have B_Least_init := F_Least_init.binds (ps := ["self", "terms"]) fun _ _ _ _ _ _ us hl => match us, hl with | [_, _], _ => rfl
  have F_Least_worth := fun_mk (st := s_Least_worth) l_Least_worth c_Least_worth k_Least_worth
  have B_Least_worth := F_Least_worth.binds (ps := ["self", "calls", "kind", "case"]) fun _ _ _ _ _ _ us hl => match us, hl with | [_, _, _, _], _ => rfl
  have F_Least_told := fun_mk (st := s_Least_told) l_Least_told c_Least_told k_Least_told
  have B_Least_told := F_Least_told.binds (ps := ["self"]) fun _ _ _ _ _ _ us hl => match us, hl with | [_], _ => rfl
  have F_Greatest_init := fun_mk (st := s_Greatest_init) l_Greatest_init c_Greatest_init k_Greatest_init
  have B_Greatest_init := F_Greatest_init.binds (ps := ["self", "terms"]) fun _ _ _ _ _ _ us hl => match us, hl with | [_, _], _ => rfl
  have F_Greatest_worth := fun_mk (st := s_Greatest_worth) l_Greatest_worth c_Greatest_worth k_Greatest_worth
  have B_Greatest_worth := F_Greatest_worth.binds (ps := ["self", "calls", "kind", "case"]) fun _ _ _ _ _ _ us hl => match us, hl with | [_, _, _, _], _ => rfl
  have F_Greatest_told := fun_mk (st := s_Greatest_told) l_Greatest_told c_Greatest_told k_Greatest_told
  have B_Greatest_told := F_Greatest_told.binds (ps := ["self"]) fun _ _ _ _ _ _ us hl => match us, hl with | [_], _ => rfl
  have F_l_mixed := fun_mk (st := s_l_mixed) l_l_mixed c_l_mixed k_l_mixed
  have B_l_mixed := F_l_mixed.binds (ps := ["_law_cell", "_law_k"]) fun _ _ _ _ _ _ us hl => match us, hl with | [_, _], _ => rfl
  have F_l_next := fun_mk (st := s_l_next) l_l_next c_l_next k_l_next
  have B_l_next := F_l_next.binds (ps := ["_law_draw", "_law_size"]) fun _ _ _ _ _ _ us hl => match us, hl with | [_, _], _ => rfl
  have F_l_word := fun_mk (st := s_l_word) l_l_word c_l_word k_l_word
  have B_l_word := F_l_word.binds (ps := ["_law_draw"]) fun _ _ _ _ _ _ us hl => match us, hl with | [_], _ => rfl
  have F_l_words := fun_mk (st := s_l_words) l_l_words c_l_words k_l_words
  have B_l_words := F_l_words.binds (ps := ["_law_draw", "_law_many"]) fun _ _ _ _ _ _ us hl => match us, hl with | [_, _], _ => rfl
  have F_l_level := fun_mk (st := s_l_level) l_l_level c_l_level k_l_level
  have B_l_level := F_l_level.binds (ps := ["_law_draw"]) fun _ _ _ _ _ _ us hl => match us, hl with | [_], _ => rfl
  have F_l_day := fun_mk (st := s_l_day) l_l_day c_l_day k_l_day
  have B_l_day := F_l_day.binds (ps := ["_law_draw"]) fun _ _ _ _ _ _ us hl => match us, hl with | [_], _ => rfl
  have F_l_calls := fun_mk (st := s_l_calls) l_l_calls c_l_calls k_l_calls
  have B_l_calls := F_l_calls.binds (ps := ["_law_draw", "_law_towns", "_law_days", "_law_many"]) fun _ _ _ _ _ _ us hl => match us, hl with | [_, _, _, _], _ => rfl
  have F_l_told := fun_mk (st := s_l_told) l_l_told c_l_told k_l_told
  have B_l_told := F_l_told.binds (ps := ["_law_draw", "_law_calls_here", "_law_deep", "_law_room"]) fun _ _ _ _ _ _ us hl => match us, hl with | [_, _, _, _], _ => rfl
  have F_l_alike := fun_mk (st := s_l_alike) l_l_alike c_l_alike k_l_alike
  have B_l_alike := F_l_alike.binds (ps := ["_law_found", "_law_due"]) fun _ _ _ _ _ _ us hl => match us, hl with | [_, _], _ => rfl
  have F_l_build := fun_mk (st := s_l_build) l_l_build c_l_build k_l_build
  have B_l_build := F_l_build.binds (ps := ["_law_told_here"]) fun _ _ _ _ _ _ us hl => match us, hl with | [_], _ => rfl
  have F_l_call_worth := fun_mk (st := s_l_call_worth) l_l_call_worth c_l_call_worth k_l_call_worth
  have B_l_call_worth := F_l_call_worth.binds (ps := ["_law_rows", "_law_town", "_law_kind", "_law_day_here"]) fun _ _ _ _ _ _ us hl => match us, hl with | [_, _, _, _], _ => rfl
  have F_l_worth := fun_mk (st := s_l_worth) l_l_worth c_l_worth k_l_worth
  have B_l_worth := F_l_worth.binds (ps := ["_law_told_here", "_law_rows", "_law_kind", "_law_case"]) fun _ _ _ _ _ _ us hl => match us, hl with | [_, _, _, _], _ => rfl
  have F_l_beside := fun_mk (st := s_l_beside) l_l_beside c_l_beside k_l_beside
  have B_l_beside := F_l_beside.binds (ps := ["_law_draw", "_law_day_here"]) fun _ _ _ _ _ _ us hl => match us, hl with | [_, _], _ => rfl
  have F_l_asked := fun_mk (st := s_l_asked) l_l_asked c_l_asked k_l_asked
  have B_l_asked := F_l_asked.binds (ps := ["_law_draw", "_law_towns", "_law_kinds", "_law_days", "_law_terms", "_law_rules", "_law_books", "_law_rows"]) fun _ _ _ _ _ _ us hl => match us, hl with | [_, _, _, _, _, _, _, _], _ => rfl
  have F_law := fun_mk (st := s_law) l_law c_law k_law
  have B_law := F_law.binds (ps := ["_law_script"]) fun _ _ _ _ _ _ us hl => match us, hl with | [_], _ => rfl
  exact ⟨⟨C_Called, C_Calls, C_Greatest, C_Least, C_Level, a_is_made_of, PySem.W.fnOf _ _ (defArgs s_is_made_of) (defBody s_is_made_of) (defScope s_is_made_of) .none kV_is_made_of dc_is_made_of pm_is_made_of an_is_made_of cd_is_made_of ct_is_made_of, a_is_word, PySem.W.fnOf _ _ (defArgs s_is_word) (defBody s_is_word) (defScope s_is_word) .none kV_is_word dc_is_word pm_is_word an_is_word cd_is_word ct_is_word, a_is_name, PySem.W.fnOf _ _ (defArgs s_is_name) (defBody s_is_name) (defScope s_is_name) .none kV_is_name dc_is_name pm_is_name an_is_name cd_is_name ct_is_name, a_is_number, PySem.W.fnOf _ _ (defArgs s_is_number) (defBody s_is_number) (defScope s_is_number) .none kV_is_number dc_is_number pm_is_number an_is_number cd_is_number ct_is_number, a_is_within, PySem.W.fnOf _ _ (defArgs s_is_within) (defBody s_is_within) (defScope s_is_within) .none kV_is_within dc_is_within pm_is_within an_is_within cd_is_within ct_is_within, a_is_day, PySem.W.fnOf _ _ (defArgs s_is_day) (defBody s_is_day) (defScope s_is_day) .none kV_is_day dc_is_day pm_is_day an_is_day cd_is_day ct_is_day, a_is_worth, PySem.W.fnOf _ _ (defArgs s_is_worth) (defBody s_is_worth) (defScope s_is_worth) .none kV_is_worth dc_is_worth pm_is_worth an_is_worth cd_is_worth ct_is_worth, a_check_name, PySem.W.fnOf _ _ (defArgs s_check_name) (defBody s_check_name) (defScope s_check_name) .none kV_check_name dc_check_name pm_check_name an_check_name cd_check_name ct_check_name, a_check_day, PySem.W.fnOf _ _ (defArgs s_check_day) (defBody s_check_day) (defScope s_check_day) .none kV_check_day dc_check_day pm_check_day an_check_day cd_check_day ct_check_day, a_check_worth, PySem.W.fnOf _ _ (defArgs s_check_worth) (defBody s_check_worth) (defScope s_check_worth) .none kV_check_worth dc_check_worth pm_check_worth an_check_worth cd_check_worth ct_check_worth, a_Calls_init, PySem.W.fnOf _ _ (defArgs s_Calls_init) (defBody s_Calls_init) (defScope s_Calls_init) .none kV_Calls_init dc_Calls_init pm_Calls_init an_Calls_init cd_Calls_init ct_Calls_init, a_Calls_tell, PySem.W.fnOf _ _ (defArgs s_Calls_tell) (defBody s_Calls_tell) (defScope s_Calls_tell) .none kV_Calls_tell dc_Calls_tell pm_Calls_tell an_Calls_tell cd_Calls_tell ct_Calls_tell, a_Calls_worth, PySem.W.fnOf _ _ (defArgs s_Calls_worth) (defBody s_Calls_worth) (defScope s_Calls_worth) (.ref T_Calls_worth) kV_Calls_worth dc_Calls_worth pm_Calls_worth an_Calls_worth cd_Calls_worth ct_Calls_worth, a_Calls_tellings, PySem.W.fnOf _ _ (defArgs s_Calls_tellings) (defBody s_Calls_tellings) (defScope s_Calls_tellings) (.ref T_Calls_tellings) kV_Calls_tellings dc_Calls_tellings pm_Calls_tellings an_Calls_tellings cd_Calls_tellings ct_Calls_tellings, a_Calls_worths_by_day, PySem.W.fnOf _ _ (defArgs s_Calls_worths_by_day) (defBody s_Calls_worths_by_day) (defScope s_Calls_worths_by_day) .none kV_Calls_worths_by_day dc_Calls_worths_by_day pm_Calls_worths_by_day an_Calls_worths_by_day cd_Calls_worths_by_day ct_Calls_worths_by_day, a_call_place, PySem.W.fnOf _ _ (defArgs s_call_place) (defBody s_call_place) (defScope s_call_place) .none kV_call_place dc_call_place pm_call_place an_call_place cd_call_place ct_call_place, a_joined_size, PySem.W.fnOf _ _ (defArgs s_joined_size) (defBody s_joined_size) (defScope s_joined_size) .none kV_joined_size dc_joined_size pm_joined_size an_joined_size cd_joined_size ct_joined_size, a_joined_depth, PySem.W.fnOf _ _ (defArgs s_joined_depth) (defBody s_joined_depth) (defScope s_joined_depth) .none kV_joined_depth dc_joined_depth pm_joined_depth an_joined_depth cd_joined_depth ct_joined_depth, a_check_joined, PySem.W.fnOf _ _ (defArgs s_check_joined) (defBody s_check_joined) (defScope s_check_joined) .none kV_check_joined dc_check_joined pm_check_joined an_check_joined cd_check_joined ct_check_joined, a_joined_told, PySem.W.fnOf _ _ (defArgs s_joined_told) (defBody s_joined_told) (defScope s_joined_told) .none kV_joined_told dc_joined_told pm_joined_told an_joined_told cd_joined_told ct_joined_told, a_Level_init, PySem.W.fnOf _ _ (defArgs s_Level_init) (defBody s_Level_init) (defScope s_Level_init) .none kV_Level_init dc_Level_init pm_Level_init an_Level_init cd_Level_init ct_Level_init, a_Level_worth, PySem.W.fnOf _ _ (defArgs s_Level_worth) (defBody s_Level_worth) (defScope s_Level_worth) .none kV_Level_worth dc_Level_worth pm_Level_worth an_Level_worth cd_Level_worth ct_Level_worth, a_Level_told, PySem.W.fnOf _ _ (defArgs s_Level_told) (defBody s_Level_told) (defScope s_Level_told) .none kV_Level_told dc_Level_told pm_Level_told an_Level_told cd_Level_told ct_Level_told, a_Called_init, PySem.W.fnOf _ _ (defArgs s_Called_init) (defBody s_Called_init) (defScope s_Called_init) (.ref T_Called_init) kV_Called_init dc_Called_init pm_Called_init an_Called_init cd_Called_init ct_Called_init, a_Called_worth, PySem.W.fnOf _ _ (defArgs s_Called_worth) (defBody s_Called_worth) (defScope s_Called_worth) .none kV_Called_worth dc_Called_worth pm_Called_worth an_Called_worth cd_Called_worth ct_Called_worth, a_Called_told, PySem.W.fnOf _ _ (defArgs s_Called_told) (defBody s_Called_told) (defScope s_Called_told) .none kV_Called_told dc_Called_told pm_Called_told an_Called_told cd_Called_told ct_Called_told, a_Least_init, PySem.W.fnOf _ _ (defArgs s_Least_init) (defBody s_Least_init) (defScope s_Least_init) .none kV_Least_init dc_Least_init pm_Least_init an_Least_init cd_Least_init ct_Least_init, a_Least_worth, PySem.W.fnOf _ _ (defArgs s_Least_worth) (defBody s_Least_worth) (defScope s_Least_worth) .none kV_Least_worth dc_Least_worth pm_Least_worth an_Least_worth cd_Least_worth ct_Least_worth, a_Least_told, PySem.W.fnOf _ _ (defArgs s_Least_told) (defBody s_Least_told) (defScope s_Least_told) .none kV_Least_told dc_Least_told pm_Least_told an_Least_told cd_Least_told ct_Least_told, a_Greatest_init, PySem.W.fnOf _ _ (defArgs s_Greatest_init) (defBody s_Greatest_init) (defScope s_Greatest_init) .none kV_Greatest_init dc_Greatest_init pm_Greatest_init an_Greatest_init cd_Greatest_init ct_Greatest_init, a_Greatest_worth, PySem.W.fnOf _ _ (defArgs s_Greatest_worth) (defBody s_Greatest_worth) (defScope s_Greatest_worth) .none kV_Greatest_worth dc_Greatest_worth pm_Greatest_worth an_Greatest_worth cd_Greatest_worth ct_Greatest_worth, a_Greatest_told, PySem.W.fnOf _ _ (defArgs s_Greatest_told) (defBody s_Greatest_told) (defScope s_Greatest_told) .none kV_Greatest_told dc_Greatest_told pm_Greatest_told an_Greatest_told cd_Greatest_told ct_Greatest_told, a_l_mixed, PySem.W.fnOf _ _ (defArgs s_l_mixed) (defBody s_l_mixed) (defScope s_l_mixed) .none kV_l_mixed dc_l_mixed pm_l_mixed an_l_mixed cd_l_mixed ct_l_mixed, a_l_next, PySem.W.fnOf _ _ (defArgs s_l_next) (defBody s_l_next) (defScope s_l_next) .none kV_l_next dc_l_next pm_l_next an_l_next cd_l_next ct_l_next, a_l_word, PySem.W.fnOf _ _ (defArgs s_l_word) (defBody s_l_word) (defScope s_l_word) .none kV_l_word dc_l_word pm_l_word an_l_word cd_l_word ct_l_word, a_l_words, PySem.W.fnOf _ _ (defArgs s_l_words) (defBody s_l_words) (defScope s_l_words) .none kV_l_words dc_l_words pm_l_words an_l_words cd_l_words ct_l_words, a_l_level, PySem.W.fnOf _ _ (defArgs s_l_level) (defBody s_l_level) (defScope s_l_level) .none kV_l_level dc_l_level pm_l_level an_l_level cd_l_level ct_l_level, a_l_day, PySem.W.fnOf _ _ (defArgs s_l_day) (defBody s_l_day) (defScope s_l_day) .none kV_l_day dc_l_day pm_l_day an_l_day cd_l_day ct_l_day, a_l_calls, PySem.W.fnOf _ _ (defArgs s_l_calls) (defBody s_l_calls) (defScope s_l_calls) .none kV_l_calls dc_l_calls pm_l_calls an_l_calls cd_l_calls ct_l_calls, a_l_told, PySem.W.fnOf _ _ (defArgs s_l_told) (defBody s_l_told) (defScope s_l_told) .none kV_l_told dc_l_told pm_l_told an_l_told cd_l_told ct_l_told, a_l_alike, PySem.W.fnOf _ _ (defArgs s_l_alike) (defBody s_l_alike) (defScope s_l_alike) .none kV_l_alike dc_l_alike pm_l_alike an_l_alike cd_l_alike ct_l_alike, a_l_build, PySem.W.fnOf _ _ (defArgs s_l_build) (defBody s_l_build) (defScope s_l_build) .none kV_l_build dc_l_build pm_l_build an_l_build cd_l_build ct_l_build, a_l_call_worth, PySem.W.fnOf _ _ (defArgs s_l_call_worth) (defBody s_l_call_worth) (defScope s_l_call_worth) .none kV_l_call_worth dc_l_call_worth pm_l_call_worth an_l_call_worth cd_l_call_worth ct_l_call_worth, a_l_worth, PySem.W.fnOf _ _ (defArgs s_l_worth) (defBody s_l_worth) (defScope s_l_worth) .none kV_l_worth dc_l_worth pm_l_worth an_l_worth cd_l_worth ct_l_worth, a_l_beside, PySem.W.fnOf _ _ (defArgs s_l_beside) (defBody s_l_beside) (defScope s_l_beside) .none kV_l_beside dc_l_beside pm_l_beside an_l_beside cd_l_beside ct_l_beside, a_l_asked, PySem.W.fnOf _ _ (defArgs s_l_asked) (defBody s_l_asked) (defScope s_l_asked) .none kV_l_asked dc_l_asked pm_l_asked an_l_asked cd_l_asked ct_l_asked, a_law, PySem.W.fnOf _ _ (defArgs s_law) (defBody s_law) (defScope s_law) .none kV_law dc_law pm_law an_law cd_law ct_law, k_SMALL_LETTERS, k_LONGEST_NAME, k_MOST_DAY, k_MOST_WORTH, k_MOST_TELLINGS, k_LEAST_TERMS, k_MOST_TERMS, k_MOST_SIZE, k_MOST_DEPTH⟩, ⟨⟨pg_Called, hd_Called, po_Called, sa_Called⟩, PySem.W.mg_of X G n_Called, ⟨mk_Called, n_Called_init, i_Called_init, kc_Called⟩, no_Called_when, no_Called_town, no_Called_size, no_Called_depth, ⟨pg_Calls, hd_Calls, po_Calls, sa_Calls⟩, PySem.W.mg_of X G n_Calls, ⟨mk_Calls, n_Calls_init, i_Calls_init, kc_Calls⟩, no_Calls_rows, ⟨pg_Greatest, hd_Greatest, po_Greatest, sa_Greatest⟩, PySem.W.mg_of X G n_Greatest, ⟨mk_Greatest, n_Greatest_init, i_Greatest_init, kc_Greatest⟩, no_Greatest_terms, no_Greatest_size, no_Greatest_depth, ⟨pg_Least, hd_Least, po_Least, sa_Least⟩, PySem.W.mg_of X G n_Least, ⟨mk_Least, n_Least_init, i_Least_init, kc_Least⟩, no_Least_terms, no_Least_size, no_Least_depth, ⟨pg_Level, hd_Level, po_Level, sa_Level⟩, PySem.W.mg_of X G n_Level, ⟨mk_Level, n_Level_init, i_Level_init, kc_Level⟩, no_Level_level, no_Level_size, no_Level_depth, F_is_made_of, B_is_made_of, k_is_made_of, PySem.W.mg_of X G n_is_made_of, F_is_word, B_is_word, k_is_word, PySem.W.mg_of X G n_is_word, F_is_name, B_is_name, k_is_name, PySem.W.mg_of X G n_is_name, F_is_number, B_is_number, k_is_number, PySem.W.mg_of X G n_is_number, F_is_within, B_is_within, k_is_within, PySem.W.mg_of X G n_is_within, F_is_day, B_is_day, k_is_day, PySem.W.mg_of X G n_is_day, F_is_worth, B_is_worth, k_is_worth, PySem.W.mg_of X G n_is_worth, F_check_name, B_check_name, k_check_name, PySem.W.mg_of X G n_check_name, F_check_day, B_check_day, k_check_day, PySem.W.mg_of X G n_check_day, F_check_worth, B_check_worth, k_check_worth, PySem.W.mg_of X G n_check_worth, F_Calls_init, B_Calls_init, F_Calls_tell, B_Calls_tell, ⟨n_Calls_tell, i_Calls_tell, k_Calls_tell⟩, F_Calls_worth, B_Calls_worth, BD_Calls_worth, ⟨n_Calls_worth, i_Calls_worth, k_Calls_worth⟩, F_Calls_tellings, B_Calls_tellings, BD_Calls_tellings, ⟨n_Calls_tellings, i_Calls_tellings, k_Calls_tellings⟩, F_Calls_worths_by_day, B_Calls_worths_by_day, ⟨n_Calls_worths_by_day, i_Calls_worths_by_day, k_Calls_worths_by_day⟩, F_call_place, B_call_place, k_call_place, PySem.W.mg_of X G n_call_place, F_joined_size, B_joined_size, k_joined_size, PySem.W.mg_of X G n_joined_size, F_joined_depth, B_joined_depth, k_joined_depth, PySem.W.mg_of X G n_joined_depth, F_check_joined, B_check_joined, k_check_joined, PySem.W.mg_of X G n_check_joined, F_joined_told, B_joined_told, k_joined_told, PySem.W.mg_of X G n_joined_told, F_Level_init, B_Level_init, F_Level_worth, B_Level_worth, ⟨n_Level_worth, i_Level_worth, k_Level_worth⟩, F_Level_told, B_Level_told, ⟨n_Level_told, i_Level_told, k_Level_told⟩, F_Called_init, B_Called_init, BD_Called_init, F_Called_worth, B_Called_worth, ⟨n_Called_worth, i_Called_worth, k_Called_worth⟩, F_Called_told, B_Called_told, ⟨n_Called_told, i_Called_told, k_Called_told⟩, F_Least_init, B_Least_init, F_Least_worth, B_Least_worth, ⟨n_Least_worth, i_Least_worth, k_Least_worth⟩, F_Least_told, B_Least_told, ⟨n_Least_told, i_Least_told, k_Least_told⟩, F_Greatest_init, B_Greatest_init, F_Greatest_worth, B_Greatest_worth, ⟨n_Greatest_worth, i_Greatest_worth, k_Greatest_worth⟩, F_Greatest_told, B_Greatest_told, ⟨n_Greatest_told, i_Greatest_told, k_Greatest_told⟩, F_l_mixed, B_l_mixed, k_l_mixed, PySem.W.mg_of X G n_l_mixed, F_l_next, B_l_next, k_l_next, PySem.W.mg_of X G n_l_next, F_l_word, B_l_word, k_l_word, PySem.W.mg_of X G n_l_word, F_l_words, B_l_words, k_l_words, PySem.W.mg_of X G n_l_words, F_l_level, B_l_level, k_l_level, PySem.W.mg_of X G n_l_level, F_l_day, B_l_day, k_l_day, PySem.W.mg_of X G n_l_day, F_l_calls, B_l_calls, k_l_calls, PySem.W.mg_of X G n_l_calls, F_l_told, B_l_told, k_l_told, PySem.W.mg_of X G n_l_told, F_l_alike, B_l_alike, k_l_alike, PySem.W.mg_of X G n_l_alike, F_l_build, B_l_build, k_l_build, PySem.W.mg_of X G n_l_build, F_l_call_worth, B_l_call_worth, k_l_call_worth, PySem.W.mg_of X G n_l_call_worth, F_l_worth, B_l_worth, k_l_worth, PySem.W.mg_of X G n_l_worth, F_l_beside, B_l_beside, k_l_beside, PySem.W.mg_of X G n_l_beside, F_l_asked, B_l_asked, k_l_asked, PySem.W.mg_of X G n_l_asked, F_law, B_law, k_law, PySem.W.mg_of X G n_law, PySem.W.mg_of X G n_SMALL_LETTERS, PySem.W.mg_of X G n_LONGEST_NAME, PySem.W.mg_of X G n_MOST_DAY, PySem.W.mg_of X G n_MOST_WORTH, PySem.W.mg_of X G n_MOST_TELLINGS, PySem.W.mg_of X G n_LEAST_TERMS, PySem.W.mg_of X G n_MOST_TERMS, PySem.W.mg_of X G n_MOST_SIZE, PySem.W.mg_of X G n_MOST_DEPTH, PySem.W.mg_none_of X G z_len, PySem.W.mg_none_of X G z_range, PySem.W.mg_none_of X G z_max, PySem.W.mg_none_of X G z_min, PySem.W.mg_none_of X G z_isinstance, PySem.W.mg_none_of X G z_all, PySem.W.mg_none_of X G z_sum, PySem.W.mg_none_of X G z_str, PySem.W.mg_none_of X G z_bool, PySem.W.mg_none_of X G z_int, PySem.W.mg_none_of X G z_list, PySem.W.mg_none_of X G z_tuple, PySem.W.mg_none_of X G z_zip⟩⟩
def spMixed : Sp := fun vs H Q _ => ∃ (c k : Int), vs = [.int c, .int k] ∧ 0 ≤ k ∧ k < 1000 ∧ ∀ r : Int, 0 ≤ r → r < 2147483399 → Q (.int r) H
def spNext (K : PySem.W.Frag) : Sp := fun vs H Q _ => ∃ (d a : Addr) (ns : List Int) (z : Int), vs = [.ref d, .int z] ∧ DrawAt K H d a ns ∧ 0 < z ∧
  ∀ (r : Int) (H' : Hp), 0 ≤ r → r < z → DrawAt K H' d a ns → Keep d H H' → Q (.int r) H'
section
variable {P : Program} {w : World} {K : PySem.W.Frag} {mg : Str → Option Value} {base : Heap} {t : Ad}
theorem ok_mixed (T : Env K mg t) : FnOk P w K mg base CX0 1 t.a_l_mixed t.fd_l_mixed ["_law_cell", "_law_k"] spMixed := by
  refine T.f_l_mixed.okQ sc_l_mixed (fun vs H Q E h => ?_) (fun cdv A outer s H vs Q E hr h => ?_)
  · obtain ⟨c, k, rfl, _⟩ := h
    rfl
  · obtain ⟨c, k, rfl, k0, k1, q⟩ := h
    refine ⟨_, (q_pss_cons (q_ps_set (i := 2) sc_l_mixed.nd rfl (by first | exact Or.inl rfl | exact Or.inr (Or.inl rfl) | exact Or.inr rfl) (q_pe_op op_mod (q_pe_op op_pow (q_pe_op op_mod (q_pe_op op_mul (q_pe_op op_add (q_pe_op op_add (q_pe_op op_mod (q_pv 0) q_pe_int) (q_pe_op op_mul q_pe_int (q_pv 1))) q_pe_int) q_pe_int) q_pe_int) q_pe_int) q_pe_int))
      (q_pss_cons (q_ps_if (q_pt_cmpR op_lt (q_pv 0) (q_pe_op op_pow q_pe_int q_pe_int) (nomark _)) (q_pss_one (q_ps_ret (q_pv 2))) q_pss_nil)
      (q_pss_one (q_ps_ret (q_pe_op op_mod (q_pe_op op_add (q_pv 2) (q_pe_op op_mod (q_pe_op op_fdivL (q_pv 0) (q_pe_op op_pow q_pe_int q_pe_int)) (q_pe_op op_add q_pe_int (q_pe_op op_mul (q_pe_op op_add (q_pv 1) q_pe_int) q_pe_int)))) q_pe_int))))), ?_⟩
    have p1 : (0 : Int) < 2147483399 := by decide
    have a0 := Int.emod_nonneg c (show (2147483399 : Int) ≠ 0 by decide)
    have a1 := Int.emod_lt_of_pos c p1
    refine ⟨_, rfl, _, _, rfl, rfl, p1, _, rfl, _, _, rfl, rfl, .inl ⟨by decide, by decide⟩, _, _, rfl, rfl, _, _, rfl, rfl, _, _, rfl, rfl, .inl ⟨by omega, by omega⟩, _, _, rfl, rfl, p1, _, _, rfl, rfl, ⟨by decide, by decide, ?_⟩, _, _, rfl, rfl, p1, ?_⟩
    · have b0 := Int.emod_nonneg ((c % 2147483399 + 104729 * k + 11) * 48271) (show (2147483399 : Int) ≠ 0 by decide)
      have b1 := Int.emod_lt_of_pos ((c % 2147483399 + 104729 * k + 11) * 48271) p1
      have : (2 : Nat) ^ 64 = 18446744073709551616 := by decide
      omega
    refine ⟨_, rfl, _, _, rfl, rfl, ⟨by decide, by decide, by decide⟩, _, _, rfl, rfl, _, rfl, ?_⟩
    refine ite2 (fun _ => ?_) (fun _ => ?_)
    · exact ⟨_, rfl, q _ (Int.emod_nonneg _ (by decide)) (Int.emod_lt_of_pos _ p1)⟩
    · refine ⟨_, rfl, _, rfl, _, _, rfl, rfl, ⟨by decide, by decide, by decide⟩, _, _, rfl, rfl, ⟨by decide +kernel, by decide +kernel⟩, _, rfl, _, _, rfl, rfl, _, _, rfl, rfl, .inl ⟨by omega, by omega⟩, _, _, rfl, rfl, _, _, rfl, rfl, ?_, _, _, rfl, rfl, _, _, rfl, rfl, p1, ?_⟩
      · show (0 : Int) < 1 + (k + 1) * _
        omega
      · exact q _ (Int.emod_nonneg _ (by decide)) (Int.emod_lt_of_pos _ p1)
theorem ok_next (T : Env K mg t) : FnOk P w K mg base CX0 2 t.a_l_next t.fd_l_next ["_law_draw", "_law_size"] (spNext K) := by
  have G_l_mixed : FnOk P w K mg base CX0 1 t.a_l_mixed t.fd_l_mixed ["_law_cell", "_law_k"] spMixed := ok_mixed T
  refine T.f_l_next.okQ sc_l_next (fun vs H Q E h => ?_) (fun cdv A outer s H vs Q E hr h => ?_)
  · obtain ⟨d, a, ns, z, rfl, _⟩ := h
    rfl
  · obtain ⟨d, a, ns, z, rfl, D, hz, q⟩ := h
    have hr_l_mixed := hr
    obtain ⟨⟨n, n0, hd⟩, sc, hl⟩ := id D
    refine ⟨_, (q_pss_cons (q_ps_set (i := 2) sc_l_next.nd rfl (by first | exact Or.inl rfl | exact Or.inr (Or.inl rfl) | exact Or.inr rfl) (q_pe_ix ix_list (q_pv 0) q_pe_int (fun _ _ => rfl)))
      (q_pss_cons (q_ps_asg (q_pe_op op_add (q_pv 2) q_pe_int) (q_pg_sub (q_pv 0) q_pe_int set_list))
      (q_pss_cons (q_ps_set (i := 3) sc_l_next.nd rfl (by first | exact Or.inl rfl | exact Or.inr (Or.inl rfl) | exact Or.inr rfl) (q_pe_callB (call_max2 rfl) (by rfl) T.z_max (by decide +kernel) (q_pa_cons q_pe_int (q_pa_cons (q_pe_callB call_len_seq (by rfl) T.z_len PySem.boot_len (q_pa_cons (q_pe_ix ix_list (q_pv 0) q_pe_int (fun _ _ => rfl)) q_pa_nil star_Subscript)) q_pa_nil star_Call) star_Constant)))
      (q_pss_cons (q_ps_set (i := 4) sc_l_next.nd rfl (by first | exact Or.inl rfl | exact Or.inr (Or.inl rfl) | exact Or.inr rfl) q_pe_int)
      (q_pss_cons (q_ps_if (q_pt_cmpR (op_neD hr.units) (q_pe_ix ix_list (q_pv 0) q_pe_int (fun _ _ => rfl)) (q_pe_lst q_pa_nil) (nomark _)) (q_pss_one (q_ps_set (i := 4) sc_l_next.nd rfl (by first | exact Or.inl rfl | exact Or.inr (Or.inl rfl) | exact Or.inr rfl) (q_pe_ix ix_list (q_pe_ix ix_list (q_pv 0) q_pe_int (fun _ _ => rfl)) (q_pe_op op_mod (q_pv 2) (q_pv 3)) (fun _ _ => rfl)))) q_pss_nil)
      (q_pss_one (q_ps_ret (q_pe_op op_mod (q_pe_op op_fdiv (q_pe_call G_l_mixed hr_l_mixed (by rfl) T.mg_l_mixed T.kp_l_mixed T.b_l_mixed .nil pass0 (q_pa_cons (q_pv 4) (q_pa_cons (q_pe_op op_mod (q_pe_op op_fdiv (q_pv 2) (q_pv 3)) q_pe_int) q_pa_nil star_BinOp) star_Name)) q_pe_int) (q_pv 1))))))))), ?_⟩
    have hd1 : ∀ o, (upd H d o) d = some o := fun o => upd_same
    have k1 : Keep d H (upd H d (.lst [.ref a, .int (n + 1)])) := fun b o e nb => by rw [upd_ne nb]; exact e
    have sc1 : Scr K (upd H d (.lst [.ref a, .int (n + 1)])) a ns := sc.keep k1 (nofrz hd)
    have D1 : DrawAt K (upd H d (.lst [.ref a, .int (n + 1)])) d a ns := ⟨⟨n + 1, by omega, upd_same⟩, sc1, hl⟩
    refine ⟨_, rfl, d, _, _, _, rfl, rfl, SqL.of hd, rfl, ?_⟩
    refine ⟨_, rfl, _, _, rfl, rfl, _, rfl, d, _, _, 1, rfl, rfl, hd, rfl, ?_⟩
    refine ⟨_, rfl, d, _, _, _, rfl, rfl, SqL.of upd_same, rfl, a, _, rfl, .inl sc1.sq, _, _, rfl, ?_⟩
    have lm : ((ns.map V.int).length : Int) = (ns.length : Int) := by rw [List.length_map]
    rw [lm]
    generalize hm : (if (ns.length : Int) > 1 then (ns.length : Int) else 1) = m
    have m1 : 1 ≤ m ∧ m ≤ 63 ∧ (ns.length ≠ 0 → m = ns.length) := by
      rw [← hm]; split <;> omega
    refine ⟨_, rfl, d, _, _, _, rfl, rfl, SqL.of upd_same, rfl, (by decide), fun l hl' => ?_⟩
    have s2 : Same (upd H d (.lst [.ref a, .int (n + 1)])) (upd (upd H d (.lst [.ref a, .int (n + 1)])) l (.lst [])) := same_new hl'
    have D2 := D1.same s2
    have k2 : Keep d H (upd (upd H d (.lst [.ref a, .int (n + 1)])) l (.lst [])) := k1.trans (.of s2)
    have hd2 : (upd (upd H d (.lst [.ref a, .int (n + 1)])) l (.lst [])) d = some (.lst [.ref a, .int (n + 1)]) := s2 _ _ upd_same
    refine ⟨.list (ns.map .int), .list [], .lst D2.sq (dp_ints ns), .lst (SqL.of upd_same) .nil, shaped_ints ns, rfl, _, rfl, ?_⟩
    rw [eqv_nil]
    have z127 : ((0 : Int) < 127 ∧ (127 : Int) < 1073741824) := ⟨by decide, by decide⟩
    cases ns with
    | nil =>
      refine iteF ?_
      refine ⟨_, rfl, _, rfl, _, rfl, _, _, rfl, rfl, ⟨by omega, by omega⟩, _, _, rfl, rfl, (by decide : (0 : Int) < 127), _, _, rfl, Int.emod_nonneg _ (by decide), Int.lt_trans (Int.emod_lt_of_pos _ (by decide)) (by decide), fun r r0 r1 => ?_⟩
      refine ⟨_, _, rfl, rfl, ⟨by decide, by decide⟩, _, rfl, _, _, rfl, rfl, hz, ?_⟩
      exact q _ _ (Int.emod_nonneg _ (by omega)) (Int.emod_lt_of_pos _ hz) D2 k2
    | cons x xs =>
      refine iteT ?_
      have hmm : m = ((x :: xs).length : Int) := m1.2.2 (by simp)
      have j0 := Int.emod_nonneg n (show m ≠ 0 by omega)
      have j1 := Int.emod_lt_of_pos n (show 0 < m by omega)
      have hj : (n % m).toNat < (x :: xs).length := by omega
      have hat : atI ((x :: xs).map V.int) (n % m) = some (.int ((x :: xs)[(n % m).toNat]'hj)) := at_of (j := (n % m).toNat) (by omega) (by rw [List.getElem?_map, List.getElem?_eq_getElem hj]; rfl)
      refine ⟨_, rfl, d, _, _, _, rfl, rfl, SqL.of hd2, rfl, _, rfl, _, rfl, _, _, rfl, rfl, (show (0 : Int) < m by omega), a, _, _, _, rfl, rfl, D2.sq, hat, ?_⟩
      refine ⟨_, rfl, _, rfl, _, rfl, _, _, rfl, rfl, ⟨by omega, by omega⟩, _, _, rfl, rfl, (by decide : (0 : Int) < 127), _, _, rfl, Int.emod_nonneg _ (by decide), Int.lt_trans (Int.emod_lt_of_pos _ (by decide)) (by decide), fun r r0 r1 => ?_⟩
      refine ⟨_, _, rfl, rfl, ⟨by decide, by decide⟩, _, rfl, _, _, rfl, rfl, hz, ?_⟩
      exact q _ _ (Int.emod_nonneg _ (by omega)) (Int.emod_lt_of_pos _ hz) D2 k2
def spWord (K : PySem.W.Frag) : Sp := fun vs H Q _ => ∃ (d a : Addr) (ns : List Int), vs = [.ref d] ∧ DrawAt K H d a ns ∧
  ∀ (x : Str) (H' : Hp), nameOk x = true → DrawAt K H' d a ns → Keep d H H' → Q (.str x) H'
def words14 : List Str := ["by", "in", "at", "made", "paid", "day", "least", "greatest", "for", "none", "call", "held", "a", "zz"]
theorem ok_word (T : Env K mg t) : FnOk P w K mg base CX0 3 t.a_l_word t.fd_l_word ["_law_draw"] (spWord K) := by
  have G_l_next : FnOk P w K mg base CX0 2 t.a_l_next t.fd_l_next ["_law_draw", "_law_size"] (spNext K) := ok_next T
  refine T.f_l_word.okQ sc_l_word (fun vs H Q E h => ?_) (fun cdv A outer s H vs Q E hr h => ?_)
  · obtain ⟨d, a, ns, rfl, _⟩ := h
    rfl
  · obtain ⟨d, a, ns, rfl, D, q⟩ := h
    have hr_l_next := hr
    refine ⟨_, (q_pss_cons (q_ps_set (i := 1) sc_l_word.nd rfl (by first | exact Or.inl rfl | exact Or.inr (Or.inl rfl) | exact Or.inr rfl) (q_pe_lst (q_pa_cons q_pe_str (q_pa_cons q_pe_str (q_pa_cons q_pe_str (q_pa_cons q_pe_str (q_pa_cons q_pe_str (q_pa_cons q_pe_str (q_pa_cons q_pe_str (q_pa_cons q_pe_str (q_pa_cons q_pe_str (q_pa_cons q_pe_str (q_pa_cons q_pe_str (q_pa_cons q_pe_str (q_pa_cons q_pe_str (q_pa_cons q_pe_str q_pa_nil star_Constant) star_Constant) star_Constant) star_Constant) star_Constant) star_Constant) star_Constant) star_Constant) star_Constant) star_Constant) star_Constant) star_Constant) star_Constant) star_Constant)))
      (q_pss_cons (q_ps_if (q_pt_cmpR op_eq (q_pe_call G_l_next hr_l_next (by rfl) T.mg_l_next T.kp_l_next T.b_l_next .nil pass0 (q_pa_cons (q_pv 0) (q_pa_cons q_pe_int q_pa_nil star_Constant) star_Name)) q_pe_int (nomark _)) (q_pss_one (q_ps_ret (q_pe_ix ix_list (q_pv 1) (q_pe_call G_l_next hr_l_next (by rfl) T.mg_l_next T.kp_l_next T.b_l_next .nil pass0 (q_pa_cons (q_pv 0) (q_pa_cons (q_pe_callB call_len_seq (by rfl) T.z_len PySem.boot_len (q_pa_cons (q_pv 1) q_pa_nil star_Name)) q_pa_nil star_Call) star_Name)) (fun _ _ => rfl)))) q_pss_nil)
      (q_pss_cons (q_ps_set (i := 2) sc_l_word.nd rfl (by first | exact Or.inl rfl | exact Or.inr (Or.inl rfl) | exact Or.inr rfl) q_pe_str)
      (q_pss_cons (q_ps_for PassesOwn.never rfl (q_pi_range1 (by rfl) T.z_range (q_pa_cons (q_pe_op op_add q_pe_int (q_pe_call G_l_next hr_l_next (by rfl) T.mg_l_next T.kp_l_next T.b_l_next .nil pass0 (q_pa_cons (q_pv 0) (q_pa_cons q_pe_int q_pa_nil star_Constant) star_Name))) q_pa_nil star_BinOp)) (q_pg_name (i := 3) sc_l_word.nd rfl (by first | exact Or.inl rfl | exact Or.inr (Or.inl rfl) | exact Or.inr rfl))
      (q_pss_one (q_ps_set (i := 2) sc_l_word.nd rfl (by first | exact Or.inl rfl | exact Or.inr (Or.inl rfl) | exact Or.inr rfl) (q_pe_op op_add_str (q_pv 2) (q_pe_ix ix_str q_pe_str (q_pe_call G_l_next hr_l_next (by rfl) T.mg_l_next T.kp_l_next T.b_l_next .nil pass0 (q_pa_cons (q_pv 0) (q_pa_cons q_pe_int q_pa_nil star_Constant) star_Name)) (fun _ _ => rfl))))))
      (q_pss_one (q_ps_ret (q_pv 2))))))), ?_⟩
    refine ⟨by decide, fun p hp => ?_⟩
    have s1 := same_new (o := .lst (words14.map V.str)) hp
    have D1 := D.same s1
    have np := D.ne hp
    refine ⟨_, rfl, d, a, ns, _, rfl, D1, by decide, fun r H2 r0 r1 D2 k2 => ⟨rfl, _, rfl, ite2 (fun _ => ?_) (fun _ => ?_)⟩⟩
    · have h2 := k2 _ _ upd_same np
      refine ⟨_, rfl, _, rfl, _, rfl, p, _, rfl, .inl (SqL.of h2), d, a, ns, _, rfl, D2, by decide, fun r' H3 r0' r1' D3 k3 => ?_⟩
      obtain ⟨v, hv, hm⟩ := at_bound (xs := words14.map V.str) r0' r1'
      obtain ⟨x, hx, rfl⟩ := List.mem_map.mp hm
      refine ⟨p, _, r', _, rfl, rfl, SqL.of (k3 _ _ h2 np), hv, ?_⟩
      have all : words14.all nameOk = true := by decide +kernel
      exact q x H3 (List.all_eq_true.mp all x hx) D3 (((Keep.of s1).trans k2).trans k3)
    · refine ⟨_, rfl, d, a, ns, _, rfl, D2, by decide, fun m H3 m0 m1 D3 k3 => ?_⟩
      refine ⟨_, _, rfl, rfl, _, rfl, by omega, by omega, ?_⟩
      refine for_range (lo := 0) (fun i σ H' => ∃ (o3 : Option V) (x : Str), σ = [some (.ref d), some (.ref p), some (.str x), o3] ∧ x.length = i ∧ (x.cps.toList.all fun c => decide (c ∈ letters.cps.toList)) = true ∧ DrawAt K H' d a ns ∧ Keep d H H') ?_ ?_ ?_
      · exact ⟨none, "", rfl, rfl, rfl, D3, ((Keep.of s1).trans k2).trans k3⟩
      · rintro i σ H4 hi ⟨o3, x, rfl, lx, ax, D4, k4⟩
        refine ⟨_, rfl, _, rfl, d, a, ns, _, rfl, D4, by decide, fun r' H5 r0' r1' D5 k5 => ?_⟩
        obtain ⟨c, hc, hm⟩ := at_bound (xs := letters.cps.toList) r0' r1'
        refine ⟨letters, r', c, rfl, rfl, by decide, hc, _, _, rfl, rfl, Nat.le_of_lt (small1000 (by show x.length + 1 ≤ 1000; omega)), ?_⟩
        refine ⟨_, _, rfl, by rw [len_app, lx]; rfl, ?_, D5, k4.trans k5⟩
        rw [tl_app, List.all_append, ax, Bool.true_and, List.all_cons]
        rw [decide_eq_true hm]; rfl
      · rintro σ H4 ⟨o3, x, rfl, lx, ax, D4, k4⟩
        refine ⟨_, rfl, q x H4 ?_ D4 k4⟩
        unfold nameOk madeOf
        rw [ax, decide_eq_true (by omega : 0 < x.length), decide_eq_true (by omega : x.length ≤ 8)]
        rfl
def spWords (K : PySem.W.Frag) : Sp := fun vs H Q _ => ∃ (d a : Addr) (ns : List Int) (m : Int), vs = [.ref d, .int m] ∧ DrawAt K H d a ns ∧ 0 ≤ m ∧ m ≤ 6 ∧
  ∀ (L : Addr) (ws : List Str) (H' : Hp), ws.length = m.toNat → ws.Nodup → (∀ x ∈ ws, nameOk x = true) → H' L = some (.lst (ws.map .str)) → H L = none → DrawAt K H' d a ns → Keep d H H' → Q (.ref L) H'
theorem ok_words (T : Env K mg t) : FnOk P w K mg base CX0 4 t.a_l_words t.fd_l_words ["_law_draw", "_law_many"] (spWords K) := by
  have G_l_word : FnOk P w K mg base CX0 3 t.a_l_word t.fd_l_word ["_law_draw"] (spWord K) := ok_word T
  refine T.f_l_words.okQ sc_l_words (fun vs H Q E h => ?_) (fun cdv A outer s H vs Q E hr h => ?_)
  · obtain ⟨d, a, ns, m, rfl, _⟩ := h
    rfl
  · obtain ⟨d, a, ns, m, rfl, D, m0, m1, q⟩ := h
    have hr_l_word := hr
    refine ⟨_, (q_pss_cons (q_ps_set (i := 2) sc_l_words.nd rfl (by first | exact Or.inl rfl | exact Or.inr (Or.inl rfl) | exact Or.inr rfl) (q_pe_lst q_pa_nil))
      (q_pss_cons (q_ps_for PassesOwn.never rfl (q_pi_range1 (by rfl) T.z_range (q_pa_cons (q_pv 1) q_pa_nil star_Name)) (q_pg_name (i := 3) sc_l_words.nd rfl (by first | exact Or.inl rfl | exact Or.inr (Or.inl rfl) | exact Or.inr rfl))
      (q_pss_cons (q_ps_set (i := 4) sc_l_words.nd rfl (by first | exact Or.inl rfl | exact Or.inr (Or.inl rfl) | exact Or.inr rfl) (q_pe_call G_l_word hr_l_word (by rfl) T.mg_l_word T.kp_l_word T.b_l_word .nil pass0 (q_pa_cons (q_pv 0) q_pa_nil star_Name)))
      (q_pss_cons (q_ps_if (q_pt_cmpR op_in_seq (q_pv 4) (q_pv 2) (by rfl)) (q_pss_one (q_ps_set (i := 4) sc_l_words.nd rfl (by first | exact Or.inl rfl | exact Or.inr (Or.inl rfl) | exact Or.inr rfl) (q_pe_ix ix_list (q_pe_lc (own := [("_law_sign", 5)]) (g := gName 5) (by rfl) sc_l_words.nd (q_pi_str q_pe_str) (blkOk_by (own := [("_law_sign", 5)]) (N := ["_law_draw", "_law_many", "_law_found", "_law_k", "_law_word_here", "_law_sign"]) (sc := defScope s_l_words) (by decide +kernel)) (fun _ _ _ _ _ => (q_pg_name (i := 5) sc_l_words.nd rfl (by first | exact Or.inl rfl | exact Or.inr (Or.inl rfl) | exact Or.inr rfl))) (fun _ _ _ _ _ => (q_pts_one (q_pt_cmpR (op_notIn_seqK (K := K) rfl) (q_pe_op op_add_str (q_pe_slice sl_str (q_pv 4) q_po_none (q_po_some q_pe_int)) (q_pv 5)) (q_pv 2) (by rfl)))) (fun _ _ _ _ _ => (q_pe_op op_add_str (q_pe_slice sl_str (q_pv 4) q_po_none (q_po_some q_pe_int)) (q_pv 5)))) q_pe_int (fun _ _ => rfl)))) q_pss_nil)
      (q_pss_one (q_ps_expr (q_pe_bm PySem.F.plainAttrs_list PySem.F.slot_list_append PySem.F.type_list_append mt_append (q_pv 2) (q_pa_cons (q_pv 4) q_pa_nil star_Name)))))))
      (q_pss_one (q_ps_ret (q_pv 2))))), ?_⟩
    refine ⟨by decide, fun L hL => ?_⟩
    have D1 := D.same (same_new (o := .lst []) hL)
    have nL := D.ne hL
    refine ⟨_, rfl, m, rfl, by omega, by omega, ?_⟩
    refine for_range (lo := 0) (fun i σ H' => ∃ (o3 o4 o5 : Option V) (ws : List Str), σ = [some (.ref d), some (.int m), some (.ref L), o3, o4, o5] ∧ ws.length = i ∧ ws.Nodup ∧ (∀ x ∈ ws, nameOk x = true) ∧ H' L = some (.lst (ws.map .str)) ∧ DrawAt K H' d a ns ∧ Keep d H H') ?_ ?_ ?_
    · exact ⟨none, none, none, [], rfl, rfl, .nil, by simp, upd_same, D1, .of (same_new hL)⟩
    · rintro i σ H4 hi ⟨o3, o4, o5, ws, rfl, lw, nw, aw, h4, D4, k4⟩
      refine ⟨_, rfl, d, a, ns, rfl, D4, fun x H5 nx D5 k5 => ?_⟩
      have h5 := k5 _ _ h4 nL
      obtain ⟨x0, x1, x2⟩ := nameOk_iff.mp nx
      have lz : x.length ≤ sizeLine := Nat.le_of_lt (small1000 (by omega))
      have app : ∀ (y : Str) (H6 : Hp) (o3 o5 : Option V), nameOk y = true → y ∉ ws → H6 L = some (.lst (ws.map .str)) → DrawAt K H6 d a ns → Keep d H H6 →
        ∃ (o3' o4' o5' : Option V) (ws' : List Str), ([some (.ref d), some (.int m), some (.ref L), o3, some (.str y), o5] : St) = [some (.ref d), some (.int m), some (.ref L), o3', o4', o5'] ∧ ws'.length = i + 1 ∧ ws'.Nodup ∧ (∀ x ∈ ws', nameOk x = true) ∧ (upd H6 L (.lst (ws.map .str ++ [.str y]))) L = some (.lst (ws'.map .str)) ∧ DrawAt K (upd H6 L (.lst (ws.map .str ++ [.str y]))) d a ns ∧ Keep d H (upd H6 L (.lst (ws.map .str ++ [.str y]))) := by
        intro y H6 o3 o5 ny hy h6 D6 k6
        refine ⟨o3, _, o5, ws ++ [y], rfl, by rw [List.length_append, lw]; rfl, ?_, ?_, ?_, D6.upd nL (nofrz h6), k6.updNew hL⟩
        · rw [List.nodup_append]
          refine ⟨nw, by simp, ?_⟩
          intro b hb c hc e
          rw [List.mem_singleton] at hc
          subst hc; subst e
          exact hy hb
        · intro b hb
          rcases List.mem_append.mp hb with z | z
          · exact aw b z
          · rw [List.mem_singleton.mp z]; exact ny
        · rw [upd_same, List.map_append]; rfl
      refine ⟨_, rfl, _, rfl, L, _, rfl, .inl (SqL.of h5), rfl, flat_strs ws, _, rfl, ?_⟩
      rw [if_neg (by decide : ¬ (false = true)), inV_strs]
      refine ite2 (fun hin => ?_) (fun hin => ?_)
      · have hc7 : (cutS x none (some 7)).length ≤ x.length := len_cut x none (some 7)
        have l1 : ∀ c, (sgn c).length = 1 := fun c => rfl
        refine ⟨letters, rfl, fun L2 hL2 => ?_⟩
        have n2 : L2 ≠ L := (ne_of_none h5 hL2).symm
        refine lc_str (fun i H' => H' L2 = some (.lst (((letters.cps.toList.take i).filter fun c => !decide (cutS x none (some 7) ++ sgn c ∈ ws)).map fun c => .str (cutS x none (some 7) ++ sgn c))) ∧ Same H5 H') ?_ ?_ ?_
        · exact ⟨by rw [upd_same]; rfl, same_new hL2⟩
        · rintro j c H6 hc ⟨h6, s6⟩
          refine ⟨rfl, ?_⟩
          have lz7 : (cutS x none (some 7)).length + (sgn c).length ≤ sizeLine := Nat.le_of_lt (small1000 (by rw [l1]; omega))
          refine ⟨_, rfl, 7, rfl, x, rfl, lz, _, rfl, _, _, rfl, rfl, lz7, _, rfl, L, _, rfl, .inl (SqL.of (s6 _ _ h5)), rfl, flat_strs ws, _, rfl, ?_⟩
          rw [if_pos (by decide : (true = true)), inV_strs]
          refine ite2 (fun hb => ?_) (fun hb => ?_)
          · refine ⟨_, rfl, 7, rfl, x, rfl, lz, _, rfl, _, _, rfl, rfl, lz7, _, h6, small1000 ?_, ?_, fun b o e => ?_⟩
            · rw [List.length_map]
              have := List.length_filter_le (fun c => !decide (cutS x none (some 7) ++ sgn c ∈ ws)) (letters.cps.toList.take j)
              have := List.length_take_le' j letters.cps.toList
              rw [letters_len] at this
              omega
            · rw [upd_same, List.take_succ, hc, List.filter_append, List.map_append]
              show _ = some (HO.lst (_ ++ List.map _ (List.filter _ [c])))
              rw [List.filter_cons, if_pos hb]
              rfl
            · rw [upd_ne (ne_of_none e hL2)]
              exact s6 b o e
          · refine ⟨?_, s6⟩
            rw [h6, List.take_succ, hc, List.filter_append, List.map_append]
            show _ = some (HO.lst (_ ++ List.map _ (List.filter _ [c])))
            rw [List.filter_cons, if_neg hb]
            simp
        · rintro H6 ⟨h6, s6⟩
          rw [List.take_length] at h6
          have fs := free_sign (cutS x none (some 7)) ws (by omega)
          cases ef : (letters.cps.toList.filter fun c => !decide (cutS x none (some 7) ++ sgn c ∈ ws)) with
          | nil => exact absurd ef fs
          | cons c r =>
            rw [ef, List.map_cons] at h6
            have hm : c ∈ letters.cps.toList.filter fun c => !decide (cutS x none (some 7) ++ sgn c ∈ ws) := by rw [ef]; exact List.mem_cons_self
            obtain ⟨hm1, hm2⟩ := List.mem_filter.mp hm
            have hm3 : cutS x none (some 7) ++ sgn c ∉ ws := by simpa using hm2
            refine ⟨L2, _, 0, _, rfl, rfl, SqL.of h6, at_of (j := 0) (by decide) rfl, ?_⟩
            have h7 := s6 _ _ h5
            refine ⟨_, rfl, .inl ⟨rfl, _, SqL.of h7⟩, _, rfl, L, _, _, rfl, rfl, h7, small1000 (by rw [List.length_map]; omega), ?_⟩
            exact app _ H6 _ _ (nameOk_cut nx hm1) hm3 h7 (D5.same s6) ((k4.trans k5).trans (.of s6))
      · refine ⟨_, rfl, .inl ⟨rfl, _, SqL.of h5⟩, _, rfl, L, _, _, rfl, rfl, h5, small1000 (by rw [List.length_map]; omega), ?_⟩
        exact app x H5 _ _ nx (by simpa using hin) h5 D5 (k4.trans k5)
    · rintro σ H4 ⟨o3, o4, o5, ws, rfl, lw, nw, aw, h4, D4, k4⟩
      exact ⟨_, rfl, q L ws H4 lw nw aw h4 hL D4 k4⟩
end
end Ck
set_option Elab.async false
set_option linter.all false
set_option pp.maxSteps 1500
set_option maxRecDepth 100000
set_option maxHeartbeats 4000000
namespace Ck
open PySem L2
section
variable {P : Program} {w : World} {K : PySem.W.Frag} {mg : Str → Option Value} {base : Heap} {t : Ad}
def spMade : Sp := fun vs H Q _ => ∃ (x y : Str), vs = [.str x, .str y] ∧ x.length ≤ 1000 ∧ ∀ H', Same H H' → Q (.bl (madeOf x y)) H'
def spTx (f : Str → Bool) : Sp := fun vs H Q _ => ∃ (x : Str), vs = [.str x] ∧ x.length ≤ 1000 ∧ ∀ H', Same H H' → Q (.bl (f x)) H'
theorem ok_made (T : Env K mg t) : FnOk P w K mg base CX0 1 t.a_is_made_of t.fd_is_made_of ["text", "signs"] spMade := by
  refine T.f_is_made_of.okQ sc_is_made_of (fun vs H Q E h => ?_) (fun cdv A outer s H vs Q E hr h => ?_)
  · obtain ⟨x, y, rfl, _⟩ := h
    rfl
  · obtain ⟨x, y, rfl, hx, q⟩ := h
    have hz : x.length ≤ sizeLine := Nat.le_of_lt (small1000 hx)
    refine ⟨_, (q_pss_one (q_ps_ret (q_pe_and (q_pe_cmpR op_gt (q_pe_callB call_len_str (by rfl) T.z_len PySem.boot_len (q_pa_cons (q_pv 0) q_pa_nil star_Name)) q_pe_int (nomark _)) (q_pe_one (q_pe_callB (cr_all rfl) (by rfl) T.z_all (by decide +kernel) (q_pa_cons (q_pe_lc (own := [("sign", 2)]) (g := gName 2) (by rfl) sc_is_made_of.nd (q_pi_str (q_pv 0)) (blkOk_by (own := [("sign", 2)]) (N := ["text", "signs", "sign"]) (sc := defScope s_is_made_of) (by decide +kernel)) (fun _ _ _ _ _ => (q_pg_name (i := 2) sc_is_made_of.nd rfl (by first | exact Or.inl rfl | exact Or.inr (Or.inl rfl) | exact Or.inr rfl))) (fun _ _ _ _ _ => q_pts_nil) (fun _ _ _ _ _ => (q_pe_cmpR op_in_sign (q_pv 2) (q_pv 1) (by rfl)))) q_pa_nil star_ListComp)))))), ?_⟩
    refine ⟨_, rfl, x, rfl, hz, _, _, rfl, rfl, _, rfl, ?_⟩
    refine ite2 (fun h1 => ?_) (fun h1 => ?_)
    · have h0 : 0 < x.length := by simpa using h1
      refine ⟨_, rfl, x, rfl, fun L hL => ?_⟩
      refine lc_str (fun i H' => H' L = some (.lst ((x.cps.toList.take i).map fun c => .bl (decide (c ∈ y.cps.toList)))) ∧ Same H H') ?_ ?_ ?_
      · exact ⟨by rw [upd_same]; rfl, same_new hL⟩
      · rintro i c H1 hc ⟨h1, s1⟩
        refine ⟨rfl, yes_i ?_⟩
        refine ⟨_, rfl, _, rfl, c, y, rfl, rfl, ?_⟩
        refine ⟨_, h1, small1000 ?_, ?_, fun b o e => ?_⟩
        · rw [List.length_map, List.length_take, ← str_len]; omega
        · rw [upd_same, List.take_succ, hc, List.map_append]
          rfl
        · rw [upd_ne (ne_of_none e hL)]
          exact s1 b o e
      · rintro H1 ⟨h1, s1⟩
        rw [List.take_length] at h1
        refine ⟨L, x.cps.toList.map fun c => decide (c ∈ y.cps.toList), rfl, SqL.of (by rw [List.map_map]; exact h1), ?_⟩
        have e : (x.cps.toList.map fun c => decide (c ∈ y.cps.toList)).all id = madeOf x y := by
          unfold madeOf
          rw [List.all_map, decide_eq_true h0, Bool.true_and]
          rfl
        rw [e]
        exact q H1 s1
    · have h0 : ¬ 0 < x.length := by simpa using h1
      have e : madeOf x y = false := by unfold madeOf; rw [decide_eq_false h0, Bool.false_and]
      rw [← e]
      exact q H (Same.refl H)
theorem ok_isword (T : Env K mg t) : FnOk P w K mg base CX0 2 t.a_is_word t.fd_is_word ["text"] (spTx fun x => madeOf x letters) := by
  have G_is_made_of : FnOk P w K mg base CX0 1 t.a_is_made_of t.fd_is_made_of ["text", "signs"] spMade := ok_made T
  refine T.f_is_word.okQ sc_is_word (fun vs H Q E h => ?_) (fun cdv A outer s H vs Q E hr h => ?_)
  · obtain ⟨x, rfl, _⟩ := h
    rfl
  · obtain ⟨x, rfl, hx, q⟩ := h
    have hr_is_made_of := hr
    refine ⟨_, (q_pss_one (q_ps_ret (q_pe_and (q_pe_callB call_isinst (by rfl) T.z_isinstance (by decide +kernel) (q_pa_cons (q_pv 0) (q_pa_cons (q_pe_bltn (v := .ty "str") (by rfl) T.z_str (by decide +kernel) rfl) q_pa_nil star_Name) star_Name)) (q_pe_one (q_pe_call G_is_made_of hr_is_made_of (by rfl) T.mg_is_made_of T.kp_is_made_of T.b_is_made_of .nil pass0 (q_pa_cons (q_pv 0) (q_pa_cons (q_pe_glob (v := c_SMALL_LETTERS) (by rfl) T.mg_SMALL_LETTERS ⟨_, rfl⟩) q_pa_nil star_Name) star_Name)))))), ?_⟩
    refine ⟨_, rfl, _, "str", _, _, rfl, .str x, kit_same, _, rfl, iteT ?_⟩
    exact ⟨_, rfl, x, letters, rfl, hx, q⟩
theorem ok_name (T : Env K mg t) : FnOk P w K mg base CX0 3 t.a_is_name t.fd_is_name ["text"] (spTx nameOk) := by
  have G_is_word : FnOk P w K mg base CX0 2 t.a_is_word t.fd_is_word ["text"] (spTx fun x => madeOf x letters) := ok_isword T
  refine T.f_is_name.okQ sc_is_name (fun vs H Q E h => ?_) (fun cdv A outer s H vs Q E hr h => ?_)
  · obtain ⟨x, rfl, _⟩ := h
    rfl
  · obtain ⟨x, rfl, hx, q⟩ := h
    have hr_is_word := hr
    have hz : x.length ≤ sizeLine := Nat.le_of_lt (small1000 hx)
    refine ⟨_, (q_pss_one (q_ps_ret (q_pe_and (q_pe_call G_is_word hr_is_word (by rfl) T.mg_is_word T.kp_is_word T.b_is_word .nil pass0 (q_pa_cons (q_pv 0) q_pa_nil star_Name)) (q_pe_one (q_pe_cmpR op_le (q_pe_callB call_len_str (by rfl) T.z_len PySem.boot_len (q_pa_cons (q_pv 0) q_pa_nil star_Name)) (q_pe_glob (v := c_LONGEST_NAME) (by rfl) T.mg_LONGEST_NAME ⟨_, rfl⟩) (nomark _)))))), ?_⟩
    refine ⟨_, rfl, x, rfl, hx, fun H1 s1 => ⟨_, rfl, ?_⟩⟩
    refine ite2 (fun e => ?_) (fun e => ?_)
    · have e : madeOf x letters = true := e
      refine ⟨_, rfl, x, rfl, hz, _, _, rfl, rfl, ?_⟩
      have e2 : decide ((x.length : Int) ≤ 8) = nameOk x := by
        unfold nameOk
        rw [e, Bool.true_and]
        exact decide_eq_decide.mpr (by omega)
      show Q (.bl (decide ((x.length : Int) ≤ 8))) H1
      rw [e2]
      exact q H1 s1
    · have e : madeOf x letters = false := Bool.eq_false_iff.mpr e
      have e2 : nameOk x = false := by unfold nameOk; rw [e, Bool.false_and]
      rw [← e2]
      exact q H1 s1
def spNum : Sp := fun vs H Q _ => ∃ (v : V), vs = [v] ∧ ((∃ n : Int, v = .int n ∧ Q (.bl true) H) ∨ ∃ b : Bool, v = .bl b ∧ Q (.bl false) H)
theorem ok_num (T : Env K mg t) : FnOk P w K mg base CX0 1 t.a_is_number t.fd_is_number ["number"] spNum := by
  refine T.f_is_number.okQ sc_is_number (fun vs H Q E h => ?_) (fun cdv A outer s H vs Q E hr h => ?_)
  · obtain ⟨v, rfl, _⟩ := h
    rfl
  · obtain ⟨v, rfl, h⟩ := h
    refine ⟨_, (q_pss_one (q_ps_ret (q_pe_and (q_pe_callB call_isinst (by rfl) T.z_isinstance (by decide +kernel) (q_pa_cons (q_pv 0) (q_pa_cons (q_pe_bltn (v := .ty "int") (by rfl) T.z_int (by decide +kernel) rfl) q_pa_nil star_Name) star_Name)) (q_pe_one (q_pe_not (q_pe_callB call_isinst (by rfl) T.z_isinstance (by decide +kernel) (q_pa_cons (q_pv 0) (q_pa_cons (q_pe_bltn (v := .ty "bool") (by rfl) T.z_bool (by decide +kernel) rfl) q_pa_nil star_Name) star_Name))))))), ?_⟩
    rcases h with ⟨n, rfl, q⟩ | ⟨b, rfl, q⟩
    · refine ⟨_, rfl, _, "int", _, _, rfl, .int n, kit_same, _, rfl, iteT ?_⟩
      exact ⟨_, rfl, _, "bool", _, _, rfl, .int n, kit_int_bool, _, rfl, q⟩
    · refine ⟨_, rfl, _, "int", _, _, rfl, .bl b, kit_bool_int, _, rfl, iteT ?_⟩
      exact ⟨_, rfl, _, "bool", _, _, rfl, .bl b, kit_same, _, rfl, q⟩
def spWithin : Sp := fun vs H Q _ => ∃ (v : V) (lo hi : Int), vs = [v, .int lo, .int hi] ∧ ((∃ n : Int, v = .int n ∧ Q (.bl (decide (lo ≤ n) && decide (n ≤ hi))) H) ∨ ∃ b : Bool, v = .bl b ∧ Q (.bl false) H)
theorem ok_within (T : Env K mg t) : FnOk P w K mg base CX0 2 t.a_is_within t.fd_is_within ["number", "least", "most"] spWithin := by
  have G_is_number : FnOk P w K mg base CX0 1 t.a_is_number t.fd_is_number ["number"] spNum := ok_num T
  refine T.f_is_within.okQ sc_is_within (fun vs H Q E h => ?_) (fun cdv A outer s H vs Q E hr h => ?_)
  · obtain ⟨v, lo, hi, rfl, _⟩ := h
    rfl
  · obtain ⟨v, lo, hi, rfl, h⟩ := h
    have hr_is_number := hr
    refine ⟨_, (q_pss_one (q_ps_ret (q_pe_and (q_pe_call G_is_number hr_is_number (by rfl) T.mg_is_number T.kp_is_number T.b_is_number .nil pass0 (q_pa_cons (q_pv 0) q_pa_nil star_Name)) (q_pe_one (q_pe_chain op_le op_le (q_pv 1) (q_pv 0) (q_pv 2)))))), ?_⟩
    rcases h with ⟨n, rfl, q⟩ | ⟨b, rfl, q⟩
    · refine ⟨_, rfl, _, rfl, .inl ⟨n, rfl, _, rfl, iteT ?_⟩⟩
      refine ⟨_, rfl, _, rfl, _, _, rfl, rfl, _, rfl, ?_⟩
      refine ite2 (fun h1 => ?_) (fun h1 => ?_)
      · rw [h1, Bool.true_and] at q
        exact ⟨_, rfl, _, _, rfl, rfl, q⟩
      · rw [Bool.eq_false_iff.mpr h1, Bool.false_and] at q
        exact q
    · exact ⟨_, rfl, _, rfl, .inr ⟨b, rfl, _, rfl, iteF q⟩⟩
def spTo (hi : Int) : Sp := fun vs H Q _ => ∃ v : V, vs = [v] ∧ ((∃ n : Int, v = .int n ∧ Q (.bl (decide (0 ≤ n) && decide (n ≤ hi))) H) ∨ ∃ b : Bool, v = .bl b ∧ Q (.bl false) H)
theorem ok_day (T : Env K mg t) : FnOk P w K mg base CX0 3 t.a_is_day t.fd_is_day ["number"] (spTo 9999) := by
  have G_is_within : FnOk P w K mg base CX0 2 t.a_is_within t.fd_is_within ["number", "least", "most"] spWithin := ok_within T
  refine T.f_is_day.okQ sc_is_day (fun vs H Q E h => ?_) (fun cdv A outer s H vs Q E hr h => ?_)
  · obtain ⟨v, rfl, _⟩ := h
    rfl
  · obtain ⟨v, rfl, h⟩ := h
    have hr_is_within := hr
    refine ⟨_, (q_pss_one (q_ps_ret (q_pe_call G_is_within hr_is_within (by rfl) T.mg_is_within T.kp_is_within T.b_is_within .nil pass0 (q_pa_cons (q_pv 0) (q_pa_cons q_pe_int (q_pa_cons (q_pe_glob (v := c_MOST_DAY) (by rfl) T.mg_MOST_DAY ⟨_, rfl⟩) q_pa_nil star_Name) star_Constant) star_Name)))), ?_⟩
    exact ⟨_, rfl, v, 0, 9999, rfl, h⟩
theorem ok_wth (T : Env K mg t) : FnOk P w K mg base CX0 3 t.a_is_worth t.fd_is_worth ["number"] (spTo 1000000) := by
  have G_is_within : FnOk P w K mg base CX0 2 t.a_is_within t.fd_is_within ["number", "least", "most"] spWithin := ok_within T
  refine T.f_is_worth.okQ sc_is_worth (fun vs H Q E h => ?_) (fun cdv A outer s H vs Q E hr h => ?_)
  · obtain ⟨v, rfl, _⟩ := h
    rfl
  · obtain ⟨v, rfl, h⟩ := h
    have hr_is_within := hr
    refine ⟨_, (q_pss_one (q_ps_ret (q_pe_call G_is_within hr_is_within (by rfl) T.mg_is_within T.kp_is_within T.b_is_within .nil pass0 (q_pa_cons (q_pv 0) (q_pa_cons q_pe_int (q_pa_cons (q_pe_glob (v := c_MOST_WORTH) (by rfl) T.mg_MOST_WORTH ⟨_, rfl⟩) q_pa_nil star_Name) star_Constant) star_Name)))), ?_⟩
    exact ⟨_, rfl, v, 0, 1000000, rfl, h⟩
def spCkName : Sp := fun vs H Q _ => ∃ x : Str, vs = [.str x] ∧ nameOk x = true ∧ ∀ H', Same H H' → Q .non H'
theorem ok_ckname (T : Env K mg t) : FnOk P w K mg base CX0 4 t.a_check_name t.fd_check_name ["text"] spCkName := by
  have G_is_name : FnOk P w K mg base CX0 3 t.a_is_name t.fd_is_name ["text"] (spTx nameOk) := ok_name T
  refine T.f_check_name.okQ sc_check_name (fun vs H Q E h => ?_) (fun cdv A outer s H vs Q E hr h => ?_)
  · obtain ⟨x, rfl, _⟩ := h
    rfl
  · obtain ⟨x, rfl, nx, q⟩ := h
    have hr_is_name := hr
    refine ⟨_, (q_pss_one (q_ps_if (q_pt_not (q_pt_val (q_pe_call G_is_name hr_is_name (by rfl) T.mg_is_name T.kp_is_name T.b_is_name .nil pass0 (q_pa_cons (q_pv 0) q_pa_nil star_Name)))) (q_pss_one q_ps_never) q_pss_nil)), ?_⟩
    have := (nameOk_iff.mp nx).2.1
    refine ⟨_, rfl, x, rfl, by omega, fun H1 s1 => ?_⟩
    exact ⟨_, rfl, iteN nx (q H1 s1)⟩
def spCkTo (hi : Int) : Sp := fun vs H Q _ => ∃ n : Int, vs = [.int n] ∧ 0 ≤ n ∧ n ≤ hi ∧ Q .non H
theorem ok_ckday (T : Env K mg t) : FnOk P w K mg base CX0 4 t.a_check_day t.fd_check_day ["number"] (spCkTo 9999) := by
  have G_is_day : FnOk P w K mg base CX0 3 t.a_is_day t.fd_is_day ["number"] (spTo 9999) := ok_day T
  refine T.f_check_day.okQ sc_check_day (fun vs H Q E h => ?_) (fun cdv A outer s H vs Q E hr h => ?_)
  · obtain ⟨n, rfl, _⟩ := h
    rfl
  · obtain ⟨n, rfl, n0, n1, q⟩ := h
    have hr_is_day := hr
    refine ⟨_, (q_pss_one (q_ps_if (q_pt_not (q_pt_val (q_pe_call G_is_day hr_is_day (by rfl) T.mg_is_day T.kp_is_day T.b_is_day .nil pass0 (q_pa_cons (q_pv 0) q_pa_nil star_Name)))) (q_pss_one q_ps_never) q_pss_nil)), ?_⟩
    refine ⟨_, rfl, _, rfl, .inl ⟨n, rfl, ?_⟩⟩
    rw [decide_eq_true n0, decide_eq_true n1]
    exact ⟨_, rfl, iteN rfl q⟩
theorem ok_ckwth (T : Env K mg t) : FnOk P w K mg base CX0 4 t.a_check_worth t.fd_check_worth ["number"] (spCkTo 1000000) := by
  have G_is_worth : FnOk P w K mg base CX0 3 t.a_is_worth t.fd_is_worth ["number"] (spTo 1000000) := ok_wth T
  refine T.f_check_worth.okQ sc_check_worth (fun vs H Q E h => ?_) (fun cdv A outer s H vs Q E hr h => ?_)
  · obtain ⟨n, rfl, _⟩ := h
    rfl
  · obtain ⟨n, rfl, n0, n1, q⟩ := h
    have hr_is_worth := hr
    refine ⟨_, (q_pss_one (q_ps_if (q_pt_not (q_pt_val (q_pe_call G_is_worth hr_is_worth (by rfl) T.mg_is_worth T.kp_is_worth T.b_is_worth .nil pass0 (q_pa_cons (q_pv 0) q_pa_nil star_Name)))) (q_pss_one q_ps_never) q_pss_nil)), ?_⟩
    refine ⟨_, rfl, _, rfl, .inl ⟨n, rfl, ?_⟩⟩
    rw [decide_eq_true n0, decide_eq_true n1]
    exact ⟨_, rfl, iteN rfl q⟩
end
end Ck
set_option Elab.async false
set_option linter.all false
set_option pp.maxSteps 1500
set_option maxRecDepth 100000
set_option maxHeartbeats 4000000
namespace Ck
open PySem L2
section
variable {P : Program} {w : World} {K : PySem.W.Frag} {mg : Str → Option Value} {base : Heap} {t : Ad}
def spCInit (C : Addr) : Sp := fun vs H Q _ => ∃ (x dx : Addr), vs = [.ref x] ∧ H x = some (.ins C dx []) ∧ ∀ L H', CallsAt C H' x L [] → H L = none → Keep x H H' → Q .non H'
theorem ok_cinit (T : Env K mg t) : FnOk P w K mg base CX0 1 t.a_Calls_init t.fd_Calls_init ["self"] (spCInit t.C_Calls) := by
  refine T.f_Calls_init.okQ sc_Calls_init (fun vs H Q E h => ?_) (fun cdv A outer s H vs Q E hr h => ?_)
  · obtain ⟨x, dx, rfl, _⟩ := h
    rfl
  · obtain ⟨x, dx, rfl, hx, q⟩ := h
    refine ⟨_, (q_pss_one (q_ps_fld (q_pv 0) (q_pe_lst q_pa_nil) rfl)), ?_⟩
    refine ⟨by decide, fun L hL => ?_⟩
    have s1 := same_new (o := .lst []) hL
    have nL : L ≠ x := (ne_of_none hx hL).symm
    refine ⟨_, rfl, x, _, dx, _, rfl, s1 _ _ hx, T.cl_Calls, T.no_Calls_rows, (by show 0 < 1000; decide), ?_⟩
    refine q L _ ⟨dx, [], upd_same, by rw [upd_ne nL]; exact upd_same, .nil _⟩ hL ?_
    intro b o e nb
    rw [upd_ne nb]
    exact s1 b o e
def spTell (C : Addr) : Sp := fun vs H Q _ => ∃ (x L : Addr) (tn kd : Str) (d v : Int) (rows : List CRow), vs = [.ref x, .str tn, .str kd, .int d, .int v] ∧ CallsAt C H x L rows ∧ nameOk tn = true ∧ nameOk kd = true ∧ 0 ≤ d ∧ d ≤ 9999 ∧ 0 ≤ v ∧ v ≤ 1000000 ∧ rows.length < 300 ∧
  ∀ H', CallsAt C H' x L (rows ++ [(tn, kd, d, v)]) → Keep L H H' → Q (.int (rows.length + 1)) H'
theorem ok_tell (T : Env K mg t) : FnOk P w K mg base CX0 5 t.a_Calls_tell t.fd_Calls_tell ["self", "town", "kind", "day", "worth"] (spTell t.C_Calls) := by
  have G_check_name : FnOk P w K mg base CX0 4 t.a_check_name t.fd_check_name ["text"] spCkName := ok_ckname T
  have G_check_day : FnOk P w K mg base CX0 4 t.a_check_day t.fd_check_day ["number"] (spCkTo 9999) := ok_ckday T
  have G_check_worth : FnOk P w K mg base CX0 4 t.a_check_worth t.fd_check_worth ["number"] (spCkTo 1000000) := ok_ckwth T
  refine T.f_Calls_tell.okQ sc_Calls_tell (fun vs H Q E h => ?_) (fun cdv A outer s H vs Q E hr h => ?_)
  · obtain ⟨x, L, tn, kd, d, v, rows, rfl, _⟩ := h
    rfl
  · obtain ⟨x, L, tn, kd, d, v, rows, rfl, c, nt, nk, d0, d1, v0, v1, hl, q⟩ := h
    have hr_check_name := hr
    have hr_check_day := hr
    have hr_check_worth := hr
    refine ⟨_, (q_pss_cons (q_ps_expr (q_pe_call G_check_name hr_check_name (by rfl) T.mg_check_name T.kp_check_name T.b_check_name .nil pass0 (q_pa_cons (q_pv 1) q_pa_nil star_Name)))
      (q_pss_cons (q_ps_expr (q_pe_call G_check_name hr_check_name (by rfl) T.mg_check_name T.kp_check_name T.b_check_name .nil pass0 (q_pa_cons (q_pv 2) q_pa_nil star_Name)))
      (q_pss_cons (q_ps_expr (q_pe_call G_check_day hr_check_day (by rfl) T.mg_check_day T.kp_check_day T.b_check_day .nil pass0 (q_pa_cons (q_pv 3) q_pa_nil star_Name)))
      (q_pss_cons (q_ps_expr (q_pe_call G_check_worth hr_check_worth (by rfl) T.mg_check_worth T.kp_check_worth T.b_check_worth .nil pass0 (q_pa_cons (q_pv 4) q_pa_nil star_Name)))
      (q_pss_cons (q_ps_if (q_pt_cmpR op_ge (q_pe_callB call_len_seq (by rfl) T.z_len PySem.boot_len (q_pa_cons (q_pe_fld (q_pv 0) rfl) q_pa_nil star_Attribute)) (q_pe_glob (v := c_MOST_TELLINGS) (by rfl) T.mg_MOST_TELLINGS ⟨_, rfl⟩) (nomark _)) (q_pss_one q_ps_never) q_pss_nil)
      (q_pss_cons (q_ps_expr (q_pe_bm PySem.F.plainAttrs_list PySem.F.slot_list_append PySem.F.type_list_append mt_append (q_pe_fld (q_pv 0) rfl) (q_pa_cons (q_pe_tup (q_pa_cons (q_pv 1) (q_pa_cons (q_pv 2) (q_pa_cons (q_pv 3) (q_pa_cons (q_pv 4) q_pa_nil star_Name) star_Name) star_Name) star_Name)) q_pa_nil star_Tuple)))
      (q_pss_one (q_ps_ret (q_pe_callB call_len_seq (by rfl) T.z_len PySem.boot_len (q_pa_cons (q_pe_fld (q_pv 0) rfl) q_pa_nil star_Attribute)))))))))), ?_⟩
    refine ⟨_, rfl, tn, rfl, nt, fun H1 s1 => ⟨_, rfl, kd, rfl, nk, fun H2 s2 => ?_⟩⟩
    have s2 := s1.trans s2
    refine ⟨_, rfl, d, rfl, d0, d1, _, rfl, v, rfl, v0, v1, ?_⟩
    obtain ⟨dx, rs, hx, hL, ra⟩ := c.same s2
    have lr := ra.len
    refine ⟨_, rfl, x, _, dx, _, _, rfl, hx, T.cl_Calls, T.no_Calls_rows, rfl, L, _, rfl, .inl (SqL.of hL), _, _, rfl, rfl, ?_⟩
    refine ⟨_, rfl, ?_⟩
    rw [decide_eq_false (by rw [List.length_map]; omega)]
    refine iteF ?_
    refine ⟨_, rfl, x, _, dx, _, _, rfl, hx, T.cl_Calls, T.no_Calls_rows, rfl, .inl ⟨rfl, _, SqL.of hL⟩, ?_⟩
    refine ⟨_, rfl, _, rfl, _, rfl, _, rfl, (by show 4 ≤ sizeLine; decide), fun r hr' => ?_⟩
    have s3 := same_new (o := .tup [V.str tn, V.str kd, V.int d, V.int v]) hr'
    refine ⟨L, _, _, rfl, rfl, s3 _ _ hL, small1000 (by rw [List.length_map]; omega), ?_⟩
    have hx3 := s3 _ _ hx
    have nx : x ≠ L := fun e => by rw [e, hL] at hx; cases hx
    have t4 : Tups (upd H2 r (.tup [V.str tn, V.str kd, V.int d, V.int v])) (upd (upd H2 r (.tup [V.str tn, V.str kd, V.int d, V.int v])) L (.lst (rs.map V.ref ++ [V.ref r]))) := Tups.upd (s3 _ _ hL)
    have c4 : CallsAt t.C_Calls (upd (upd H2 r (.tup [V.str tn, V.str kd, V.int d, V.int v])) L (.lst (rs.map V.ref ++ [V.ref r]))) x L (rows ++ [(tn, kd, d, v)]) := by
      refine ⟨dx, rs ++ [r], by rw [upd_ne nx]; exact hx3, by rw [upd_same, List.map_append]; rfl, ?_⟩
      exact ((ra.mono (.same s3)).mono t4).snoc (t4 _ _ upd_same)
    obtain ⟨dx', rs', hx', hL', ra'⟩ := id c4
    refine ⟨_, rfl, x, _, dx', _, _, rfl, hx', T.cl_Calls, T.no_Calls_rows, rfl, L, _, rfl, .inl (SqL.of hL'), ?_⟩
    have e : ((rs'.map V.ref).length : Int) = (rows.length : Int) + 1 := by
      rw [List.length_map, ra'.len, List.length_append]; rfl
    rw [e]
    refine q _ c4 ?_
    intro b o eb nb
    rw [upd_ne nb]
    exact s3 _ _ (s2 b o eb)
def spTellings (C : Addr) : Sp := fun vs H Q _ => ∃ (x L : Addr) (kn : V) (rows rows' : List CRow), vs = [.ref x, kn] ∧ CallsAt C H x L rows ∧ Known kn rows rows' ∧
  ∀ L' rs' H', H' L' = some (.lst (rs'.map V.ref)) → RowsAt H' rs' rows' → H L' = none → Same H H' → Q (.ref L') H'
theorem ok_tellings (T : Env K mg t) : FnOk P w K mg base CX0 3 t.a_Calls_tellings t.fd_Calls_tellings ["self", "known"] (spTellings t.C_Calls) := by
  have G_is_within : FnOk P w K mg base CX0 2 t.a_is_within t.fd_is_within ["number", "least", "most"] spWithin := ok_within T
  refine T.f_Calls_tellings.okQ sc_Calls_tellings (fun vs H Q E h => ?_) (fun cdv A outer s H vs Q E hr h => ?_)
  · obtain ⟨x, L, kn, rows, rows', rfl, _⟩ := h
    rfl
  · obtain ⟨x, L, kn, rows, rows', rfl, c, kk, q⟩ := h
    have hr_is_within := hr
    refine ⟨_, (q_pss_cons (q_ps_if (q_pt_cmpR op_isN (q_pv 1) q_pe_non (nomark _)) (q_pss_one (q_ps_ret (q_pe_callTy call_list_of (by rfl) T.z_list (by decide +kernel) (q_pa_cons (q_pe_fld (q_pv 0) rfl) q_pa_nil star_Attribute)))) q_pss_nil)
      (q_pss_cons (q_ps_if (q_pt_not (q_pt_val (q_pe_call G_is_within hr_is_within (by rfl) T.mg_is_within T.kp_is_within T.b_is_within .nil pass0 (q_pa_cons (q_pv 1) (q_pa_cons q_pe_int (q_pa_cons (q_pe_callB call_len_seq (by rfl) T.z_len PySem.boot_len (q_pa_cons (q_pe_fld (q_pv 0) rfl) q_pa_nil star_Attribute)) q_pa_nil star_Call) star_Constant) star_Name)))) (q_pss_one q_ps_never) q_pss_nil)
      (q_pss_one (q_ps_ret (q_pe_slice sl_list (q_pe_fld (q_pv 0) rfl) q_po_none (q_po_some (q_pv 1))))))), ?_⟩
    obtain ⟨dx, rs, hx, hL, ra⟩ := id c
    rcases kk with ⟨rfl, rfl⟩ | ⟨m, rfl, m0, m1, rfl⟩
    · refine ⟨_, rfl, rfl, _, rfl, iteT ?_⟩
      refine ⟨_, rfl, x, _, dx, _, _, rfl, hx, T.cl_Calls, T.no_Calls_rows, rfl, L, _, rfl, .inl (SqL.of hL), fun p hp => ?_⟩
      exact q p rs _ upd_same (ra.mono (.same (same_new hp))) hp (same_new hp)
    · refine ⟨_, rfl, rfl, _, rfl, iteF ?_⟩
      refine ⟨_, rfl, _, rfl, x, _, dx, _, _, rfl, hx, T.cl_Calls, T.no_Calls_rows, rfl, L, _, rfl, .inl (SqL.of hL), .int m, 0, _, rfl, .inl ⟨m, rfl, ?_⟩⟩
      rw [decide_eq_true m0, decide_eq_true (by rw [List.length_map, ra.len]; exact m1)]
      refine ⟨_, rfl, iteN rfl ?_⟩
      refine ⟨_, rfl, x, _, dx, _, _, rfl, hx, T.cl_Calls, T.no_Calls_rows, rfl, _, rfl, m, rfl, L, _, rfl, SqL.of hL, fun p hp => ?_⟩
      refine q p (rs.take m.toNat) _ ?_ ((ra.mono (.same (same_new hp))).take _) hp (same_new hp)
      rw [upd_same, List.map_take, cut_take (by omega)]
end
end Ck
set_option Elab.async false
set_option linter.all false
set_option pp.maxSteps 1500
set_option maxRecDepth 100000
set_option maxHeartbeats 4000000
namespace Ck
open PySem L2
section
variable {P : Program} {w : World} {K : PySem.W.Frag} {mg : Str → Option Value} {base : Heap} {t : Ad}
def spByDay (C : Addr) : Sp := fun vs H Q _ => ∃ (x L : Addr) (tn kd : Str) (kn : V) (rows rows' : List CRow), vs = [.ref x, .str tn, .str kd, kn] ∧ CallsAt C H x L rows ∧ Known kn rows rows' ∧ rows.length ≤ 300 ∧
  ∀ d kvs H', H' d = some (.dK kvs) → DOf kvs rows' tn kd → H d = none → Same H H' → Q (.ref d) H'
theorem Known.len {kn : V} {rows rows' : List CRow} (k : Known kn rows rows') : rows'.length ≤ rows.length := by
  rcases k with ⟨_, rfl⟩ | ⟨m, _, _, _, rfl⟩
  · exact Nat.le_refl _
  · exact List.length_take_le' _ _
theorem ok_byday (T : Env K mg t) : FnOk P w K mg base CX0 4 t.a_Calls_worths_by_day t.fd_Calls_worths_by_day ["self", "town", "kind", "known"] (spByDay t.C_Calls) := by
  have G_Calls_tellings : FnOk P w K mg base CX0 3 t.a_Calls_tellings t.fd_Calls_tellings ["self", "known"] (spTellings t.C_Calls) := ok_tellings T
  refine T.f_Calls_worths_by_day.okQ sc_Calls_worths_by_day (fun vs H Q E h => ?_) (fun cdv A outer s H vs Q E hr h => ?_)
  · obtain ⟨x, L, tn, kd, kn, rows, rows', rfl, _⟩ := h
    rfl
  · obtain ⟨x, L, tn, kd, kn, rows, rows', rfl, c, kk, hl, q⟩ := h
    have hr_Calls_tellings := hr
    have hu := hu_of hr
    refine ⟨_, (q_pss_cons (q_ps_set (i := 4) sc_Calls_worths_by_day.nd rfl (by first | exact Or.inl rfl | exact Or.inr (Or.inl rfl) | exact Or.inr rfl) q_pe_dnewK)
      (q_pss_cons (q_ps_for PassesOwn.never rfl (q_pi_list (q_pe_meth (q_pv 0) T.cl_Calls T.m_Calls_tellings G_Calls_tellings hr_Calls_tellings T.b_Calls_tellings .nil pass0 (q_pa_cons (q_pv 3) q_pa_nil star_Name))) (q_pg_tup (by rfl) (q_pgs_cons (q_pg_name (i := 5) sc_Calls_worths_by_day.nd rfl (by first | exact Or.inl rfl | exact Or.inr (Or.inl rfl) | exact Or.inr rfl)) (q_pgs_cons (q_pg_name (i := 6) sc_Calls_worths_by_day.nd rfl (by first | exact Or.inl rfl | exact Or.inr (Or.inl rfl) | exact Or.inr rfl)) (q_pgs_cons (q_pg_name (i := 7) sc_Calls_worths_by_day.nd rfl (by first | exact Or.inl rfl | exact Or.inr (Or.inl rfl) | exact Or.inr rfl)) (q_pgs_cons (q_pg_name (i := 8) sc_Calls_worths_by_day.nd rfl (by first | exact Or.inl rfl | exact Or.inr (Or.inl rfl) | exact Or.inr rfl)) q_pgs_nil)))))
      (q_pss_one (q_ps_if (QW.pt (q_pw_and (q_pt_cmpR op_eq (q_pv 5) (q_pv 1) (nomark _)) (q_pw_and1 (q_pt_cmpR op_eq (q_pv 6) (q_pv 2) (nomark _))))) (q_pss_one (q_ps_dput hu (q_pv 4) (q_pv 7) (q_pv 8) rfl)) q_pss_nil)))
      (q_pss_one (q_ps_ret (q_pv 4))))), ?_⟩
    intro d hd
    have s1 := same_new (o := .dK []) hd
    obtain ⟨dx, rs, hx, hL, ra⟩ := c.same s1
    refine ⟨_, rfl, x, dx, _, rfl, hx, rfl, _, rfl, x, L, kn, rows, rows', rfl, c.same s1, kk, fun L' rs' H2 h2 ra2 n2 s2 => ?_⟩
    have hd2 : H2 d = some (.dK []) := s2 _ _ upd_same
    have nLd : L' ≠ d := fun e => by rw [e, upd_same] at n2; cases n2
    have hl' : rows'.length ≤ 300 := by have := kk.len; omega
    refine ⟨L', rfl, ⟨_, SqL.of h2⟩, ?_⟩
    refine for_list (xs := rs'.map V.ref) (fun i σ H' => ∃ (o5 o6 o7 o8 : Option V), σ = [some (.ref x), some (.str tn), some (.str kd), some kn, some (.ref d), o5, o6, o7, o8] ∧ (∃ kvs, H' d = some (.dK kvs) ∧ DOf kvs (rows'.take i) tn kd) ∧ Keep d H2 H') ?_ ?_ ?_ ?_
    · exact ⟨none, none, none, none, rfl, ⟨[], hd2, .nil _ _⟩, .refl _ _⟩
    · rintro i σ H3 hi ⟨o5, o6, o7, o8, rfl, _, k3⟩
      exact SqL.of (k3 _ _ h2 nLd)
    · rintro i y σ H3 hy ⟨o5, o6, o7, o8, rfl, ⟨kvs, h3, D3⟩, k3⟩
      obtain ⟨r, hr', rfl⟩ := ref_at hy
      obtain ⟨u, hu', e⟩ := ra2.at_ i r hr'
      have nr : r ≠ d := fun z => by rw [z, hd2] at e; cases e
      have e3 := k3 _ _ e nr
      have et : rows'.take (i + 1) = rows'.take i ++ [u] := by rw [List.take_succ, hu']; rfl
      refine ⟨r, _, rfl, SqT.of e3, rfl, _, _, rfl, _, _, rfl, _, _, rfl, _, _, rfl, rfl, ?_⟩
      refine ⟨_, rfl, _, rfl, rfl, _, rfl, ?_⟩
      have skip : ¬ (u.1 = tn ∧ u.2.1 = kd) → ∃ (o5 o6 o7 o8 : Option V), ([some (.ref x), some (.str tn), some (.str kd), some kn, some (.ref d), some (.str u.1), some (.str u.2.1), some (.int u.2.2.1), some (.int u.2.2.2)] : St) = [some (.ref x), some (.str tn), some (.str kd), some kn, some (.ref d), o5, o6, o7, o8] ∧ (∃ kvs, H3 d = some (.dK kvs) ∧ DOf kvs (rows'.take (i + 1)) tn kd) ∧ Keep d H2 H3 := fun h =>
        ⟨_, _, _, _, rfl, ⟨kvs, h3, by rw [et]; exact D3.skip u h⟩, k3⟩
      refine ite2 (fun h1 => ?_) (fun h1 => ?_)
      · have h1 : u.1 = tn := by simpa using h1
        refine ⟨_, rfl, _, rfl, rfl, _, rfl, ?_⟩
        refine ite2 (fun h2 => ?_) (fun h2 => ?_)
        · have h2' : u.2.1 = kd := by simpa using h2
          refine ⟨_, rfl, _, rfl, _, rfl, d, _, rfl, DPut.k (k := .inl u.2.2.1) h3 (small1000 ?_), ?_⟩
          · have := D3.len
            have := List.length_take_le' i rows'
            omega
          · refine ⟨_, _, _, _, rfl, ⟨_, upd_same, by rw [et]; exact D3.put u h1 h2'⟩, fun b o eb nb => ?_⟩
            rw [upd_ne nb]
            exact k3 b o eb nb
        · exact skip fun z => h2 (by simpa using z.2)
      · exact skip fun z => h1 (by simpa using z.1)
    · rintro σ H3 ⟨o5, o6, o7, o8, rfl, ⟨kvs, h3, D3⟩, k3⟩
      rw [List.length_map, ra2.len, List.take_length] at D3
      refine ⟨_, rfl, q d kvs H3 h3 D3 hd ?_⟩
      intro b o eb
      exact k3 b o (s2 _ _ (s1 _ _ eb)) (ne_of_none eb hd)
end
end Ck
set_option Elab.async false
set_option linter.all false
set_option pp.maxSteps 1500
set_option maxRecDepth 100000
set_option maxHeartbeats 4000000
namespace Ck
open PySem L2
section
variable {P : Program} {w : World} {K : PySem.W.Frag} {mg : Str → Option Value} {base : Heap} {t : Ad}
def spWorth (C : Addr) : Sp := fun vs H Q _ => ∃ (x L : Addr) (tn kd : Str) (day : Int) (kn : V) (rows rows' : List CRow), vs = [.ref x, .str tn, .str kd, .int day, kn] ∧ CallsAt C H x L rows ∧ Known kn rows rows' ∧ rows.length ≤ 300 ∧ nameOk tn = true ∧ nameOk kd = true ∧ 0 ≤ day ∧ day ≤ 9999 ∧
  ∀ r H', IsWorth rows' tn kd day r → Same H H' → Q (.int r) H'
theorem ok_worth (T : Env K mg t) : FnOk P w K mg base CX0 5 t.a_Calls_worth t.fd_Calls_worth ["self", "town", "kind", "day", "known"] (spWorth t.C_Calls) := by
  have G_check_name : FnOk P w K mg base CX0 4 t.a_check_name t.fd_check_name ["text"] spCkName := ok_ckname T
  have G_check_day : FnOk P w K mg base CX0 4 t.a_check_day t.fd_check_day ["number"] (spCkTo 9999) := ok_ckday T
  have G_Calls_worths_by_day : FnOk P w K mg base CX0 4 t.a_Calls_worths_by_day t.fd_Calls_worths_by_day ["self", "town", "kind", "known"] (spByDay t.C_Calls) := ok_byday T
  refine T.f_Calls_worth.okQ sc_Calls_worth (fun vs H Q E h => ?_) (fun cdv A outer s H vs Q E hr h => ?_)
  · obtain ⟨x, L, tn, kd, day, kn, rows, rows', rfl, _⟩ := h
    rfl
  · obtain ⟨x, L, tn, kd, day, kn, rows, rows', rfl, c, kk, hl, nt, nk, d0, d1, q⟩ := h
    have hr_check_name := hr
    have hr_check_day := hr
    have hr_Calls_worths_by_day := hr
    have hu := hu_of hr
    refine ⟨_, (q_pss_cons (q_ps_expr (q_pe_call G_check_name hr_check_name (by rfl) T.mg_check_name T.kp_check_name T.b_check_name .nil pass0 (q_pa_cons (q_pv 1) q_pa_nil star_Name)))
      (q_pss_cons (q_ps_expr (q_pe_call G_check_name hr_check_name (by rfl) T.mg_check_name T.kp_check_name T.b_check_name .nil pass0 (q_pa_cons (q_pv 2) q_pa_nil star_Name)))
      (q_pss_cons (q_ps_expr (q_pe_call G_check_day hr_check_day (by rfl) T.mg_check_day T.kp_check_day T.b_check_day .nil pass0 (q_pa_cons (q_pv 3) q_pa_nil star_Name)))
      (q_pss_cons (q_ps_set (i := 5) sc_Calls_worth.nd rfl (by first | exact Or.inl rfl | exact Or.inr (Or.inl rfl) | exact Or.inr rfl) (q_pe_meth (q_pv 0) T.cl_Calls T.m_Calls_worths_by_day G_Calls_worths_by_day hr_Calls_worths_by_day T.b_Calls_worths_by_day .nil pass0 (q_pa_cons (q_pv 1) (q_pa_cons (q_pv 2) (q_pa_cons (q_pv 4) q_pa_nil star_Name) star_Name) star_Name)))
      (q_pss_cons (q_ps_lock (q_ps_setLc (i := 6) (own := [("told", 7)]) (g := gName 7) (by rfl) sc_Calls_worth.nd rfl rfl (sw_true rfl rfl rfl (by decide +kernel)) (q_pi_keys (q_pv 5)) (blkOk_by (own := [("told", 7)]) (N := ["self", "town", "kind", "day", "known", "worths", "told_days", "told"]) (sc := defScope s_Calls_worth) (by decide +kernel)) (fun _ _ _ _ _ => (q_pg_name (i := 7) sc_Calls_worth.nd rfl (by first | exact Or.inl rfl | exact Or.inr (Or.inl rfl) | exact Or.inr rfl))) (fun _ _ _ _ _ => (q_pts_one (q_pt_cmpR op_le (q_pv 7) (q_pv 3) (nomark _)))) (fun _ _ _ _ _ => (q_pv 7))))
      (q_pss_one (q_ps_ret (q_pe_ifExp (q_pt_truth (q_pv 6) (by intro _; rfl)) (q_pe_dget hu (q_pv 5) (q_pe_callB (cr_max rfl) (by rfl) T.z_max (by decide +kernel) (q_pa_cons (q_pv 6) q_pa_nil star_Name)) (fun _ _ => rfl)) q_pe_int)))))))), ?_⟩
    refine ⟨_, rfl, tn, rfl, nt, fun H1 s1 => ⟨_, rfl, kd, rfl, nk, fun H2 s2 => ?_⟩⟩
    have s2 := s1.trans s2
    refine ⟨_, rfl, day, rfl, d0, d1, ?_⟩
    have c2 := c.same s2
    obtain ⟨dx, rs, hx, hL, ra⟩ := id c2
    refine ⟨_, rfl, x, dx, _, rfl, hx, rfl, _, rfl, _, rfl, _, rfl, x, L, tn, kd, kn, rows, rows', rfl, c2, kk, hl, fun d kvs H3 h3 D3 n3 s3 => ?_⟩
    have hl' : rows'.length ≤ 300 := by have := kk.len; omega
    have lk := D3.len
    refine ⟨d, .dK kvs, h3, trivial, fun od => ?_⟩
    refine ⟨_, rfl, d, od, rfl, .inl ⟨kvs, upd_same, fun l hl2 => ?_⟩⟩
    have nld : l ≠ d := (ne_of_none (upd_same (H := H3) (a := d) (o := .frz od (.dK kvs))) hl2).symm
    have s23 : ∀ b o, H b = some o → b ≠ d ∧ b ≠ l ∧ H3 b = some o := by
      intro b o e
      have e3 := s3 _ _ (s2 b o e)
      have nb : b ≠ d := by rintro rfl; rw [s2 b o e] at n3; cases n3
      refine ⟨nb, ?_, e3⟩
      rintro rfl
      rw [upd_ne nb, e3] at hl2; cases hl2
    refine lc_keys (kvs := kvs) (fun i H' => H' l = some (.lst ((daysTo (kvs.take i) day).map V.int)) ∧ ∀ b o, (upd H3 d (.frz od (.dK kvs))) b = some o → b ≠ l → H' b = some o) ?_ ?_ ?_ ?_
    · exact ⟨upd_same, fun b o e nb => by rw [upd_ne nb]; exact e⟩
    · rintro i H4 hi ⟨h4, k4⟩
      exact k4 _ _ upd_same nld.symm
    · rintro i k v H4 hk ⟨h4, k4⟩
      obtain ⟨dd, rfl⟩ := D3.ks (k, v) (List.mem_of_getElem? hk)
      have et : kvs.take (i + 1) = kvs.take i ++ [(Sum.inl dd, v)] := by rw [List.take_succ, hk]; rfl
      refine ⟨rfl, ?_⟩
      refine ⟨_, rfl, _, rfl, _, _, rfl, rfl, _, rfl, ?_⟩
      refine ite2 (fun h1 => ?_) (fun h1 => ?_)
      · refine ⟨_, rfl, _, h4, small1000 ?_, ?_, fun b o e nb => ?_⟩
        · rw [List.length_map]
          unfold daysTo
          rw [List.length_map]
          have := List.length_filter_le (fun p => decide (dayOf p ≤ day)) (kvs.take i)
          have := List.length_take_le' i kvs
          omega
        · rw [upd_same, et]
          unfold daysTo
          rw [List.filter_append, List.map_append, List.map_append]
          show _ = some (HO.lst (_ ++ List.map V.int (List.map dayOf (List.filter _ [(Sum.inl dd, v)]))))
          rw [List.filter_cons, if_pos (by exact h1)]
          rfl
        · rw [upd_ne nb]
          exact k4 b o e nb
      · refine ⟨?_, k4⟩
        rw [h4, et]
        unfold daysTo
        rw [List.filter_append, List.map_append, List.map_append]
        show _ = some (HO.lst (_ ++ List.map V.int (List.map dayOf (List.filter _ [(Sum.inl dd, v)]))))
        rw [List.filter_cons, if_neg (by exact h1)]
        simp
    · rintro H4 ⟨h4, k4⟩
      rw [List.take_length] at h4
      refine ⟨k4 _ _ upd_same nld.symm, ?_⟩
      have h5 : (upd H4 d (.dK kvs)) l = some (.lst ((daysTo kvs day).map V.int)) := by rw [upd_ne nld]; exact h4
      have s5 : Same H (upd H4 d (.dK kvs)) := fun b o e => by
        obtain ⟨n1, n2, e3⟩ := s23 b o e
        rw [upd_ne n1]
        exact k4 b o (by rw [upd_ne n1]; exact e3) n2
      refine ⟨_, rfl, _, .inl ⟨_, SqL.of h5, rfl⟩, ?_⟩
      cases ed : daysTo kvs day with
      | nil =>
        refine iteF ?_
        exact q 0 _ (D3.none ed) s5
      | cons y r =>
        refine iteT ?_
        refine ⟨_, rfl, _, rfl, l, y :: r, rfl, SqL.of (by rw [← ed]; exact h5), by simp, fun m hm ht => ?_⟩
        rw [← ed] at hm ht
        obtain ⟨w, hw, iw⟩ := D3.worth hm ht
        exact ⟨d, _, rfl, (by have z := DGet.k (k := Sum.inl m) (upd_same (H := H4) (a := d) (o := .dK kvs)); rw [hw] at z; exact z), q w _ iw s5⟩
end
end Ck
set_option Elab.async false
set_option linter.all false
set_option pp.maxSteps 120
set_option maxRecDepth 100000
set_option maxHeartbeats 4000000
namespace Ck
open PySem L2
inductive Tm where
  | lev (n : Int)
  | cal (wh : Key) (tn : Option Str)
  | low (ts : List Tm)
  | top (ts : List Tm)
def tnV : Option Str → V
  | none => .non
  | some x => .str x
def GoodWh (k : Key) : Prop := k = .inr "made" ∨ k = .inr "paid" ∨ ∃ d : Int, k = .inl d ∧ 0 ≤ d ∧ d ≤ 9999
def GoodTn (o : Option Str) : Prop := ∀ x, o = some x → nameOk x = true
def Told : Nat → Int → Hp → Addr → Tm → Prop
  | 0, _, _, _, _ => False
  | _ + 1, r, H, a, .lev n => 1 ≤ r ∧ H a = some (.tup [.str "level", .int n]) ∧ 0 ≤ n ∧ n ≤ 1000000
  | _ + 1, r, H, a, .cal wh tn => 1 ≤ r ∧ H a = some (.tup [.str "called", kV wh, tnV tn]) ∧ GoodWh wh ∧ GoodTn tn
  | d + 1, r, H, a, .low ts => ∃ (rs : List Addr) (q : Int), H a = some (.tup (.str "least" :: rs.map V.ref)) ∧ rs.length = ts.length ∧ 2 ≤ ts.length ∧ ts.length ≤ 8 ∧ 1 + ts.length * q ≤ r ∧ ∀ (i : Nat) (x : Addr) (t : Tm), rs[i]? = some x → ts[i]? = some t → Told d q H x t
  | d + 1, r, H, a, .top ts => ∃ (rs : List Addr) (q : Int), H a = some (.tup (.str "greatest" :: rs.map V.ref)) ∧ rs.length = ts.length ∧ 2 ≤ ts.length ∧ ts.length ≤ 8 ∧ 1 + ts.length * q ≤ r ∧ ∀ (i : Nat) (x : Addr) (t : Tm), rs[i]? = some x → ts[i]? = some t → Told d q H x t
theorem Told.mono : ∀ {d : Nat} {r : Int} {H H' : Hp} {a : Addr} {t : Tm}, Told d r H a t → Tups H H' → Told d r H' a t
  | 0, _, _, _, _, _, h, _ => h.elim
  | _ + 1, _, _, _, _, .lev _, h, s => ⟨h.1, s _ _ h.2.1, h.2.2⟩
  | _ + 1, _, _, _, _, .cal _ _, h, s => ⟨h.1, s _ _ h.2.1, h.2.2⟩
  | _ + 1, _, _, _, _, .low _, ⟨rs, q, h, a, b, c, e, k⟩, s => ⟨rs, q, s _ _ h, a, b, c, e, fun i x t hx ht => (k i x t hx ht).mono s⟩
  | _ + 1, _, _, _, _, .top _, ⟨rs, q, h, a, b, c, e, k⟩, s => ⟨rs, q, s _ _ h, a, b, c, e, fun i x t hx ht => (k i x t hx ht).mono s⟩
def Trm (T : Ad) : Nat → Int → Hp → Addr → Tm → Prop
  | 0, _, _, _, _ => False
  | _ + 1, r, H, a, .lev n => 1 ≤ r ∧ (∃ dx, H a = some (.ins T.C_Level dx [("level", .int n), ("size", .int 1), ("depth", .int 1)])) ∧ 0 ≤ n ∧ n ≤ 1000000
  | _ + 1, r, H, a, .cal wh tn => 1 ≤ r ∧ (∃ dx, H a = some (.ins T.C_Called dx [("when", kV wh), ("town", tnV tn), ("size", .int 1), ("depth", .int 1)])) ∧ GoodWh wh ∧ GoodTn tn
  | d + 1, r, H, a, .low ts => ∃ (dx p : Addr) (xs : List Addr) (q z e : Int), H a = some (.ins T.C_Least dx [("terms", .ref p), ("size", .int z), ("depth", .int e)]) ∧ H p = some (.tup (xs.map V.ref)) ∧ xs.length = ts.length ∧ 2 ≤ ts.length ∧ ts.length ≤ 8 ∧ 1 + ts.length * q ≤ r ∧ 1 ≤ z ∧ z ≤ r ∧ 1 ≤ e ∧ e ≤ d + 1 ∧ ∀ (i : Nat) (x : Addr) (t : Tm), xs[i]? = some x → ts[i]? = some t → Trm T d q H x t
  | d + 1, r, H, a, .top ts => ∃ (dx p : Addr) (xs : List Addr) (q z e : Int), H a = some (.ins T.C_Greatest dx [("terms", .ref p), ("size", .int z), ("depth", .int e)]) ∧ H p = some (.tup (xs.map V.ref)) ∧ xs.length = ts.length ∧ 2 ≤ ts.length ∧ ts.length ≤ 8 ∧ 1 + ts.length * q ≤ r ∧ 1 ≤ z ∧ z ≤ r ∧ 1 ≤ e ∧ e ≤ d + 1 ∧ ∀ (i : Nat) (x : Addr) (t : Tm), xs[i]? = some x → ts[i]? = some t → Trm T d q H x t
def Stay (H H' : Hp) : Prop := ∀ b o, H b = some o → (∀ xs, o ≠ .lst xs) → H' b = some o
theorem Stay.same {H H' : Hp} (s : Same H H') : Stay H H' := fun b o h _ => s b o h
theorem Stay.keep {H H' : Hp} {d : Addr} {xs : List V} (k : Keep d H H') (hd : H d = some (.lst xs)) : Stay H H' := fun b o h n => k b o h fun e => by rw [e, hd] at h; cases h; exact n _ rfl
theorem Stay.upd {H : Hp} {p : Addr} {xs : List V} {o : HO} (h : H p = some (.lst xs)) : Stay H (upd H p o) := fun b u e n => by
  rw [upd_ne (fun z => by rw [z, h] at e; cases e; exact n _ rfl)]; exact e
theorem Stay.trans {H H1 H2 : Hp} (a : Stay H H1) (b : Stay H1 H2) : Stay H H2 := fun c o h n => b c o (a c o h n) n
theorem Stay.tups {H H' : Hp} (s : Stay H H') : Tups H H' := fun b xs h => s b _ h fun _ z => nomatch z
theorem DrawAt.stay {K : PySem.W.Frag} {H H' : Hp} {d a : Addr} {ns : List Int} (D : DrawAt K H d a ns) (k : Keep d H H') : Stay H H' := by
  obtain ⟨z, _, h⟩ := D.ex
  exact Stay.keep k h
theorem Trm.mono {T : Ad} : ∀ {d : Nat} {r : Int} {H H' : Hp} {a : Addr} {t : Tm}, Trm T d r H a t → Stay H H' → Trm T d r H' a t
  | 0, _, _, _, _, _, h, _ => h.elim
  | _ + 1, _, _, _, _, .lev _, ⟨h1, ⟨dx, h⟩, h2⟩, s => ⟨h1, ⟨dx, s _ _ h fun _ z => nomatch z⟩, h2⟩
  | _ + 1, _, _, _, _, .cal _ _, ⟨h1, ⟨dx, h⟩, h2⟩, s => ⟨h1, ⟨dx, s _ _ h fun _ z => nomatch z⟩, h2⟩
  | _ + 1, _, _, _, _, .low _, ⟨dx, p, xs, q, z, e, h, hp, l, a, b, c, i1, i2, i3, i4, k⟩, s => ⟨dx, p, xs, q, z, e, s _ _ h fun _ z => (nomatch z), s _ _ hp fun _ z => (nomatch z), l, a, b, c, i1, i2, i3, i4, fun i x t hx ht => (k i x t hx ht).mono s⟩
  | _ + 1, _, _, _, _, .top _, ⟨dx, p, xs, q, z, e, h, hp, l, a, b, c, i1, i2, i3, i4, k⟩, s => ⟨dx, p, xs, q, z, e, s _ _ h fun _ z => (nomatch z), s _ _ hp fun _ z => (nomatch z), l, a, b, c, i1, i2, i3, i4, fun i x t hx ht => (k i x t hx ht).mono s⟩
theorem Trm.sized {T : Ad} : ∀ {d : Nat} {r : Int} {H : Hp} {a : Addr} {t : Tm}, Trm T d r H a t → ∃ (C dx : Addr) (fs : List (Str × V)) (z e : Int), H a = some (.ins C dx fs) ∧ (C = T.C_Level ∨ C = T.C_Called ∨ C = T.C_Least ∨ C = T.C_Greatest) ∧ fs.lookup ("size" : Str) = some (V.int z) ∧ fs.lookup ("depth" : Str) = some (V.int e) ∧ 1 ≤ z ∧ z ≤ r ∧ 1 ≤ e ∧ e ≤ d
  | 0, _, _, _, _, h => h.elim
  | _ + 1, _, _, _, .lev _, ⟨h1, ⟨dx, h⟩, h2⟩ => ⟨_, _, _, 1, 1, h, .inl rfl, rfl, rfl, by omega, h1, by omega, by omega⟩
  | _ + 1, _, _, _, .cal _ _, ⟨h1, ⟨dx, h⟩, h2⟩ => ⟨_, _, _, 1, 1, h, .inr (.inl rfl), rfl, rfl, by omega, h1, by omega, by omega⟩
  | _ + 1, _, _, _, .low _, ⟨dx, p, xs, q, z, e, h, hp, l, a, b, c, i1, i2, i3, i4, k⟩ => ⟨_, _, _, z, e, h, .inr (.inr (.inl rfl)), rfl, rfl, i1, i2, i3, by omega⟩
  | _ + 1, _, _, _, .top _, ⟨dx, p, xs, q, z, e, h, hp, l, a, b, c, i1, i2, i3, i4, k⟩ => ⟨_, _, _, z, e, h, .inr (.inr (.inr rfl)), rfl, rfl, i1, i2, i3, by omega⟩
theorem joinS {c : Prop} [Decidable c] {A : Prop} {R P : St → Hp → Prop} {σ6 : St} {H6 : Hp} (right : ¬ c → P σ6 H6) (rest : ∀ σ H7, P σ H7 → R σ H7) (left : c → (∀ σ H7, P σ H7 → R σ H7) → A) : if c then A else R σ6 H6 := by
  by_cases h : c
  · rw [if_pos h]; exact left h rest
  · rw [if_neg h]; exact rest _ _ (right h)
section
variable {P : Program} {w : World} {K : PySem.W.Frag} {mg : Str → Option Value} {base : Heap} {t : Ad}
def spLInit (C : Addr) : Sp := fun vs H Q _ => ∃ (x dx : Addr) (n : Int), vs = [.ref x, .int n] ∧ H x = some (.ins C dx []) ∧ 0 ≤ n ∧ n ≤ 1000000 ∧ ∀ H', H' x = some (.ins C dx [("level", .int n), ("size", .int 1), ("depth", .int 1)]) → Keep x H H' → Q .non H'
theorem ok_linit (T : Env K mg t) : FnOk P w K mg base CX0 5 t.a_Level_init t.fd_Level_init ["self", "level"] (spLInit t.C_Level) := by
  have G_check_worth : FnOk P w K mg base CX0 4 t.a_check_worth t.fd_check_worth ["number"] (spCkTo 1000000) := ok_ckwth T
  refine T.f_Level_init.okQ sc_Level_init (fun vs H Q E h => ?_) (fun cdv A outer s H vs Q E hr h => ?_)
  · obtain ⟨x, dx, n, rfl, _⟩ := h
    rfl
  · obtain ⟨x, dx, n, rfl, hx, n0, n1, q⟩ := h
    have hr_check_worth := hr
    refine ⟨_, (q_pss_cons (q_ps_expr (q_pe_call G_check_worth hr_check_worth (by rfl) T.mg_check_worth T.kp_check_worth T.b_check_worth .nil pass0 (q_pa_cons (q_pv 1) q_pa_nil star_Name)))
      (q_pss_cons (q_ps_fld (q_pv 0) (q_pv 1) rfl)
      (q_pss_cons (q_ps_fld (q_pv 0) q_pe_int rfl)
      (q_pss_one (q_ps_fld (q_pv 0) q_pe_int rfl))))), ?_⟩
    refine ⟨_, rfl, n, rfl, n0, n1, ?_⟩
    refine ⟨_, rfl, _, rfl, x, _, dx, _, rfl, hx, T.cl_Level, T.no_Level_level, (by show 0 < 1000; decide), ?_⟩
    refine ⟨_, rfl, x, _, dx, _, rfl, upd_same, T.cl_Level, T.no_Level_size, (by show 1 < 1000; decide), ?_⟩
    refine ⟨_, rfl, x, _, dx, _, rfl, upd_same, T.cl_Level, T.no_Level_depth, (by show 2 < 1000; decide), ?_⟩
    refine q _ upd_same ?_
    intro b o e nb
    rw [upd_ne nb, upd_ne nb, upd_ne nb]
    exact e
def spCdInit (C : Addr) : Sp := fun vs H Q _ => ∃ (x dx : Addr) (wh : Key) (tn : Option Str), vs = [.ref x, kV wh, tnV tn] ∧ H x = some (.ins C dx []) ∧ GoodWh wh ∧ GoodTn tn ∧ ∀ H', H' x = some (.ins C dx [("when", kV wh), ("town", tnV tn), ("size", .int 1), ("depth", .int 1)]) → Keep x H H' → Q .non H'
theorem flat_kV (k : Key) : flatV (kV k) = true := by cases k <;> rfl
theorem ok_cdinit (T : Env K mg t) : FnOk P w K mg base CX0 5 t.a_Called_init t.fd_Called_init ["self", "when", "town"] (spCdInit t.C_Called) := by
  have G_check_day : FnOk P w K mg base CX0 4 t.a_check_day t.fd_check_day ["number"] (spCkTo 9999) := ok_ckday T
  have G_check_name : FnOk P w K mg base CX0 4 t.a_check_name t.fd_check_name ["text"] spCkName := ok_ckname T
  refine T.f_Called_init.okQ sc_Called_init (fun vs H Q E h => ?_) (fun cdv A outer s H vs Q E hr h => ?_)
  · obtain ⟨x, dx, wh, tn, rfl, _⟩ := h
    rfl
  · obtain ⟨x, dx, wh, tn, rfl, hx, gw, gt, q⟩ := h
    have hr_check_day := hr
    have hr_check_name := hr
    refine ⟨_, (q_pss_cons (q_ps_if (q_pt_cmpR op_notIn_seq (q_pv 1) (q_pe_tup (q_pa_cons q_pe_str (q_pa_cons q_pe_str q_pa_nil star_Constant) star_Constant)) (by rfl)) (q_pss_one (q_ps_expr (q_pe_call G_check_day hr_check_day (by rfl) T.mg_check_day T.kp_check_day T.b_check_day .nil pass0 (q_pa_cons (q_pv 1) q_pa_nil star_Name)))) q_pss_nil)
      (q_pss_cons (q_ps_if (q_pt_cmpR op_notN (q_pv 2) q_pe_non (nomark _)) (q_pss_one (q_ps_expr (q_pe_call G_check_name hr_check_name (by rfl) T.mg_check_name T.kp_check_name T.b_check_name .nil pass0 (q_pa_cons (q_pv 2) q_pa_nil star_Name)))) q_pss_nil)
      (q_pss_cons (q_ps_fld (q_pv 0) (q_pv 1) rfl)
      (q_pss_cons (q_ps_fld (q_pv 0) (q_pv 2) rfl)
      (q_pss_cons (q_ps_fld (q_pv 0) q_pe_int rfl)
      (q_pss_one (q_ps_fld (q_pv 0) q_pe_int rfl))))))), ?_⟩
    refine ⟨_, rfl, (by show 2 ≤ sizeLine; decide), fun p hp => ?_⟩
    have s1 := same_new (o := .tup [V.str "made", V.str "paid"]) hp
    refine ⟨p, _, rfl, .inr (SqT.of upd_same), flat_kV wh, rfl, _, rfl, ?_⟩
    rw [if_pos (by decide : (true = true))]
    refine joinS (P := fun σ H' => σ = [some (.ref x), some (kV wh), some (tnV tn)] ∧ Same H H') (fun _ => ⟨rfl, s1⟩) ?_ (fun hc rest => ?_)
    · rintro σ H2 ⟨rfl, s2⟩
      refine ⟨_, rfl, rfl, _, rfl, ?_⟩
      refine joinS (P := fun σ H' => σ = [some (.ref x), some (kV wh), some (tnV tn)] ∧ Same H H') (fun _ => ⟨rfl, s2⟩) ?_ (fun hc rest => ?_)
      · rintro σ H3 ⟨rfl, s3⟩
        refine ⟨_, rfl, _, rfl, x, _, dx, _, rfl, s3 _ _ hx, T.cl_Called, T.no_Called_when, (by show 0 < 1000; decide), ?_⟩
        refine ⟨_, rfl, _, rfl, x, _, dx, _, rfl, upd_same, T.cl_Called, T.no_Called_town, (by show 1 < 1000; decide), ?_⟩
        refine ⟨_, rfl, x, _, dx, _, rfl, upd_same, T.cl_Called, T.no_Called_size, (by show 2 < 1000; decide), ?_⟩
        refine ⟨_, rfl, x, _, dx, _, rfl, upd_same, T.cl_Called, T.no_Called_depth, (by show 3 < 1000; decide), ?_⟩
        refine q _ upd_same ?_
        intro b o e nb
        rw [upd_ne nb, upd_ne nb, upd_ne nb, upd_ne nb]
        exact s3 b o e
      · cases tn with
        | none => exact absurd hc (by decide)
        | some y => exact ⟨_, rfl, y, rfl, gt y rfl, fun H3 s3 => rest _ _ ⟨rfl, s2.trans s3⟩⟩
    · rcases gw with rfl | rfl | ⟨dy, rfl, d0, d1⟩
      · exact absurd hc (by decide +kernel)
      · exact absurd hc (by decide +kernel)
      · exact ⟨_, rfl, dy, rfl, d0, d1, rest _ _ ⟨rfl, s1⟩⟩
end
end Ck
set_option Elab.async false
set_option linter.all false
set_option pp.maxSteps 120
set_option maxRecDepth 100000
set_option maxHeartbeats 4000000
namespace Ck
open PySem L2
def minL : List Int → Int
  | [] => 0
  | [x] => x
  | x :: y :: r => min x (minL (y :: r))
def maxL : List Int → Int
  | [] => 0
  | [x] => x
  | x :: y :: r => max x (maxL (y :: r))
theorem minL_spec : ∀ {ns : List Int}, ns ≠ [] → minL ns ∈ ns ∧ ∀ y ∈ ns, minL ns ≤ y
  | [], h => absurd rfl h
  | [x], _ => ⟨List.mem_cons_self, fun y hy => by rw [List.mem_singleton.mp hy]; exact Int.le_refl _⟩
  | x :: z :: r, _ => by
    obtain ⟨a, b⟩ := minL_spec (ns := z :: r) (by simp)
    show min x (minL (z :: r)) ∈ _ ∧ ∀ y ∈ _, min x (minL (z :: r)) ≤ y
    constructor
    · by_cases c : x ≤ minL (z :: r)
      · rw [Int.min_eq_left c]; exact List.mem_cons_self
      · rw [Int.min_eq_right (by omega)]; exact List.mem_cons_of_mem _ a
    · intro y hy
      rcases List.mem_cons.mp hy with rfl | hy
      · omega
      · have := b y hy; omega
theorem maxL_spec : ∀ {ns : List Int}, ns ≠ [] → maxL ns ∈ ns ∧ ∀ y ∈ ns, y ≤ maxL ns
  | [], h => absurd rfl h
  | [x], _ => ⟨List.mem_cons_self, fun y hy => by rw [List.mem_singleton.mp hy]; exact Int.le_refl _⟩
  | x :: z :: r, _ => by
    obtain ⟨a, b⟩ := maxL_spec (ns := z :: r) (by simp)
    show max x (maxL (z :: r)) ∈ _ ∧ ∀ y ∈ _, y ≤ max x (maxL (z :: r))
    constructor
    · by_cases c : maxL (z :: r) ≤ x
      · rw [Int.max_eq_left c]; exact List.mem_cons_self
      · rw [Int.max_eq_right (by omega)]; exact List.mem_cons_of_mem _ a
    · intro y hy
      rcases List.mem_cons.mp hy with rfl | hy
      · omega
      · have := b y hy; omega
theorem min_is {ns : List Int} {m : Int} (h : m ∈ ns) (k : ∀ y ∈ ns, m ≤ y) : m = minL ns := by
  obtain ⟨a, b⟩ := minL_spec (List.ne_nil_of_mem h)
  have := b m h
  have := k _ a
  omega
theorem max_is {ns : List Int} {m : Int} (h : m ∈ ns) (k : ∀ y ∈ ns, y ≤ m) : m = maxL ns := by
  obtain ⟨a, b⟩ := maxL_spec (List.ne_nil_of_mem h)
  have := b m h
  have := k _ a
  omega
theorem sum_le {q : Int} : ∀ {ns : List Int}, (∀ n ∈ ns, 1 ≤ n ∧ n ≤ q) → 0 ≤ ns.sum ∧ ns.sum ≤ ns.length * q
  | [], _ => by simp
  | n :: r, h => by
    obtain ⟨a, b⟩ := sum_le fun x hx => h x (List.mem_cons_of_mem _ hx)
    obtain ⟨c, d⟩ := h n List.mem_cons_self
    rw [List.sum_cons, List.length_cons]
    have e : ((r.length + 1 : Nat) : Int) * q = r.length * q + q := by rw [Int.natCast_add, Int.add_mul]; simp
    rw [e]
    omega
section
variable {P : Program} {w : World} {K : PySem.W.Frag} {mg : Str → Option Value} {base : Heap} {t : Ad}
theorem cls_of (T : Env K mg t) {C : Addr} (h : C = t.C_Level ∨ C = t.C_Called ∨ C = t.C_Least ∨ C = t.C_Greatest) : Cls K C ∧ NoAttr K C "size" ∧ NoAttr K C "depth" := by
  rcases h with rfl | rfl | rfl | rfl
  · exact ⟨T.cl_Level, T.no_Level_size, T.no_Level_depth⟩
  · exact ⟨T.cl_Called, T.no_Called_size, T.no_Called_depth⟩
  · exact ⟨T.cl_Least, T.no_Least_size, T.no_Least_depth⟩
  · exact ⟨T.cl_Greatest, T.no_Greatest_size, T.no_Greatest_depth⟩
def Trs (t : Ad) (d : Nat) (q : Int) (H : Hp) (xs : List Addr) : Prop := ∀ x ∈ xs, ∃ u, Trm t d q H x u
theorem Trs.mono {d : Nat} {q : Int} {H H' : Hp} {xs : List Addr} (h : Trs t d q H xs) (s : Stay H H') : Trs t d q H' xs := fun x hx => let ⟨u, hu⟩ := h x hx; ⟨u, hu.mono s⟩
def spJS (t : Ad) : Sp := fun vs H Q _ => ∃ (p : Addr) (xs : List Addr) (d : Nat) (q : Int), vs = [.ref p] ∧ H p = some (.tup (xs.map V.ref)) ∧ Trs t d q H xs ∧ xs.length ≤ 8 ∧ ∀ n H', 1 ≤ n → n ≤ 1 + xs.length * q → Same H H' → Q (.int n) H'
theorem ok_jsize (T : Env K mg t) : FnOk P w K mg base CX0 1 t.a_joined_size t.fd_joined_size ["terms"] (spJS t) := by
  refine T.f_joined_size.okQ sc_joined_size (fun vs H Q E h => ?_) (fun cdv A outer s H vs Q E hr h => ?_)
  · obtain ⟨p, xs, d, q, rfl, _⟩ := h
    rfl
  · obtain ⟨p, xs, d, q, rfl, hp, tr, l8, k⟩ := h
    refine ⟨_, (q_pss_one (q_ps_ret (q_pe_op op_add q_pe_int (q_pe_callB (cr_sum rfl) (by rfl) T.z_sum (by decide +kernel) (q_pa_cons (q_pe_lc (own := [("term", 1)]) (g := gName 1) (by rfl) sc_joined_size.nd (q_pi_tup (q_pv 0)) (blkOk_by (own := [("term", 1)]) (N := ["terms", "term"]) (sc := defScope s_joined_size) (by decide +kernel)) (fun _ _ _ _ _ => (q_pg_name (i := 1) sc_joined_size.nd rfl (by first | exact Or.inl rfl | exact Or.inr (Or.inl rfl) | exact Or.inr rfl))) (fun _ _ _ _ _ => q_pts_nil) (fun _ _ _ _ _ => (q_pe_fldK (K := K) rfl (q_pv 1) rfl))) q_pa_nil star_ListComp))))), ?_⟩
    refine ⟨_, rfl, p, rfl, ⟨_, SqT.of hp⟩, fun L hL => ?_⟩
    refine lc_tup (xs := xs.map V.ref) (fun i H' => ∃ ns : List Int, H' L = some (.lst (ns.map V.int)) ∧ ns.length = i ∧ (∀ n ∈ ns, 1 ≤ n ∧ n ≤ q) ∧ Same H H') ?_ ?_ ?_ ?_
    · exact ⟨[], upd_same, rfl, by simp, same_new hL⟩
    · rintro i H1 hi ⟨ns, h1, ln, b1, s1⟩
      exact SqT.of (s1 _ _ hp)
    · rintro i y H1 hy ⟨ns, h1, ln, b1, s1⟩
      obtain ⟨x, hx, rfl⟩ := ref_at hy
      obtain ⟨u, hu⟩ := tr x (List.mem_of_getElem? hx)
      obtain ⟨C, dx, fs, z, e, hx1, hC, f1, f2, z0, z1, e0, e1⟩ := hu.sized
      obtain ⟨c1, c2, c3⟩ := cls_of T hC
      have hi := (List.getElem?_eq_some_iff.mp hx).1
      refine ⟨rfl, yes_i ⟨_, rfl, x, C, dx, fs, _, rfl, s1 _ _ hx1, c1, c2, f1, ?_⟩⟩
      refine ⟨_, h1, small1000 (by rw [List.length_map]; omega), ns ++ [z], ?_, by rw [List.length_append, ln]; rfl, ?_, fun b o e => ?_⟩
      · rw [upd_same, List.map_append]; rfl
      · intro n hn
        rcases List.mem_append.mp hn with hn | hn
        · exact b1 n hn
        · rw [List.mem_singleton.mp hn]; exact ⟨z0, z1⟩
      · rw [upd_ne (ne_of_none e hL)]; exact s1 b o e
    rintro H1 ⟨ns, h1, ln, b1, s1⟩
    rw [List.length_map] at ln
    obtain ⟨a, b⟩ := sum_le b1
    rw [ln] at b
    refine ⟨L, ns, rfl, SqL.of h1, _, _, rfl, rfl, k _ _ (by omega) (by omega) s1⟩
def spJD (t : Ad) : Sp := fun vs H Q _ => ∃ (p : Addr) (xs : List Addr) (d : Nat) (q : Int), vs = [.ref p] ∧ H p = some (.tup (xs.map V.ref)) ∧ Trs t d q H xs ∧ 0 < xs.length ∧ xs.length ≤ 8 ∧ ∀ (n : Int) H', 1 ≤ n → n ≤ (d : Int) + 1 → Same H H' → Q (.int n) H'
theorem ok_jdepth (T : Env K mg t) : FnOk P w K mg base CX0 1 t.a_joined_depth t.fd_joined_depth ["terms"] (spJD t) := by
  refine T.f_joined_depth.okQ sc_joined_depth (fun vs H Q E h => ?_) (fun cdv A outer s H vs Q E hr h => ?_)
  · obtain ⟨p, xs, d, q, rfl, _⟩ := h
    rfl
  · obtain ⟨p, xs, d, q, rfl, hp, tr, l0, l8, k⟩ := h
    refine ⟨_, (q_pss_one (q_ps_ret (q_pe_op op_add q_pe_int (q_pe_callB (cr_max rfl) (by rfl) T.z_max (by decide +kernel) (q_pa_cons (q_pe_lc (own := [("term", 1)]) (g := gName 1) (by rfl) sc_joined_depth.nd (q_pi_tup (q_pv 0)) (blkOk_by (own := [("term", 1)]) (N := ["terms", "term"]) (sc := defScope s_joined_depth) (by decide +kernel)) (fun _ _ _ _ _ => (q_pg_name (i := 1) sc_joined_depth.nd rfl (by first | exact Or.inl rfl | exact Or.inr (Or.inl rfl) | exact Or.inr rfl))) (fun _ _ _ _ _ => q_pts_nil) (fun _ _ _ _ _ => (q_pe_fldK (K := K) rfl (q_pv 1) rfl))) q_pa_nil star_ListComp))))), ?_⟩
    refine ⟨_, rfl, p, rfl, ⟨_, SqT.of hp⟩, fun L hL => ?_⟩
    refine lc_tup (xs := xs.map V.ref) (fun i H' => ∃ ns : List Int, H' L = some (.lst (ns.map V.int)) ∧ ns.length = i ∧ (∀ n ∈ ns, 1 ≤ n ∧ n ≤ d) ∧ Same H H') ?_ ?_ ?_ ?_
    · exact ⟨[], upd_same, rfl, by simp, same_new hL⟩
    · rintro i H1 hi ⟨ns, h1, ln, b1, s1⟩
      exact SqT.of (s1 _ _ hp)
    · rintro i y H1 hy ⟨ns, h1, ln, b1, s1⟩
      obtain ⟨x, hx, rfl⟩ := ref_at hy
      obtain ⟨u, hu⟩ := tr x (List.mem_of_getElem? hx)
      obtain ⟨C, dx, fs, z, e, hx1, hC, f1, f2, z0, z1, e0, e1⟩ := hu.sized
      obtain ⟨c1, c2, c3⟩ := cls_of T hC
      have hi := (List.getElem?_eq_some_iff.mp hx).1
      refine ⟨rfl, yes_i ⟨_, rfl, x, C, dx, fs, _, rfl, s1 _ _ hx1, c1, c3, f2, ?_⟩⟩
      refine ⟨_, h1, small1000 (by rw [List.length_map]; omega), ns ++ [e], ?_, by rw [List.length_append, ln]; rfl, ?_, fun b o e => ?_⟩
      · rw [upd_same, List.map_append]; rfl
      · intro n hn
        rcases List.mem_append.mp hn with hn | hn
        · exact b1 n hn
        · rw [List.mem_singleton.mp hn]; exact ⟨e0, e1⟩
      · rw [upd_ne (ne_of_none e hL)]; exact s1 b o e
    rintro H1 ⟨ns, h1, ln, b1, s1⟩
    rw [List.length_map] at ln
    refine ⟨L, ns, rfl, SqL.of h1, by omega, fun m hm _ => ⟨_, _, rfl, rfl, ?_⟩⟩
    have := b1 m hm
    exact k (1 + m) _ (by omega) (by omega) s1
def spCJ (t : Ad) : Sp := fun vs H Q _ => ∃ (p : Addr) (xs : List Addr) (d : Nat) (q : Int), vs = [.ref p] ∧ H p = some (.tup (xs.map V.ref)) ∧ Trs t d q H xs ∧ 2 ≤ xs.length ∧ xs.length ≤ 8 ∧ 1 + xs.length * q ≤ 60 ∧ d ≤ 7 ∧ ∀ H', Same H H' → Q .non H'
theorem ok_ckj (T : Env K mg t) : FnOk P w K mg base CX0 2 t.a_check_joined t.fd_check_joined ["terms"] (spCJ t) := by
  have G_joined_size : FnOk P w K mg base CX0 1 t.a_joined_size t.fd_joined_size ["terms"] (spJS t) := ok_jsize T
  have G_joined_depth : FnOk P w K mg base CX0 1 t.a_joined_depth t.fd_joined_depth ["terms"] (spJD t) := ok_jdepth T
  refine T.f_check_joined.okQ sc_check_joined (fun vs H Q E h => ?_) (fun cdv A outer s H vs Q E hr h => ?_)
  · obtain ⟨p, xs, d, q, rfl, _⟩ := h
    rfl
  · obtain ⟨p, xs, d, q, rfl, hp, tr, l2, l8, lq, ld, k⟩ := h
    have hr_joined_size := hr
    have hr_joined_depth := hr
    refine ⟨_, (q_pss_cons (q_ps_if (q_pt_not (q_pt_chain op_le op_le (q_pe_glob (v := c_LEAST_TERMS) (by rfl) T.mg_LEAST_TERMS ⟨_, rfl⟩) (q_pe_callB call_len_seq (by rfl) T.z_len PySem.boot_len (q_pa_cons (q_pv 0) q_pa_nil star_Name)) (q_pe_glob (v := c_MOST_TERMS) (by rfl) T.mg_MOST_TERMS ⟨_, rfl⟩))) (q_pss_one q_ps_never) q_pss_nil)
      (q_pss_cons (q_ps_if (q_pt_cmpR op_gt (q_pe_call G_joined_size hr_joined_size (by rfl) T.mg_joined_size T.kp_joined_size T.b_joined_size .nil pass0 (q_pa_cons (q_pv 0) q_pa_nil star_Name)) (q_pe_glob (v := c_MOST_SIZE) (by rfl) T.mg_MOST_SIZE ⟨_, rfl⟩) (nomark _)) (q_pss_one q_ps_never) q_pss_nil)
      (q_pss_one (q_ps_if (q_pt_cmpR op_gt (q_pe_call G_joined_depth hr_joined_depth (by rfl) T.mg_joined_depth T.kp_joined_depth T.b_joined_depth .nil pass0 (q_pa_cons (q_pv 0) q_pa_nil star_Name)) (q_pe_glob (v := c_MOST_DEPTH) (by rfl) T.mg_MOST_DEPTH ⟨_, rfl⟩) (nomark _)) (q_pss_one q_ps_never) q_pss_nil)))), ?_⟩
    have lx : (xs.map V.ref).length = xs.length := List.length_map _
    refine ⟨_, rfl, p, _, rfl, .inr (SqT.of hp), _, _, rfl, rfl, _, rfl, ite2 (fun _ => ?_) (fun c => ?_)⟩
    · refine ⟨_, _, rfl, rfl, _, rfl, ?_⟩
      rw [decide_eq_true (by rw [lx]; omega)]
      refine iteN rfl ?_
      refine ⟨_, rfl, p, xs, d, q, rfl, hp, tr, l8, fun n H1 n0 n1 s1 => ?_⟩
      refine ⟨_, _, rfl, rfl, _, rfl, ite2 (fun c => absurd (of_decide_eq_true c) (by omega)) (fun _ => ?_)⟩
      refine ⟨_, rfl, p, xs, d, q, rfl, s1 _ _ hp, tr.mono (.same s1), by omega, l8, fun m H2 m0 m1 s2 => ?_⟩
      refine ⟨_, _, rfl, rfl, _, rfl, ite2 (fun c => absurd (of_decide_eq_true c) (by omega)) (fun _ => ?_)⟩
      exact k _ (s1.trans s2)
    · exact absurd (decide_eq_true (by rw [lx]; omega)) c
end
end Ck
set_option Elab.async false
set_option linter.all false
set_option pp.maxSteps 120
set_option maxRecDepth 100000
set_option maxHeartbeats 4000000
namespace Ck
open PySem L2
theorem Trm.keepx {T : Ad} {x C dx : Addr} : ∀ {d : Nat} {r : Int} {H H' : Hp} {a : Addr} {t : Tm}, Trm T d r H a t → Keep x H H' → H x = some (.ins C dx []) → Trm T d r H' a t
  | 0, _, _, _, _, _, h, _, _ => h.elim
  | _ + 1, _, _, _, _, .lev _, ⟨h1, ⟨dx, h⟩, h2⟩, k, hx => ⟨h1, ⟨dx, k _ _ h fun e => by rw [e, hx] at h; cases h⟩, h2⟩
  | _ + 1, _, _, _, _, .cal _ _, ⟨h1, ⟨dx, h⟩, h2⟩, k, hx => ⟨h1, ⟨dx, k _ _ h fun e => by rw [e, hx] at h; cases h⟩, h2⟩
  | _ + 1, _, _, _, _, .low _, ⟨dx, p, xs, q, z, e, h, hp, l, a, b, c, i1, i2, i3, i4, g⟩, k, hx => ⟨dx, p, xs, q, z, e, k _ _ h fun e => (by rw [e, hx] at h; cases h), k _ _ hp fun e => (by rw [e, hx] at hp; cases hp), l, a, b, c, i1, i2, i3, i4, fun i x t hx' ht => (g i x t hx' ht).keepx k hx⟩
  | _ + 1, _, _, _, _, .top _, ⟨dx, p, xs, q, z, e, h, hp, l, a, b, c, i1, i2, i3, i4, g⟩, k, hx => ⟨dx, p, xs, q, z, e, k _ _ h fun e => (by rw [e, hx] at h; cases h), k _ _ hp fun e => (by rw [e, hx] at hp; cases hp), l, a, b, c, i1, i2, i3, i4, fun i x t hx' ht => (g i x t hx' ht).keepx k hx⟩
section
variable {P : Program} {w : World} {K : PySem.W.Frag} {mg : Str → Option Value} {base : Heap} {t : Ad}
def spJInit (t : Ad) (C : Addr) : Sp := fun vs H Q _ => ∃ (x dx L : Addr) (xs : List Addr) (d : Nat) (q : Int), vs = [.ref x, .ref L] ∧ H x = some (.ins C dx []) ∧ H L = some (.lst (xs.map V.ref)) ∧ Trs t d q H xs ∧ 2 ≤ xs.length ∧ xs.length ≤ 8 ∧ 1 + xs.length * q ≤ 60 ∧ d ≤ 7 ∧
  ∀ (p : Addr) (z e : Int) (H' : Hp), H' x = some (.ins C dx [("terms", .ref p), ("size", .int z), ("depth", .int e)]) → H' p = some (.tup (xs.map V.ref)) → 1 ≤ z → z ≤ 1 + xs.length * q → 1 ≤ e → e ≤ (d : Int) + 1 → Keep x H H' → Q .non H'
theorem ok_lowinit (T : Env K mg t) : FnOk P w K mg base CX0 3 t.a_Least_init t.fd_Least_init ["self", "terms"] (spJInit t t.C_Least) := by
  have G_joined_size : FnOk P w K mg base CX0 1 t.a_joined_size t.fd_joined_size ["terms"] (spJS t) := ok_jsize T
  have G_joined_depth : FnOk P w K mg base CX0 1 t.a_joined_depth t.fd_joined_depth ["terms"] (spJD t) := ok_jdepth T
  have G_check_joined : FnOk P w K mg base CX0 2 t.a_check_joined t.fd_check_joined ["terms"] (spCJ t) := ok_ckj T
  refine T.f_Least_init.okQ sc_Least_init (fun vs H Q E h => ?_) (fun cdv A outer s H vs Q E hr h => ?_)
  · obtain ⟨x, dx, L, xs, d, q, rfl, _⟩ := h
    rfl
  · obtain ⟨x, dx, L, xs, d, q, rfl, hx, hL, tr, l2, l8, lq, ld, k⟩ := h
    have hr_check_joined := hr
    have hr_joined_size : Room 1 _ := hr.mono (by decide)
    have hr_joined_depth : Room 1 _ := hr.mono (by decide)
    refine ⟨_, (q_pss_cons (q_ps_set (i := 2) sc_Least_init.nd rfl (by first | exact Or.inl rfl | exact Or.inr (Or.inl rfl) | exact Or.inr rfl) (q_pe_callTy call_tuple_of (by rfl) T.z_tuple (by decide +kernel) (q_pa_cons (q_pv 1) q_pa_nil star_Name)))
      (q_pss_cons (q_ps_expr (q_pe_call G_check_joined hr_check_joined (by rfl) T.mg_check_joined T.kp_check_joined T.b_check_joined .nil pass0 (q_pa_cons (q_pv 2) q_pa_nil star_Name)))
      (q_pss_cons (q_ps_fld (q_pv 0) (q_pv 2) rfl)
      (q_pss_cons (q_ps_fld (q_pv 0) (q_pe_call G_joined_size hr_joined_size (by rfl) T.mg_joined_size T.kp_joined_size T.b_joined_size .nil pass0 (q_pa_cons (q_pv 2) q_pa_nil star_Name)) rfl)
      (q_pss_one (q_ps_fld (q_pv 0) (q_pe_call G_joined_depth hr_joined_depth (by rfl) T.mg_joined_depth T.kp_joined_depth T.b_joined_depth .nil pass0 (q_pa_cons (q_pv 2) q_pa_nil star_Name)) rfl)))))), ?_⟩
    refine ⟨_, rfl, L, _, rfl, .inl ⟨SqL.of hL, fun p hp => ?_⟩⟩
    have s1 := same_new (o := .tup (xs.map V.ref)) hp
    have f1 := new_at (o := .tup (xs.map V.ref)) hp
    refine ⟨_, rfl, p, xs, d, q, rfl, f1, tr.mono (.same s1), l2, l8, lq, ld, fun H2 s2 => ?_⟩
    have s12 := s1.trans s2
    have f2 := s2 _ _ f1
    have npx : p ≠ x := fun e => by rw [e, s12 _ _ hx] at f2; cases f2
    refine ⟨_, rfl, _, rfl, x, _, dx, _, rfl, s12 _ _ hx, T.cl_Least, T.no_Least_terms, (by show 0 < 1000; decide), ?_⟩
    have k3 : Keep x H (upd H2 x (.ins t.C_Least dx [("terms", .ref p)])) := fun b o e nb => by rw [upd_ne nb]; exact s12 b o e
    have f3 : (upd H2 x (.ins t.C_Least dx [("terms", .ref p)])) p = some (.tup (xs.map V.ref)) := by rw [upd_ne npx]; exact f2
    have tr3 : Trs t d q (upd H2 x (.ins t.C_Least dx [("terms", .ref p)])) xs := fun y hy => let ⟨u, hu⟩ := tr y hy; ⟨u, hu.keepx k3 hx⟩
    refine ⟨_, rfl, p, xs, d, q, rfl, f3, tr3, l8, fun z H4 z0 z1 s4 => ?_⟩
    refine ⟨_, rfl, x, _, dx, _, rfl, s4 _ _ upd_same, T.cl_Least, T.no_Least_size, (by show 1 < 1000; decide), ?_⟩
    have k5 : Keep x H (upd H4 x (.ins t.C_Least dx [("terms", .ref p), ("size", .int z)])) := fun b o e nb => by rw [upd_ne nb]; exact s4 _ _ (k3 b o e nb)
    have f5 : (upd H4 x (.ins t.C_Least dx [("terms", .ref p), ("size", .int z)])) p = some (.tup (xs.map V.ref)) := by rw [upd_ne npx]; exact s4 _ _ f3
    have tr5 : Trs t d q (upd H4 x (.ins t.C_Least dx [("terms", .ref p), ("size", .int z)])) xs := fun y hy => let ⟨u, hu⟩ := tr y hy; ⟨u, hu.keepx k5 hx⟩
    refine ⟨_, rfl, p, xs, d, q, rfl, f5, tr5, by omega, l8, fun e H6 e0 e1 s6 => ?_⟩
    refine ⟨_, rfl, x, _, dx, _, rfl, s6 _ _ upd_same, T.cl_Least, T.no_Least_depth, (by show 2 < 1000; decide), ?_⟩
    refine k p z e _ upd_same (by rw [upd_ne npx]; exact s6 _ _ f5) z0 z1 e0 e1 fun b o e nb => ?_
    rw [upd_ne nb]
    exact s6 _ _ (k5 b o e nb)
theorem ok_topinit (T : Env K mg t) : FnOk P w K mg base CX0 3 t.a_Greatest_init t.fd_Greatest_init ["self", "terms"] (spJInit t t.C_Greatest) := by
  have G_joined_size : FnOk P w K mg base CX0 1 t.a_joined_size t.fd_joined_size ["terms"] (spJS t) := ok_jsize T
  have G_joined_depth : FnOk P w K mg base CX0 1 t.a_joined_depth t.fd_joined_depth ["terms"] (spJD t) := ok_jdepth T
  have G_check_joined : FnOk P w K mg base CX0 2 t.a_check_joined t.fd_check_joined ["terms"] (spCJ t) := ok_ckj T
  refine T.f_Greatest_init.okQ sc_Greatest_init (fun vs H Q E h => ?_) (fun cdv A outer s H vs Q E hr h => ?_)
  · obtain ⟨x, dx, L, xs, d, q, rfl, _⟩ := h
    rfl
  · obtain ⟨x, dx, L, xs, d, q, rfl, hx, hL, tr, l2, l8, lq, ld, k⟩ := h
    have hr_check_joined := hr
    have hr_joined_size : Room 1 _ := hr.mono (by decide)
    have hr_joined_depth : Room 1 _ := hr.mono (by decide)
    refine ⟨_, (q_pss_cons (q_ps_set (i := 2) sc_Greatest_init.nd rfl (by first | exact Or.inl rfl | exact Or.inr (Or.inl rfl) | exact Or.inr rfl) (q_pe_callTy call_tuple_of (by rfl) T.z_tuple (by decide +kernel) (q_pa_cons (q_pv 1) q_pa_nil star_Name)))
      (q_pss_cons (q_ps_expr (q_pe_call G_check_joined hr_check_joined (by rfl) T.mg_check_joined T.kp_check_joined T.b_check_joined .nil pass0 (q_pa_cons (q_pv 2) q_pa_nil star_Name)))
      (q_pss_cons (q_ps_fld (q_pv 0) (q_pv 2) rfl)
      (q_pss_cons (q_ps_fld (q_pv 0) (q_pe_call G_joined_size hr_joined_size (by rfl) T.mg_joined_size T.kp_joined_size T.b_joined_size .nil pass0 (q_pa_cons (q_pv 2) q_pa_nil star_Name)) rfl)
      (q_pss_one (q_ps_fld (q_pv 0) (q_pe_call G_joined_depth hr_joined_depth (by rfl) T.mg_joined_depth T.kp_joined_depth T.b_joined_depth .nil pass0 (q_pa_cons (q_pv 2) q_pa_nil star_Name)) rfl)))))), ?_⟩
    refine ⟨_, rfl, L, _, rfl, .inl ⟨SqL.of hL, fun p hp => ?_⟩⟩
    have s1 := same_new (o := .tup (xs.map V.ref)) hp
    have f1 := new_at (o := .tup (xs.map V.ref)) hp
    refine ⟨_, rfl, p, xs, d, q, rfl, f1, tr.mono (.same s1), l2, l8, lq, ld, fun H2 s2 => ?_⟩
    have s12 := s1.trans s2
    have f2 := s2 _ _ f1
    have npx : p ≠ x := fun e => by rw [e, s12 _ _ hx] at f2; cases f2
    refine ⟨_, rfl, _, rfl, x, _, dx, _, rfl, s12 _ _ hx, T.cl_Greatest, T.no_Greatest_terms, (by show 0 < 1000; decide), ?_⟩
    have k3 : Keep x H (upd H2 x (.ins t.C_Greatest dx [("terms", .ref p)])) := fun b o e nb => by rw [upd_ne nb]; exact s12 b o e
    have f3 : (upd H2 x (.ins t.C_Greatest dx [("terms", .ref p)])) p = some (.tup (xs.map V.ref)) := by rw [upd_ne npx]; exact f2
    have tr3 : Trs t d q (upd H2 x (.ins t.C_Greatest dx [("terms", .ref p)])) xs := fun y hy => let ⟨u, hu⟩ := tr y hy; ⟨u, hu.keepx k3 hx⟩
    refine ⟨_, rfl, p, xs, d, q, rfl, f3, tr3, l8, fun z H4 z0 z1 s4 => ?_⟩
    refine ⟨_, rfl, x, _, dx, _, rfl, s4 _ _ upd_same, T.cl_Greatest, T.no_Greatest_size, (by show 1 < 1000; decide), ?_⟩
    have k5 : Keep x H (upd H4 x (.ins t.C_Greatest dx [("terms", .ref p), ("size", .int z)])) := fun b o e nb => by rw [upd_ne nb]; exact s4 _ _ (k3 b o e nb)
    have f5 : (upd H4 x (.ins t.C_Greatest dx [("terms", .ref p), ("size", .int z)])) p = some (.tup (xs.map V.ref)) := by rw [upd_ne npx]; exact s4 _ _ f3
    have tr5 : Trs t d q (upd H4 x (.ins t.C_Greatest dx [("terms", .ref p), ("size", .int z)])) xs := fun y hy => let ⟨u, hu⟩ := tr y hy; ⟨u, hu.keepx k5 hx⟩
    refine ⟨_, rfl, p, xs, d, q, rfl, f5, tr5, by omega, l8, fun e H6 e0 e1 s6 => ?_⟩
    refine ⟨_, rfl, x, _, dx, _, rfl, s6 _ _ upd_same, T.cl_Greatest, T.no_Greatest_depth, (by show 2 < 1000; decide), ?_⟩
    refine k p z e _ upd_same (by rw [upd_ne npx]; exact s6 _ _ f5) z0 z1 e0 e1 fun b o e nb => ?_
    rw [upd_ne nb]
    exact s6 _ _ (k5 b o e nb)
end
end Ck
set_option Elab.async false
set_option linter.all false
set_option pp.maxSteps 120
set_option maxRecDepth 100000
set_option maxHeartbeats 4000000
namespace Ck
open PySem L2
def whDay (wh : Key) (m p : Int) : Int := match wh with
  | .inl d => d
  | .inr x => if x = "made" then m else p
theorem whDay_in {wh : Key} {m p : Int} (g : GoodWh wh) (m0 : 0 ≤ m) (m1 : m ≤ 9999) (p0 : 0 ≤ p) (p1 : p ≤ 9999) : 0 ≤ whDay wh m p ∧ whDay wh m p ≤ 9999 := by
  rcases g with rfl | rfl | ⟨d, rfl, d0, d1⟩
  · exact ⟨m0, m1⟩
  · exact ⟨p0, p1⟩
  · exact ⟨d0, d1⟩
theorem dict_day {wh : Key} (g : GoodWh wh) (m p : Int) : ((valV (mergeK [] [(.inr "made", V.int m), (.inr "paid", V.int p)]) wh).getD (kV wh)) = V.int (whDay wh m p) := by
  rcases g with rfl | rfl | ⟨d, rfl, d0, d1⟩
  · rfl
  · rfl
  · rfl
section
variable {P : Program} {w : World} {K : PySem.W.Frag} {mg : Str → Option Value} {base : Heap} {t : Ad}
def spCP : Sp := fun vs H Q _ => ∃ (c : Addr) (wh : Key) (tn : Option Str) (tw : Str) (m p : Int), vs = [kV wh, tnV tn, .ref c] ∧ H c = some (.tup [.str tw, .int m, .int p]) ∧ GoodWh wh ∧
  ∀ (r : Addr) (H' : Hp), H' r = some (.tup [.str (tn.getD tw), .int (whDay wh m p)]) → Same H H' → Q (.ref r) H'
theorem ok_cp (T : Env K mg t) : FnOk P w K mg base CX0 1 t.a_call_place t.fd_call_place ["when", "town", "case"] spCP := by
  refine T.f_call_place.okQ sc_call_place (fun vs H Q E h => ?_) (fun cdv A outer s H vs Q E hr h => ?_)
  · obtain ⟨c, wh, tn, tw, m, p, rfl, _⟩ := h
    rfl
  · obtain ⟨c, wh, tn, tw, m, p, rfl, hc, gw, k⟩ := h
    have hu := hu_of hr
    refine ⟨_, (q_pss_cons (q_ps_asg (q_pv 2) (q_pg_tup (by rfl) (q_pgs_cons (q_pg_name (i := 3) sc_call_place.nd rfl (by first | exact Or.inl rfl | exact Or.inr (Or.inl rfl) | exact Or.inr rfl)) (q_pgs_cons (q_pg_name (i := 4) sc_call_place.nd rfl (by first | exact Or.inl rfl | exact Or.inr (Or.inl rfl) | exact Or.inr rfl)) (q_pgs_cons (q_pg_name (i := 5) sc_call_place.nd rfl (by first | exact Or.inl rfl | exact Or.inr (Or.inl rfl) | exact Or.inr rfl)) q_pgs_nil)))))
      (q_pss_cons (q_ps_set (i := 6) sc_call_place.nd rfl (by first | exact Or.inl rfl | exact Or.inr (Or.inl rfl) | exact Or.inr rfl) (q_pe_disp (q_pps_cons q_pe_str (q_pv 4) (q_pps_cons q_pe_str (q_pv 5) q_pps_nil)) rfl rfl (by simp) (by decide)))
      (q_pss_cons (q_ps_set (i := 7) sc_call_place.nd rfl (by first | exact Or.inl rfl | exact Or.inr (Or.inl rfl) | exact Or.inr rfl) (q_pe_ifExp (q_pt_cmpR op_isN (q_pv 1) q_pe_non (nomark _)) (q_pv 3) (q_pv 1)))
      (q_pss_one (q_ps_ret (q_pe_tup (q_pa_cons (q_pv 7) (q_pa_cons (q_pe_dget2 hu (q_pv 6) (q_pv 0) (q_pv 0) ⟨by rfl, by rfl, by rfl, by rfl⟩) q_pa_nil star_Call) star_Name))))))), ?_⟩
    refine ⟨_, rfl, c, _, rfl, SqT.of hc, rfl, _, _, rfl, _, _, rfl, _, _, rfl, rfl, ?_⟩
    intro D hD
    refine ⟨_, rfl, _, rfl, upd_same, [(.inr "made", V.int m), (.inr "paid", V.int p)], rfl, (by show 2 ≤ 15; decide), ?_⟩
    have s1 : Same H (upd (upd H D (.dK [])) D (.dK (mergeK [] [(.inr "made", V.int m), (.inr "paid", V.int p)]))) := fun b o e => by
      rw [upd_ne (ne_of_none e hD), upd_ne (ne_of_none e hD)]; exact e
    have f1 : (upd (upd H D (.dK [])) D (.dK (mergeK [] [(.inr "made", V.int m), (.inr "paid", V.int p)]))) D = some (.dK (mergeK [] [(.inr "made", V.int m), (.inr "paid", V.int p)])) := upd_same
    generalize (upd (upd H D (.dK [])) D (.dK (mergeK [] [(.inr "made", V.int m), (.inr "paid", V.int p)]))) = H1 at s1 f1 ⊢
    have dg := DGet.k (k := wh) f1
    have fin : ∀ r, H1 r = none → Q (.ref r) (upd H1 r (.tup [.str (tn.getD tw), .int (whDay wh m p)])) := fun r hr => k r _ upd_same (s1.trans (same_new hr))
    refine ⟨_, rfl, rfl, _, rfl, ?_⟩
    cases tn with
    | none =>
      refine iteT ⟨_, rfl, ?_⟩
      refine ⟨_, rfl, _, rfl, D, rfl, .inl ⟨_, .inl f1⟩, _, rfl, _, rfl, _, dg, ?_⟩
      rw [dict_day gw]
      exact ⟨(by show 2 ≤ sizeLine; decide), fin⟩
    | some y =>
      refine iteF ⟨_, rfl, ?_⟩
      refine ⟨_, rfl, _, rfl, D, rfl, .inl ⟨_, .inl f1⟩, _, rfl, _, rfl, _, dg, ?_⟩
      rw [dict_day gw]
      exact ⟨(by show 2 ≤ sizeLine; decide), fin⟩
end
end Ck
set_option Elab.async false
set_option linter.all false
set_option pp.maxSteps 120
set_option maxRecDepth 100000
set_option maxHeartbeats 4000000
namespace Ck
open PySem L2
open Classical in
noncomputable def wvF (rows : List CRow) (t k : Str) (day : Int) : Int := if h : ∃ r, IsWorth rows t k day r then Classical.choose h else 0
theorem wvF_is {rows : List CRow} {t k : Str} {day r : Int} (h : IsWorth rows t k day r) : r = wvF rows t k day := by
  unfold wvF
  have ex : ∃ r, IsWorth rows t k day r := ⟨r, h⟩
  rw [dif_pos ex]
  exact h.unique (Classical.choose_spec ex)
structure Cs where
  rows : List CRow
  kd : Str
  tw : Str
  m : Int
  p : Int
noncomputable def worF (c : Cs) : Nat → Tm → Int
  | 0, _ => 0
  | _ + 1, .lev n => n
  | _ + 1, .cal wh tn => wvF c.rows (tn.getD c.tw) c.kd (whDay wh c.m c.p)
  | d + 1, .low ts => minL (ts.map (worF c d))
  | d + 1, .top ts => maxL (ts.map (worF c d))
structure CsOk (c : Cs) : Prop where
  kd : nameOk c.kd = true
  tw : nameOk c.tw = true
  m0 : 0 ≤ c.m
  m1 : c.m ≤ 9999
  p0 : 0 ≤ c.p
  p1 : c.p ≤ 9999
  rl : c.rows.length ≤ 300
def isLev (u : Tm) : Prop := ∃ n, u = .lev n
def isCal (u : Tm) : Prop := ∃ a b, u = .cal a b
def isLow (u : Tm) : Prop := ∃ ts, u = .low ts
def isTop (u : Tm) : Prop := ∃ ts, u = .top ts
def spWor (t : Ad) (d : Nat) (sh : Tm → Prop) : Sp := fun vs H Q _ => ∃ (x b L c : Addr) (cs : Cs) (r : Int) (u : Tm), vs = [.ref x, .ref b, .str cs.kd, .ref c] ∧ Trm t d r H x u ∧ sh u ∧ CallsAt t.C_Calls H b L cs.rows ∧ H c = some (.tup [.str cs.tw, .int cs.m, .int cs.p]) ∧ CsOk cs ∧ ∀ H', Same H H' → Q (.int (worF cs d u)) H'
section
variable {P : Program} {w : World} {K : PySem.W.Frag} {mg : Str → Option Value} {base : Heap} {t : Ad}
theorem ok_wlev (T : Env K mg t) (d : Nat) : FnOk P w K mg base CX0 1 t.a_Level_worth t.fd_Level_worth ["self", "calls", "kind", "case"] (spWor t d isLev) := by
  refine T.f_Level_worth.okQ sc_Level_worth (fun vs H Q E h => ?_) (fun cdv A outer s H vs Q E hr h => ?_)
  · obtain ⟨x, b, L, c, cs, r, u, rfl, _⟩ := h
    rfl
  · obtain ⟨x, b, L, c, cs, r, u, rfl, tr, ⟨n, rfl⟩, _, _, _, k⟩ := h
    refine ⟨_, (q_pss_one (q_ps_ret (q_pe_fld (q_pv 0) rfl))), ?_⟩
    cases d with
    | zero => exact tr.elim
    | succ d =>
      obtain ⟨_, ⟨dx, hx⟩, _⟩ := tr
      exact ⟨_, rfl, x, _, dx, _, _, rfl, hx, T.cl_Level, T.no_Level_level, rfl, k _ (Same.refl _)⟩
theorem ok_wcal (T : Env K mg t) (d : Nat) : FnOk P w K mg base CX0 6 t.a_Called_worth t.fd_Called_worth ["self", "calls", "kind", "case"] (spWor t d isCal) := by
  have G_call_place : FnOk P w K mg base CX0 1 t.a_call_place t.fd_call_place ["when", "town", "case"] spCP := ok_cp T
  have G_Calls_worth : FnOk P w K mg base CX0 5 t.a_Calls_worth t.fd_Calls_worth ["self", "town", "kind", "day", "known"] (spWorth t.C_Calls) := ok_worth T
  refine T.f_Called_worth.okQ sc_Called_worth (fun vs H Q E h => ?_) (fun cdv A outer s H vs Q E hr h => ?_)
  · obtain ⟨x, b, L, c, cs, r, u, rfl, _⟩ := h
    rfl
  · obtain ⟨x, b, L, c, cs, r, u, rfl, tr, ⟨wh, tn, rfl⟩, ca, hc, ok, k⟩ := h
    have hr_call_place : Room 1 _ := hr.mono (by decide)
    have hr_Calls_worth := hr
    refine ⟨_, (q_pss_cons (q_ps_asg (q_pe_call G_call_place hr_call_place (by rfl) T.mg_call_place T.kp_call_place T.b_call_place .nil pass0 (q_pa_cons (q_pe_fld (q_pv 0) rfl) (q_pa_cons (q_pe_fld (q_pv 0) rfl) (q_pa_cons (q_pv 3) q_pa_nil star_Name) star_Attribute) star_Attribute)) (q_pg_tup (by rfl) (q_pgs_cons (q_pg_name (i := 4) sc_Called_worth.nd rfl (by first | exact Or.inl rfl | exact Or.inr (Or.inl rfl) | exact Or.inr rfl)) (q_pgs_cons (q_pg_name (i := 5) sc_Called_worth.nd rfl (by first | exact Or.inl rfl | exact Or.inr (Or.inl rfl) | exact Or.inr rfl)) q_pgs_nil))))
      (q_pss_one (q_ps_ret (q_pe_meth (q_pv 1) T.cl_Calls T.m_Calls_worth G_Calls_worth hr_Calls_worth T.bd_Calls_worth vals_none pass0 (q_pa_cons (q_pv 4) (q_pa_cons (q_pv 2) (q_pa_cons (q_pv 5) q_pa_nil star_Name) star_Name) star_Name))))), ?_⟩
    cases d with
    | zero => exact tr.elim
    | succ d =>
      obtain ⟨_, ⟨dx, hx⟩, gw, gt⟩ := tr
      refine ⟨_, rfl, x, _, dx, _, _, rfl, hx, T.cl_Called, T.no_Called_when, rfl, _, rfl, x, _, dx, _, _, rfl, hx, T.cl_Called, T.no_Called_town, rfl, _, rfl, ?_⟩
      refine ⟨c, wh, tn, cs.tw, cs.m, cs.p, rfl, hc, gw, fun pl H1 h1 s1 => ?_⟩
      refine ⟨pl, _, rfl, SqT.of h1, rfl, _, _, rfl, _, _, rfl, rfl, ?_⟩
      have ca1 := ca.same s1
      obtain ⟨dy, rs, hb, _, _⟩ := id ca1
      obtain ⟨d0, d1⟩ := whDay_in gw ok.m0 ok.m1 ok.p0 ok.p1
      have nt : nameOk (tn.getD cs.tw) = true := by
        cases tn with
        | none => exact ok.tw
        | some y => exact gt y rfl
      refine ⟨_, rfl, b, dy, _, rfl, hb, rfl, _, rfl, _, rfl, _, rfl, ?_⟩
      refine ⟨b, L, tn.getD cs.tw, cs.kd, whDay wh cs.m cs.p, .non, cs.rows, cs.rows, rfl, ca1, .inl ⟨rfl, rfl⟩, ok.rl, nt, ok.kd, d0, d1, fun r H2 iw s2 => ?_⟩
      have e : r = worF cs (d + 1) (.cal wh tn) := wvF_is iw
      rw [e]
      exact k _ (s1.trans s2)
theorem fn_no {k : Nat} {f : Addr} {fd : FuncData} {ps : List Str} {sp : Sp} (h : ∀ vs H Q E, ¬ sp vs H Q E) : FnOk P w K mg base CX0 k f fd ps sp :=
  ⟨fun vs H Q E z => (h vs H Q E z).elim, fun A outer s H args us vs Q E _ _ _ _ z => (h vs H Q E z).elim⟩
theorem Trm.cases {d : Nat} {r : Int} {H : Hp} {a : Addr} {u : Tm} (h : Trm t d r H a u) : (isLev u ∧ ∃ dx fs, H a = some (.ins t.C_Level dx fs) ∧ fs.lookup ("worth" : Str) = none ∧ fs.lookup ("told" : Str) = none) ∨ (isCal u ∧ ∃ dx fs, H a = some (.ins t.C_Called dx fs) ∧ fs.lookup ("worth" : Str) = none ∧ fs.lookup ("told" : Str) = none) ∨ (isLow u ∧ ∃ dx fs, H a = some (.ins t.C_Least dx fs) ∧ fs.lookup ("worth" : Str) = none ∧ fs.lookup ("told" : Str) = none) ∨ (isTop u ∧ ∃ dx fs, H a = some (.ins t.C_Greatest dx fs) ∧ fs.lookup ("worth" : Str) = none ∧ fs.lookup ("told" : Str) = none) := by
  cases d with
  | zero => exact h.elim
  | succ d =>
    cases u with
    | lev n => obtain ⟨_, ⟨dx, hx⟩, _⟩ := h; exact .inl ⟨⟨_, rfl⟩, _, _, hx, rfl, rfl⟩
    | cal a b => obtain ⟨_, ⟨dx, hx⟩, _⟩ := h; exact .inr (.inl ⟨⟨_, _, rfl⟩, _, _, hx, rfl, rfl⟩)
    | low ts => obtain ⟨dx, p, xs, q, z, e, hx, _⟩ := h; exact .inr (.inr (.inl ⟨⟨_, rfl⟩, _, _, hx, rfl, rfl⟩))
    | top ts => obtain ⟨dx, p, xs, q, z, e, hx, _⟩ := h; exact .inr (.inr (.inr ⟨⟨_, rfl⟩, _, _, hx, rfl, rfl⟩))
theorem ok_wlow (T : Env K mg t) (d : Nat) (G_Least_worth : FnOk P w K mg base CX0 (6 + d) t.a_Least_worth t.fd_Least_worth ["self", "calls", "kind", "case"] (spWor t d isLow)) (G_Greatest_worth : FnOk P w K mg base CX0 (6 + d) t.a_Greatest_worth t.fd_Greatest_worth ["self", "calls", "kind", "case"] (spWor t d isTop)) : FnOk P w K mg base CX0 (6 + d + 1) t.a_Least_worth t.fd_Least_worth ["self", "calls", "kind", "case"] (spWor t (d + 1) isLow) := by
  have G_Level_worth : FnOk P w K mg base CX0 1 t.a_Level_worth t.fd_Level_worth ["self", "calls", "kind", "case"] (spWor t d isLev) := ok_wlev T d
  have G_Called_worth : FnOk P w K mg base CX0 6 t.a_Called_worth t.fd_Called_worth ["self", "calls", "kind", "case"] (spWor t d isCal) := ok_wcal T d
  refine T.f_Least_worth.okQ sc_Least_worth (fun vs H Q E h => ?_) (fun cdv A outer s H vs Q E hr h => ?_)
  · obtain ⟨x, b, L, c, cs, r, u, rfl, _⟩ := h
    rfl
  · obtain ⟨x, b, L, c, cs, r, u, rfl, tr, ⟨ts, rfl⟩, ca, hc, ok, k⟩ := h
    have hr_Level_worth : Room 1 _ := hr.mono (by omega)
    have hr_Called_worth : Room 6 _ := hr.mono (by omega)
    have hr_Least_worth := hr
    have hr_Greatest_worth := hr
    refine ⟨_, (q_pss_one (q_ps_ret (q_pe_callB (cr_min rfl) (by rfl) T.z_min (by decide +kernel) (q_pa_cons (q_pe_lc (own := [("term", 4)]) (g := gName 4) (by rfl) sc_Least_worth.nd (q_pi_tup (q_pe_fld (q_pv 0) rfl)) (blkOk_by (own := [("term", 4)]) (N := ["self", "calls", "kind", "case", "term"]) (sc := defScope s_Least_worth) (by decide +kernel)) (fun _ _ _ _ _ => (q_pg_name (i := 4) sc_Least_worth.nd rfl (by first | exact Or.inl rfl | exact Or.inr (Or.inl rfl) | exact Or.inr rfl))) (fun _ _ _ _ _ => q_pts_nil) (fun _ _ _ _ _ => (q_pe_alt (q_pe_meth (q_pv 4) T.cl_Level T.m_Level_worth G_Level_worth hr_Level_worth T.b_Level_worth .nil pass0 (q_pa_cons (q_pv 1) (q_pa_cons (q_pv 2) (q_pa_cons (q_pv 3) q_pa_nil star_Name) star_Name) star_Name)) (q_pe_alt (q_pe_meth (q_pv 4) T.cl_Called T.m_Called_worth G_Called_worth hr_Called_worth T.b_Called_worth .nil pass0 (q_pa_cons (q_pv 1) (q_pa_cons (q_pv 2) (q_pa_cons (q_pv 3) q_pa_nil star_Name) star_Name) star_Name)) (q_pe_alt (q_pe_meth (q_pv 4) T.cl_Least T.m_Least_worth G_Least_worth hr_Least_worth T.b_Least_worth .nil pass0 (q_pa_cons (q_pv 1) (q_pa_cons (q_pv 2) (q_pa_cons (q_pv 3) q_pa_nil star_Name) star_Name) star_Name)) (q_pe_meth (q_pv 4) T.cl_Greatest T.m_Greatest_worth G_Greatest_worth hr_Greatest_worth T.b_Greatest_worth .nil pass0 (q_pa_cons (q_pv 1) (q_pa_cons (q_pv 2) (q_pa_cons (q_pv 3) q_pa_nil star_Name) star_Name) star_Name))))))) q_pa_nil star_ListComp)))), ?_⟩
    obtain ⟨dx, p, xs, q, z, e, hx, hp, lx, l2, l8, lq, i1, i2, i3, i4, sub⟩ := tr
    refine ⟨_, rfl, x, _, dx, _, _, rfl, hx, T.cl_Least, T.no_Least_terms, rfl, p, rfl, ⟨_, SqT.of hp⟩, fun Lw hLw => ?_⟩
    refine lc_tup (xs := xs.map V.ref) (fun i H' => H' Lw = some (.lst (((ts.take i).map (worF cs d)).map V.int)) ∧ Same H H') ?_ ?_ ?_ ?_
    · exact ⟨by rw [upd_same]; rfl, same_new hLw⟩
    · rintro i H1 hi ⟨h1, s1⟩
      exact SqT.of (s1 _ _ hp)
    · rintro i y H1 hy ⟨h1, s1⟩
      obtain ⟨x', hx', rfl⟩ := ref_at hy
      have hi := (List.getElem?_eq_some_iff.mp hx').1
      obtain ⟨u, hu⟩ : ∃ u, ts[i]? = some u := ⟨_, List.getElem?_eq_getElem (by omega)⟩
      have tu := (sub i x' u hx' hu).mono (.same s1)
      have ca1 := ca.same s1
      have hc1 := s1 _ _ hc
      have fin : ∀ H2, Same H1 H2 → ∃ acc, H2 Lw = some (.lst acc) ∧ acc.length < sizeLine ∧ (upd H2 Lw (.lst (acc ++ [V.int (worF cs d u)]))) Lw = some (.lst (((ts.take (i + 1)).map (worF cs d)).map V.int)) ∧ Same H (upd H2 Lw (.lst (acc ++ [V.int (worF cs d u)]))) := fun H2 s2 => by
        refine ⟨_, s2 _ _ h1, small1000 (by rw [List.length_map, List.length_map, List.length_take]; omega), ?_, fun b o e => ?_⟩
        · rw [upd_same, List.take_succ, hu, List.map_append, List.map_append]; rfl
        · rw [upd_ne (ne_of_none e hLw)]; exact s2 _ _ (s1 b o e)
      refine ⟨rfl, yes_i ?_⟩
      rcases tu.cases with ⟨sh, dy, fs, ey, lk, _⟩ | ⟨sh, dy, fs, ey, lk, _⟩ | ⟨sh, dy, fs, ey, lk, _⟩ | ⟨sh, dy, fs, ey, lk, _⟩
      · exact .inl ⟨_, rfl, x', dy, fs, rfl, ey, lk, _, rfl, _, rfl, _, rfl, x', b, L, c, cs, q, u, rfl, tu, sh, ca1, hc1, ok, fin⟩
      · exact .inr (.inl ⟨_, rfl, x', dy, fs, rfl, ey, lk, _, rfl, _, rfl, _, rfl, x', b, L, c, cs, q, u, rfl, tu, sh, ca1, hc1, ok, fin⟩)
      · exact .inr (.inr (.inl ⟨_, rfl, x', dy, fs, rfl, ey, lk, _, rfl, _, rfl, _, rfl, x', b, L, c, cs, q, u, rfl, tu, sh, ca1, hc1, ok, fin⟩))
      · exact .inr (.inr (.inr ⟨_, rfl, x', dy, fs, rfl, ey, lk, _, rfl, _, rfl, _, rfl, x', b, L, c, cs, q, u, rfl, tu, sh, ca1, hc1, ok, fin⟩))
    rintro H1 ⟨h1, s1⟩
    rw [List.length_map, lx, List.take_length] at h1
    refine ⟨Lw, _, rfl, SqL.of h1, by rw [List.length_map]; omega, fun n hn hk => ?_⟩
    rw [min_is hn hk]
    exact k _ s1
theorem ok_wtop (T : Env K mg t) (d : Nat) (G_Least_worth : FnOk P w K mg base CX0 (6 + d) t.a_Least_worth t.fd_Least_worth ["self", "calls", "kind", "case"] (spWor t d isLow)) (G_Greatest_worth : FnOk P w K mg base CX0 (6 + d) t.a_Greatest_worth t.fd_Greatest_worth ["self", "calls", "kind", "case"] (spWor t d isTop)) : FnOk P w K mg base CX0 (6 + d + 1) t.a_Greatest_worth t.fd_Greatest_worth ["self", "calls", "kind", "case"] (spWor t (d + 1) isTop) := by
  have G_Level_worth : FnOk P w K mg base CX0 1 t.a_Level_worth t.fd_Level_worth ["self", "calls", "kind", "case"] (spWor t d isLev) := ok_wlev T d
  have G_Called_worth : FnOk P w K mg base CX0 6 t.a_Called_worth t.fd_Called_worth ["self", "calls", "kind", "case"] (spWor t d isCal) := ok_wcal T d
  refine T.f_Greatest_worth.okQ sc_Greatest_worth (fun vs H Q E h => ?_) (fun cdv A outer s H vs Q E hr h => ?_)
  · obtain ⟨x, b, L, c, cs, r, u, rfl, _⟩ := h
    rfl
  · obtain ⟨x, b, L, c, cs, r, u, rfl, tr, ⟨ts, rfl⟩, ca, hc, ok, k⟩ := h
    have hr_Level_worth : Room 1 _ := hr.mono (by omega)
    have hr_Called_worth : Room 6 _ := hr.mono (by omega)
    have hr_Least_worth := hr
    have hr_Greatest_worth := hr
    refine ⟨_, (q_pss_one (q_ps_ret (q_pe_callB (cr_max rfl) (by rfl) T.z_max (by decide +kernel) (q_pa_cons (q_pe_lc (own := [("term", 4)]) (g := gName 4) (by rfl) sc_Greatest_worth.nd (q_pi_tup (q_pe_fld (q_pv 0) rfl)) (blkOk_by (own := [("term", 4)]) (N := ["self", "calls", "kind", "case", "term"]) (sc := defScope s_Greatest_worth) (by decide +kernel)) (fun _ _ _ _ _ => (q_pg_name (i := 4) sc_Greatest_worth.nd rfl (by first | exact Or.inl rfl | exact Or.inr (Or.inl rfl) | exact Or.inr rfl))) (fun _ _ _ _ _ => q_pts_nil) (fun _ _ _ _ _ => (q_pe_alt (q_pe_meth (q_pv 4) T.cl_Level T.m_Level_worth G_Level_worth hr_Level_worth T.b_Level_worth .nil pass0 (q_pa_cons (q_pv 1) (q_pa_cons (q_pv 2) (q_pa_cons (q_pv 3) q_pa_nil star_Name) star_Name) star_Name)) (q_pe_alt (q_pe_meth (q_pv 4) T.cl_Called T.m_Called_worth G_Called_worth hr_Called_worth T.b_Called_worth .nil pass0 (q_pa_cons (q_pv 1) (q_pa_cons (q_pv 2) (q_pa_cons (q_pv 3) q_pa_nil star_Name) star_Name) star_Name)) (q_pe_alt (q_pe_meth (q_pv 4) T.cl_Least T.m_Least_worth G_Least_worth hr_Least_worth T.b_Least_worth .nil pass0 (q_pa_cons (q_pv 1) (q_pa_cons (q_pv 2) (q_pa_cons (q_pv 3) q_pa_nil star_Name) star_Name) star_Name)) (q_pe_meth (q_pv 4) T.cl_Greatest T.m_Greatest_worth G_Greatest_worth hr_Greatest_worth T.b_Greatest_worth .nil pass0 (q_pa_cons (q_pv 1) (q_pa_cons (q_pv 2) (q_pa_cons (q_pv 3) q_pa_nil star_Name) star_Name) star_Name))))))) q_pa_nil star_ListComp)))), ?_⟩
    obtain ⟨dx, p, xs, q, z, e, hx, hp, lx, l2, l8, lq, i1, i2, i3, i4, sub⟩ := tr
    refine ⟨_, rfl, x, _, dx, _, _, rfl, hx, T.cl_Greatest, T.no_Greatest_terms, rfl, p, rfl, ⟨_, SqT.of hp⟩, fun Lw hLw => ?_⟩
    refine lc_tup (xs := xs.map V.ref) (fun i H' => H' Lw = some (.lst (((ts.take i).map (worF cs d)).map V.int)) ∧ Same H H') ?_ ?_ ?_ ?_
    · exact ⟨by rw [upd_same]; rfl, same_new hLw⟩
    · rintro i H1 hi ⟨h1, s1⟩
      exact SqT.of (s1 _ _ hp)
    · rintro i y H1 hy ⟨h1, s1⟩
      obtain ⟨x', hx', rfl⟩ := ref_at hy
      have hi := (List.getElem?_eq_some_iff.mp hx').1
      obtain ⟨u, hu⟩ : ∃ u, ts[i]? = some u := ⟨_, List.getElem?_eq_getElem (by omega)⟩
      have tu := (sub i x' u hx' hu).mono (.same s1)
      have ca1 := ca.same s1
      have hc1 := s1 _ _ hc
      have fin : ∀ H2, Same H1 H2 → ∃ acc, H2 Lw = some (.lst acc) ∧ acc.length < sizeLine ∧ (upd H2 Lw (.lst (acc ++ [V.int (worF cs d u)]))) Lw = some (.lst (((ts.take (i + 1)).map (worF cs d)).map V.int)) ∧ Same H (upd H2 Lw (.lst (acc ++ [V.int (worF cs d u)]))) := fun H2 s2 => by
        refine ⟨_, s2 _ _ h1, small1000 (by rw [List.length_map, List.length_map, List.length_take]; omega), ?_, fun b o e => ?_⟩
        · rw [upd_same, List.take_succ, hu, List.map_append, List.map_append]; rfl
        · rw [upd_ne (ne_of_none e hLw)]; exact s2 _ _ (s1 b o e)
      refine ⟨rfl, yes_i ?_⟩
      rcases tu.cases with ⟨sh, dy, fs, ey, lk, _⟩ | ⟨sh, dy, fs, ey, lk, _⟩ | ⟨sh, dy, fs, ey, lk, _⟩ | ⟨sh, dy, fs, ey, lk, _⟩
      · exact .inl ⟨_, rfl, x', dy, fs, rfl, ey, lk, _, rfl, _, rfl, _, rfl, x', b, L, c, cs, q, u, rfl, tu, sh, ca1, hc1, ok, fin⟩
      · exact .inr (.inl ⟨_, rfl, x', dy, fs, rfl, ey, lk, _, rfl, _, rfl, _, rfl, x', b, L, c, cs, q, u, rfl, tu, sh, ca1, hc1, ok, fin⟩)
      · exact .inr (.inr (.inl ⟨_, rfl, x', dy, fs, rfl, ey, lk, _, rfl, _, rfl, _, rfl, x', b, L, c, cs, q, u, rfl, tu, sh, ca1, hc1, ok, fin⟩))
      · exact .inr (.inr (.inr ⟨_, rfl, x', dy, fs, rfl, ey, lk, _, rfl, _, rfl, _, rfl, x', b, L, c, cs, q, u, rfl, tu, sh, ca1, hc1, ok, fin⟩))
    rintro H1 ⟨h1, s1⟩
    rw [List.length_map, lx, List.take_length] at h1
    refine ⟨Lw, _, rfl, SqL.of h1, by rw [List.length_map]; omega, fun n hn hk => ?_⟩
    rw [max_is hn hk]
    exact k _ s1
theorem ok_wrec (T : Env K mg t) : ∀ d : Nat, FnOk P w K mg base CX0 (6 + d) t.a_Least_worth t.fd_Least_worth ["self", "calls", "kind", "case"] (spWor t d isLow) ∧ FnOk P w K mg base CX0 (6 + d) t.a_Greatest_worth t.fd_Greatest_worth ["self", "calls", "kind", "case"] (spWor t d isTop)
  | 0 => ⟨fn_no fun vs H Q E h => by obtain ⟨x, b, L, c, cs, r, u, _, tr, _⟩ := h; exact tr.elim, fn_no fun vs H Q E h => by obtain ⟨x, b, L, c, cs, r, u, _, tr, _⟩ := h; exact tr.elim⟩
  | d + 1 => let ⟨a, b⟩ := ok_wrec T d; ⟨ok_wlow T d a b, ok_wtop T d a b⟩
end
end Ck
set_option Elab.async false
set_option linter.all false
set_option pp.maxSteps 120
set_option maxRecDepth 100000
set_option maxHeartbeats 4000000
namespace Ck
open PySem L2
def spTold (t : Ad) (d : Nat) (sh : Tm → Prop) : Sp := fun vs H Q _ => ∃ (x : Addr) (r : Int) (u : Tm), vs = [.ref x] ∧ Trm t d r H x u ∧ sh u ∧ ∀ a H', Told d r H' a u → Same H H' → Q (.ref a) H'
section
variable {P : Program} {w : World} {K : PySem.W.Frag} {mg : Str → Option Value} {base : Heap} {t : Ad}
theorem ok_tlev (T : Env K mg t) (d : Nat) : FnOk P w K mg base CX0 1 t.a_Level_told t.fd_Level_told ["self"] (spTold t d isLev) := by
  refine T.f_Level_told.okQ sc_Level_told (fun vs H Q E h => ?_) (fun cdv A outer s H vs Q E hr h => ?_)
  · obtain ⟨x, r, u, rfl, _⟩ := h
    rfl
  · obtain ⟨x, r, u, rfl, tr, ⟨n, rfl⟩, k⟩ := h
    refine ⟨_, (q_pss_one (q_ps_ret (q_pe_tup (q_pa_cons q_pe_str (q_pa_cons (q_pe_fld (q_pv 0) rfl) q_pa_nil star_Attribute) star_Constant)))), ?_⟩
    cases d with
    | zero => exact tr.elim
    | succ d =>
      obtain ⟨r1, ⟨dx, hx⟩, n0, n1⟩ := tr
      exact ⟨_, rfl, x, _, dx, _, _, rfl, hx, T.cl_Level, T.no_Level_level, rfl, (by show 2 ≤ sizeLine; decide), fun a ha => k a _ ⟨r1, upd_same, n0, n1⟩ (same_new ha)⟩
theorem ok_tcal (T : Env K mg t) (d : Nat) : FnOk P w K mg base CX0 1 t.a_Called_told t.fd_Called_told ["self"] (spTold t d isCal) := by
  refine T.f_Called_told.okQ sc_Called_told (fun vs H Q E h => ?_) (fun cdv A outer s H vs Q E hr h => ?_)
  · obtain ⟨x, r, u, rfl, _⟩ := h
    rfl
  · obtain ⟨x, r, u, rfl, tr, ⟨wh, tn, rfl⟩, k⟩ := h
    refine ⟨_, (q_pss_one (q_ps_ret (q_pe_tup (q_pa_cons q_pe_str (q_pa_cons (q_pe_fld (q_pv 0) rfl) (q_pa_cons (q_pe_fld (q_pv 0) rfl) q_pa_nil star_Attribute) star_Attribute) star_Constant)))), ?_⟩
    cases d with
    | zero => exact tr.elim
    | succ d =>
      obtain ⟨r1, ⟨dx, hx⟩, gw, gt⟩ := tr
      exact ⟨_, rfl, x, _, dx, _, _, rfl, hx, T.cl_Called, T.no_Called_when, rfl, _, rfl, x, _, dx, _, _, rfl, hx, T.cl_Called, T.no_Called_town, rfl, (by show 3 ≤ sizeLine; decide), fun a ha => k a _ ⟨r1, upd_same, gw, gt⟩ (same_new ha)⟩
def spJT (t : Ad) (d : Nat) : Sp := fun vs H Q _ => ∃ (wd : Str) (p : Addr) (xs : List Addr) (ts : List Tm) (q : Int), vs = [.str wd, .ref p] ∧ H p = some (.tup (xs.map V.ref)) ∧ xs.length = ts.length ∧ ts.length ≤ 8 ∧ (∀ (i : Nat) (x : Addr) (u : Tm), xs[i]? = some x → ts[i]? = some u → Trm t d q H x u) ∧
  ∀ (a : Addr) (rs : List Addr) (H' : Hp), H' a = some (.tup (.str wd :: rs.map V.ref)) → rs.length = ts.length → (∀ (i : Nat) (x : Addr) (u : Tm), rs[i]? = some x → ts[i]? = some u → Told d q H' x u) → Same H H' → Q (.ref a) H'
theorem ok_jt (T : Env K mg t) (d : Nat) (n : Nat) (n1 : 1 ≤ n) (G_Least_told : FnOk P w K mg base CX0 n t.a_Least_told t.fd_Least_told ["self"] (spTold t d isLow)) (G_Greatest_told : FnOk P w K mg base CX0 n t.a_Greatest_told t.fd_Greatest_told ["self"] (spTold t d isTop)) : FnOk P w K mg base CX0 (n + 1) t.a_joined_told t.fd_joined_told ["word", "terms"] (spJT t d) := by
  have G_Level_told : FnOk P w K mg base CX0 1 t.a_Level_told t.fd_Level_told ["self"] (spTold t d isLev) := ok_tlev T d
  have G_Called_told : FnOk P w K mg base CX0 1 t.a_Called_told t.fd_Called_told ["self"] (spTold t d isCal) := ok_tcal T d
  refine T.f_joined_told.okQ sc_joined_told (fun vs H Q E h => ?_) (fun cdv A outer s H vs Q E hr h => ?_)
  · obtain ⟨wd, p, xs, ts, q, rfl, _⟩ := h
    rfl
  · obtain ⟨wd, p, xs, ts, q, rfl, hp, lx, l8, sub, k⟩ := h
    have hr_Level_told : Room 1 _ := hr.mono n1
    have hr_Called_told : Room 1 _ := hr.mono n1
    have hr_Least_told := hr
    have hr_Greatest_told := hr
    refine ⟨_, (q_pss_one (q_ps_ret (q_pe_callTy call_tuple_of (by rfl) T.z_tuple (by decide +kernel) (q_pa_cons (q_pe_op op_cat (q_pe_lst (q_pa_cons (q_pv 0) q_pa_nil star_Name)) (q_pe_lc (own := [("term", 2)]) (g := gName 2) (by rfl) sc_joined_told.nd (q_pi_tup (q_pv 1)) (blkOk_by (own := [("term", 2)]) (N := ["word", "terms", "term"]) (sc := defScope s_joined_told) (by decide +kernel)) (fun _ _ _ _ _ => (q_pg_name (i := 2) sc_joined_told.nd rfl (by first | exact Or.inl rfl | exact Or.inr (Or.inl rfl) | exact Or.inr rfl))) (fun _ _ _ _ _ => q_pts_nil) (fun _ _ _ _ _ => (q_pe_alt (q_pe_meth0 (q_pv 2) T.cl_Level T.m_Level_told G_Level_told hr_Level_told T.b_Level_told .nil pass0) (q_pe_alt (q_pe_meth0 (q_pv 2) T.cl_Called T.m_Called_told G_Called_told hr_Called_told T.b_Called_told .nil pass0) (q_pe_alt (q_pe_meth0 (q_pv 2) T.cl_Least T.m_Least_told G_Least_told hr_Least_told T.b_Least_told .nil pass0) (q_pe_meth0 (q_pv 2) T.cl_Greatest T.m_Greatest_told G_Greatest_told hr_Greatest_told T.b_Greatest_told .nil pass0))))))) q_pa_nil star_BinOp)))), ?_⟩
    refine ⟨_, rfl, (by show 1 ≤ sizeLine; decide), fun l1 hl1 => ?_⟩
    have s1 := same_new (o := .lst [V.str wd]) hl1
    have f1 := new_at (o := .lst [V.str wd]) hl1
    have hp1 := s1 _ _ hp
    refine ⟨_, rfl, p, rfl, ⟨_, SqT.of hp1⟩, fun L hL => ?_⟩
    refine lc_tup (xs := xs.map V.ref) (fun i H' => ∃ rs : List Addr, rs.length = i ∧ H' L = some (.lst (rs.map V.ref)) ∧ (∀ (j : Nat) (x : Addr) (u : Tm), rs[j]? = some x → ts[j]? = some u → Told d q H' x u) ∧ Same (upd H l1 (.lst [V.str wd])) H') ?_ ?_ ?_ ?_
    · exact ⟨[], rfl, upd_same, by simp, same_new hL⟩
    · rintro i H2 hi ⟨rs, lr, h2, tl, s2⟩
      exact SqT.of (s2 _ _ hp1)
    · rintro i y H2 hy ⟨rs, lr, h2, tl, s2⟩
      obtain ⟨x', hx', rfl⟩ := ref_at hy
      have hi := (List.getElem?_eq_some_iff.mp hx').1
      obtain ⟨u, hu⟩ : ∃ u, ts[i]? = some u := ⟨_, List.getElem?_eq_getElem (by omega)⟩
      have tu := (sub i x' u hx' hu).mono (.same (s1.trans s2))
      have fin : ∀ a H3, Told d q H3 a u → Same H2 H3 → ∃ acc, H3 L = some (.lst acc) ∧ acc.length < sizeLine ∧ ∃ rs : List Addr, rs.length = i + 1 ∧ (upd H3 L (.lst (acc ++ [V.ref a]))) L = some (.lst (rs.map V.ref)) ∧ (∀ (j : Nat) (x : Addr) (u : Tm), rs[j]? = some x → ts[j]? = some u → Told d q (upd H3 L (.lst (acc ++ [V.ref a]))) x u) ∧ Same (upd H l1 (.lst [V.str wd])) (upd H3 L (.lst (acc ++ [V.ref a]))) := fun a H3 ta s3 => by
        have h3 := s3 _ _ h2
        refine ⟨_, h3, small1000 (by rw [List.length_map]; omega), rs ++ [a], by rw [List.length_append, lr]; rfl, ?_, fun j x v hx hv => ?_, fun b o e => ?_⟩
        · rw [upd_same, List.map_append]; rfl
        · rw [List.getElem?_append] at hx
          by_cases hj : j < rs.length
          · rw [if_pos hj] at hx
            exact ((tl j x v hx hv).mono (.same s3)).mono (Tups.upd h3)
          · rw [if_neg hj] at hx
            have e0 : j - rs.length = 0 := by
              have := (List.getElem?_eq_some_iff.mp hx).1
              simp at this
              omega
            have ej : j = i := by omega
            rw [e0] at hx
            cases hx
            rw [ej, hu] at hv
            cases hv
            exact ta.mono (Tups.upd h3)
        · rw [upd_ne (ne_of_none e hL)]; exact s3 _ _ (s2 b o e)
      refine ⟨rfl, yes_i ?_⟩
      rcases tu.cases with ⟨sh, dy, fs, ey, _, lk⟩ | ⟨sh, dy, fs, ey, _, lk⟩ | ⟨sh, dy, fs, ey, _, lk⟩ | ⟨sh, dy, fs, ey, _, lk⟩
      · exact .inl ⟨_, rfl, x', dy, fs, rfl, ey, lk, x', q, u, rfl, tu, sh, fin⟩
      · exact .inr (.inl ⟨_, rfl, x', dy, fs, rfl, ey, lk, x', q, u, rfl, tu, sh, fin⟩)
      · exact .inr (.inr (.inl ⟨_, rfl, x', dy, fs, rfl, ey, lk, x', q, u, rfl, tu, sh, fin⟩))
      · exact .inr (.inr (.inr ⟨_, rfl, x', dy, fs, rfl, ey, lk, x', q, u, rfl, tu, sh, fin⟩))
    rintro H2 ⟨rs, lr, h2, tl, s2⟩
    rw [List.length_map, lx] at lr
    refine ⟨l1, L, _, _, rfl, rfl, s2 _ _ f1, h2, Nat.le_of_lt (small1000 (by rw [List.length_map]; show 1 + _ ≤ 1000; omega)), fun l3 hl3 => ?_⟩
    have s3 := same_new (o := .lst ([V.str wd] ++ rs.map V.ref)) hl3
    refine ⟨l3, _, rfl, .inl ⟨SqL.of upd_same, fun o ho => ?_⟩⟩
    have s4 := same_new (o := .tup ([V.str wd] ++ rs.map V.ref)) ho
    exact k o rs _ upd_same lr (fun j x u hx hu => (tl j x u hx hu).mono (.same (s3.trans s4))) (((s1.trans s2).trans s3).trans s4)
theorem ok_tlow (T : Env K mg t) (d : Nat) (n : Nat) (G_joined_told : FnOk P w K mg base CX0 n t.a_joined_told t.fd_joined_told ["word", "terms"] (spJT t d)) : FnOk P w K mg base CX0 (n + 1) t.a_Least_told t.fd_Least_told ["self"] (spTold t (d + 1) isLow) := by
  refine T.f_Least_told.okQ sc_Least_told (fun vs H Q E h => ?_) (fun cdv A outer s H vs Q E hr h => ?_)
  · obtain ⟨x, r, u, rfl, _⟩ := h
    rfl
  · obtain ⟨x, r, u, rfl, tr, ⟨ts, rfl⟩, k⟩ := h
    have hr_joined_told := hr
    refine ⟨_, (q_pss_one (q_ps_ret (q_pe_call G_joined_told hr_joined_told (by rfl) T.mg_joined_told T.kp_joined_told T.b_joined_told .nil pass0 (q_pa_cons q_pe_str (q_pa_cons (q_pe_fld (q_pv 0) rfl) q_pa_nil star_Attribute) star_Constant)))), ?_⟩
    obtain ⟨dx, p, xs, q, z, e, hx, hp, lx, l2, l8, lq, i1, i2, i3, i4, sub⟩ := tr
    refine ⟨_, rfl, x, _, dx, _, _, rfl, hx, T.cl_Least, T.no_Least_terms, rfl, ?_⟩
    refine ⟨"least", p, xs, ts, q, rfl, hp, lx, l8, sub, fun a rs H' ha lr tl s' => k a H' ⟨rs, q, ha, lr, l2, l8, lq, tl⟩ s'⟩
theorem ok_ttop (T : Env K mg t) (d : Nat) (n : Nat) (G_joined_told : FnOk P w K mg base CX0 n t.a_joined_told t.fd_joined_told ["word", "terms"] (spJT t d)) : FnOk P w K mg base CX0 (n + 1) t.a_Greatest_told t.fd_Greatest_told ["self"] (spTold t (d + 1) isTop) := by
  refine T.f_Greatest_told.okQ sc_Greatest_told (fun vs H Q E h => ?_) (fun cdv A outer s H vs Q E hr h => ?_)
  · obtain ⟨x, r, u, rfl, _⟩ := h
    rfl
  · obtain ⟨x, r, u, rfl, tr, ⟨ts, rfl⟩, k⟩ := h
    have hr_joined_told := hr
    refine ⟨_, (q_pss_one (q_ps_ret (q_pe_call G_joined_told hr_joined_told (by rfl) T.mg_joined_told T.kp_joined_told T.b_joined_told .nil pass0 (q_pa_cons q_pe_str (q_pa_cons (q_pe_fld (q_pv 0) rfl) q_pa_nil star_Attribute) star_Constant)))), ?_⟩
    obtain ⟨dx, p, xs, q, z, e, hx, hp, lx, l2, l8, lq, i1, i2, i3, i4, sub⟩ := tr
    refine ⟨_, rfl, x, _, dx, _, _, rfl, hx, T.cl_Greatest, T.no_Greatest_terms, rfl, ?_⟩
    refine ⟨"greatest", p, xs, ts, q, rfl, hp, lx, l8, sub, fun a rs H' ha lr tl s' => k a H' ⟨rs, q, ha, lr, l2, l8, lq, tl⟩ s'⟩
theorem ok_trec (T : Env K mg t) : ∀ d : Nat, FnOk P w K mg base CX0 (1 + 2 * d) t.a_Least_told t.fd_Least_told ["self"] (spTold t d isLow) ∧ FnOk P w K mg base CX0 (1 + 2 * d) t.a_Greatest_told t.fd_Greatest_told ["self"] (spTold t d isTop)
  | 0 => ⟨fn_no fun vs H Q E h => by obtain ⟨x, r, u, _, tr, _⟩ := h; exact tr.elim, fn_no fun vs H Q E h => by obtain ⟨x, r, u, _, tr, _⟩ := h; exact tr.elim⟩
  | d + 1 => let ⟨a, b⟩ := ok_trec T d; ⟨ok_tlow T d _ (ok_jt T d (1 + 2 * d) (by omega) a b), ok_ttop T d _ (ok_jt T d (1 + 2 * d) (by omega) a b)⟩
end
end Ck
set_option Elab.async false
set_option linter.all false
set_option pp.maxSteps 120
set_option maxRecDepth 100000
set_option maxHeartbeats 4000000
namespace Ck
open PySem L2
section
variable {P : Program} {w : World} {K : PySem.W.Frag} {mg : Str → Option Value} {base : Heap} {t : Ad}
def spNum0 (K : PySem.W.Frag) (m : Int) : Sp := fun vs H Q _ => ∃ (d a : Addr) (ns : List Int), vs = [.ref d] ∧ DrawAt K H d a ns ∧ ∀ (n : Int) (H' : Hp), 0 ≤ n → n ≤ m → DrawAt K H' d a ns → Keep d H H' → Q (.int n) H'
theorem ok_llevel (T : Env K mg t) : FnOk P w K mg base CX0 3 t.a_l_level t.fd_l_level ["_law_draw"] (spNum0 K 1000000) := by
  have G_l_next : FnOk P w K mg base CX0 2 t.a_l_next t.fd_l_next ["_law_draw", "_law_size"] (spNext K) := ok_next T
  refine T.f_l_level.okQ sc_l_level (fun vs H Q E h => ?_) (fun cdv A outer s H vs Q E hr h => ?_)
  · obtain ⟨d, a, ns, rfl, _⟩ := h
    rfl
  · obtain ⟨d, a, ns, rfl, D, q⟩ := h
    have hr_l_next : Room 2 _ := hr.mono (by decide)
    refine ⟨_, (q_pss_cons (q_ps_set (i := 1) sc_l_level.nd rfl (by first | exact Or.inl rfl | exact Or.inr (Or.inl rfl) | exact Or.inr rfl) (q_pe_call G_l_next hr_l_next (by rfl) T.mg_l_next T.kp_l_next T.b_l_next .nil pass0 (q_pa_cons (q_pv 0) (q_pa_cons q_pe_int q_pa_nil star_Constant) star_Name)))
      (q_pss_cons (q_ps_if (q_pt_cmpR op_lt (q_pv 1) q_pe_int (nomark _)) (q_pss_one (q_ps_ret (q_pe_ix ix_list (q_pe_lst (q_pa_cons q_pe_int (q_pa_cons q_pe_int (q_pa_cons q_pe_int (q_pa_cons q_pe_int q_pa_nil star_Constant) star_Constant) star_Constant) star_Constant)) (q_pv 1) (fun _ _ => rfl)))) q_pss_nil)
      (q_pss_one (q_ps_ret (q_pe_call G_l_next hr_l_next (by rfl) T.mg_l_next T.kp_l_next T.b_l_next .nil pass0 (q_pa_cons (q_pv 0) (q_pa_cons q_pe_int q_pa_nil star_Constant) star_Name)))))), ?_⟩
    refine ⟨_, rfl, d, a, ns, _, rfl, D, by decide, fun wy H1 w0 w1 D1 k1 => ?_⟩
    refine ⟨_, rfl, _, _, rfl, rfl, _, rfl, ite2 (fun hb => ?_) (fun hb => ?_)⟩
    · have hb := of_decide_eq_true hb
      refine ⟨(by show 4 ≤ sizeLine; decide), fun l hl => ?_⟩
      have s2 := same_new (o := .lst [V.int 0, V.int 1, V.int 999999, V.int 1000000]) hl
      have hw : wy = 0 ∨ wy = 1 ∨ wy = 2 ∨ wy = 3 := by omega
      rcases hw with rfl | rfl | rfl | rfl
      · exact ⟨_, rfl, l, _, 0, _, rfl, rfl, SqL.of upd_same, at_of (j := 0) (by decide) rfl, q _ _ (by decide) (by decide) (D1.same s2) (k1.trans (.of s2))⟩
      · exact ⟨_, rfl, l, _, 1, _, rfl, rfl, SqL.of upd_same, at_of (j := 1) (by decide) rfl, q _ _ (by decide) (by decide) (D1.same s2) (k1.trans (.of s2))⟩
      · exact ⟨_, rfl, l, _, 2, _, rfl, rfl, SqL.of upd_same, at_of (j := 2) (by decide) rfl, q _ _ (by decide) (by decide) (D1.same s2) (k1.trans (.of s2))⟩
      · exact ⟨_, rfl, l, _, 3, _, rfl, rfl, SqL.of upd_same, at_of (j := 3) (by decide) rfl, q _ _ (by decide) (by decide) (D1.same s2) (k1.trans (.of s2))⟩
    · exact ⟨_, rfl, d, a, ns, _, rfl, D1, by decide, fun n H2 n0 n1 D2 k2 => q n H2 n0 (by omega) D2 (k1.trans k2)⟩
theorem ok_lday (T : Env K mg t) : FnOk P w K mg base CX0 3 t.a_l_day t.fd_l_day ["_law_draw"] (spNum0 K 9999) := by
  have G_l_next : FnOk P w K mg base CX0 2 t.a_l_next t.fd_l_next ["_law_draw", "_law_size"] (spNext K) := ok_next T
  refine T.f_l_day.okQ sc_l_day (fun vs H Q E h => ?_) (fun cdv A outer s H vs Q E hr h => ?_)
  · obtain ⟨d, a, ns, rfl, _⟩ := h
    rfl
  · obtain ⟨d, a, ns, rfl, D, q⟩ := h
    have hr_l_next : Room 2 _ := hr.mono (by decide)
    refine ⟨_, (q_pss_cons (q_ps_set (i := 1) sc_l_day.nd rfl (by first | exact Or.inl rfl | exact Or.inr (Or.inl rfl) | exact Or.inr rfl) (q_pe_call G_l_next hr_l_next (by rfl) T.mg_l_next T.kp_l_next T.b_l_next .nil pass0 (q_pa_cons (q_pv 0) (q_pa_cons q_pe_int q_pa_nil star_Constant) star_Name)))
      (q_pss_cons (q_ps_if (q_pt_cmpR op_lt (q_pv 1) q_pe_int (nomark _)) (q_pss_one (q_ps_ret (q_pe_ix ix_list (q_pe_lst (q_pa_cons q_pe_int (q_pa_cons q_pe_int q_pa_nil star_Constant) star_Constant)) (q_pv 1) (fun _ _ => rfl)))) q_pss_nil)
      (q_pss_cons (q_ps_if (q_pt_cmpR op_lt (q_pv 1) q_pe_int (nomark _)) (q_pss_one (q_ps_ret (q_pe_call G_l_next hr_l_next (by rfl) T.mg_l_next T.kp_l_next T.b_l_next .nil pass0 (q_pa_cons (q_pv 0) (q_pa_cons q_pe_int q_pa_nil star_Constant) star_Name)))) q_pss_nil)
      (q_pss_one (q_ps_ret (q_pe_call G_l_next hr_l_next (by rfl) T.mg_l_next T.kp_l_next T.b_l_next .nil pass0 (q_pa_cons (q_pv 0) (q_pa_cons q_pe_int q_pa_nil star_Constant) star_Name))))))), ?_⟩
    refine ⟨_, rfl, d, a, ns, _, rfl, D, by decide, fun wy H1 w0 w1 D1 k1 => ?_⟩
    refine ⟨_, rfl, _, _, rfl, rfl, _, rfl, ite2 (fun hb => ?_) (fun hb => ?_)⟩
    · have hb := of_decide_eq_true hb
      refine ⟨(by show 2 ≤ sizeLine; decide), fun l hl => ?_⟩
      have s2 := same_new (o := .lst [V.int 0, V.int 9999]) hl
      have hw : wy = 0 ∨ wy = 1 := by omega
      rcases hw with rfl | rfl
      · exact ⟨_, rfl, l, _, 0, _, rfl, rfl, SqL.of upd_same, at_of (j := 0) (by decide) rfl, q _ _ (by decide) (by decide) (D1.same s2) (k1.trans (.of s2))⟩
      · exact ⟨_, rfl, l, _, 1, _, rfl, rfl, SqL.of upd_same, at_of (j := 1) (by decide) rfl, q _ _ (by decide) (by decide) (D1.same s2) (k1.trans (.of s2))⟩
    · refine ⟨_, rfl, _, _, rfl, rfl, _, rfl, ite2 (fun hb => ?_) (fun hb => ?_)⟩
      · exact ⟨_, rfl, d, a, ns, _, rfl, D1, by decide, fun n H2 n0 n1 D2 k2 => q n H2 n0 (by omega) D2 (k1.trans k2)⟩
      · exact ⟨_, rfl, d, a, ns, _, rfl, D1, by decide, fun n H2 n0 n1 D2 k2 => q n H2 n0 (by omega) D2 (k1.trans k2)⟩
abbrev Cl := Key × Option Str
def clV (c : Cl) : List V := [kV c.1, tnV c.2]
def GoodCl (c : Cl) : Prop := GoodWh c.1 ∧ GoodTn c.2
def spCls (K : PySem.W.Frag) : Sp := fun vs H Q _ => ∃ (d a Lt Ld : Addr) (ns : List Int) (tns : List (Option Str)) (ds : List Int) (m : Int), vs = [.ref d, .ref Lt, .ref Ld, .int m] ∧ DrawAt K H d a ns ∧ H Lt = some (.lst (tns.map tnV)) ∧ Lt ≠ d ∧ H Ld = some (.lst (ds.map V.int)) ∧ Ld ≠ d ∧ (∀ x ∈ tns, GoodTn x) ∧ 0 < tns.length ∧ tns.length ≤ 100 ∧ (∀ x ∈ ds, 0 ≤ x ∧ x ≤ 9999) ∧ 0 < ds.length ∧ ds.length ≤ 100 ∧ 0 ≤ m ∧ m ≤ 20 ∧
  ∀ (L : Addr) (rs : List Addr) (cs : List Cl) (H' : Hp), H' L = some (.lst (rs.map V.ref)) → TA clV H' rs cs → (cs.length : Int) = m → (∀ c ∈ cs, GoodCl c) → L ≠ d → DrawAt K H' d a ns → Keep d H H' → Q (.ref L) H'
theorem ok_lcalls (T : Env K mg t) : FnOk P w K mg base CX0 3 t.a_l_calls t.fd_l_calls ["_law_draw", "_law_towns", "_law_days", "_law_many"] (spCls K) := by
  have G_l_next : FnOk P w K mg base CX0 2 t.a_l_next t.fd_l_next ["_law_draw", "_law_size"] (spNext K) := ok_next T
  refine T.f_l_calls.okQ sc_l_calls (fun vs H Q E h => ?_) (fun cdv A outer s H vs Q E hr h => ?_)
  · obtain ⟨d, a, Lt, Ld, ns, tns, ds, m, rfl, _⟩ := h
    rfl
  · obtain ⟨d, a, Lt, Ld, ns, tns, ds, m, rfl, D, hLt, nt, hLd, nd, gt, t0, t1, gd, d0, d1, m0, m1, q⟩ := h
    have hr_l_next : Room 2 _ := hr.mono (by decide)
    refine ⟨_, (q_pss_cons (q_ps_set (i := 4) sc_l_calls.nd rfl (by first | exact Or.inl rfl | exact Or.inr (Or.inl rfl) | exact Or.inr rfl) (q_pe_lst q_pa_nil))
      (q_pss_cons (q_ps_for PassesOwn.never rfl (q_pi_range1 (by rfl) T.z_range (q_pa_cons (q_pv 3) q_pa_nil star_Name)) (q_pg_name (i := 5) sc_l_calls.nd rfl (by first | exact Or.inl rfl | exact Or.inr (Or.inl rfl) | exact Or.inr rfl))
      (q_pss_cons (q_ps_set (i := 6) sc_l_calls.nd rfl (by first | exact Or.inl rfl | exact Or.inr (Or.inl rfl) | exact Or.inr rfl) (q_pe_call G_l_next hr_l_next (by rfl) T.mg_l_next T.kp_l_next T.b_l_next .nil pass0 (q_pa_cons (q_pv 0) (q_pa_cons q_pe_int q_pa_nil star_Constant) star_Name)))
      (q_pss_cons (q_ps_set (i := 7) sc_l_calls.nd rfl (by first | exact Or.inl rfl | exact Or.inr (Or.inl rfl) | exact Or.inr rfl) (q_pe_ix ix_list (q_pe_lst (q_pa_cons q_pe_str (q_pa_cons q_pe_str q_pa_nil star_Constant) star_Constant)) (q_pe_op op_mod (q_pv 6) q_pe_int) (fun _ _ => rfl)))
      (q_pss_cons (q_ps_if (q_pt_cmpR op_gt (q_pv 6) q_pe_int (nomark _)) (q_pss_one (q_ps_set (i := 7) sc_l_calls.nd rfl (by first | exact Or.inl rfl | exact Or.inr (Or.inl rfl) | exact Or.inr rfl) (q_pe_ix ix_list (q_pv 2) (q_pe_call G_l_next hr_l_next (by rfl) T.mg_l_next T.kp_l_next T.b_l_next .nil pass0 (q_pa_cons (q_pv 0) (q_pa_cons (q_pe_callB call_len_seq (by rfl) T.z_len PySem.boot_len (q_pa_cons (q_pv 2) q_pa_nil star_Name)) q_pa_nil star_Call) star_Name)) (fun _ _ => rfl)))) q_pss_nil)
      (q_pss_one (q_ps_expr (q_pe_bm PySem.F.plainAttrs_list PySem.F.slot_list_append PySem.F.type_list_append mt_append (q_pv 4) (q_pa_cons (q_pe_tup (q_pa_cons (q_pv 7) (q_pa_cons (q_pe_ix ix_list (q_pv 1) (q_pe_call G_l_next hr_l_next (by rfl) T.mg_l_next T.kp_l_next T.b_l_next .nil pass0 (q_pa_cons (q_pv 0) (q_pa_cons (q_pe_callB call_len_seq (by rfl) T.z_len PySem.boot_len (q_pa_cons (q_pv 1) q_pa_nil star_Name)) q_pa_nil star_Call) star_Name)) (fun _ _ => rfl)) q_pa_nil star_Subscript) star_Name)) q_pa_nil star_Tuple))))))))
      (q_pss_one (q_ps_ret (q_pv 4))))), ?_⟩
    have lt : (tns.map tnV).length = tns.length := List.length_map _
    have ld : (ds.map V.int).length = ds.length := List.length_map _
    refine ⟨(by decide), fun L hL => ?_⟩
    have nL := D.ne hL
    have s1 := same_new (o := .lst []) hL
    refine ⟨_, rfl, m, rfl, by omega, by omega, ?_⟩
    refine for_range (lo := 0) (fun i σ H' => ∃ (o5 o6 o7 : Option V) (rs : List Addr) (cs : List Cl), σ = [some (.ref d), some (.ref Lt), some (.ref Ld), some (.int m), some (.ref L), o5, o6, o7] ∧ cs.length = i ∧ H' L = some (.lst (rs.map V.ref)) ∧ TA clV H' rs cs ∧ (∀ c ∈ cs, GoodCl c) ∧ DrawAt K H' d a ns ∧ Keep d H H') ?_ ?_ ?_
    · exact ⟨none, none, none, [], [], rfl, rfl, upd_same, .nil _ _, by simp, D.same s1, .of s1⟩
    · rintro i σ H1 hi ⟨o5, o6, o7, rs, cs, rfl, lc, h1, ta, gc, D1, k1⟩
      have lr := ta.len
      refine ⟨_, rfl, d, a, ns, _, rfl, D1, by decide, fun wy H2 w0 w1 D2 k2 => ?_⟩
      refine ⟨(by show 2 ≤ sizeLine; decide), fun l hl => ?_⟩
      have s3 := same_new (o := .lst [V.str "made", V.str "paid"]) hl
      have hwm : wy % 2 = 0 ∨ wy % 2 = 1 := by omega
      obtain ⟨wh0, hw0, ha0⟩ : ∃ wh0 : Key, GoodWh wh0 ∧ atI [V.str "made", V.str "paid"] (wy % 2) = some (kV wh0) := by
        rcases hwm with e | e
        · exact ⟨.inr "made", .inl rfl, at_of (j := 0) (by omega) rfl⟩
        · exact ⟨.inr "paid", .inr (.inl rfl), at_of (j := 1) (by omega) rfl⟩
      refine ⟨_, rfl, _, _, rfl, rfl, (by show (0 : Int) < 2; decide), l, _, _, _, rfl, rfl, SqL.of upd_same, ha0, ?_⟩
      have K3 := (k1.trans k2).trans (.of s3)
      have D3 := D2.same s3
      have k13 := k2.trans (.of s3)
      refine ⟨_, rfl, _, _, rfl, rfl, _, rfl, ?_⟩
      refine joinS (P := fun σ H' => ∃ (wh : Key), σ = [some (.ref d), some (.ref Lt), some (.ref Ld), some (.int m), some (.ref L), some (.int (0 + (i : Int))), some (.int wy), some (kV wh)] ∧ GoodWh wh ∧ DrawAt K H' d a ns ∧ Keep d H1 H') (fun _ => ⟨wh0, rfl, hw0, D3, k13⟩) ?_ (fun _ rest => ?_)
      · rintro σ H4 ⟨wh, rfl, gw, D4, k4⟩
        have kA := k1.trans k4
        have h4 := k4 _ _ h1 nL
        have hLt4 := kA _ _ hLt nt
        refine ⟨_, rfl, .inl ⟨rfl, _, SqL.of h4⟩, _, rfl, _, rfl, _, rfl, _, rfl, Lt, _, rfl, .inl (SqL.of hLt4), d, a, ns, _, rfl, D4, by rw [lt]; omega, fun r H5 r0 r1 D5 k5 => ?_⟩
        have k45 := k4.trans k5
        have hLt5 := k5 _ _ hLt4 nt
        rw [lt] at r1
        obtain ⟨tn, htn⟩ : ∃ tn, tns[r.toNat]? = some tn := ⟨_, List.getElem?_eq_getElem (by omega)⟩
        have ha : atI (tns.map tnV) r = some (tnV tn) := at_of (j := r.toNat) (by omega) (by rw [List.getElem?_map, htn]; rfl)
        refine ⟨Lt, _, r, _, rfl, rfl, SqL.of hLt5, ha, (by show 2 ≤ sizeLine; decide), fun p hp => ?_⟩
        have s6 := same_new (o := .tup (clV (wh, tn))) hp
        have h6 := s6 _ _ (k5 _ _ h4 nL)
        refine ⟨L, _, _, rfl, rfl, h6, small1000 (by rw [List.length_map]; omega), ?_⟩
        have t7 : Tups (upd H5 p (.tup (clV (wh, tn)))) (upd (upd H5 p (.tup (clV (wh, tn)))) L (.lst (rs.map V.ref ++ [V.ref p]))) := Tups.upd h6
        refine ⟨_, _, _, rs ++ [p], cs ++ [(wh, tn)], rfl, by rw [List.length_append, lc]; rfl, by rw [upd_same, List.map_append]; rfl, ?_, ?_, (D5.same s6).upd nL (nofrz h6), ((k1.trans k45).trans (.of s6)).updNew hL⟩
        · exact (((ta.mono (D1.tups k45)).mono (.same s6)).mono t7).snoc (t7 _ _ upd_same)
        · intro c hc
          rcases List.mem_append.mp hc with z | z
          · exact gc c z
          · rw [List.mem_singleton.mp z]; exact ⟨gw, gt tn (List.mem_of_getElem? htn)⟩
      · have hLd3 := K3 _ _ hLd nd
        refine ⟨_, rfl, _, rfl, _, rfl, Ld, _, rfl, .inl (SqL.of hLd3), d, a, ns, _, rfl, D3, by rw [ld]; omega, fun r H5 r0 r1 D5 k5 => ?_⟩
        rw [ld] at r1
        obtain ⟨dy, hdy⟩ : ∃ dy, ds[r.toNat]? = some dy := ⟨_, List.getElem?_eq_getElem (by omega)⟩
        have ha : atI (ds.map V.int) r = some (V.int dy) := at_of (j := r.toNat) (by omega) (by rw [List.getElem?_map, hdy]; rfl)
        obtain ⟨y0, y1⟩ := gd dy (List.mem_of_getElem? hdy)
        exact ⟨Ld, _, r, _, rfl, rfl, SqL.of (k5 _ _ hLd3 nd), ha, rest _ _ ⟨.inl dy, rfl, .inr (.inr ⟨dy, rfl, y0, y1⟩), D5, k13.trans k5⟩⟩
    · rintro σ H1 ⟨o5, o6, o7, rs, cs, rfl, lc, h1, ta, gc, D1, k1⟩
      exact ⟨_, rfl, q L rs cs H1 h1 ta (by omega) gc nL D1 k1⟩
end
end Ck
set_option Elab.async false
set_option linter.all false
set_option pp.maxSteps 120
set_option maxRecDepth 100000
set_option maxHeartbeats 4000000
namespace Ck
open PySem L2
section
variable {P : Program} {w : World} {K : PySem.W.Frag} {mg : Str → Option Value} {base : Heap} {t : Ad}
def spLT (K : PySem.W.Frag) (d : Nat) : Sp := fun vs H Q _ => ∃ (dr a Lc : Addr) (ns : List Int) (rs : List Addr) (cs : List Cl) (room : Int), vs = [.ref dr, .ref Lc, .int (d : Int), .int room] ∧ DrawAt K H dr a ns ∧ H Lc = some (.lst (rs.map V.ref)) ∧ Lc ≠ dr ∧ TA clV H rs cs ∧ 0 < cs.length ∧ cs.length ≤ 20 ∧ (∀ c ∈ cs, GoodCl c) ∧ 1 ≤ d ∧ 1 ≤ room ∧ room ≤ 60 ∧
  ∀ (x : Addr) (u : Tm) (H' : Hp), Told d room H' x u → DrawAt K H' dr a ns → Keep dr H H' → Q (.ref x) H'
theorem ok_lt (T : Env K mg t) (d : Nat) (G_l_told : FnOk P w K mg base CX0 (4 + d) t.a_l_told t.fd_l_told ["_law_draw", "_law_calls_here", "_law_deep", "_law_room"] (spLT K d)) : FnOk P w K mg base CX0 (4 + d + 1) t.a_l_told t.fd_l_told ["_law_draw", "_law_calls_here", "_law_deep", "_law_room"] (spLT K (d + 1)) := by
  have G_l_next : FnOk P w K mg base CX0 2 t.a_l_next t.fd_l_next ["_law_draw", "_law_size"] (spNext K) := ok_next T
  have G_l_level : FnOk P w K mg base CX0 3 t.a_l_level t.fd_l_level ["_law_draw"] (spNum0 K 1000000) := ok_llevel T
  refine T.f_l_told.okQ sc_l_told (fun vs H Q E h => ?_) (fun cdv A outer s H vs Q E hr h => ?_)
  · obtain ⟨dr, a, Lc, ns, rs, cs, room, rfl, _⟩ := h
    rfl
  · obtain ⟨dr, a, Lc, ns, rs, cs, room, rfl, D, hLc, nLc, ta, c0, c1, gc, _, r1, r60, q⟩ := h
    have hr_l_next : Room 2 _ := hr.mono (by omega)
    have hr_l_level : Room 3 _ := hr.mono (by omega)
    have hr_l_told := hr
    refine ⟨_, (q_pss_cons (q_ps_set (i := 4) sc_l_told.nd rfl (by first | exact Or.inl rfl | exact Or.inr (Or.inl rfl) | exact Or.inr rfl) (q_pe_call G_l_next hr_l_next (by rfl) T.mg_l_next T.kp_l_next T.b_l_next .nil pass0 (q_pa_cons (q_pv 0) (q_pa_cons q_pe_int q_pa_nil star_Constant) star_Name)))
      (q_pss_cons (q_ps_if (QW.pt (q_pw_or (q_pt_cmpR op_eq (q_pv 2) q_pe_int (nomark _)) (q_pw_or (q_pt_cmpR op_lt (q_pv 3) q_pe_int (nomark _)) (q_pw_or1 (q_pt_cmpR op_lt (q_pv 4) q_pe_int (nomark _)))))) (q_pss_cons (q_ps_if (q_pt_cmpR op_eq (q_pe_call G_l_next hr_l_next (by rfl) T.mg_l_next T.kp_l_next T.b_l_next .nil pass0 (q_pa_cons (q_pv 0) (q_pa_cons q_pe_int q_pa_nil star_Constant) star_Name)) q_pe_int (nomark _)) (q_pss_one (q_ps_ret (q_pe_tup (q_pa_cons q_pe_str (q_pa_cons (q_pe_call G_l_level hr_l_level (by rfl) T.mg_l_level T.kp_l_level T.b_l_level .nil pass0 (q_pa_cons (q_pv 0) q_pa_nil star_Name)) q_pa_nil star_Call) star_Constant)))) q_pss_nil)
      (q_pss_one (q_ps_ret (q_pe_op op_catT (q_pe_tup (q_pa_cons q_pe_str q_pa_nil star_Constant)) (q_pe_ix ix_list (q_pv 1) (q_pe_call G_l_next hr_l_next (by rfl) T.mg_l_next T.kp_l_next T.b_l_next .nil pass0 (q_pa_cons (q_pv 0) (q_pa_cons (q_pe_callB call_len_seq (by rfl) T.z_len PySem.boot_len (q_pa_cons (q_pv 1) q_pa_nil star_Name)) q_pa_nil star_Call) star_Name)) (fun _ _ => rfl)))))) q_pss_nil)
      (q_pss_cons (q_ps_set (i := 5) sc_l_told.nd rfl (by first | exact Or.inl rfl | exact Or.inr (Or.inl rfl) | exact Or.inr rfl) (q_pe_callB (call_min2 rfl) (by rfl) T.z_min (by decide +kernel) (q_pa_cons (q_pe_op op_sub (q_pv 3) q_pe_int) (q_pa_cons (q_pe_op op_add q_pe_int (q_pe_call G_l_next hr_l_next (by rfl) T.mg_l_next T.kp_l_next T.b_l_next .nil pass0 (q_pa_cons (q_pv 0) (q_pa_cons (q_pe_ix ix_list (q_pe_lst (q_pa_cons q_pe_int (q_pa_cons q_pe_int q_pa_nil star_Constant) star_Constant)) (q_pe_callTy call_int1 (by rfl) T.z_int (by decide +kernel) (q_pa_cons (q_pe_cmpR op_eq (q_pv 4) q_pe_int (nomark _)) q_pa_nil star_Compare)) (fun _ _ => rfl)) q_pa_nil star_Subscript) star_Name))) q_pa_nil star_BinOp) star_BinOp)))
      (q_pss_cons (q_ps_set (i := 6) sc_l_told.nd rfl (by first | exact Or.inl rfl | exact Or.inr (Or.inl rfl) | exact Or.inr rfl) (q_pe_ix ix_list (q_pe_lst (q_pa_cons q_pe_str (q_pa_cons q_pe_str q_pa_nil star_Constant) star_Constant)) (q_pe_call G_l_next hr_l_next (by rfl) T.mg_l_next T.kp_l_next T.b_l_next .nil pass0 (q_pa_cons (q_pv 0) (q_pa_cons q_pe_int q_pa_nil star_Constant) star_Name)) (fun _ _ => rfl)))
      (q_pss_cons ((q_ps_setLc (i := 7) (own := [("_law_k", 8)]) (g := gName 8) (by rfl) sc_l_told.nd rfl rfl (sw_true rfl rfl rfl (by decide +kernel)) (q_pi_range1 (by rfl) T.z_range (q_pa_cons (q_pv 5) q_pa_nil star_Name)) (blkOk_by (own := [("_law_k", 8)]) (N := ["_law_draw", "_law_calls_here", "_law_deep", "_law_room", "_law_way", "_law_many", "_law_word_here", "_law_parts", "_law_k"]) (sc := defScope s_l_told) (by decide +kernel)) (fun _ _ _ _ _ => (q_pg_name (i := 8) sc_l_told.nd rfl (by first | exact Or.inl rfl | exact Or.inr (Or.inl rfl) | exact Or.inr rfl))) (fun _ _ _ _ _ => q_pts_nil) (fun _ _ _ _ _ => (q_pe_call G_l_told hr_l_told (by rfl) T.mg_l_told T.kp_l_told T.b_l_told .nil pass0 (q_pa_cons (q_pv 0) (q_pa_cons (q_pv 1) (q_pa_cons (q_pe_op op_sub (q_pv 2) q_pe_int) (q_pa_cons (q_pe_op op_fdiv (q_pe_op op_sub (q_pv 3) q_pe_int) (q_pv 5)) q_pa_nil star_BinOp) star_BinOp) star_Name) star_Name)))))
      (q_pss_one (q_ps_ret (q_pe_callTy call_tuple_of (by rfl) T.z_tuple (by decide +kernel) (q_pa_cons (q_pe_op op_cat (q_pe_lst (q_pa_cons (q_pv 6) q_pa_nil star_Name)) (q_pv 7)) q_pa_nil star_BinOp))))))))), ?_⟩
    have lr := ta.len
    have lrv : (rs.map V.ref).length = cs.length := by rw [List.length_map, lr]
    refine ⟨_, rfl, dr, a, ns, _, rfl, D, by decide, fun wy H1 w0 w1 D1 k1 => ?_⟩
    have hLc1 := k1 _ _ hLc nLc
    have ta1 := ta.mono (D.tups k1)
    refine ⟨_, rfl, rfl, _, rfl, ?_⟩
    by_cases e1 : d = 0
    · subst e1
      rw [decide_eq_true (show V.int ((0 + 1 : Nat) : Int) = V.int 1 from rfl)]
      refine iteT (iteT ?_)
      refine ⟨_, rfl, dr, a, ns, _, rfl, D1, by decide, fun z H2 z0 z1 D2 k2 => ?_⟩
      refine ⟨rfl, _, rfl, ite2 (fun hb => ?_) (fun hb => ?_)⟩
      · refine ⟨_, rfl, dr, a, ns, rfl, D2, fun n H3 n0 n1 D3 k3 => ⟨(by show 2 ≤ sizeLine; decide), fun x hx => ?_⟩⟩
        have s4 := same_new (o := .tup [V.str "level", V.int n]) hx
        exact q x (.lev n) _ ⟨r1, upd_same, n0, n1⟩ (D3.same s4) (((k1.trans k2).trans k3).trans (.of s4))
      · refine ⟨(by show 1 ≤ sizeLine; decide), fun p1 hp1 => ?_⟩
        have s3 := same_new (o := .tup [V.str "called"]) hp1
        have f3 := new_at (o := .tup [V.str "called"]) hp1
        have D3 := D2.same s3
        have k3 := (k1.trans k2).trans (.of s3)
        have hLc3 := k3 _ _ hLc nLc
        refine ⟨_, rfl, _, rfl, _, rfl, Lc, _, rfl, .inl (SqL.of hLc3), dr, a, ns, _, rfl, D3, by rw [lrv]; omega, fun r H4 r0 r4 D4 k4 => ?_⟩
        rw [lrv] at r4
        have K4 := k3.trans k4
        have hLc4 := K4 _ _ hLc nLc
        have ta4 := ta.mono (D.tups K4)
        obtain ⟨x, hx⟩ : ∃ x, rs[r.toNat]? = some x := ⟨_, List.getElem?_eq_getElem (by omega)⟩
        obtain ⟨c, hc, ex⟩ := ta4.at_ _ x hx
        have ha : atI (rs.map V.ref) r = some (V.ref x) := at_of (j := r.toNat) (by omega) (by rw [List.getElem?_map, hx]; rfl)
        obtain ⟨gw, gt⟩ := gc c (List.mem_of_getElem? hc)
        refine ⟨Lc, _, r, _, rfl, rfl, SqL.of hLc4, ha, ?_⟩
        refine ⟨p1, x, _, _, rfl, rfl, SqT.of (k4 _ _ f3 (D2.ne hp1)), SqT.of ex, (fun z => by cases z), (by show 1 + 2 ≤ sizeLine; decide), (fun z => by cases z), fun _ q1 hq1 => ?_⟩
        have s5 := same_new (o := .tup [V.str "called", kV c.1, tnV c.2]) hq1
        exact q q1 (.cal c.1 c.2) _ ⟨r1, upd_same, gw, gt⟩ (D4.same s5) (K4.trans (.of s5))
    rw [decide_eq_false (fun z => by have := V.int.inj z; omega)]
    refine iteF ?_
    refine ⟨_, rfl, _, _, rfl, rfl, _, rfl, ?_⟩
    by_cases e2 : room < 3
    · rw [decide_eq_true e2]
      refine iteT (iteT ?_)
      refine ⟨_, rfl, dr, a, ns, _, rfl, D1, by decide, fun z H2 z0 z1 D2 k2 => ?_⟩
      refine ⟨rfl, _, rfl, ite2 (fun hb => ?_) (fun hb => ?_)⟩
      · refine ⟨_, rfl, dr, a, ns, rfl, D2, fun n H3 n0 n1 D3 k3 => ⟨(by show 2 ≤ sizeLine; decide), fun x hx => ?_⟩⟩
        have s4 := same_new (o := .tup [V.str "level", V.int n]) hx
        exact q x (.lev n) _ ⟨r1, upd_same, n0, n1⟩ (D3.same s4) (((k1.trans k2).trans k3).trans (.of s4))
      · refine ⟨(by show 1 ≤ sizeLine; decide), fun p1 hp1 => ?_⟩
        have s3 := same_new (o := .tup [V.str "called"]) hp1
        have f3 := new_at (o := .tup [V.str "called"]) hp1
        have D3 := D2.same s3
        have k3 := (k1.trans k2).trans (.of s3)
        have hLc3 := k3 _ _ hLc nLc
        refine ⟨_, rfl, _, rfl, _, rfl, Lc, _, rfl, .inl (SqL.of hLc3), dr, a, ns, _, rfl, D3, by rw [lrv]; omega, fun r H4 r0 r4 D4 k4 => ?_⟩
        rw [lrv] at r4
        have K4 := k3.trans k4
        have hLc4 := K4 _ _ hLc nLc
        have ta4 := ta.mono (D.tups K4)
        obtain ⟨x, hx⟩ : ∃ x, rs[r.toNat]? = some x := ⟨_, List.getElem?_eq_getElem (by omega)⟩
        obtain ⟨c, hc, ex⟩ := ta4.at_ _ x hx
        have ha : atI (rs.map V.ref) r = some (V.ref x) := at_of (j := r.toNat) (by omega) (by rw [List.getElem?_map, hx]; rfl)
        obtain ⟨gw, gt⟩ := gc c (List.mem_of_getElem? hc)
        refine ⟨Lc, _, r, _, rfl, rfl, SqL.of hLc4, ha, ?_⟩
        refine ⟨p1, x, _, _, rfl, rfl, SqT.of (k4 _ _ f3 (D2.ne hp1)), SqT.of ex, (fun z => by cases z), (by show 1 + 2 ≤ sizeLine; decide), (fun z => by cases z), fun _ q1 hq1 => ?_⟩
        have s5 := same_new (o := .tup [V.str "called", kV c.1, tnV c.2]) hq1
        exact q q1 (.cal c.1 c.2) _ ⟨r1, upd_same, gw, gt⟩ (D4.same s5) (K4.trans (.of s5))
    rw [decide_eq_false e2]
    refine iteF ?_
    refine ⟨_, rfl, _, _, rfl, rfl, _, rfl, ?_⟩
    by_cases e3 : wy < 2
    · rw [decide_eq_true e3]
      refine iteT ?_
      refine ⟨_, rfl, dr, a, ns, _, rfl, D1, by decide, fun z H2 z0 z1 D2 k2 => ?_⟩
      refine ⟨rfl, _, rfl, ite2 (fun hb => ?_) (fun hb => ?_)⟩
      · refine ⟨_, rfl, dr, a, ns, rfl, D2, fun n H3 n0 n1 D3 k3 => ⟨(by show 2 ≤ sizeLine; decide), fun x hx => ?_⟩⟩
        have s4 := same_new (o := .tup [V.str "level", V.int n]) hx
        exact q x (.lev n) _ ⟨r1, upd_same, n0, n1⟩ (D3.same s4) (((k1.trans k2).trans k3).trans (.of s4))
      · refine ⟨(by show 1 ≤ sizeLine; decide), fun p1 hp1 => ?_⟩
        have s3 := same_new (o := .tup [V.str "called"]) hp1
        have f3 := new_at (o := .tup [V.str "called"]) hp1
        have D3 := D2.same s3
        have k3 := (k1.trans k2).trans (.of s3)
        have hLc3 := k3 _ _ hLc nLc
        refine ⟨_, rfl, _, rfl, _, rfl, Lc, _, rfl, .inl (SqL.of hLc3), dr, a, ns, _, rfl, D3, by rw [lrv]; omega, fun r H4 r0 r4 D4 k4 => ?_⟩
        rw [lrv] at r4
        have K4 := k3.trans k4
        have hLc4 := K4 _ _ hLc nLc
        have ta4 := ta.mono (D.tups K4)
        obtain ⟨x, hx⟩ : ∃ x, rs[r.toNat]? = some x := ⟨_, List.getElem?_eq_getElem (by omega)⟩
        obtain ⟨c, hc, ex⟩ := ta4.at_ _ x hx
        have ha : atI (rs.map V.ref) r = some (V.ref x) := at_of (j := r.toNat) (by omega) (by rw [List.getElem?_map, hx]; rfl)
        obtain ⟨gw, gt⟩ := gc c (List.mem_of_getElem? hc)
        refine ⟨Lc, _, r, _, rfl, rfl, SqL.of hLc4, ha, ?_⟩
        refine ⟨p1, x, _, _, rfl, rfl, SqT.of (k4 _ _ f3 (D2.ne hp1)), SqT.of ex, (fun z => by cases z), (by show 1 + 2 ≤ sizeLine; decide), (fun z => by cases z), fun _ q1 hq1 => ?_⟩
        have s5 := same_new (o := .tup [V.str "called", kV c.1, tnV c.2]) hq1
        exact q q1 (.cal c.1 c.2) _ ⟨r1, upd_same, gw, gt⟩ (D4.same s5) (K4.trans (.of s5))
    rw [decide_eq_false e3]
    refine iteF ?_
    have b2 : ∀ b : Bool, ∃ v : Int, atI [V.int 2, V.int 7] (if b then 1 else 0) = some (.int v) ∧ 0 < v ∧ v ≤ 7 := fun b => by
      cases b
      · exact ⟨2, at_of (j := 0) (by decide) rfl, by decide, by decide⟩
      · exact ⟨7, at_of (j := 1) (by decide) rfl, by decide, by decide⟩
    refine ⟨_, rfl, _, _, rfl, rfl, _, rfl, (by show 2 ≤ sizeLine; decide), fun l hl => ?_⟩
    have s2 := same_new (o := .lst [V.int 2, V.int 7]) hl
    have f2 := new_at (o := .lst [V.int 2, V.int 7]) hl
    have D2 := D1.same s2
    obtain ⟨v, hv, v0, v7⟩ := b2 (decide (V.int wy = V.int 7))
    refine ⟨_, rfl, rfl, .inr ⟨_, rfl, l, _, _, _, rfl, rfl, SqL.of f2, hv, ?_⟩⟩
    refine ⟨dr, a, ns, v, rfl, D2, v0, fun g H3 g0 g1 D3 k3 => ⟨_, _, rfl, rfl, _, _, rfl, ?_⟩⟩
    obtain ⟨m, em⟩ : ∃ m, m = (if 2 + g < room - 1 then 2 + g else room - 1) := ⟨_, rfl⟩
    rw [← em]
    have mb : 2 ≤ m ∧ m ≤ 8 ∧ m ≤ room - 1 := by rw [em]; split <;> omega
    have k13 := (k1.trans (.of s2)).trans k3
    refine ⟨(by show 2 ≤ sizeLine; decide), fun l2 hl2 => ?_⟩
    have s4 := same_new (o := .lst [V.str "least", V.str "greatest"]) hl2
    have f4 := new_at (o := .lst [V.str "least", V.str "greatest"]) hl2
    have D4 := D3.same s4
    have n2 := D3.ne hl2
    refine ⟨_, rfl, dr, a, ns, _, rfl, D4, by decide, fun g2 H5 h0 h1 D5 k5 => ?_⟩
    have K5 := (k13.trans (.of s4)).trans k5
    obtain ⟨wd, hwd, wd2⟩ : ∃ wd : Str, atI [V.str "least", V.str "greatest"] g2 = some (.str wd) ∧ (wd = "least" ∨ wd = "greatest") := by
      have : g2 = 0 ∨ g2 = 1 := by omega
      rcases this with rfl | rfl
      · exact ⟨"least", at_of (j := 0) (by decide) rfl, .inl rfl⟩
      · exact ⟨"greatest", at_of (j := 1) (by decide) rfl, .inr rfl⟩
    refine ⟨l2, _, g2, _, rfl, rfl, SqL.of (k5 _ _ f4 n2), hwd, ?_⟩
    have hq := Int.mul_ediv_self_le (x := room - 1) (k := m) (by omega)
    have q1 : 1 ≤ (room - 1) / m := by
      have := Int.le_ediv_of_mul_le (a := 1) (b := room - 1) (c := m) (by omega) (by omega)
      exact this
    obtain ⟨qq, eq⟩ : ∃ qq, qq = (room - 1) / m := ⟨_, rfl⟩
    rw [← eq] at hq q1
    refine ⟨_, rfl, m, rfl, by omega, by omega, fun Lp hLp => ?_⟩
    have nLp := D5.ne hLp
    refine lc_range (lo := 0) (fun i H' => ∃ (xs : List Addr) (ts : List Tm), xs.length = i ∧ ts.length = i ∧ H' Lp = some (.lst (xs.map V.ref)) ∧ (∀ (j : Nat) (x : Addr) (u : Tm), xs[j]? = some x → ts[j]? = some u → Told d qq H' x u) ∧ DrawAt K H' dr a ns ∧ Keep dr H5 H') ?_ ?_ ?_
    · exact ⟨[], [], rfl, rfl, upd_same, by simp, D5.same (same_new hLp), .of (same_new hLp)⟩
    · rintro i H6 hi ⟨xs, ts, lx, lt, h6, tl, D6, k6⟩
      have K6 := K5.trans k6
      refine ⟨rfl, yes_i ⟨_, rfl, _, rfl, _, rfl, _, _, rfl, rfl, _, rfl, _, _, rfl, rfl, _, rfl, _, _, rfl, rfl, ⟨by omega, by omega⟩, ?_⟩⟩
      refine ⟨dr, a, Lc, ns, rs, cs, qq, ?_, D6, K6 _ _ hLc nLc, nLc, ta.mono (D.tups K6), c0, c1, gc, by omega, q1, ?_, fun x u H7 tx D7 k7 => ?_⟩
      · rw [eq]
        show [V.ref dr, V.ref Lc, V.int (((d + 1 : Nat) : Int) - 1), V.int ((room - 1) / m)] = _
        rw [show (((d + 1 : Nat) : Int) - 1) = (d : Int) by omega]
      · have : qq ≤ m * qq := by
          have := Int.mul_le_mul_of_nonneg_right (show 1 ≤ m by omega) (show 0 ≤ qq by omega)
          omega
        omega
      · have h7 := k7 _ _ h6 nLp
        refine ⟨_, h7, small1000 (by rw [List.length_map]; omega), xs ++ [x], ts ++ [u], by rw [List.length_append, lx]; rfl, by rw [List.length_append, lt]; rfl, by rw [upd_same, List.map_append]; rfl, ?_, D7.upd nLp (nofrz h7), (k6.trans k7).updNew hLp⟩
        intro j x' u' hx' hu'
        rw [List.getElem?_append] at hx' hu'
        by_cases hj : j < xs.length
        · rw [if_pos hj] at hx'
          rw [if_pos (by omega)] at hu'
          exact ((tl j x' u' hx' hu').mono (D6.tups k7)).mono (Tups.upd h7)
        · rw [if_neg hj] at hx'
          rw [if_neg (by omega)] at hu'
          have e0 : j - xs.length = 0 := by
            have := (List.getElem?_eq_some_iff.mp hx').1
            simp at this
            omega
          have e0' : j - ts.length = 0 := by omega
          rw [e0] at hx'
          rw [e0'] at hu'
          cases hx'
          cases hu'
          exact tx.mono (Tups.upd h7)
    rintro H6 ⟨xs, ts, lx, lt, h6, tl, D6, k6⟩
    have mt : ((m.toNat : Nat) : Int) = m := by omega
    refine ⟨_, rfl, (by show 1 ≤ sizeLine; decide), fun l3 hl3 => ?_⟩
    have s7 := same_new (o := .lst [V.str wd]) hl3
    refine ⟨_, rfl, l3, Lp, _, _, rfl, rfl, upd_same, s7 _ _ h6, Nat.le_of_lt (small1000 (by rw [List.length_map]; show 1 + _ ≤ 1000; omega)), fun l4 hl4 => ?_⟩
    have s8 := same_new (o := .lst ([V.str wd] ++ xs.map V.ref)) hl4
    refine ⟨l4, _, rfl, .inl ⟨SqL.of upd_same, fun o ho => ?_⟩⟩
    have s9 := same_new (o := .tup ([V.str wd] ++ xs.map V.ref)) ho
    have sA := (s7.trans s8).trans s9
    have kA := (K5.trans k6).trans (.of sA)
    have lts : ((ts.length : Nat) : Int) = m := by rw [lt]; exact mt
    have lq : 1 + (ts.length : Int) * qq ≤ room := by rw [lts]; omega
    have sub : ∀ (j : Nat) (x : Addr) (u : Tm), xs[j]? = some x → ts[j]? = some u → Told d qq _ x u := fun j x u hx hu => (tl j x u hx hu).mono (.same sA)
    rcases wd2 with rfl | rfl
    · exact q o (.low ts) _ ⟨xs, qq, upd_same, by omega, by omega, by omega, lq, sub⟩ (D6.same sA) kA
    · exact q o (.top ts) _ ⟨xs, qq, upd_same, by omega, by omega, by omega, lq, sub⟩ (D6.same sA) kA
theorem ok_ltrec (T : Env K mg t) : ∀ d : Nat, FnOk P w K mg base CX0 (4 + d) t.a_l_told t.fd_l_told ["_law_draw", "_law_calls_here", "_law_deep", "_law_room"] (spLT K d)
  | 0 => fn_no fun vs H Q E h => by obtain ⟨dr, a, Lc, ns, rs, cs, room, _, _, _, _, _, _, _, _, h1, _⟩ := h; omega
  | d + 1 => ok_lt T d (ok_ltrec T d)
end
end Ck
set_option Elab.async false
set_option linter.all false
set_option pp.maxSteps 120
set_option maxRecDepth 100000
set_option maxHeartbeats 4000000
namespace Ck
open PySem L2
theorem made_new {H : Hp} {x dx : Addr} {o1 o2 : HO} (hx : H x = none) (hdx : H dx = none) : Same H (upd (upd H dx o1) x o2) := fun b o e => by
  rw [upd_ne (ne_of_none e hx), upd_ne (ne_of_none e hdx)]; exact e
theorem sIx_nn {n d : Nat} {v : Int} (h : 0 ≤ v) : HT.sIx n d (some v) = min v.toNat n := by
  show (if v < 0 then _ else _) = _
  rw [if_neg (by omega)]
theorem cut_one (v : V) (xs : List V) : cutV (v :: xs) (some 1) none = xs := by
  unfold cutV
  have e1 : HT.sIx (v :: xs).length 0 (some 1) = 1 := by
    rw [sIx_nn (by decide)]
    show min 1 (xs.length + 1) = 1
    omega
  have e2 : HT.sIx (v :: xs).length (v :: xs).length none = (v :: xs).length := rfl
  rw [e1, e2]
  show (xs.take (xs.length + 1 - 1)) = xs
  exact List.take_of_length_le (by omega)
theorem notone (v : V) (xs : List V) : ¬ (HT.sIx (v :: xs).length 0 (some 1) = 0 ∧ HT.sIx (v :: xs).length (v :: xs).length none = (v :: xs).length) := by
  rintro ⟨h, _⟩
  have e1 : HT.sIx (v :: xs).length 0 (some 1) = 1 := by
    rw [sIx_nn (by decide)]
    show min 1 (xs.length + 1) = 1
    omega
  omega
section
variable {P : Program} {w : World} {K : PySem.W.Frag} {mg : Str → Option Value} {base : Heap} {t : Ad}
def spLB (t : Ad) (d : Nat) : Sp := fun vs H Q _ => ∃ (a : Addr) (r : Int) (u : Tm), vs = [.ref a] ∧ Told d r H a u ∧ r ≤ 60 ∧ d ≤ 8 ∧ ∀ (x : Addr) (H' : Hp), Trm t d r H' x u → Same H H' → Q (.ref x) H'
theorem ok_lb (T : Env K mg t) (d : Nat) (G_l_build : FnOk P w K mg base CX0 (7 + d) t.a_l_build t.fd_l_build ["_law_told_here"] (spLB t d)) : FnOk P w K mg base CX0 (7 + d + 1) t.a_l_build t.fd_l_build ["_law_told_here"] (spLB t (d + 1)) := by
  have G_Level_init : FnOk P w K mg base CX0 5 t.a_Level_init t.fd_Level_init ["self", "level"] (spLInit t.C_Level) := ok_linit T
  have G_Called_init : FnOk P w K mg base CX0 5 t.a_Called_init t.fd_Called_init ["self", "when", "town"] (spCdInit t.C_Called) := ok_cdinit T
  have G_Least_init : FnOk P w K mg base CX0 3 t.a_Least_init t.fd_Least_init ["self", "terms"] (spJInit t t.C_Least) := ok_lowinit T
  have G_Greatest_init : FnOk P w K mg base CX0 3 t.a_Greatest_init t.fd_Greatest_init ["self", "terms"] (spJInit t t.C_Greatest) := ok_topinit T
  refine T.f_l_build.okQ sc_l_build (fun vs H Q E h => ?_) (fun cdv A outer s H vs Q E hr h => ?_)
  · obtain ⟨a, r, u, rfl, _⟩ := h
    rfl
  · obtain ⟨a, r, u, rfl, tl, r60, d8, k⟩ := h
    have hr_Level_init : Room 6 _ := hr.mono (by omega)
    have hr_Called_init : Room 6 _ := hr.mono (by omega)
    have hr_Least_init : Room 4 _ := hr.mono (by omega)
    have hr_Greatest_init : Room 4 _ := hr.mono (by omega)
    have hr_l_build := hr
    refine ⟨_, (q_pss_cons (q_ps_if (q_pt_cmpR op_eq (q_pe_ix ix_tup (q_pv 0) q_pe_int (fun _ _ => rfl)) q_pe_str (nomark _)) (q_pss_one (q_ps_ret (q_pe_make T.mk_Level G_Level_init hr_Level_init (by rfl) T.mg_Level T.b_Level_init .nil pass0 (q_pa_cons (q_pe_ix ix_tup (q_pv 0) q_pe_int (fun _ _ => rfl)) q_pa_nil star_Subscript)))) q_pss_nil)
      (q_pss_cons (q_ps_if (q_pt_cmpR op_eq (q_pe_ix ix_tup (q_pv 0) q_pe_int (fun _ _ => rfl)) q_pe_str (nomark _)) (q_pss_one (q_ps_ret (q_pe_make T.mk_Called G_Called_init hr_Called_init (by rfl) T.mg_Called T.b_Called_init .nil pass0 (q_pa_cons (q_pe_ix ix_tup (q_pv 0) q_pe_int (fun _ _ => rfl)) (q_pa_cons (q_pe_ix ix_tup (q_pv 0) q_pe_int (fun _ _ => rfl)) q_pa_nil star_Subscript) star_Subscript)))) q_pss_nil)
      (q_pss_cons ((q_ps_setLc (i := 1) (own := [("_law_part", 3)]) (g := gName 3) (by rfl) sc_l_build.nd rfl rfl (sw_true rfl rfl rfl (by decide +kernel)) (q_pi_tup (q_pe_slice sl_tup (q_pv 0) (q_po_some q_pe_int) q_po_none)) (blkOk_by (own := [("_law_part", 3)]) (N := ["_law_told_here", "_law_parts", "_law_term", "_law_part"]) (sc := defScope s_l_build) (by decide +kernel)) (fun _ _ _ _ _ => (q_pg_name (i := 3) sc_l_build.nd rfl (by first | exact Or.inl rfl | exact Or.inr (Or.inl rfl) | exact Or.inr rfl))) (fun _ _ _ _ _ => q_pts_nil) (fun _ _ _ _ _ => (q_pe_call G_l_build hr_l_build (by rfl) T.mg_l_build T.kp_l_build T.b_l_build .nil pass0 (q_pa_cons (q_pv 3) q_pa_nil star_Name)))))
      (q_pss_cons (q_ps_if (q_pt_cmpR op_eq (q_pe_ix ix_tup (q_pv 0) q_pe_int (fun _ _ => rfl)) q_pe_str (nomark _)) (q_pss_one (q_ps_set (i := 2) sc_l_build.nd rfl (by first | exact Or.inl rfl | exact Or.inr (Or.inl rfl) | exact Or.inr rfl) (q_pe_make T.mk_Least G_Least_init hr_Least_init (by rfl) T.mg_Least T.b_Least_init .nil pass0 (q_pa_cons (q_pv 1) q_pa_nil star_Name)))) (q_pss_one (q_ps_set (i := 2) sc_l_build.nd rfl (by first | exact Or.inl rfl | exact Or.inr (Or.inl rfl) | exact Or.inr rfl) (q_pe_make T.mk_Greatest G_Greatest_init hr_Greatest_init (by rfl) T.mg_Greatest T.b_Greatest_init .nil pass0 (q_pa_cons (q_pv 1) q_pa_nil star_Name)))))
      (q_pss_cons (q_ps_if (q_pt_cmpR op_ne (q_pe_callB call_len_seq (by rfl) T.z_len PySem.boot_len (q_pa_cons (q_pv 1) q_pa_nil star_Name)) (q_pe_op op_sub (q_pe_callB call_len_seq (by rfl) T.z_len PySem.boot_len (q_pa_cons (q_pv 0) q_pa_nil star_Name)) q_pe_int) (nomark _)) (q_pss_one (q_ps_ret q_pe_non)) q_pss_nil)
      (q_pss_cons (q_ps_expr (q_pe_bm0 PySem.F.plainAttrs_list PySem.F.slot_list_clear PySem.F.type_list_clear mt_clear (q_pv 1)))
      (q_pss_one (q_ps_ret (q_pv 2))))))))), ?_⟩
    cases u with
    | lev n =>
      obtain ⟨r1, ha, n0, n1⟩ := tl
      refine ⟨_, rfl, a, _, 0, _, rfl, rfl, SqT.of ha, at_of (j := 0) (by decide) rfl, rfl, _, rfl, ?_⟩
      rw [decide_eq_true rfl]
      refine iteT ?_
      refine ⟨_, rfl, a, _, 1, _, rfl, rfl, SqT.of ha, at_of (j := 1) (by decide) rfl, ?_⟩
      intro x dx hx hdx ne
      refine ⟨x, dx, n, rfl, upd_same, n0, n1, fun H2 h2 k2 => ⟨rfl, ?_⟩⟩
      exact k x H2 ⟨r1, ⟨dx, h2⟩, n0, n1⟩ (made_same hx hdx k2)
    | cal wh tn =>
      obtain ⟨r1, ha, gw, gt⟩ := tl
      refine ⟨_, rfl, a, _, 0, _, rfl, rfl, SqT.of ha, at_of (j := 0) (by decide) rfl, rfl, _, rfl, ?_⟩
      rw [decide_eq_false (by decide +kernel)]
      refine iteF ?_
      refine ⟨_, rfl, a, _, 0, _, rfl, rfl, SqT.of ha, at_of (j := 0) (by decide) rfl, rfl, _, rfl, ?_⟩
      rw [decide_eq_true rfl]
      refine iteT ?_
      refine ⟨_, rfl, a, _, 1, _, rfl, rfl, SqT.of ha, at_of (j := 1) (by decide) rfl, _, rfl, a, _, 2, _, rfl, rfl, SqT.of ha, at_of (j := 2) (by decide) rfl, ?_⟩
      intro x dx hx hdx ne
      refine ⟨x, dx, wh, tn, rfl, upd_same, gw, gt, fun H2 h2 k2 => ⟨rfl, ?_⟩⟩
      exact k x H2 ⟨r1, ⟨dx, h2⟩, gw, gt⟩ (made_same hx hdx k2)
    | low ts =>
      obtain ⟨rs, q, ha, lr, l2, l8, lq, sub⟩ := tl
      have lrv : ((V.str "least" :: rs.map V.ref).length : Int) = ts.length + 1 := by rw [List.length_cons, List.length_map, lr]; omega
      refine ⟨_, rfl, a, _, 0, _, rfl, rfl, SqT.of ha, at_of (j := 0) (by decide) rfl, rfl, _, rfl, ?_⟩
      rw [decide_eq_false (by decide +kernel)]
      refine iteF ?_
      refine ⟨_, rfl, a, _, 0, _, rfl, rfl, SqT.of ha, at_of (j := 0) (by decide) rfl, rfl, _, rfl, ?_⟩
      rw [decide_eq_false (by decide +kernel)]
      refine iteF ?_
      refine ⟨_, rfl, 1, rfl, a, _, rfl, SqT.of ha, notone _ _, fun c hc => ?_⟩
      rw [cut_one]
      have s1 := same_new (o := .tup (rs.map V.ref)) hc
      have f1 := new_at (o := .tup (rs.map V.ref)) hc
      refine ⟨c, rfl, ⟨_, SqT.of f1⟩, fun L hL => ?_⟩
      refine lc_tup (xs := rs.map V.ref) (fun i H' => ∃ xs : List Addr, xs.length = i ∧ H' L = some (.lst (xs.map V.ref)) ∧ (∀ (j : Nat) (x : Addr) (u : Tm), xs[j]? = some x → ts[j]? = some u → Trm t d q H' x u) ∧ Same (upd H c (.tup (rs.map V.ref))) H') ?_ ?_ ?_ ?_
      · exact ⟨[], rfl, upd_same, by simp, same_new hL⟩
      · rintro i H2 hi ⟨xs, lx, h2, tr, s2⟩
        exact SqT.of (s2 _ _ f1)
      · rintro i y H2 hy ⟨xs, lx, h2, tr, s2⟩
        obtain ⟨x', hx', rfl⟩ := ref_at hy
        have hi := (List.getElem?_eq_some_iff.mp hx').1
        obtain ⟨u, hu⟩ : ∃ u, ts[i]? = some u := ⟨_, List.getElem?_eq_getElem (by omega)⟩
        refine ⟨rfl, yes_i ⟨_, rfl, x', q, u, rfl, (sub i x' u hx' hu).mono (.same (s1.trans s2)), ?_, by omega, fun x H3 tx s3 => ?_⟩⟩
        · have : q ≤ ts.length * q ∨ q ≤ 0 := by
            by_cases h : 0 ≤ q
            · left
              have := Int.mul_le_mul_of_nonneg_right (show (1 : Int) ≤ ts.length by omega) h
              omega
            · right; omega
          omega
        have h3 := s3 _ _ h2
        refine ⟨_, h3, small1000 (by rw [List.length_map]; omega), xs ++ [x], by rw [List.length_append, lx]; rfl, ?_, fun j x2 v hx2 hv => ?_, fun b o e => ?_⟩
        · rw [upd_same, List.map_append]; rfl
        · rw [List.getElem?_append] at hx2
          by_cases hj : j < xs.length
          · rw [if_pos hj] at hx2
            exact ((tr j x2 v hx2 hv).mono (.same s3)).mono (Stay.upd h3)
          · rw [if_neg hj] at hx2
            have e0 : j - xs.length = 0 := by
              have := (List.getElem?_eq_some_iff.mp hx2).1
              simp at this
              omega
            have ej : j = i := by omega
            rw [e0] at hx2
            cases hx2
            rw [ej, hu] at hv
            cases hv
            exact tx.mono (Stay.upd h3)
        · rw [upd_ne (ne_of_none e hL)]; exact s3 _ _ (s2 b o e)
      rintro H2 ⟨xs, lx, h2, tr, s2⟩
      rw [List.length_map, lr] at lx
      have s12 := s1.trans s2
      have L0 : H L = none := by
        cases e : H L with
        | none => rfl
        | some o => rw [s1 _ _ e] at hL; cases hL
      have trs : Trs t d q H2 xs := fun y hy => by
        obtain ⟨j, hj⟩ := List.getElem?_of_mem hy
        have hjl := (List.getElem?_eq_some_iff.mp hj).1
        exact ⟨_, tr j y _ hj (List.getElem?_eq_getElem (by omega))⟩
      refine ⟨_, rfl, a, _, 0, _, rfl, rfl, SqT.of (s12 _ _ ha), at_of (j := 0) (by decide) rfl, rfl, _, rfl, ?_⟩
      rw [decide_eq_true rfl]
      refine iteT ?_
      refine ⟨_, rfl, ?_⟩
      intro x dx hx hdx ne
      refine ⟨x, dx, L, xs, d, q, rfl, upd_same, made_new hx hdx _ _ h2, trs.mono (.same (made_new hx hdx)), by omega, by omega, by rw [lx]; omega, by omega, fun p z e H3 hx3 hp3 z0 z1 e0 e1 k3 => ⟨rfl, ?_⟩⟩
      have s3 := made_same hx hdx k3
      have h3 := s3 _ _ h2
      have lxv : (((xs.map V.ref).length : Nat) : Int) = ts.length := by rw [List.length_map, lx]
      refine ⟨_, rfl, L, _, rfl, .inl (SqL.of h3), _, rfl, a, _, rfl, .inr (SqT.of (s3 _ _ (s12 _ _ ha))), _, _, rfl, rfl, rfl, _, rfl, ?_⟩
      rw [decide_eq_true (show V.int (((xs.map V.ref).length : Nat) : Int) = V.int ((((V.str "least" :: rs.map V.ref).length : Nat) : Int) - 1) from congrArg V.int (by omega))]
      refine iteF ?_
      refine ⟨_, rfl, .inl ⟨rfl, _, SqL.of h3⟩, L, _, rfl, rfl, h3, ?_⟩
      refine ⟨_, rfl, ?_⟩
      have st := Stay.upd (o := .lst []) h3
      refine k x _ ⟨dx, p, xs, q, z, e, st _ _ hx3 (fun _ z => nomatch z), st _ _ hp3 (fun _ z => nomatch z), lx, l2, l8, lq, z0, by rw [lx] at z1; omega, e0, e1, fun j y u hy hu => ?_⟩ fun b o eb => ?_
      · exact (((tr j y u hy hu).mono (.same (made_new hx hdx))).keepx k3 upd_same).mono st
      · rw [upd_ne (ne_of_none eb L0)]
        exact s3 _ _ (s12 b o eb)
    | top ts =>
      obtain ⟨rs, q, ha, lr, l2, l8, lq, sub⟩ := tl
      have lrv : ((V.str "greatest" :: rs.map V.ref).length : Int) = ts.length + 1 := by rw [List.length_cons, List.length_map, lr]; omega
      refine ⟨_, rfl, a, _, 0, _, rfl, rfl, SqT.of ha, at_of (j := 0) (by decide) rfl, rfl, _, rfl, ?_⟩
      rw [decide_eq_false (by decide +kernel)]
      refine iteF ?_
      refine ⟨_, rfl, a, _, 0, _, rfl, rfl, SqT.of ha, at_of (j := 0) (by decide) rfl, rfl, _, rfl, ?_⟩
      rw [decide_eq_false (by decide +kernel)]
      refine iteF ?_
      refine ⟨_, rfl, 1, rfl, a, _, rfl, SqT.of ha, notone _ _, fun c hc => ?_⟩
      rw [cut_one]
      have s1 := same_new (o := .tup (rs.map V.ref)) hc
      have f1 := new_at (o := .tup (rs.map V.ref)) hc
      refine ⟨c, rfl, ⟨_, SqT.of f1⟩, fun L hL => ?_⟩
      refine lc_tup (xs := rs.map V.ref) (fun i H' => ∃ xs : List Addr, xs.length = i ∧ H' L = some (.lst (xs.map V.ref)) ∧ (∀ (j : Nat) (x : Addr) (u : Tm), xs[j]? = some x → ts[j]? = some u → Trm t d q H' x u) ∧ Same (upd H c (.tup (rs.map V.ref))) H') ?_ ?_ ?_ ?_
      · exact ⟨[], rfl, upd_same, by simp, same_new hL⟩
      · rintro i H2 hi ⟨xs, lx, h2, tr, s2⟩
        exact SqT.of (s2 _ _ f1)
      · rintro i y H2 hy ⟨xs, lx, h2, tr, s2⟩
        obtain ⟨x', hx', rfl⟩ := ref_at hy
        have hi := (List.getElem?_eq_some_iff.mp hx').1
        obtain ⟨u, hu⟩ : ∃ u, ts[i]? = some u := ⟨_, List.getElem?_eq_getElem (by omega)⟩
        refine ⟨rfl, yes_i ⟨_, rfl, x', q, u, rfl, (sub i x' u hx' hu).mono (.same (s1.trans s2)), ?_, by omega, fun x H3 tx s3 => ?_⟩⟩
        · have : q ≤ ts.length * q ∨ q ≤ 0 := by
            by_cases h : 0 ≤ q
            · left
              have := Int.mul_le_mul_of_nonneg_right (show (1 : Int) ≤ ts.length by omega) h
              omega
            · right; omega
          omega
        have h3 := s3 _ _ h2
        refine ⟨_, h3, small1000 (by rw [List.length_map]; omega), xs ++ [x], by rw [List.length_append, lx]; rfl, ?_, fun j x2 v hx2 hv => ?_, fun b o e => ?_⟩
        · rw [upd_same, List.map_append]; rfl
        · rw [List.getElem?_append] at hx2
          by_cases hj : j < xs.length
          · rw [if_pos hj] at hx2
            exact ((tr j x2 v hx2 hv).mono (.same s3)).mono (Stay.upd h3)
          · rw [if_neg hj] at hx2
            have e0 : j - xs.length = 0 := by
              have := (List.getElem?_eq_some_iff.mp hx2).1
              simp at this
              omega
            have ej : j = i := by omega
            rw [e0] at hx2
            cases hx2
            rw [ej, hu] at hv
            cases hv
            exact tx.mono (Stay.upd h3)
        · rw [upd_ne (ne_of_none e hL)]; exact s3 _ _ (s2 b o e)
      rintro H2 ⟨xs, lx, h2, tr, s2⟩
      rw [List.length_map, lr] at lx
      have s12 := s1.trans s2
      have L0 : H L = none := by
        cases e : H L with
        | none => rfl
        | some o => rw [s1 _ _ e] at hL; cases hL
      have trs : Trs t d q H2 xs := fun y hy => by
        obtain ⟨j, hj⟩ := List.getElem?_of_mem hy
        have hjl := (List.getElem?_eq_some_iff.mp hj).1
        exact ⟨_, tr j y _ hj (List.getElem?_eq_getElem (by omega))⟩
      refine ⟨_, rfl, a, _, 0, _, rfl, rfl, SqT.of (s12 _ _ ha), at_of (j := 0) (by decide) rfl, rfl, _, rfl, ?_⟩
      rw [decide_eq_false (by decide +kernel)]
      refine iteF ?_
      refine ⟨_, rfl, ?_⟩
      intro x dx hx hdx ne
      refine ⟨x, dx, L, xs, d, q, rfl, upd_same, made_new hx hdx _ _ h2, trs.mono (.same (made_new hx hdx)), by omega, by omega, by rw [lx]; omega, by omega, fun p z e H3 hx3 hp3 z0 z1 e0 e1 k3 => ⟨rfl, ?_⟩⟩
      have s3 := made_same hx hdx k3
      have h3 := s3 _ _ h2
      have lxv : (((xs.map V.ref).length : Nat) : Int) = ts.length := by rw [List.length_map, lx]
      refine ⟨_, rfl, L, _, rfl, .inl (SqL.of h3), _, rfl, a, _, rfl, .inr (SqT.of (s3 _ _ (s12 _ _ ha))), _, _, rfl, rfl, rfl, _, rfl, ?_⟩
      rw [decide_eq_true (show V.int (((xs.map V.ref).length : Nat) : Int) = V.int ((((V.str "greatest" :: rs.map V.ref).length : Nat) : Int) - 1) from congrArg V.int (by omega))]
      refine iteF ?_
      refine ⟨_, rfl, .inl ⟨rfl, _, SqL.of h3⟩, L, _, rfl, rfl, h3, ?_⟩
      refine ⟨_, rfl, ?_⟩
      have st := Stay.upd (o := .lst []) h3
      refine k x _ ⟨dx, p, xs, q, z, e, st _ _ hx3 (fun _ z => nomatch z), st _ _ hp3 (fun _ z => nomatch z), lx, l2, l8, lq, z0, by rw [lx] at z1; omega, e0, e1, fun j y u hy hu => ?_⟩ fun b o eb => ?_
      · exact (((tr j y u hy hu).mono (.same (made_new hx hdx))).keepx k3 upd_same).mono st
      · rw [upd_ne (ne_of_none eb L0)]
        exact s3 _ _ (s12 b o eb)
theorem ok_lbrec (T : Env K mg t) : ∀ d : Nat, FnOk P w K mg base CX0 (7 + d) t.a_l_build t.fd_l_build ["_law_told_here"] (spLB t d)
  | 0 => fn_no fun vs H Q E h => by obtain ⟨a, r, u, _, tl, _⟩ := h; exact tl.elim
  | d + 1 => ok_lb T d (ok_lbrec T d)
end
end Ck
set_option Elab.async false
set_option linter.all false
set_option pp.maxSteps 120
set_option maxRecDepth 100000
set_option maxHeartbeats 4000000
namespace Ck
open PySem L2
def GoodRow (r : CRow) : Prop := nameOk r.1 = true ∧ nameOk r.2.1 = true ∧ 0 ≤ r.2.2.1 ∧ r.2.2.1 ≤ 9999 ∧ 0 ≤ r.2.2.2 ∧ r.2.2.2 ≤ 1000000
def LRows (H : Hp) (L : Addr) (rows : List CRow) : Prop := ∃ rs : List Addr, H L = some (.lst (rs.map V.ref)) ∧ RowsAt H rs rows
theorem LRows.same {H H' : Hp} {L : Addr} {rows : List CRow} (c : LRows H L rows) (s : Same H H') : LRows H' L rows := let ⟨rs, h, r⟩ := c; ⟨rs, s _ _ h, r.mono (.same s)⟩
theorem LRows.keep {H H' : Hp} {L d : Addr} {rows : List CRow} {xs : List V} (c : LRows H L rows) (k : Keep d H H') (hd : H d = some (.lst xs)) (nL : L ≠ d) : LRows H' L rows := let ⟨rs, h, r⟩ := c; ⟨rs, k _ _ h nL, r.mono (k.tups hd)⟩
def WI (rows : List CRow) (tn kd : Str) (dI last wt : Int) : Prop := (last = -1 ∧ wt = 0 ∧ ∀ d', d' ≤ dI → lastFor rows tn kd d' = none) ∨ (0 ≤ last ∧ last ≤ dI ∧ lastFor rows tn kd last = some wt ∧ ∀ d', d' ≤ dI → (lastFor rows tn kd d').isSome = true → d' ≤ last)
theorem WI.worth {rows : List CRow} {tn kd : Str} {dI last wt : Int} (h : WI rows tn kd dI last wt) : IsWorth rows tn kd dI wt := by
  rcases h with ⟨_, rfl, h⟩ | ⟨_, h1, h2, h3⟩
  · exact .inr ⟨rfl, h⟩
  · exact .inl ⟨last, h1, h2, h3⟩
theorem WI.take {rows : List CRow} {r : CRow} {tn kd : Str} {dI last wt : Int} (h : WI rows tn kd dI last wt) (g : GoodRow r) (e1 : r.1 = tn) (e2 : r.2.1 = kd) (l1 : last ≤ r.2.2.1) (l2 : r.2.2.1 ≤ dI) : WI (rows ++ [r]) tn kd dI r.2.2.1 r.2.2.2 := by
  refine .inr ⟨g.2.2.1, l2, ?_, fun d' hd hs => ?_⟩
  · rw [lastFor_snoc, if_pos ⟨e1, e2, rfl⟩]
  · rw [lastFor_snoc] at hs
    by_cases c : r.1 = tn ∧ r.2.1 = kd ∧ r.2.2.1 = d'
    · omega
    · rw [if_neg c] at hs
      rcases h with ⟨_, _, h⟩ | ⟨_, _, _, h⟩
      · rw [h d' hd] at hs; cases hs
      · have := h d' hd hs; omega
theorem WI.skip {rows : List CRow} {r : CRow} {tn kd : Str} {dI last wt : Int} (h : WI rows tn kd dI last wt) (g : GoodRow r) (c : ¬ (r.1 = tn ∧ r.2.1 = kd ∧ last ≤ r.2.2.1 ∧ r.2.2.1 ≤ dI)) : WI (rows ++ [r]) tn kd dI last wt := by
  rcases h with ⟨rfl, rfl, h⟩ | ⟨h0, h1, h2, h3⟩
  · refine .inl ⟨rfl, rfl, fun d' hd => ?_⟩
    rw [lastFor_snoc]
    by_cases e : r.1 = tn ∧ r.2.1 = kd ∧ r.2.2.1 = d'
    · exact absurd ⟨e.1, e.2.1, by have := g.2.2.1; omega, by omega⟩ c
    · rw [if_neg e]; exact h d' hd
  · refine .inr ⟨h0, h1, ?_, fun d' hd hs => ?_⟩
    · rw [lastFor_snoc]
      by_cases e : r.1 = tn ∧ r.2.1 = kd ∧ r.2.2.1 = last
      · exact absurd ⟨e.1, e.2.1, by omega, by omega⟩ c
      · rw [if_neg e]; exact h2
    · rw [lastFor_snoc] at hs
      by_cases e : r.1 = tn ∧ r.2.1 = kd ∧ r.2.2.1 = d'
      · refine Classical.byContradiction fun z => c ⟨e.1, e.2.1, by omega, by omega⟩
      · rw [if_neg e] at hs
        exact h3 d' hd hs
section
variable {P : Program} {w : World} {K : PySem.W.Frag} {mg : Str → Option Value} {base : Heap} {t : Ad}
def spCW : Sp := fun vs H Q _ => ∃ (Lr : Addr) (tn kd : Str) (day : Int) (rows : List CRow), vs = [.ref Lr, .str tn, .str kd, .int day] ∧ LRows H Lr rows ∧ (∀ r ∈ rows, GoodRow r) ∧ Q (.int (wvF rows tn kd day)) H
theorem ok_cw (T : Env K mg t) : FnOk P w K mg base CX0 1 t.a_l_call_worth t.fd_l_call_worth ["_law_rows", "_law_town", "_law_kind", "_law_day_here"] spCW := by
  refine T.f_l_call_worth.okQ sc_l_call_worth (fun vs H Q E h => ?_) (fun cdv A outer s H vs Q E hr h => ?_)
  · obtain ⟨Lr, tn, kd, day, rows, rfl, _⟩ := h
    rfl
  · obtain ⟨Lr, tn, kd, day, rows, rfl, ⟨rs, hL, ra⟩, gr, k⟩ := h
    refine ⟨_, (q_pss_cons (q_ps_set (i := 4) sc_l_call_worth.nd rfl (by first | exact Or.inl rfl | exact Or.inr (Or.inl rfl) | exact Or.inr rfl) (q_pe_un un_neg q_pe_int))
      (q_pss_cons (q_ps_set (i := 5) sc_l_call_worth.nd rfl (by first | exact Or.inl rfl | exact Or.inr (Or.inl rfl) | exact Or.inr rfl) q_pe_int)
      (q_pss_cons (q_ps_for PassesOwn.never rfl (q_pi_list (q_pv 0)) (q_pg_name (i := 6) sc_l_call_worth.nd rfl (by first | exact Or.inl rfl | exact Or.inr (Or.inl rfl) | exact Or.inr rfl))
      (q_pss_one (q_ps_if (QW.pt (q_pw_and (q_pt_cmpR op_eq (q_pe_ix ix_tup (q_pv 6) q_pe_int (fun _ _ => rfl)) (q_pv 1) (nomark _)) (q_pw_and (q_pt_cmpR op_eq (q_pe_ix ix_tup (q_pv 6) q_pe_int (fun _ _ => rfl)) (q_pv 2) (nomark _)) (q_pw_and1 (q_pt_chain op_le op_le (q_pv 4) (q_pe_ix ix_tup (q_pv 6) q_pe_int (fun _ _ => rfl)) (q_pv 3)))))) (q_pss_cons (q_ps_set (i := 4) sc_l_call_worth.nd rfl (by first | exact Or.inl rfl | exact Or.inr (Or.inl rfl) | exact Or.inr rfl) (q_pe_ix ix_tup (q_pv 6) q_pe_int (fun _ _ => rfl)))
      (q_pss_one (q_ps_set (i := 5) sc_l_call_worth.nd rfl (by first | exact Or.inl rfl | exact Or.inr (Or.inl rfl) | exact Or.inr rfl) (q_pe_ix ix_tup (q_pv 6) q_pe_int (fun _ _ => rfl))))) q_pss_nil)))
      (q_pss_one (q_ps_ret (q_pv 5)))))), ?_⟩
    refine ⟨_, rfl, _, rfl, Lr, rfl, ⟨_, SqL.of hL⟩, ?_⟩
    refine for_list (xs := rs.map V.ref) (fun j σ H' => ∃ (last wt : Int) (o6 : Option V), σ = [some (.ref Lr), some (.str tn), some (.str kd), some (.int day), some (.int last), some (.int wt), o6] ∧ H = H' ∧ WI (rows.take j) tn kd day last wt) ?_ ?_ ?_ ?_
    · exact ⟨-1, 0, _, rfl, rfl, .inl ⟨rfl, rfl, fun _ _ => rfl⟩⟩
    · rintro j σ H3 hj ⟨last, wt, o6, rfl, rfl, wi⟩
      exact SqL.of hL
    · rintro j y σ H3 hy ⟨last, wt, o6, rfl, rfl, wi⟩
      obtain ⟨r, hr', rfl⟩ := ref_at hy
      obtain ⟨u, hu, e3⟩ := ra.at_ j r hr'
      have gu := gr u (List.mem_of_getElem? hu)
      have et : rows.take (j + 1) = rows.take j ++ [u] := by rw [List.take_succ, hu]; rfl
      refine ⟨_, rfl, r, _, 0, _, rfl, rfl, SqT.of e3, at_of (j := 0) (by decide) rfl, _, rfl, rfl, _, rfl, ?_⟩
      have no : ¬ (u.1 = tn ∧ u.2.1 = kd ∧ last ≤ u.2.2.1 ∧ u.2.2.1 ≤ day) → ∃ (last' wt' : Int) (o6 : Option V), ([some (.ref Lr), some (.str tn), some (.str kd), some (.int day), some (.int last), some (.int wt), some (.ref r)] : St) = [some (.ref Lr), some (.str tn), some (.str kd), some (.int day), some (.int last'), some (.int wt'), o6] ∧ H = H ∧ WI (rows.take (j + 1)) tn kd day last' wt' := fun c => ⟨last, wt, _, rfl, rfl, by rw [et]; exact wi.skip gu c⟩
      refine ite2 (fun c1 => ?_) (fun c1 => iteF ?_)
      · have c1 : u.1 = tn := V.str.inj (of_decide_eq_true c1)
        refine ⟨_, rfl, r, _, 1, _, rfl, rfl, SqT.of e3, at_of (j := 1) (by decide) rfl, _, rfl, rfl, _, rfl, ?_⟩
        refine ite2 (fun c2 => ?_) (fun c2 => iteF ?_)
        · have c2 : u.2.1 = kd := V.str.inj (of_decide_eq_true c2)
          refine ⟨_, rfl, _, rfl, r, _, 2, _, rfl, rfl, SqT.of e3, at_of (j := 2) (by decide) rfl, _, _, rfl, rfl, _, rfl, ?_⟩
          refine ite2 (fun c3 => ?_) (fun c3 => ?_)
          · have c3 : last ≤ u.2.2.1 := of_decide_eq_true c3
            refine ⟨_, rfl, _, _, rfl, rfl, _, rfl, ?_⟩
            refine ite2 (fun c4 => ?_) (fun c4 => ?_)
            · have c4 : u.2.2.1 ≤ day := of_decide_eq_true c4
              refine ⟨_, rfl, r, _, 2, _, rfl, rfl, SqT.of e3, at_of (j := 2) (by decide) rfl, ?_⟩
              refine ⟨_, rfl, r, _, 3, _, rfl, rfl, SqT.of e3, at_of (j := 3) (by decide) rfl, ?_⟩
              exact ⟨_, _, _, rfl, rfl, by rw [et]; exact wi.take gu c1 c2 c3 c4⟩
            · exact no fun z => c4 (decide_eq_true z.2.2.2)
          · exact ⟨_, rfl, iteF (no fun z => c3 (decide_eq_true z.2.2.1))⟩
        · exact no fun z => c2 (decide_eq_true (by rw [z.2.1]))
      · exact no fun z => c1 (decide_eq_true (by rw [z.1]))
    · rintro σ H3 ⟨last, wt, o6, rfl, rfl, wi⟩
      rw [List.length_map, ra.len, List.take_length] at wi
      refine ⟨_, rfl, ?_⟩
      rw [wvF_is wi.worth]
      exact k
def Alk : Nat → Hp → V → V → Prop
  | 0, _, x, y => (∃ n, x = .int n ∧ y = .int n) ∨ (∃ z, x = .str z ∧ y = .str z) ∨ (x = .non ∧ y = .non)
  | d + 1, H, x, y => (∃ n, x = .int n ∧ y = .int n) ∨ (∃ z, x = .str z ∧ y = .str z) ∨ (x = .non ∧ y = .non) ∨ ∃ (a b : Addr) (vs ws : List V), x = .ref a ∧ y = .ref b ∧ H a = some (.tup vs) ∧ H b = some (.tup ws) ∧ vs.length = ws.length ∧ vs.length ≤ 100 ∧ ∀ (i : Nat) (v u : V), vs[i]? = some v → ws[i]? = some u → Alk d H v u
theorem Alk.int {H : Hp} (n : Int) : ∀ d, Alk d H (.int n) (.int n)
  | 0 => .inl ⟨n, rfl, rfl⟩
  | _ + 1 => .inl ⟨n, rfl, rfl⟩
theorem Alk.str {H : Hp} (n : Str) : ∀ d, Alk d H (.str n) (.str n)
  | 0 => .inr (.inl ⟨n, rfl, rfl⟩)
  | _ + 1 => .inr (.inl ⟨n, rfl, rfl⟩)
theorem Alk.non {H : Hp} : ∀ d, Alk d H .non .non
  | 0 => .inr (.inr ⟨rfl, rfl⟩)
  | _ + 1 => .inr (.inr (.inl ⟨rfl, rfl⟩))
theorem Alk.mono : ∀ {d : Nat} {H H' : Hp} {x y : V}, Alk d H x y → Tups H H' → Alk d H' x y
  | 0, _, _, _, _, h, _ => h
  | d + 1, _, _, _, _, h, s => by
    rcases h with h | h | h | ⟨a, b, vs, ws, rfl, rfl, ha, hb, l, l1, k⟩
    · exact .inl h
    · exact .inr (.inl h)
    · exact .inr (.inr (.inl h))
    · exact .inr (.inr (.inr ⟨a, b, vs, ws, rfl, rfl, s _ _ ha, s _ _ hb, l, l1, fun i v u hv hu => (k i v u hv hu).mono s⟩))
theorem Alk.key {H : Hp} (k : Key) (d : Nat) : Alk d H (kV k) (kV k) := by
  cases k with
  | inl n => exact Alk.int n d
  | inr x => exact Alk.str x d
theorem Alk.tn {H : Hp} (k : Option Str) (d : Nat) : Alk d H (tnV k) (tnV k) := by
  cases k with
  | none => exact Alk.non d
  | some x => exact Alk.str x d
theorem Told.alk : ∀ {d : Nat} {r r' : Int} {H : Hp} {a b : Addr} {u : Tm}, Told d r H a u → Told d r' H b u → Alk d H (.ref a) (.ref b)
  | 0, _, _, _, _, _, _, h, _ => h.elim
  | d + 1, _, _, H, a, b, .lev n, ⟨_, h, _⟩, ⟨_, h', _⟩ => .inr (.inr (.inr ⟨a, b, _, _, rfl, rfl, h, h', rfl, by show 2 ≤ 100; decide, fun i v u hv hu => by
      match i, hv, hu with
      | 0, hv, hu => cases hv; cases hu; exact Alk.str _ d
      | 1, hv, hu => cases hv; cases hu; exact Alk.int _ d⟩))
  | d + 1, _, _, H, a, b, .cal wh tn, ⟨_, h, _⟩, ⟨_, h', _⟩ => .inr (.inr (.inr ⟨a, b, _, _, rfl, rfl, h, h', rfl, by show 3 ≤ 100; decide, fun i v u hv hu => by
      match i, hv, hu with
      | 0, hv, hu => cases hv; cases hu; exact Alk.str _ d
      | 1, hv, hu => cases hv; cases hu; exact Alk.key wh d
      | 2, hv, hu => cases hv; cases hu; exact Alk.tn tn d⟩))
  | d + 1, _, _, H, a, b, .low ts, ⟨rs, q, h, l, l2, l8, _, sub⟩, ⟨rs', q', h', l', _, _, _, sub'⟩ => .inr (.inr (.inr ⟨a, b, _, _, rfl, rfl, h, h', by rw [List.length_cons, List.length_cons, List.length_map, List.length_map]; omega, by rw [List.length_cons, List.length_map]; omega, fun i v u hv hu => by
      match i, hv, hu with
      | 0, hv, hu => cases hv; cases hu; exact Alk.str _ d
      | i + 1, hv, hu =>
        rw [List.getElem?_cons_succ] at hv hu
        obtain ⟨x, hx, rfl⟩ := ref_at hv
        obtain ⟨y, hy, rfl⟩ := ref_at hu
        have hi := (List.getElem?_eq_some_iff.mp hx).1
        have ht : ts[i]? = some (ts[i]'(by omega)) := List.getElem?_eq_getElem (by omega)
        exact (sub i x _ hx ht).alk (sub' i y _ hy ht)⟩))
  | d + 1, _, _, H, a, b, .top ts, ⟨rs, q, h, l, l2, l8, _, sub⟩, ⟨rs', q', h', l', _, _, _, sub'⟩ => .inr (.inr (.inr ⟨a, b, _, _, rfl, rfl, h, h', by rw [List.length_cons, List.length_cons, List.length_map, List.length_map]; omega, by rw [List.length_cons, List.length_map]; omega, fun i v u hv hu => by
      match i, hv, hu with
      | 0, hv, hu => cases hv; cases hu; exact Alk.str _ d
      | i + 1, hv, hu =>
        rw [List.getElem?_cons_succ] at hv hu
        obtain ⟨x, hx, rfl⟩ := ref_at hv
        obtain ⟨y, hy, rfl⟩ := ref_at hu
        have hi := (List.getElem?_eq_some_iff.mp hx).1
        have ht : ts[i]? = some (ts[i]'(by omega)) := List.getElem?_eq_getElem (by omega)
        exact (sub i x _ hx ht).alk (sub' i y _ hy ht)⟩))
theorem kit_int_str {K : PySem.W.Frag} : PySem.W.kitOne K (.type "int") (.type "str") = some false := by
  unfold PySem.W.kitOne PySem.W.kitCls
  rw [if_neg (by decide)]
  rfl
theorem kit_int_tup {K : PySem.W.Frag} : PySem.W.kitOne K (.type "int") (.type "tuple") = some false := by
  unfold PySem.W.kitOne PySem.W.kitCls
  rw [if_neg (by decide)]
  rfl
theorem kit_tup_str {K : PySem.W.Frag} : PySem.W.kitOne K (.type "tuple") (.type "str") = some false := by
  unfold PySem.W.kitOne PySem.W.kitCls
  rw [if_neg (by decide)]
  rfl
def spAlk (d : Nat) : Sp := fun vs H Q _ => ∃ x y, vs = [x, y] ∧ Alk d H x y ∧ ∀ H', Same H H' → Q (.bl true) H'
theorem ok_alk (T : Env K mg t) (d : Nat) (G_l_alike : FnOk P w K mg base CX0 (1 + d) t.a_l_alike t.fd_l_alike ["_law_found", "_law_due"] (fun vs H Q E => ∃ d', d = d' + 1 ∧ spAlk d' vs H Q E)) : FnOk P w K mg base CX0 (1 + d + 1) t.a_l_alike t.fd_l_alike ["_law_found", "_law_due"] (spAlk d) := by
  refine T.f_l_alike.okQ sc_l_alike (fun vs H Q E h => ?_) (fun cdv A outer s H vs Q E hr h => ?_)
  · obtain ⟨x, y, rfl, _⟩ := h
    rfl
  · obtain ⟨x, y, rfl, al, k⟩ := h
    have hr_l_alike := hr
    refine ⟨_, (q_pss_cons (q_ps_if (q_pt_cmpR op_isN (q_pv 1) q_pe_non (nomark _)) (q_pss_one (q_ps_ret (q_pe_cmpR op_isN (q_pv 0) q_pe_non (nomark _)))) q_pss_nil)
      (q_pss_cons (q_ps_if (q_pt_val (q_pe_callB call_isinst (by rfl) T.z_isinstance (by decide +kernel) (q_pa_cons (q_pv 1) (q_pa_cons (q_pe_bltn (v := .ty "str") (by rfl) T.z_str (by decide +kernel) rfl) q_pa_nil star_Name) star_Name))) (q_pss_one (q_ps_ret (q_pe_and (q_pe_callB call_isinst (by rfl) T.z_isinstance (by decide +kernel) (q_pa_cons (q_pv 0) (q_pa_cons (q_pe_bltn (v := .ty "str") (by rfl) T.z_str (by decide +kernel) rfl) q_pa_nil star_Name) star_Name)) (q_pe_one (q_pe_cmpR op_eq (q_pv 0) (q_pv 1) (nomark _)))))) q_pss_nil)
      (q_pss_cons (q_ps_if (q_pt_not (q_pt_val (q_pe_callB call_isinst (by rfl) T.z_isinstance (by decide +kernel) (q_pa_cons (q_pv 1) (q_pa_cons (q_pe_bltn (v := .ty "tuple") (by rfl) T.z_tuple (by decide +kernel) rfl) q_pa_nil star_Name) star_Name)))) (q_pss_one (q_ps_ret (q_pe_and (q_pe_callB call_isinst (by rfl) T.z_isinstance (by decide +kernel) (q_pa_cons (q_pv 0) (q_pa_cons (q_pe_bltn (v := .ty "int") (by rfl) T.z_int (by decide +kernel) rfl) q_pa_nil star_Name) star_Name)) (q_pe_and (q_pe_not (q_pe_callB call_isinst (by rfl) T.z_isinstance (by decide +kernel) (q_pa_cons (q_pv 0) (q_pa_cons (q_pe_bltn (v := .ty "bool") (by rfl) T.z_bool (by decide +kernel) rfl) q_pa_nil star_Name) star_Name))) (q_pe_one (q_pe_cmpR op_eq (q_pv 0) (q_pv 1) (nomark _))))))) q_pss_nil)
      (q_pss_cons (q_ps_if (QW.pt (q_pw_or (q_pt_not (q_pt_val (q_pe_callB call_isinst (by rfl) T.z_isinstance (by decide +kernel) (q_pa_cons (q_pv 0) (q_pa_cons (q_pe_bltn (v := .ty "tuple") (by rfl) T.z_tuple (by decide +kernel) rfl) q_pa_nil star_Name) star_Name)))) (q_pw_or1 (q_pt_cmpR op_ne (q_pe_callB call_len_seq (by rfl) T.z_len PySem.boot_len (q_pa_cons (q_pv 0) q_pa_nil star_Name)) (q_pe_callB call_len_seq (by rfl) T.z_len PySem.boot_len (q_pa_cons (q_pv 1) q_pa_nil star_Name)) (nomark _))))) (q_pss_one (q_ps_ret q_pe_bl)) q_pss_nil)
      (q_pss_one (q_ps_ret (q_pe_callB (cr_all rfl) (by rfl) T.z_all (by decide +kernel) (q_pa_cons (q_pe_lc (own := [("_law_k", 2)]) (g := gName 2) (by rfl) sc_l_alike.nd (q_pi_range1 (by rfl) T.z_range (q_pa_cons (q_pe_callB call_len_seq (by rfl) T.z_len PySem.boot_len (q_pa_cons (q_pv 1) q_pa_nil star_Name)) q_pa_nil star_Call)) (blkOk_by (own := [("_law_k", 2)]) (N := ["_law_found", "_law_due", "_law_k"]) (sc := defScope s_l_alike) (by decide +kernel)) (fun _ _ _ _ _ => (q_pg_name (i := 2) sc_l_alike.nd rfl (by first | exact Or.inl rfl | exact Or.inr (Or.inl rfl) | exact Or.inr rfl))) (fun _ _ _ _ _ => q_pts_nil) (fun _ _ _ _ _ => (q_pe_call G_l_alike hr_l_alike (by rfl) T.mg_l_alike T.kp_l_alike T.b_l_alike .nil pass0 (q_pa_cons (q_pe_ix (ix_tupK (K := K) rfl) (q_pv 0) (q_pv 2) (fun _ _ => rfl)) (q_pa_cons (q_pe_ix (ix_tupK (K := K) rfl) (q_pv 1) (q_pv 2) (fun _ _ => rfl)) q_pa_nil star_Subscript) star_Subscript)))) q_pa_nil star_ListComp)))))))), ?_⟩
    have flat : (∃ n, x = .int n ∧ y = .int n) ∨ (∃ z, x = .str z ∧ y = .str z) ∨ (x = .non ∧ y = .non) ∨ ∃ d' : Nat, d = d' + 1 ∧ ∃ (a b : Addr) (vs ws : List V), x = .ref a ∧ y = .ref b ∧ H a = some (.tup vs) ∧ H b = some (.tup ws) ∧ vs.length = ws.length ∧ vs.length ≤ 100 ∧ ∀ (i : Nat) (v u : V), vs[i]? = some v → ws[i]? = some u → Alk d' H v u := by
      cases d with
      | zero => rcases al with h | h | h; exact .inl h; exact .inr (.inl h); exact .inr (.inr (.inl h))
      | succ d => rcases al with h | h | h | h; exact .inl h; exact .inr (.inl h); exact .inr (.inr (.inl h)); exact .inr (.inr (.inr ⟨d, rfl, h⟩))
    rcases flat with ⟨n, rfl, rfl⟩ | ⟨z, rfl, rfl⟩ | ⟨rfl, rfl⟩ | ⟨d', rfl, a, b, vs, ws, rfl, rfl, ha, hb, ll, l1, sub⟩
    · refine ⟨_, rfl, rfl, _, rfl, iteF ?_⟩
      refine ⟨_, rfl, _, "str", _, _, rfl, .int n, kit_int_str, _, rfl, iteF ?_⟩
      refine ⟨_, rfl, _, "tuple", _, _, rfl, .int n, kit_int_tup, _, rfl, iteT ?_⟩
      refine ⟨_, rfl, _, "int", _, _, rfl, .int n, kit_same, _, rfl, iteT ?_⟩
      refine ⟨_, rfl, _, "bool", _, _, rfl, .int n, kit_int_bool, _, rfl, _, rfl, iteT ?_⟩
      refine ⟨_, rfl, _, rfl, rfl, ?_⟩
      rw [decide_eq_true rfl]
      exact k _ (Same.refl _)
    · refine ⟨_, rfl, rfl, _, rfl, iteF ?_⟩
      refine ⟨_, rfl, _, "str", _, _, rfl, .str z, kit_same, _, rfl, iteT ?_⟩
      refine ⟨_, rfl, _, "str", _, _, rfl, .str z, kit_same, _, rfl, iteT ?_⟩
      refine ⟨_, rfl, _, rfl, rfl, ?_⟩
      rw [decide_eq_true rfl]
      exact k _ (Same.refl _)
    · refine ⟨_, rfl, rfl, _, rfl, iteT ?_⟩
      refine ⟨_, rfl, rfl, ?_⟩
      rw [decide_eq_true rfl]
      exact k _ (Same.refl _)
    · refine ⟨_, rfl, rfl, _, rfl, iteF ?_⟩
      refine ⟨_, rfl, _, "str", _, _, rfl, .tup hb, kit_tup_str, _, rfl, iteF ?_⟩
      refine ⟨_, rfl, _, "tuple", _, _, rfl, .tup hb, kit_same, _, rfl, iteF ?_⟩
      refine ⟨_, rfl, _, "tuple", _, _, rfl, .tup ha, kit_same, _, rfl, iteF ?_⟩
      refine ⟨_, rfl, a, _, rfl, .inr (SqT.of ha), _, rfl, b, _, rfl, .inr (SqT.of hb), rfl, _, rfl, ?_⟩
      rw [decide_eq_true (show V.int ((vs.length : Nat) : Int) = V.int ((ws.length : Nat) : Int) by rw [ll])]
      refine iteF ?_
      refine ⟨_, rfl, b, _, rfl, .inr (SqT.of hb), _, rfl, by omega, by omega, fun L hL => ?_⟩
      refine lc_range (lo := 0) (fun i H' => H' L = some (.lst ((List.replicate i true).map V.bl)) ∧ Same H H') ?_ ?_ ?_
      · exact ⟨by rw [upd_same]; rfl, same_new hL⟩
      · rintro i H1 hi ⟨h1, s1⟩
        have hi : i < ws.length := by omega
        have hv : vs[i]? = some (vs[i]'(by omega)) := List.getElem?_eq_getElem (by omega)
        have hu : ws[i]? = some (ws[i]'hi) := List.getElem?_eq_getElem hi
        refine ⟨rfl, yes_i ⟨_, rfl, _, rfl, a, _, _, _, rfl, rfl, SqT.of (s1 _ _ ha), at_of (j := i) (by omega) hv, _, rfl, _, rfl, b, _, _, _, rfl, rfl, SqT.of (s1 _ _ hb), at_of (j := i) (by omega) hu, ?_⟩⟩
        refine ⟨d', rfl, _, _, rfl, (sub i _ _ hv hu).mono (.same s1), fun H2 s2 => ?_⟩
        refine ⟨_, s2 _ _ h1, small1000 (by rw [List.length_map, List.length_replicate]; omega), ?_, fun b o e => ?_⟩
        · rw [upd_same, List.replicate_succ', List.map_append]; rfl
        · rw [upd_ne (ne_of_none e hL)]; exact s2 _ _ (s1 b o e)
      · rintro H1 ⟨h1, s1⟩
        refine ⟨L, _, rfl, SqL.of h1, ?_⟩
        have e : ∀ m : Nat, (List.replicate m true).all id = true := fun m => by
          rw [List.all_eq_true]; intro x hx; exact List.eq_of_mem_replicate hx
        rw [e]
        exact k _ s1
theorem ok_alkrec (T : Env K mg t) : ∀ d : Nat, FnOk P w K mg base CX0 (1 + d + 1) t.a_l_alike t.fd_l_alike ["_law_found", "_law_due"] (spAlk d)
  | 0 => ok_alk T 0 (fn_no fun vs H Q E h => by obtain ⟨d', e, _⟩ := h; omega)
  | d + 1 => ok_alk T (d + 1) (FnOk.imp (ok_alkrec T d) (by
      intro vs H Q E h
      obtain ⟨d', e, h⟩ := h
      have e : d = d' := by omega
      subst e
      exact h))
end
end Ck
set_option Elab.async false
set_option linter.all false
set_option pp.maxSteps 120
set_option maxRecDepth 100000
set_option maxHeartbeats 4000000
namespace Ck
open PySem L2
section
variable {P : Program} {w : World} {K : PySem.W.Frag} {mg : Str → Option Value} {base : Heap} {t : Ad}
def spLW (d : Nat) : Sp := fun vs H Q _ => ∃ (a Lr c : Addr) (cs : Cs) (r : Int) (u : Tm), vs = [.ref a, .ref Lr, .str cs.kd, .ref c] ∧ Told d r H a u ∧ LRows H Lr cs.rows ∧ (∀ r ∈ cs.rows, GoodRow r) ∧ H c = some (.tup [.str cs.tw, .int cs.m, .int cs.p]) ∧ ∀ H', Same H H' → Q (.int (worF cs d u)) H'
theorem ok_lw (T : Env K mg t) (d : Nat) (G_l_worth : FnOk P w K mg base CX0 (2 + d) t.a_l_worth t.fd_l_worth ["_law_told_here", "_law_rows", "_law_kind", "_law_case"] (spLW d)) : FnOk P w K mg base CX0 (2 + d + 1) t.a_l_worth t.fd_l_worth ["_law_told_here", "_law_rows", "_law_kind", "_law_case"] (spLW (d + 1)) := by
  have G_l_call_worth : FnOk P w K mg base CX0 1 t.a_l_call_worth t.fd_l_call_worth ["_law_rows", "_law_town", "_law_kind", "_law_day_here"] spCW := ok_cw T
  refine T.f_l_worth.okQ sc_l_worth (fun vs H Q E h => ?_) (fun cdv A outer s H vs Q E hr h => ?_)
  · obtain ⟨a, Lr, c, cs, r, u, rfl, _⟩ := h
    rfl
  · obtain ⟨a, Lr, c, cs, r, u, rfl, tl, lr0, gr, hc, k⟩ := h
    have hr_l_call_worth : Room 1 _ := hr.mono (by omega)
    have hr_l_worth := hr
    refine ⟨_, (q_pss_cons (q_ps_if (q_pt_cmpR op_eq (q_pe_ix ix_tup (q_pv 0) q_pe_int (fun _ _ => rfl)) q_pe_str (nomark _)) (q_pss_one (q_ps_ret (q_pe_ix ix_tup (q_pv 0) q_pe_int (fun _ _ => rfl)))) q_pss_nil)
      (q_pss_cons (q_ps_if (q_pt_cmpR op_eq (q_pe_ix ix_tup (q_pv 0) q_pe_int (fun _ _ => rfl)) q_pe_str (nomark _)) (q_pss_cons (q_ps_set (i := 5) sc_l_worth.nd rfl (by first | exact Or.inl rfl | exact Or.inr (Or.inl rfl) | exact Or.inr rfl) (q_pe_ix ix_tup (q_pv 0) q_pe_int (fun _ _ => rfl)))
      (q_pss_cons (q_ps_if (q_pt_cmpR op_eq (q_pv 5) q_pe_str (nomark _)) (q_pss_one (q_ps_set (i := 5) sc_l_worth.nd rfl (by first | exact Or.inl rfl | exact Or.inr (Or.inl rfl) | exact Or.inr rfl) (q_pe_ix ix_tup (q_pv 3) q_pe_int (fun _ _ => rfl)))) (q_pss_one (q_ps_if (q_pt_cmpR op_eq (q_pv 5) q_pe_str (nomark _)) (q_pss_one (q_ps_set (i := 5) sc_l_worth.nd rfl (by first | exact Or.inl rfl | exact Or.inr (Or.inl rfl) | exact Or.inr rfl) (q_pe_ix ix_tup (q_pv 3) q_pe_int (fun _ _ => rfl)))) q_pss_nil)))
      (q_pss_one (q_ps_ret (q_pe_call G_l_call_worth hr_l_call_worth (by rfl) T.mg_l_call_worth T.kp_l_call_worth T.b_l_call_worth .nil pass0 (q_pa_cons (q_pv 1) (q_pa_cons (q_pe_ifExp (q_pt_cmpR op_isN (q_pe_ix ix_tup (q_pv 0) q_pe_int (fun _ _ => rfl)) q_pe_non (nomark _)) (q_pe_ix ix_tup (q_pv 3) q_pe_int (fun _ _ => rfl)) (q_pe_ix ix_tup (q_pv 0) q_pe_int (fun _ _ => rfl))) (q_pa_cons (q_pv 2) (q_pa_cons (q_pv 5) q_pa_nil star_Name) star_Name) star_IfExp) star_Name)))))) q_pss_nil)
      (q_pss_cons ((q_ps_setLc (i := 4) (own := [("_law_part", 6)]) (g := gName 6) (by rfl) sc_l_worth.nd rfl rfl (sw_true rfl rfl rfl (by decide +kernel)) (q_pi_tup (q_pe_slice sl_tup (q_pv 0) (q_po_some q_pe_int) q_po_none)) (blkOk_by (own := [("_law_part", 6)]) (N := ["_law_told_here", "_law_rows", "_law_kind", "_law_case", "_law_found", "_law_day_here", "_law_part"]) (sc := defScope s_l_worth) (by decide +kernel)) (fun _ _ _ _ _ => (q_pg_name (i := 6) sc_l_worth.nd rfl (by first | exact Or.inl rfl | exact Or.inr (Or.inl rfl) | exact Or.inr rfl))) (fun _ _ _ _ _ => q_pts_nil) (fun _ _ _ _ _ => (q_pe_call G_l_worth hr_l_worth (by rfl) T.mg_l_worth T.kp_l_worth T.b_l_worth .nil pass0 (q_pa_cons (q_pv 6) (q_pa_cons (q_pv 1) (q_pa_cons (q_pv 2) (q_pa_cons (q_pv 3) q_pa_nil star_Name) star_Name) star_Name) star_Name)))))
      (q_pss_cons (q_ps_if (q_pt_cmpR op_eq (q_pe_ix ix_tup (q_pv 0) q_pe_int (fun _ _ => rfl)) q_pe_str (nomark _)) (q_pss_one (q_ps_ret (q_pe_callB (cr_min rfl) (by rfl) T.z_min (by decide +kernel) (q_pa_cons (q_pv 4) q_pa_nil star_Name)))) q_pss_nil)
      (q_pss_one (q_ps_ret (q_pe_callB (cr_max rfl) (by rfl) T.z_max (by decide +kernel) (q_pa_cons (q_pv 4) q_pa_nil star_Name)))))))), ?_⟩
    cases u with
    | lev n =>
      obtain ⟨r1, ha, n0, n1⟩ := tl
      refine ⟨_, rfl, a, _, 0, _, rfl, rfl, SqT.of ha, at_of (j := 0) (by decide) rfl, rfl, _, rfl, ?_⟩
      rw [decide_eq_true rfl]
      refine iteT ?_
      exact ⟨_, rfl, a, _, 1, _, rfl, rfl, SqT.of ha, at_of (j := 1) (by decide) rfl, k _ (Same.refl _)⟩
    | cal wh tn =>
      obtain ⟨r1, ha, gw, gt⟩ := tl
      refine ⟨_, rfl, a, _, 0, _, rfl, rfl, SqT.of ha, at_of (j := 0) (by decide) rfl, rfl, _, rfl, ?_⟩
      rw [decide_eq_false (by decide +kernel)]
      refine iteF ?_
      refine ⟨_, rfl, a, _, 0, _, rfl, rfl, SqT.of ha, at_of (j := 0) (by decide) rfl, rfl, _, rfl, ?_⟩
      rw [decide_eq_true rfl]
      refine iteT ?_
      refine ⟨_, rfl, a, _, 1, _, rfl, rfl, SqT.of ha, at_of (j := 1) (by decide) rfl, ?_⟩
      rcases gw with rfl | rfl | ⟨dy, rfl, d0, d1⟩
      · refine ⟨_, rfl, rfl, _, rfl, ?_⟩
        rw [decide_eq_true (show kV (.inr "made") = V.str "made" from rfl)]
        refine iteT ?_
        refine ⟨_, rfl, c, _, 1, _, rfl, rfl, SqT.of hc, at_of (j := 1) (by decide) rfl, ?_⟩
        refine ⟨_, rfl, _, rfl, a, _, 2, _, rfl, rfl, SqT.of ha, at_of (j := 2) (by decide) rfl, rfl, _, rfl, ?_⟩
        cases tn with
        | none =>
          refine iteT ⟨_, rfl, c, _, 0, _, rfl, rfl, SqT.of hc, at_of (j := 0) (by decide) rfl, ?_⟩
          exact ⟨_, rfl, _, rfl, Lr, _, cs.kd, _, cs.rows, rfl, lr0, gr, k _ (Same.refl _)⟩
        | some y =>
          refine iteF ⟨_, rfl, a, _, 2, _, rfl, rfl, SqT.of ha, at_of (j := 2) (by decide) rfl, ?_⟩
          exact ⟨_, rfl, _, rfl, Lr, _, cs.kd, _, cs.rows, rfl, lr0, gr, k _ (Same.refl _)⟩
      · refine ⟨_, rfl, rfl, _, rfl, ?_⟩
        rw [decide_eq_false (by decide +kernel)]
        refine iteF ?_
        refine ⟨_, rfl, rfl, _, rfl, ?_⟩
        rw [decide_eq_true (show kV (.inr "paid") = V.str "paid" from rfl)]
        refine iteT ?_
        refine ⟨_, rfl, c, _, 2, _, rfl, rfl, SqT.of hc, at_of (j := 2) (by decide) rfl, ?_⟩
        refine ⟨_, rfl, _, rfl, a, _, 2, _, rfl, rfl, SqT.of ha, at_of (j := 2) (by decide) rfl, rfl, _, rfl, ?_⟩
        cases tn with
        | none =>
          refine iteT ⟨_, rfl, c, _, 0, _, rfl, rfl, SqT.of hc, at_of (j := 0) (by decide) rfl, ?_⟩
          exact ⟨_, rfl, _, rfl, Lr, _, cs.kd, _, cs.rows, rfl, lr0, gr, k _ (Same.refl _)⟩
        | some y =>
          refine iteF ⟨_, rfl, a, _, 2, _, rfl, rfl, SqT.of ha, at_of (j := 2) (by decide) rfl, ?_⟩
          exact ⟨_, rfl, _, rfl, Lr, _, cs.kd, _, cs.rows, rfl, lr0, gr, k _ (Same.refl _)⟩
      · refine ⟨_, rfl, rfl, _, rfl, ?_⟩
        rw [decide_eq_false (fun z => nomatch z)]
        refine iteF ?_
        refine ⟨_, rfl, rfl, _, rfl, ?_⟩
        rw [decide_eq_false (fun z => nomatch z)]
        refine iteF ?_
        refine ⟨_, rfl, _, rfl, a, _, 2, _, rfl, rfl, SqT.of ha, at_of (j := 2) (by decide) rfl, rfl, _, rfl, ?_⟩
        cases tn with
        | none =>
          refine iteT ⟨_, rfl, c, _, 0, _, rfl, rfl, SqT.of hc, at_of (j := 0) (by decide) rfl, ?_⟩
          exact ⟨_, rfl, _, rfl, Lr, _, cs.kd, _, cs.rows, rfl, lr0, gr, k _ (Same.refl _)⟩
        | some y =>
          refine iteF ⟨_, rfl, a, _, 2, _, rfl, rfl, SqT.of ha, at_of (j := 2) (by decide) rfl, ?_⟩
          exact ⟨_, rfl, _, rfl, Lr, _, cs.kd, _, cs.rows, rfl, lr0, gr, k _ (Same.refl _)⟩
    | low ts =>
      obtain ⟨rs, q, ha, lr, l2, l8, lq, sub⟩ := tl
      refine ⟨_, rfl, a, _, 0, _, rfl, rfl, SqT.of ha, at_of (j := 0) (by decide) rfl, rfl, _, rfl, ?_⟩
      rw [decide_eq_false (by decide +kernel)]
      refine iteF ?_
      refine ⟨_, rfl, a, _, 0, _, rfl, rfl, SqT.of ha, at_of (j := 0) (by decide) rfl, rfl, _, rfl, ?_⟩
      rw [decide_eq_false (by decide +kernel)]
      refine iteF ?_
      refine ⟨_, rfl, 1, rfl, a, _, rfl, SqT.of ha, notone _ _, fun c1 hc1 => ?_⟩
      rw [cut_one]
      have s1 := same_new (o := .tup (rs.map V.ref)) hc1
      have f1 := new_at (o := .tup (rs.map V.ref)) hc1
      refine ⟨c1, rfl, ⟨_, SqT.of f1⟩, fun L hL => ?_⟩
      refine lc_tup (xs := rs.map V.ref) (fun i H' => H' L = some (.lst (((ts.take i).map (worF cs d)).map V.int)) ∧ Same (upd H c1 (.tup (rs.map V.ref))) H') ?_ ?_ ?_ ?_
      · exact ⟨by rw [upd_same]; rfl, same_new hL⟩
      · rintro i H2 hi ⟨h2, s2⟩
        exact SqT.of (s2 _ _ f1)
      · rintro i y H2 hy ⟨h2, s2⟩
        obtain ⟨x', hx', rfl⟩ := ref_at hy
        have hi := (List.getElem?_eq_some_iff.mp hx').1
        obtain ⟨u, hu⟩ : ∃ u, ts[i]? = some u := ⟨_, List.getElem?_eq_getElem (by omega)⟩
        have s12 := s1.trans s2
        refine ⟨rfl, yes_i ⟨_, rfl, _, rfl, _, rfl, _, rfl, x', Lr, c, cs, q, u, rfl, (sub i x' u hx' hu).mono (.same s12), lr0.same s12, gr, s12 _ _ hc, fun H3 s3 => ?_⟩⟩
        refine ⟨_, s3 _ _ h2, small1000 (by rw [List.length_map, List.length_map, List.length_take]; omega), ?_, fun b o e => ?_⟩
        · rw [upd_same, List.take_succ, hu, List.map_append, List.map_append]; rfl
        · rw [upd_ne (ne_of_none e hL)]; exact s3 _ _ (s2 b o e)
      rintro H2 ⟨h2, s2⟩
      rw [List.length_map, lr, List.take_length] at h2
      have s12 := s1.trans s2
      refine ⟨_, rfl, a, _, 0, _, rfl, rfl, SqT.of (s12 _ _ ha), at_of (j := 0) (by decide) rfl, rfl, _, rfl, ?_⟩
      rw [decide_eq_true rfl]
      refine iteT ?_
      refine ⟨_, rfl, L, _, rfl, SqL.of h2, by rw [List.length_map]; omega, fun n hn hk => ?_⟩
      rw [min_is hn hk]
      exact k _ s12
    | top ts =>
      obtain ⟨rs, q, ha, lr, l2, l8, lq, sub⟩ := tl
      refine ⟨_, rfl, a, _, 0, _, rfl, rfl, SqT.of ha, at_of (j := 0) (by decide) rfl, rfl, _, rfl, ?_⟩
      rw [decide_eq_false (by decide +kernel)]
      refine iteF ?_
      refine ⟨_, rfl, a, _, 0, _, rfl, rfl, SqT.of ha, at_of (j := 0) (by decide) rfl, rfl, _, rfl, ?_⟩
      rw [decide_eq_false (by decide +kernel)]
      refine iteF ?_
      refine ⟨_, rfl, 1, rfl, a, _, rfl, SqT.of ha, notone _ _, fun c1 hc1 => ?_⟩
      rw [cut_one]
      have s1 := same_new (o := .tup (rs.map V.ref)) hc1
      have f1 := new_at (o := .tup (rs.map V.ref)) hc1
      refine ⟨c1, rfl, ⟨_, SqT.of f1⟩, fun L hL => ?_⟩
      refine lc_tup (xs := rs.map V.ref) (fun i H' => H' L = some (.lst (((ts.take i).map (worF cs d)).map V.int)) ∧ Same (upd H c1 (.tup (rs.map V.ref))) H') ?_ ?_ ?_ ?_
      · exact ⟨by rw [upd_same]; rfl, same_new hL⟩
      · rintro i H2 hi ⟨h2, s2⟩
        exact SqT.of (s2 _ _ f1)
      · rintro i y H2 hy ⟨h2, s2⟩
        obtain ⟨x', hx', rfl⟩ := ref_at hy
        have hi := (List.getElem?_eq_some_iff.mp hx').1
        obtain ⟨u, hu⟩ : ∃ u, ts[i]? = some u := ⟨_, List.getElem?_eq_getElem (by omega)⟩
        have s12 := s1.trans s2
        refine ⟨rfl, yes_i ⟨_, rfl, _, rfl, _, rfl, _, rfl, x', Lr, c, cs, q, u, rfl, (sub i x' u hx' hu).mono (.same s12), lr0.same s12, gr, s12 _ _ hc, fun H3 s3 => ?_⟩⟩
        refine ⟨_, s3 _ _ h2, small1000 (by rw [List.length_map, List.length_map, List.length_take]; omega), ?_, fun b o e => ?_⟩
        · rw [upd_same, List.take_succ, hu, List.map_append, List.map_append]; rfl
        · rw [upd_ne (ne_of_none e hL)]; exact s3 _ _ (s2 b o e)
      rintro H2 ⟨h2, s2⟩
      rw [List.length_map, lr, List.take_length] at h2
      have s12 := s1.trans s2
      refine ⟨_, rfl, a, _, 0, _, rfl, rfl, SqT.of (s12 _ _ ha), at_of (j := 0) (by decide) rfl, rfl, _, rfl, ?_⟩
      rw [decide_eq_false (by decide +kernel)]
      refine iteF ?_
      refine ⟨_, rfl, L, _, rfl, SqL.of h2, by rw [List.length_map]; omega, fun n hn hk => ?_⟩
      rw [max_is hn hk]
      exact k _ s12
theorem ok_lwrec (T : Env K mg t) : ∀ d : Nat, FnOk P w K mg base CX0 (2 + d) t.a_l_worth t.fd_l_worth ["_law_told_here", "_law_rows", "_law_kind", "_law_case"] (spLW d)
  | 0 => fn_no fun vs H Q E h => by obtain ⟨a, Lr, c, cs, r, u, _, tl, _⟩ := h; exact tl.elim
  | d + 1 => ok_lw T d (ok_lwrec T d)
def spBeside (K : PySem.W.Frag) : Sp := fun vs H Q _ => ∃ (d a : Addr) (ns : List Int) (dy : Int), vs = [.ref d, .int dy] ∧ DrawAt K H d a ns ∧ ∀ (n : Int) (H' : Hp), 0 ≤ n → n ≤ 9999 → DrawAt K H' d a ns → Keep d H H' → Q (.int n) H'
theorem ok_beside (T : Env K mg t) : FnOk P w K mg base CX0 3 t.a_l_beside t.fd_l_beside ["_law_draw", "_law_day_here"] (spBeside K) := by
  have G_l_next : FnOk P w K mg base CX0 2 t.a_l_next t.fd_l_next ["_law_draw", "_law_size"] (spNext K) := ok_next T
  refine T.f_l_beside.okQ sc_l_beside (fun vs H Q E h => ?_) (fun cdv A outer s H vs Q E hr h => ?_)
  · obtain ⟨d, a, ns, dy, rfl, _⟩ := h
    rfl
  · obtain ⟨d, a, ns, dy, rfl, D, q⟩ := h
    have hr_l_next : Room 2 _ := hr.mono (by decide)
    refine ⟨_, (q_pss_one (q_ps_ret (q_pe_callB (call_min2 rfl) (by rfl) T.z_min (by decide +kernel) (q_pa_cons q_pe_int (q_pa_cons (q_pe_callB (call_max2 rfl) (by rfl) T.z_max (by decide +kernel) (q_pa_cons q_pe_int (q_pa_cons (q_pe_op op_sub (q_pe_op op_add (q_pv 1) (q_pe_call G_l_next hr_l_next (by rfl) T.mg_l_next T.kp_l_next T.b_l_next .nil pass0 (q_pa_cons (q_pv 0) (q_pa_cons q_pe_int q_pa_nil star_Constant) star_Name))) q_pe_int) q_pa_nil star_BinOp) star_Constant)) q_pa_nil star_Call) star_Constant)))), ?_⟩
    refine ⟨_, rfl, _, rfl, d, a, ns, _, rfl, D, by decide, fun r H1 r0 r1 D1 k1 => ⟨_, _, rfl, rfl, _, _, rfl, rfl, _, _, rfl, _, _, rfl, ?_⟩⟩
    refine q _ H1 ?_ ?_ D1 k1
    · split <;> (try split) <;> omega
    · split <;> (try split) <;> omega
end
end Ck
set_option Elab.async false
set_option linter.all false
set_option pp.maxSteps 120
set_option maxRecDepth 100000
set_option maxHeartbeats 4000000
namespace Ck
open PySem L2
structure Lsts (H : Hp) (l : List Addr) : Prop where
  nd : l.Nodup
  al : ∀ p ∈ l, ∃ xs, H p = some (.lst xs)
theorem Lsts.new {H : Hp} {l : List Addr} {p : Addr} {xs : List V} (h : Lsts H l) (hp : H p = none) : Lsts (upd H p (.lst xs)) (p :: l) := by
  refine ⟨List.nodup_cons.mpr ⟨fun hm => ?_, h.nd⟩, fun q hq => ?_⟩
  · obtain ⟨ys, e⟩ := h.al p hm
    rw [hp] at e; cases e
  · rcases List.mem_cons.mp hq with rfl | hq
    · exact ⟨xs, upd_same⟩
    · obtain ⟨ys, e⟩ := h.al q hq
      exact ⟨ys, by rw [upd_ne (ne_of_none e hp)]; exact e⟩
theorem Lsts.new' {H H' : Hp} {l : List Addr} {p : Addr} {xs : List V} (h : Lsts H' l) (k : Lsts H l) (hp : H p = none) (e : H' p = some (.lst xs)) : Lsts H' (p :: l) := by
  refine ⟨List.nodup_cons.mpr ⟨fun hm => ?_, h.nd⟩, fun q hq => ?_⟩
  · obtain ⟨ys, e⟩ := k.al p hm
    rw [hp] at e; cases e
  · rcases List.mem_cons.mp hq with rfl | hq
    · exact ⟨xs, e⟩
    · exact h.al q hq
theorem Lsts.same {H H' : Hp} {l : List Addr} (h : Lsts H l) (s : Same H H') : Lsts H' l := ⟨h.nd, fun p hp => let ⟨xs, e⟩ := h.al p hp; ⟨xs, s _ _ e⟩⟩
theorem Lsts.draw {K : PySem.W.Frag} {H H' : Hp} {d a : Addr} {ns : List Int} {l : List Addr} (h : Lsts H l) (D : DrawAt K H' d a ns) (k : Keep d H H') : Lsts H' l := ⟨h.nd, fun p hp => by
  obtain ⟨xs, e⟩ := h.al p hp
  by_cases c : p = d
  · obtain ⟨z, _, hd⟩ := D.ex
    exact ⟨_, by rw [c]; exact hd⟩
  · exact ⟨xs, k _ _ e c⟩⟩
structure Ads where
  Ltw : Addr
  Lk : Addr
  Ld : Addr
  Lt : Addr
  Lr : Addr
  Lb : Addr
  Lw : Addr
  xs : List Addr
  as : List Addr
  bs : List (Addr × Addr)
  rr : List Addr
structure Dat where
  tw : List Str
  kds : List Str
  ds : List Int
  us : List Tm
  rws : List (List CRow)
def Ads.all (A : Ads) : List Addr := A.Ltw :: A.Lk :: A.Ld :: A.Lt :: A.Lr :: A.Lb :: A.Lw :: (A.bs.map (·.2) ++ A.rr)
structure S22 (K : PySem.W.Frag) (t : Ad) (H : Hp) (d c : Addr) (ns : List Int) (A : Ads) (E : Dat) : Prop where
  D : DrawAt K H d c ns
  ls : Lsts H (d :: A.all)
  hw : H A.Ltw = some (.lst (E.tw.map V.str))
  gw : ∀ x ∈ E.tw, nameOk x = true
  lw : E.tw.length = 3
  hk : H A.Lk = some (.lst (E.kds.map V.str))
  gk : ∀ x ∈ E.kds, nameOk x = true
  lk : E.kds.length = 2
  hd : H A.Ld = some (.lst (E.ds.map V.int))
  gd : ∀ x ∈ E.ds, 0 ≤ x ∧ x ≤ 9999
  ld : E.ds.length = 5
  ht : H A.Lt = some (.lst (A.xs.map V.ref))
  hr : H A.Lr = some (.lst (A.as.map V.ref))
  hb : H A.Lb = some (.lst (A.bs.map fun b => V.ref b.1))
  hl : H A.Lw = some (.lst (A.rr.map V.ref))
  lx : A.xs.length = 2
  la : A.as.length = 2
  lu : E.us.length = 2
  lb : A.bs.length = 2
  lr : A.rr.length = 2
  lq : E.rws.length = 2
  tr : ∀ (i : Nat) (x : Addr) (u : Tm), A.xs[i]? = some x → E.us[i]? = some u → Trm t 5 14 H x u
  tl : ∀ (i : Nat) (x : Addr) (u : Tm), A.as[i]? = some x → E.us[i]? = some u → Told 5 14 H x u
  ca : ∀ (i : Nat) (b : Addr × Addr) (rows : List CRow), A.bs[i]? = some b → E.rws[i]? = some rows → CallsAt t.C_Calls H b.1 b.2 rows
  lo : ∀ (i : Nat) (r : Addr) (rows : List CRow), A.rr[i]? = some r → E.rws[i]? = some rows → LRows H r rows
  gr : ∀ rows ∈ E.rws, rows.length ≤ 20 ∧ ∀ r ∈ rows, GoodRow r
section
variable {K : PySem.W.Frag} {t : Ad} {H H' : Hp} {d c : Addr} {ns : List Int} {A : Ads} {E : Dat}
theorem S22.ne (s : S22 K t H d c ns A E) {p : Addr} (h : p ∈ A.all) : p ≠ d := fun e => (List.nodup_cons.mp s.ls.nd).1 (e ▸ h)
theorem mem_L {b : Addr × Addr} (h : b ∈ A.bs) : b.2 ∈ A.all := by
  unfold Ads.all
  have : b.2 ∈ A.bs.map (·.2) := List.mem_map_of_mem h
  simp only [List.mem_cons, List.mem_append]
  exact .inr (.inr (.inr (.inr (.inr (.inr (.inr (.inl this)))))))
theorem mem_R {r : Addr} (h : r ∈ A.rr) : r ∈ A.all := by
  unfold Ads.all
  simp only [List.mem_cons, List.mem_append]
  exact .inr (.inr (.inr (.inr (.inr (.inr (.inr (.inr h)))))))
theorem S22.draw (s : S22 K t H d c ns A E) (D' : DrawAt K H' d c ns) (k : Keep d H H') : S22 K t H' d c ns A E := by
  obtain ⟨z, _, hz⟩ := s.D.ex
  have st := s.D.stay k
  refine ⟨D', s.ls.draw D' k, k _ _ s.hw (s.ne (by simp [Ads.all])), s.gw, s.lw, k _ _ s.hk (s.ne (by simp [Ads.all])), s.gk, s.lk, k _ _ s.hd (s.ne (by simp [Ads.all])), s.gd, s.ld, k _ _ s.ht (s.ne (by simp [Ads.all])), k _ _ s.hr (s.ne (by simp [Ads.all])), k _ _ s.hb (s.ne (by simp [Ads.all])), k _ _ s.hl (s.ne (by simp [Ads.all])), s.lx, s.la, s.lu, s.lb, s.lr, s.lq, fun i x u hx hu => (s.tr i x u hx hu).mono st, fun i x u hx hu => (s.tl i x u hx hu).mono st.tups, fun i b rows hb hr => (s.ca i b rows hb hr).keep k hz (s.ne (mem_L (List.mem_of_getElem? hb))), fun i r rows hr hw => (s.lo i r rows hr hw).keep k hz (s.ne (mem_R (List.mem_of_getElem? hr))), s.gr⟩
theorem S22.same (s : S22 K t H d c ns A E) (k : Same H H') : S22 K t H' d c ns A E := s.draw (s.D.same k) (.of k)
end
theorem alt_of {T : TE} {σ : St} {H : Hp} {Q : VK} {n : V} (alts : ∀ Q : VK, (∀ H', Same H H' → Q n H') → T σ H Q) (rest : ∀ H', Same H H' → Q n H') : T σ H Q := alts Q rest
section
variable {P : Program} {w : World} {K : PySem.W.Frag} {mg : Str → Option Value} {base : Heap} {t : Ad}
def spAsk (K : PySem.W.Frag) (t : Ad) : Sp := fun vs H Q _ => ∃ (d c : Addr) (ns : List Int) (A : Ads) (E : Dat), vs = [.ref d, .ref A.Ltw, .ref A.Lk, .ref A.Ld, .ref A.Lt, .ref A.Lr, .ref A.Lb, .ref A.Lw] ∧ S22 K t H d c ns A E ∧ ∀ H', S22 K t H' d c ns A E → Keep d H H' → Q (.bl true) H'
theorem ok_asked (T : Env K mg t) : FnOk P w K mg base CX0 12 t.a_l_asked t.fd_l_asked ["_law_draw", "_law_towns", "_law_kinds", "_law_days", "_law_terms", "_law_rules", "_law_books", "_law_rows"] (spAsk K t) := by
  have G_l_next : FnOk P w K mg base CX0 2 t.a_l_next t.fd_l_next ["_law_draw", "_law_size"] (spNext K) := ok_next T
  have G_l_beside : FnOk P w K mg base CX0 3 t.a_l_beside t.fd_l_beside ["_law_draw", "_law_day_here"] (spBeside K) := ok_beside T
  have G_l_worth : FnOk P w K mg base CX0 7 t.a_l_worth t.fd_l_worth ["_law_told_here", "_law_rows", "_law_kind", "_law_case"] (spLW 5) := ok_lwrec T 5
  have G_l_alike : FnOk P w K mg base CX0 2 t.a_l_alike t.fd_l_alike ["_law_found", "_law_due"] (spAlk 0) := ok_alkrec T 0
  have G_Level_worth : FnOk P w K mg base CX0 1 t.a_Level_worth t.fd_Level_worth ["self", "calls", "kind", "case"] (spWor t 5 isLev) := ok_wlev T 5
  have G_Called_worth : FnOk P w K mg base CX0 6 t.a_Called_worth t.fd_Called_worth ["self", "calls", "kind", "case"] (spWor t 5 isCal) := ok_wcal T 5
  have G_Least_worth : FnOk P w K mg base CX0 11 t.a_Least_worth t.fd_Least_worth ["self", "calls", "kind", "case"] (spWor t 5 isLow) := (ok_wrec T 5).1
  have G_Greatest_worth : FnOk P w K mg base CX0 11 t.a_Greatest_worth t.fd_Greatest_worth ["self", "calls", "kind", "case"] (spWor t 5 isTop) := (ok_wrec T 5).2
  refine T.f_l_asked.okQ sc_l_asked (fun vs H Q E h => ?_) (fun cdv A outer s H vs Q E hr h => ?_)
  · obtain ⟨d, c, ns, A, E, rfl, _⟩ := h
    rfl
  · obtain ⟨d, c, ns, A', E', rfl, S, q⟩ := h
    have hr_l_next : Room 2 _ := hr.mono (by decide)
    have hr_l_beside : Room 3 _ := hr.mono (by decide)
    have hr_l_worth : Room 7 _ := hr.mono (by decide)
    have hr_l_alike : Room 2 _ := hr.mono (by decide)
    have hr_Level_worth : Room 1 _ := hr.mono (by decide)
    have hr_Called_worth : Room 6 _ := hr.mono (by decide)
    have hr_Least_worth := hr
    have hr_Greatest_worth := hr
    refine ⟨_, (q_pss_cons (q_ps_for PassesOwn.never rfl (q_pi_range1 (by rfl) T.z_range (q_pa_cons q_pe_int q_pa_nil star_Constant)) (q_pg_name (i := 8) sc_l_asked.nd rfl (by first | exact Or.inl rfl | exact Or.inr (Or.inl rfl) | exact Or.inr rfl))
      (q_pss_one (q_ps_for PassesOwn.never rfl (q_pi_range1 (by rfl) T.z_range (q_pa_cons q_pe_int q_pa_nil star_Constant)) (q_pg_name (i := 9) sc_l_asked.nd rfl (by first | exact Or.inl rfl | exact Or.inr (Or.inl rfl) | exact Or.inr rfl))
      (q_pss_cons (q_ps_set (i := 10) sc_l_asked.nd rfl (by first | exact Or.inl rfl | exact Or.inr (Or.inl rfl) | exact Or.inr rfl) (q_pe_ix ix_list (q_pv 2) (q_pe_call G_l_next hr_l_next (by rfl) T.mg_l_next T.kp_l_next T.b_l_next .nil pass0 (q_pa_cons (q_pv 0) (q_pa_cons q_pe_int q_pa_nil star_Constant) star_Name)) (fun _ _ => rfl)))
      (q_pss_cons (q_ps_set (i := 11) sc_l_asked.nd rfl (by first | exact Or.inl rfl | exact Or.inr (Or.inl rfl) | exact Or.inr rfl) (q_pe_call G_l_beside hr_l_beside (by rfl) T.mg_l_beside T.kp_l_beside T.b_l_beside .nil pass0 (q_pa_cons (q_pv 0) (q_pa_cons (q_pe_ix ix_list (q_pv 3) (q_pe_call G_l_next hr_l_next (by rfl) T.mg_l_next T.kp_l_next T.b_l_next .nil pass0 (q_pa_cons (q_pv 0) (q_pa_cons (q_pe_callB call_len_seq (by rfl) T.z_len PySem.boot_len (q_pa_cons (q_pv 3) q_pa_nil star_Name)) q_pa_nil star_Call) star_Name)) (fun _ _ => rfl)) q_pa_nil star_Subscript) star_Name)))
      (q_pss_cons (q_ps_set (i := 12) sc_l_asked.nd rfl (by first | exact Or.inl rfl | exact Or.inr (Or.inl rfl) | exact Or.inr rfl) (q_pe_call G_l_beside hr_l_beside (by rfl) T.mg_l_beside T.kp_l_beside T.b_l_beside .nil pass0 (q_pa_cons (q_pv 0) (q_pa_cons (q_pe_ix ix_list (q_pv 3) (q_pe_call G_l_next hr_l_next (by rfl) T.mg_l_next T.kp_l_next T.b_l_next .nil pass0 (q_pa_cons (q_pv 0) (q_pa_cons (q_pe_callB call_len_seq (by rfl) T.z_len PySem.boot_len (q_pa_cons (q_pv 3) q_pa_nil star_Name)) q_pa_nil star_Call) star_Name)) (fun _ _ => rfl)) q_pa_nil star_Subscript) star_Name)))
      (q_pss_cons (q_ps_set (i := 13) sc_l_asked.nd rfl (by first | exact Or.inl rfl | exact Or.inr (Or.inl rfl) | exact Or.inr rfl) (q_pe_tup (q_pa_cons (q_pe_ix ix_list (q_pv 1) (q_pe_call G_l_next hr_l_next (by rfl) T.mg_l_next T.kp_l_next T.b_l_next .nil pass0 (q_pa_cons (q_pv 0) (q_pa_cons (q_pe_callB call_len_seq (by rfl) T.z_len PySem.boot_len (q_pa_cons (q_pv 1) q_pa_nil star_Name)) q_pa_nil star_Call) star_Name)) (fun _ _ => rfl)) (q_pa_cons (q_pv 11) (q_pa_cons (q_pv 12) q_pa_nil star_Name) star_Name) star_Subscript)))
      (q_pss_cons (q_ps_set (i := 14) sc_l_asked.nd rfl (by first | exact Or.inl rfl | exact Or.inr (Or.inl rfl) | exact Or.inr rfl) (q_pe_alt (q_pe_meth (q_pe_ix ix_list (q_pv 4) (q_pv 8) (fun _ _ => rfl)) T.cl_Level T.m_Level_worth G_Level_worth hr_Level_worth T.b_Level_worth .nil pass0 (q_pa_cons (q_pe_ix ix_list (q_pv 6) (q_pv 9) (fun _ _ => rfl)) (q_pa_cons (q_pv 10) (q_pa_cons (q_pv 13) q_pa_nil star_Name) star_Name) star_Subscript)) (q_pe_alt (q_pe_meth (q_pe_ix ix_list (q_pv 4) (q_pv 8) (fun _ _ => rfl)) T.cl_Called T.m_Called_worth G_Called_worth hr_Called_worth T.b_Called_worth .nil pass0 (q_pa_cons (q_pe_ix ix_list (q_pv 6) (q_pv 9) (fun _ _ => rfl)) (q_pa_cons (q_pv 10) (q_pa_cons (q_pv 13) q_pa_nil star_Name) star_Name) star_Subscript)) (q_pe_alt (q_pe_meth (q_pe_ix ix_list (q_pv 4) (q_pv 8) (fun _ _ => rfl)) T.cl_Least T.m_Least_worth G_Least_worth hr_Least_worth T.b_Least_worth .nil pass0 (q_pa_cons (q_pe_ix ix_list (q_pv 6) (q_pv 9) (fun _ _ => rfl)) (q_pa_cons (q_pv 10) (q_pa_cons (q_pv 13) q_pa_nil star_Name) star_Name) star_Subscript)) (q_pe_meth (q_pe_ix ix_list (q_pv 4) (q_pv 8) (fun _ _ => rfl)) T.cl_Greatest T.m_Greatest_worth G_Greatest_worth hr_Greatest_worth T.b_Greatest_worth .nil pass0 (q_pa_cons (q_pe_ix ix_list (q_pv 6) (q_pv 9) (fun _ _ => rfl)) (q_pa_cons (q_pv 10) (q_pa_cons (q_pv 13) q_pa_nil star_Name) star_Name) star_Subscript))))))
      (q_pss_one (q_ps_if (q_pt_not (q_pt_val (q_pe_call G_l_alike hr_l_alike (by rfl) T.mg_l_alike T.kp_l_alike T.b_l_alike .nil pass0 (q_pa_cons (q_pv 14) (q_pa_cons (q_pe_call G_l_worth hr_l_worth (by rfl) T.mg_l_worth T.kp_l_worth T.b_l_worth .nil pass0 (q_pa_cons (q_pe_ix ix_list (q_pv 5) (q_pv 8) (fun _ _ => rfl)) (q_pa_cons (q_pe_ix ix_list (q_pv 7) (q_pv 9) (fun _ _ => rfl)) (q_pa_cons (q_pv 10) (q_pa_cons (q_pv 13) q_pa_nil star_Name) star_Name) star_Subscript) star_Subscript)) q_pa_nil star_Call) star_Name)))) (q_pss_one (q_ps_ret q_pe_bl)) q_pss_nil))))))))))
      (q_pss_one (q_ps_ret q_pe_bl))), ?_⟩
    refine ⟨2, rfl, by decide, by decide, ?_⟩
    refine for_range (lo := 0) (fun i σ H' => ∃ (o8 o9 o10 o11 o12 o13 o14 : Option V), σ = [some (.ref d), some (.ref A'.Ltw), some (.ref A'.Lk), some (.ref A'.Ld), some (.ref A'.Lt), some (.ref A'.Lr), some (.ref A'.Lb), some (.ref A'.Lw), o8, o9, o10, o11, o12, o13, o14] ∧ S22 K t H' d c ns A' E' ∧ Keep d H H') ?_ ?_ ?_
    · exact ⟨_, _, _, _, _, _, _, rfl, S, .refl _ _⟩
    · rintro i σ H1 hi ⟨o8, o9, o10, o11, o12, o13, o14, rfl, S1, k1⟩
      have hi : i < 2 := hi
      refine ⟨2, rfl, by decide, by decide, ?_⟩
      refine for_range (lo := 0) (fun j σ H' => ∃ (o9 o10 o11 o12 o13 o14 : Option V), σ = [some (.ref d), some (.ref A'.Ltw), some (.ref A'.Lk), some (.ref A'.Ld), some (.ref A'.Lt), some (.ref A'.Lr), some (.ref A'.Lb), some (.ref A'.Lw), some (.int (0 + (i : Int))), o9, o10, o11, o12, o13, o14] ∧ S22 K t H' d c ns A' E' ∧ Keep d H H') ?_ ?_ ?_
      · exact ⟨_, _, _, _, _, _, rfl, S1, k1⟩
      · rintro j σ H2 hj ⟨o9, o10, o11, o12, o13, o14, rfl, S2, k2⟩
        have hj : j < 2 := hj
        clear S1 k1
        refine ⟨_, rfl, _, rfl, d, c, ns, _, rfl, S2.D, by decide, fun r H3 r0 r1 D3 k3 => ?_⟩
        have S3 := S2.draw D3 k3
        obtain ⟨kd, hkd⟩ : ∃ kd, E'.kds[r.toNat]? = some kd := ⟨_, List.getElem?_eq_getElem (by rw [S3.lk]; omega)⟩
        have ngk := S3.gk kd (List.mem_of_getElem? hkd)
        refine ⟨A'.Lk, _, r, _, rfl, rfl, SqL.of S3.hk, at_of (j := r.toNat) (by omega) (by rw [List.getElem?_map, hkd]; rfl), ?_⟩
        have ldv : (((E'.ds.map V.int).length : Nat) : Int) = 5 := by rw [List.length_map, S3.ld]; rfl
        refine ⟨_, rfl, _, rfl, _, rfl, _, rfl, A'.Ld, _, rfl, .inl (SqL.of S3.hd), d, c, ns, _, rfl, D3, by rw [ldv]; decide, fun r4 H4 r40 r41 D4 k4 => ?_⟩
        have S4 := S3.draw D4 k4
        rw [ldv] at r41
        obtain ⟨dy, hdy⟩ : ∃ dy, E'.ds[r4.toNat]? = some dy := ⟨_, List.getElem?_eq_getElem (by rw [S4.ld]; omega)⟩
        refine ⟨A'.Ld, _, r4, _, rfl, rfl, SqL.of S4.hd, at_of (j := r4.toNat) (by omega) (by rw [List.getElem?_map, hdy]; rfl), ?_⟩
        refine ⟨d, c, ns, dy, rfl, D4, fun m H5 m0 m1 D5 k5 => ?_⟩
        have S5 := S4.draw D5 k5
        refine ⟨_, rfl, _, rfl, _, rfl, _, rfl, A'.Ld, _, rfl, .inl (SqL.of S5.hd), d, c, ns, _, rfl, D5, by rw [ldv]; decide, fun r6 H6 r60 r61 D6 k6 => ?_⟩
        have S6 := S5.draw D6 k6
        rw [ldv] at r61
        obtain ⟨dy2, hdy2⟩ : ∃ dy, E'.ds[r6.toNat]? = some dy := ⟨_, List.getElem?_eq_getElem (by rw [S6.ld]; omega)⟩
        refine ⟨A'.Ld, _, r6, _, rfl, rfl, SqL.of S6.hd, at_of (j := r6.toNat) (by omega) (by rw [List.getElem?_map, hdy2]; rfl), ?_⟩
        refine ⟨d, c, ns, dy2, rfl, D6, fun p H7 p0 p1 D7 k7 => ?_⟩
        have S7 := S6.draw D7 k7
        have lwv : (((E'.tw.map V.str).length : Nat) : Int) = 3 := by rw [List.length_map, S7.lw]; rfl
        refine ⟨_, rfl, _, rfl, _, rfl, A'.Ltw, _, rfl, .inl (SqL.of S7.hw), d, c, ns, _, rfl, D7, by rw [lwv]; decide, fun r8 H8 r80 r81 D8 k8 => ?_⟩
        have S8 := S7.draw D8 k8
        rw [lwv] at r81
        obtain ⟨tw, htw⟩ : ∃ tw, E'.tw[r8.toNat]? = some tw := ⟨_, List.getElem?_eq_getElem (by rw [S8.lw]; omega)⟩
        have ngw := S8.gw tw (List.mem_of_getElem? htw)
        refine ⟨A'.Ltw, _, r8, _, rfl, rfl, SqL.of S8.hw, at_of (j := r8.toNat) (by omega) (by rw [List.getElem?_map, htw]; rfl), _, rfl, _, rfl, (by show 3 ≤ sizeLine; decide), fun cc hcc => ?_⟩
        have s9 := same_new (o := .tup [V.str tw, V.int m, V.int p]) hcc
        have f9 := new_at (o := .tup [V.str tw, V.int m, V.int p]) hcc
        have S9 := S8.same s9
        have k9 := (((((k2.trans k3).trans k4).trans k5).trans k6).trans k7).trans (k8.trans (.of s9))
        clear S2 S3 S4 S5 S6 S7 S8 D3 D4 D5 D6 D7 D8 k3 k4 k5 k6 k7 k8 s9
        generalize upd H8 cc (.tup [V.str tw, V.int m, V.int p]) = H9 at *
        obtain ⟨x, hx⟩ : ∃ x, A'.xs[i]? = some x := ⟨_, List.getElem?_eq_getElem (by rw [S9.lx]; omega)⟩
        obtain ⟨u, hu⟩ : ∃ u, E'.us[i]? = some u := ⟨_, List.getElem?_eq_getElem (by rw [S9.lu]; omega)⟩
        obtain ⟨a, ha⟩ : ∃ a, A'.as[i]? = some a := ⟨_, List.getElem?_eq_getElem (by rw [S9.la]; omega)⟩
        obtain ⟨b, hb⟩ : ∃ b, A'.bs[j]? = some b := ⟨_, List.getElem?_eq_getElem (by rw [S9.lb]; omega)⟩
        obtain ⟨rw', hrw⟩ : ∃ r, A'.rr[j]? = some r := ⟨_, List.getElem?_eq_getElem (by rw [S9.lr]; omega)⟩
        obtain ⟨rows, hrows⟩ : ∃ r, E'.rws[j]? = some r := ⟨_, List.getElem?_eq_getElem (by rw [S9.lq]; omega)⟩
        have tu := S9.tr i x u hx hu
        have ca := S9.ca j b rows hb hrows
        obtain ⟨rl, gr⟩ := S9.gr rows (List.mem_of_getElem? hrows)
        have ok : CsOk ⟨rows, kd, tw, m, p⟩ := ⟨ngk, ngw, m0, m1, p0, p1, by show rows.length ≤ 300; omega⟩
        have ati : ∀ {l : List Addr} {y : Addr} {n : Nat}, l[n]? = some y → atI (l.map V.ref) (0 + (n : Int)) = some (.ref y) := fun {l y n} h => at_of (j := n) (by omega) (by rw [List.getElem?_map, h]; rfl)
        have atb : atI (A'.bs.map fun b => V.ref b.1) (0 + (j : Int)) = some (.ref b.1) := at_of (j := j) (by omega) (by rw [List.getElem?_map, hb]; rfl)
        refine alt_of (T := tAlt _ _) (n := V.int (worF ⟨rows, kd, tw, m, p⟩ 5 u)) (fun Q' kQ => ?_) (fun H10 s10 => ?_)
        · rcases tu.cases with ⟨sh, dy, fs, ey, lk, _⟩ | ⟨sh, dy, fs, ey, lk, _⟩ | ⟨sh, dy, fs, ey, lk, _⟩ | ⟨sh, dy, fs, ey, lk, _⟩
          · exact .inl ⟨_, rfl, _, rfl, A'.Lt, _, _, _, rfl, rfl, SqL.of S9.ht, ati hx, x, dy, fs, rfl, ey, lk, _, rfl, _, rfl, A'.Lb, _, _, _, rfl, rfl, SqL.of S9.hb, atb, _, rfl, _, rfl, x, b.1, b.2, cc, ⟨rows, kd, tw, m, p⟩, 14, u, rfl, tu, sh, ca, f9, ok, kQ⟩
          · exact .inr (.inl ⟨_, rfl, _, rfl, A'.Lt, _, _, _, rfl, rfl, SqL.of S9.ht, ati hx, x, dy, fs, rfl, ey, lk, _, rfl, _, rfl, A'.Lb, _, _, _, rfl, rfl, SqL.of S9.hb, atb, _, rfl, _, rfl, x, b.1, b.2, cc, ⟨rows, kd, tw, m, p⟩, 14, u, rfl, tu, sh, ca, f9, ok, kQ⟩)
          · exact .inr (.inr (.inl ⟨_, rfl, _, rfl, A'.Lt, _, _, _, rfl, rfl, SqL.of S9.ht, ati hx, x, dy, fs, rfl, ey, lk, _, rfl, _, rfl, A'.Lb, _, _, _, rfl, rfl, SqL.of S9.hb, atb, _, rfl, _, rfl, x, b.1, b.2, cc, ⟨rows, kd, tw, m, p⟩, 14, u, rfl, tu, sh, ca, f9, ok, kQ⟩))
          · exact .inr (.inr (.inr ⟨_, rfl, _, rfl, A'.Lt, _, _, _, rfl, rfl, SqL.of S9.ht, ati hx, x, dy, fs, rfl, ey, lk, _, rfl, _, rfl, A'.Lb, _, _, _, rfl, rfl, SqL.of S9.hb, atb, _, rfl, _, rfl, x, b.1, b.2, cc, ⟨rows, kd, tw, m, p⟩, 14, u, rfl, tu, sh, ca, f9, ok, kQ⟩))
        · have S10 := S9.same s10
          refine ⟨_, rfl, _, rfl, _, rfl, A'.Lr, _, _, _, rfl, rfl, SqL.of S10.hr, ati ha, _, rfl, _, rfl, A'.Lw, _, _, _, rfl, rfl, SqL.of S10.hl, ati hrw, _, rfl, _, rfl, ?_⟩
          refine ⟨a, rw', cc, ⟨rows, kd, tw, m, p⟩, 14, u, rfl, S10.tl i a u ha hu, S10.lo j rw' rows hrw hrows, gr, s10 _ _ f9, fun H11 s11 => ?_⟩
          refine ⟨_, _, rfl, Alk.int _ 0, fun H12 s12 => ⟨_, rfl, iteF ?_⟩⟩
          exact ⟨_, _, _, _, _, _, rfl, (S10.same s11).same s12, k9.trans (.of ((s10.trans s11).trans s12))⟩
      · rintro σ H2 ⟨o9, o10, o11, o12, o13, o14, rfl, S2, k2⟩
        exact ⟨_, _, _, _, _, _, _, rfl, S2, k2⟩
    · rintro σ H1 ⟨o8, o9, o10, o11, o12, o13, o14, rfl, S1, k1⟩
      exact q _ S1 k1
end
end Ck
set_option Elab.async false
set_option linter.all false
set_option pp.maxSteps 120
set_option maxRecDepth 100000
set_option maxHeartbeats 4000000
namespace Ck
open PySem L2
section
variable {K : PySem.W.Frag} {t : Ad} {H H' : Hp} {d c : Addr} {ns : List Int} {A : Ads} {E : Dat}
theorem nd_at {α : Type} {l : List α} (nd : l.Nodup) {i j : Nat} {x : α} (hi : l[i]? = some x) (hj : l[j]? = some x) : i = j :=
  (List.getElem?_inj (List.getElem?_eq_some_iff.mp hi).1 nd).mp (hi.trans hj.symm)
theorem S22.step (s : S22 K t H d c ns A E) {j : Nat} {b : Addr × Addr} {r : Addr} {rows : List CRow} {row : CRow} (hb : A.bs[j]? = some b) (hr : A.rr[j]? = some r) (hw : E.rws[j]? = some rows)
    (kp : ∀ p o, H p = some o → p ≠ r → p ≠ b.2 → H' p = some o) (D' : DrawAt K H' d c ns) (lo : LRows H' r (rows ++ [row])) (ca : CallsAt t.C_Calls H' b.1 b.2 (rows ++ [row])) (g : GoodRow row) (l20 : rows.length < 20) :
    S22 K t H' d c ns A { E with rws := E.rws.set j (rows ++ [row]) } := by
  have nd : (([d, A.Ltw, A.Lk, A.Ld, A.Lt, A.Lr, A.Lb, A.Lw] : List Addr) ++ (A.bs.map (·.2) ++ A.rr)).Nodup := s.ls.nd
  rw [List.nodup_append] at nd
  obtain ⟨_, ndM, dis⟩ := nd
  rw [List.nodup_append] at ndM
  obtain ⟨ndb, ndr, dis2⟩ := ndM
  have mb : b.2 ∈ A.bs.map (·.2) := List.mem_map_of_mem (List.mem_of_getElem? hb)
  have mr : r ∈ A.rr := List.mem_of_getElem? hr
  have n1 : ∀ p ∈ ([d, A.Ltw, A.Lk, A.Ld, A.Lt, A.Lr, A.Lb, A.Lw] : List Addr), p ≠ r ∧ p ≠ b.2 := fun p hp => ⟨dis p hp r (List.mem_append_right _ mr), dis p hp b.2 (List.mem_append_left _ mb)⟩
  obtain ⟨rs0, hr0, _⟩ := s.lo j r rows hr hw
  obtain ⟨dx0, rs1, _, hL0, _⟩ := s.ca j b rows hb hw
  have st : Stay H H' := fun p o e n => kp p o e (fun z => by rw [z, hr0] at e; cases e; exact n _ rfl) (fun z => by rw [z, hL0] at e; cases e; exact n _ rfl)
  obtain ⟨rs2, hr2, _⟩ := id lo
  obtain ⟨dx2, rs3, _, hL2, _⟩ := id ca
  have jl : j < E.rws.length := (List.getElem?_eq_some_iff.mp hw).1
  have setn : ∀ i rows', (E.rws.set j (rows ++ [row]))[i]? = some rows' → (i = j ∧ rows' = rows ++ [row]) ∨ (i ≠ j ∧ E.rws[i]? = some rows') := fun i rows' h => by
    by_cases e : i = j
    · subst e
      rw [List.getElem?_set_self jl] at h
      exact .inl ⟨rfl, (Option.some.inj h).symm⟩
    · rw [List.getElem?_set_ne (fun z => e z.symm)] at h
      exact .inr ⟨e, h⟩
  refine ⟨D', ⟨s.ls.nd, fun p hp => ?_⟩, kp _ _ s.hw (n1 _ (by simp)).1 (n1 _ (by simp)).2, s.gw, s.lw, kp _ _ s.hk (n1 _ (by simp)).1 (n1 _ (by simp)).2, s.gk, s.lk, kp _ _ s.hd (n1 _ (by simp)).1 (n1 _ (by simp)).2, s.gd, s.ld, kp _ _ s.ht (n1 _ (by simp)).1 (n1 _ (by simp)).2, kp _ _ s.hr (n1 _ (by simp)).1 (n1 _ (by simp)).2, kp _ _ s.hb (n1 _ (by simp)).1 (n1 _ (by simp)).2, kp _ _ s.hl (n1 _ (by simp)).1 (n1 _ (by simp)).2, s.lx, s.la, s.lu, s.lb, s.lr, (by show (E.rws.set j _).length = 2; rw [List.length_set]; exact s.lq), fun i x u hx hu => (s.tr i x u hx hu).mono st, fun i x u hx hu => (s.tl i x u hx hu).mono st.tups, fun i b' rows' hb' hw' => ?_, fun i r' rows' hr' hw' => ?_, fun rows' hm => ?_⟩
  · by_cases e1 : p = r
    · exact ⟨_, by rw [e1]; exact hr2⟩
    · by_cases e2 : p = b.2
      · exact ⟨_, by rw [e2]; exact hL2⟩
      · obtain ⟨xs, e⟩ := s.ls.al p hp
        exact ⟨xs, kp _ _ e e1 e2⟩
  · rcases setn i rows' hw' with ⟨rfl, rfl⟩ | ⟨ne, hw'⟩
    · rw [hb] at hb'; cases hb'; exact ca
    · obtain ⟨dx, rs, h1, h2, h3⟩ := s.ca i b' rows' hb' hw'
      have m' : (A.bs.map (·.2))[i]? = some b'.2 := by rw [List.getElem?_map, hb']; rfl
      have mj : (A.bs.map (·.2))[j]? = some b.2 := by rw [List.getElem?_map, hb]; rfl
      refine ⟨dx, rs, st _ _ h1 (fun _ z => nomatch z), kp _ _ h2 (fun e => dis2 b'.2 (List.mem_of_getElem? m') r mr e) (fun e => ne ?_), h3.mono st.tups⟩
      rw [e] at m'
      exact nd_at ndb m' mj
  · rcases setn i rows' hw' with ⟨rfl, rfl⟩ | ⟨ne, hw'⟩
    · rw [hr] at hr'; cases hr'; exact lo
    · obtain ⟨rs, h2, h3⟩ := s.lo i r' rows' hr' hw'
      refine ⟨rs, kp _ _ h2 (fun e => ne ?_) (fun e => dis2 b.2 mb r' (List.mem_of_getElem? hr') e.symm), h3.mono st.tups⟩
      rw [e] at hr'
      exact nd_at ndr hr' hr
  · rcases List.mem_or_eq_of_mem_set hm with z | z
    · exact s.gr rows' z
    · rw [z]
      obtain ⟨a, b⟩ := s.gr rows (List.mem_of_getElem? hw)
      refine ⟨by rw [List.length_append]; show _ + 1 ≤ 20; omega, fun q hq => ?_⟩
      rcases List.mem_append.mp hq with y | y
      · exact b q y
      · rw [List.mem_singleton.mp y]; exact g
end
theorem alt_of2 {T : TE} {σ : St} {H : Hp} {Q : VK} {R : V → Hp → Prop} (alts : ∀ Q : VK, (∀ v H', R v H' → Same H H' → Q v H') → T σ H Q) (rest : ∀ v H', R v H' → Same H H' → Q v H') : T σ H Q := alts Q rest
theorem tn_map (ws : List Str) : ((none :: ws.map some : List (Option Str)).map tnV) = [V.non] ++ ws.map V.str := by
  show V.non :: (ws.map some).map tnV = V.non :: ws.map V.str
  rw [List.map_map]; rfl
theorem nd12 {Lw r1 r0 Lb L1 L0 Lt Lr Ld Lk Ltw d : Addr} (h : [Lw, r1, r0, Lb, L1, L0, Lt, Lr, Ld, Lk, Ltw, d].Nodup) : [d, Ltw, Lk, Ld, Lt, Lr, Lb, Lw, L0, L1, r0, r1].Nodup := by
  simp only [List.nodup_cons, List.mem_cons, List.not_mem_nil, or_false, not_or, List.nodup_nil, not_false_eq_true, and_true] at h ⊢
  obtain ⟨⟨_, _, _, _, _, _, _, _, _, _, _⟩, ⟨_, _, _, _, _, _, _, _, _, _⟩, ⟨_, _, _, _, _, _, _, _, _⟩, ⟨_, _, _, _, _, _, _, _⟩, ⟨_, _, _, _, _, _, _⟩, ⟨_, _, _, _, _, _⟩, ⟨_, _, _, _, _⟩, ⟨_, _, _, _⟩, ⟨_, _, _⟩, ⟨_, _⟩, _⟩ := h
  refine ⟨⟨?_, ?_, ?_, ?_, ?_, ?_, ?_, ?_, ?_, ?_, ?_⟩, ⟨?_, ?_, ?_, ?_, ?_, ?_, ?_, ?_, ?_, ?_⟩, ⟨?_, ?_, ?_, ?_, ?_, ?_, ?_, ?_, ?_⟩, ⟨?_, ?_, ?_, ?_, ?_, ?_, ?_, ?_⟩, ⟨?_, ?_, ?_, ?_, ?_, ?_, ?_⟩, ⟨?_, ?_, ?_, ?_, ?_, ?_⟩, ⟨?_, ?_, ?_, ?_, ?_⟩, ⟨?_, ?_, ?_, ?_⟩, ⟨?_, ?_, ?_⟩, ⟨?_, ?_⟩, ?_⟩ <;> first | assumption | (intro e; exact absurd e.symm (by assumption))
theorem mem12 {Lw r1 r0 Lb L1 L0 Lt Lr Ld Lk Ltw d p : Addr} (h : p ∈ [d, Ltw, Lk, Ld, Lt, Lr, Lb, Lw, L0, L1, r0, r1]) : p ∈ [Lw, r1, r0, Lb, L1, L0, Lt, Lr, Ld, Lk, Ltw, d] := by
  simp only [List.mem_cons, List.not_mem_nil, or_false] at h ⊢
  rcases h with rfl | rfl | rfl | rfl | rfl | rfl | rfl | rfl | rfl | rfl | rfl | rfl <;> simp
end Ck
set_option Elab.async false
set_option linter.all false
set_option pp.maxSteps 120
set_option maxRecDepth 100000
set_option maxHeartbeats 4000000
namespace Ck
open PySem L2
section
variable {P : Program} {w : World} {K : PySem.W.Frag} {mg : Str → Option Value} {base : Heap} {t : Ad}
def spLaw (K : PySem.W.Frag) : Sp := fun vs H Q _ => ∃ (a : Addr) (ns : List Int), vs = [.ref a] ∧ Scr K H a ns ∧ ns.length ≤ 63 ∧ ∀ H', Q (.bl true) H'
theorem ok_law (T : Env K mg t) : FnOk P w K mg base CX0 13 t.a_law t.fd_law ["_law_script"] (spLaw K) := by
  have G_l_next : FnOk P w K mg base CX0 2 t.a_l_next t.fd_l_next ["_law_draw", "_law_size"] (spNext K) := ok_next T
  have G_l_words : FnOk P w K mg base CX0 4 t.a_l_words t.fd_l_words ["_law_draw", "_law_many"] (spWords K) := ok_words T
  have G_l_day : FnOk P w K mg base CX0 3 t.a_l_day t.fd_l_day ["_law_draw"] (spNum0 K 9999) := ok_lday T
  have G_l_level : FnOk P w K mg base CX0 3 t.a_l_level t.fd_l_level ["_law_draw"] (spNum0 K 1000000) := ok_llevel T
  have G_l_calls : FnOk P w K mg base CX0 3 t.a_l_calls t.fd_l_calls ["_law_draw", "_law_towns", "_law_days", "_law_many"] (spCls K) := ok_lcalls T
  have G_l_told : FnOk P w K mg base CX0 9 t.a_l_told t.fd_l_told ["_law_draw", "_law_calls_here", "_law_deep", "_law_room"] (spLT K 5) := ok_ltrec T 5
  have G_l_build : FnOk P w K mg base CX0 12 t.a_l_build t.fd_l_build ["_law_told_here"] (spLB t 5) := ok_lbrec T 5
  have G_l_asked : FnOk P w K mg base CX0 12 t.a_l_asked t.fd_l_asked ["_law_draw", "_law_towns", "_law_kinds", "_law_days", "_law_terms", "_law_rules", "_law_books", "_law_rows"] (spAsk K t) := ok_asked T
  have G_l_alike : FnOk P w K mg base CX0 7 t.a_l_alike t.fd_l_alike ["_law_found", "_law_due"] (spAlk 5) := ok_alkrec T 5
  have G_Calls_init : FnOk P w K mg base CX0 1 t.a_Calls_init t.fd_Calls_init ["self"] (spCInit t.C_Calls) := ok_cinit T
  have G_Calls_tell : FnOk P w K mg base CX0 5 t.a_Calls_tell t.fd_Calls_tell ["self", "town", "kind", "day", "worth"] (spTell t.C_Calls) := ok_tell T
  have G_Level_told : FnOk P w K mg base CX0 1 t.a_Level_told t.fd_Level_told ["self"] (spTold t 5 isLev) := ok_tlev T 5
  have G_Called_told : FnOk P w K mg base CX0 1 t.a_Called_told t.fd_Called_told ["self"] (spTold t 5 isCal) := ok_tcal T 5
  have G_Least_told : FnOk P w K mg base CX0 11 t.a_Least_told t.fd_Least_told ["self"] (spTold t 5 isLow) := (ok_trec T 5).1
  have G_Greatest_told : FnOk P w K mg base CX0 11 t.a_Greatest_told t.fd_Greatest_told ["self"] (spTold t 5 isTop) := (ok_trec T 5).2
  refine T.f_law.okQ sc_law (fun vs H Q E h => ?_) (fun cdv A outer s H vs Q E hr h => ?_)
  · obtain ⟨a, ns, rfl, _⟩ := h
    rfl
  · obtain ⟨a, ns, rfl, hS, hlen, k⟩ := h
    have hr_l_next : Room 2 _ := hr.mono (by decide)
    have hr_l_words : Room 4 _ := hr.mono (by decide)
    have hr_l_day : Room 3 _ := hr.mono (by decide)
    have hr_l_level : Room 3 _ := hr.mono (by decide)
    have hr_l_calls : Room 3 _ := hr.mono (by decide)
    have hr_l_told : Room 9 _ := hr.mono (by decide)
    have hr_l_build := hr
    have hr_l_asked := hr
    have hr_l_alike : Room 7 _ := hr.mono (by decide)
    have hr_Calls_init : Room 2 _ := hr.mono (by decide)
    have hr_Calls_tell : Room 5 _ := hr.mono (by decide)
    have hr_Level_told : Room 1 _ := hr.mono (by decide)
    have hr_Called_told : Room 1 _ := hr.mono (by decide)
    have hr_Least_told : Room 11 _ := hr.mono (by decide)
    have hr_Greatest_told : Room 11 _ := hr.mono (by decide)
    refine ⟨_, (q_pss_cons (q_ps_set (i := 1) sc_law.nd rfl (by first | exact Or.inl rfl | exact Or.inr (Or.inl rfl) | exact Or.inr rfl) (q_pe_lst (q_pa_cons (q_pv 0) (q_pa_cons q_pe_int q_pa_nil star_Constant) star_Name)))
      (q_pss_cons (q_ps_set (i := 2) sc_law.nd rfl (by first | exact Or.inl rfl | exact Or.inr (Or.inl rfl) | exact Or.inr rfl) (q_pe_op op_add q_pe_int (q_pe_call G_l_next hr_l_next (by rfl) T.mg_l_next T.kp_l_next T.b_l_next .nil pass0 (q_pa_cons (q_pv 1) (q_pa_cons q_pe_int q_pa_nil star_Constant) star_Name))))
      (q_pss_cons (q_ps_set (i := 3) sc_law.nd rfl (by first | exact Or.inl rfl | exact Or.inr (Or.inl rfl) | exact Or.inr rfl) (q_pe_call G_l_words hr_l_words (by rfl) T.mg_l_words T.kp_l_words T.b_l_words .nil pass0 (q_pa_cons (q_pv 1) (q_pa_cons q_pe_int q_pa_nil star_Constant) star_Name)))
      (q_pss_cons (q_ps_set (i := 4) sc_law.nd rfl (by first | exact Or.inl rfl | exact Or.inr (Or.inl rfl) | exact Or.inr rfl) (q_pe_call G_l_words hr_l_words (by rfl) T.mg_l_words T.kp_l_words T.b_l_words .nil pass0 (q_pa_cons (q_pv 1) (q_pa_cons q_pe_int q_pa_nil star_Constant) star_Name)))
      (q_pss_cons ((q_ps_setLc (i := 5) (own := [("_law_k", 11)]) (g := gName 11) (by rfl) sc_law.nd rfl rfl (sw_true rfl rfl rfl (by decide +kernel)) (q_pi_range1 (by rfl) T.z_range (q_pa_cons q_pe_int q_pa_nil star_Constant)) (blkOk_by (own := [("_law_k", 11)]) (N := ["_law_script", "_law_draw", "_law_many", "_law_towns", "_law_kinds", "_law_days", "_law_calls_here", "_law_rules", "_law_terms", "_law_books", "_law_rows", "_law_k", "_law_at", "_law_row", "_law_told_here", "_law_term"]) (sc := defScope s_law) (by decide +kernel)) (fun _ _ _ _ _ => (q_pg_name (i := 11) sc_law.nd rfl (by first | exact Or.inl rfl | exact Or.inr (Or.inl rfl) | exact Or.inr rfl))) (fun _ _ _ _ _ => q_pts_nil) (fun _ _ _ _ _ => (q_pe_call G_l_day hr_l_day (by rfl) T.mg_l_day T.kp_l_day T.b_l_day .nil pass0 (q_pa_cons (q_pv 1) q_pa_nil star_Name)))))
      (q_pss_cons (q_ps_set (i := 6) sc_law.nd rfl (by first | exact Or.inl rfl | exact Or.inr (Or.inl rfl) | exact Or.inr rfl) (q_pe_call G_l_calls hr_l_calls (by rfl) T.mg_l_calls T.kp_l_calls T.b_l_calls .nil pass0 (q_pa_cons (q_pv 1) (q_pa_cons (q_pe_op op_cat (q_pe_lst (q_pa_cons q_pe_non q_pa_nil star_Constant)) (q_pv 3)) (q_pa_cons (q_pv 5) (q_pa_cons q_pe_int q_pa_nil star_Constant) star_Name) star_BinOp) star_Name)))
      (q_pss_cons ((q_ps_setLc (i := 7) (own := [("_law_k", 11)]) (g := gName 11) (by rfl) sc_law.nd rfl rfl (sw_true rfl rfl rfl (by decide +kernel)) (q_pi_range1 (by rfl) T.z_range (q_pa_cons q_pe_int q_pa_nil star_Constant)) (blkOk_by (own := [("_law_k", 11)]) (N := ["_law_script", "_law_draw", "_law_many", "_law_towns", "_law_kinds", "_law_days", "_law_calls_here", "_law_rules", "_law_terms", "_law_books", "_law_rows", "_law_k", "_law_at", "_law_row", "_law_told_here", "_law_term"]) (sc := defScope s_law) (by decide +kernel)) (fun _ _ _ _ _ => (q_pg_name (i := 11) sc_law.nd rfl (by first | exact Or.inl rfl | exact Or.inr (Or.inl rfl) | exact Or.inr rfl))) (fun _ _ _ _ _ => q_pts_nil) (fun _ _ _ _ _ => (q_pe_call G_l_told hr_l_told (by rfl) T.mg_l_told T.kp_l_told T.b_l_told .nil pass0 (q_pa_cons (q_pv 1) (q_pa_cons (q_pv 6) (q_pa_cons q_pe_int (q_pa_cons q_pe_int q_pa_nil star_Constant) star_Constant) star_Name) star_Name)))))
      (q_pss_cons ((q_ps_setLc (i := 8) (own := [("_law_told_here", 14)]) (g := gName 14) (by rfl) sc_law.nd rfl rfl (sw_true rfl rfl rfl (by decide +kernel)) (q_pi_list (q_pv 7)) (blkOk_by (own := [("_law_told_here", 14)]) (N := ["_law_script", "_law_draw", "_law_many", "_law_towns", "_law_kinds", "_law_days", "_law_calls_here", "_law_rules", "_law_terms", "_law_books", "_law_rows", "_law_k", "_law_at", "_law_row", "_law_told_here", "_law_term"]) (sc := defScope s_law) (by decide +kernel)) (fun _ _ _ _ _ => (q_pg_name (i := 14) sc_law.nd rfl (by first | exact Or.inl rfl | exact Or.inr (Or.inl rfl) | exact Or.inr rfl))) (fun _ _ _ _ _ => q_pts_nil) (fun _ _ _ _ _ => (q_pe_call G_l_build hr_l_build (by rfl) T.mg_l_build T.kp_l_build T.b_l_build .nil pass0 (q_pa_cons (q_pv 14) q_pa_nil star_Name)))))
      (q_pss_cons (q_ps_set (i := 9) sc_law.nd rfl (by first | exact Or.inl rfl | exact Or.inr (Or.inl rfl) | exact Or.inr rfl) (q_pe_lst (q_pa_cons (q_pe_make0 T.mk_Calls G_Calls_init hr_Calls_init (by rfl) T.mg_Calls T.b_Calls_init .nil pass0) (q_pa_cons (q_pe_make0 T.mk_Calls G_Calls_init hr_Calls_init (by rfl) T.mg_Calls T.b_Calls_init .nil pass0) q_pa_nil star_Call) star_Call)))
      (q_pss_cons (q_ps_set (i := 10) sc_law.nd rfl (by first | exact Or.inl rfl | exact Or.inr (Or.inl rfl) | exact Or.inr rfl) (q_pe_lst (q_pa_cons (q_pe_lst q_pa_nil) (q_pa_cons (q_pe_lst q_pa_nil) q_pa_nil star_List) star_List)))
      (q_pss_cons (q_ps_for PassesOwn.never rfl (q_pi_range1 (by rfl) T.z_range (q_pa_cons (q_pv 2) q_pa_nil star_Name)) (q_pg_name (i := 11) sc_law.nd rfl (by first | exact Or.inl rfl | exact Or.inr (Or.inl rfl) | exact Or.inr rfl))
      (q_pss_cons (q_ps_set (i := 12) sc_law.nd rfl (by first | exact Or.inl rfl | exact Or.inr (Or.inl rfl) | exact Or.inr rfl) (q_pe_call G_l_next hr_l_next (by rfl) T.mg_l_next T.kp_l_next T.b_l_next .nil pass0 (q_pa_cons (q_pv 1) (q_pa_cons q_pe_int q_pa_nil star_Constant) star_Name)))
      (q_pss_cons (q_ps_set (i := 13) sc_law.nd rfl (by first | exact Or.inl rfl | exact Or.inr (Or.inl rfl) | exact Or.inr rfl) (q_pe_tup (q_pa_cons (q_pe_ix ix_list (q_pv 3) (q_pe_call G_l_next hr_l_next (by rfl) T.mg_l_next T.kp_l_next T.b_l_next .nil pass0 (q_pa_cons (q_pv 1) (q_pa_cons q_pe_int q_pa_nil star_Constant) star_Name)) (fun _ _ => rfl)) (q_pa_cons (q_pe_ix ix_list (q_pv 4) (q_pe_call G_l_next hr_l_next (by rfl) T.mg_l_next T.kp_l_next T.b_l_next .nil pass0 (q_pa_cons (q_pv 1) (q_pa_cons q_pe_int q_pa_nil star_Constant) star_Name)) (fun _ _ => rfl)) (q_pa_cons (q_pe_ix ix_list (q_pv 5) (q_pe_call G_l_next hr_l_next (by rfl) T.mg_l_next T.kp_l_next T.b_l_next .nil pass0 (q_pa_cons (q_pv 1) (q_pa_cons q_pe_int q_pa_nil star_Constant) star_Name)) (fun _ _ => rfl)) (q_pa_cons (q_pe_call G_l_level hr_l_level (by rfl) T.mg_l_level T.kp_l_level T.b_l_level .nil pass0 (q_pa_cons (q_pv 1) q_pa_nil star_Name)) q_pa_nil star_Call) star_Subscript) star_Subscript) star_Subscript)))
      (q_pss_cons (q_ps_expr (q_pe_bm PySem.F.plainAttrs_list PySem.F.slot_list_append PySem.F.type_list_append mt_append (q_pe_ix ix_list (q_pv 10) (q_pv 12) (fun _ _ => rfl)) (q_pa_cons (q_pv 13) q_pa_nil star_Name)))
      (q_pss_cons (q_ps_expr (q_pe_meth (q_pe_ix ix_list (q_pv 9) (q_pv 12) (fun _ _ => rfl)) T.cl_Calls T.m_Calls_tell G_Calls_tell hr_Calls_tell T.b_Calls_tell .nil pass0 (q_pa_cons (q_pe_ix ix_tup (q_pv 13) q_pe_int (fun _ _ => rfl)) (q_pa_cons (q_pe_ix ix_tup (q_pv 13) q_pe_int (fun _ _ => rfl)) (q_pa_cons (q_pe_ix ix_tup (q_pv 13) q_pe_int (fun _ _ => rfl)) (q_pa_cons (q_pe_ix ix_tup (q_pv 13) q_pe_int (fun _ _ => rfl)) q_pa_nil star_Subscript) star_Subscript) star_Subscript) star_Subscript)))
      (q_pss_one (q_ps_if (q_pt_not (q_pt_val (q_pe_call G_l_asked hr_l_asked (by rfl) T.mg_l_asked T.kp_l_asked T.b_l_asked .nil pass0 (q_pa_cons (q_pv 1) (q_pa_cons (q_pv 3) (q_pa_cons (q_pv 4) (q_pa_cons (q_pv 5) (q_pa_cons (q_pv 8) (q_pa_cons (q_pv 7) (q_pa_cons (q_pv 9) (q_pa_cons (q_pv 10) q_pa_nil star_Name) star_Name) star_Name) star_Name) star_Name) star_Name) star_Name) star_Name)))) (q_pss_one (q_ps_ret q_pe_bl)) q_pss_nil)))))))
      (q_pss_one (q_ps_ret (q_pe_callB (cr_all rfl) (by rfl) T.z_all (by decide +kernel) (q_pa_cons (q_pe_lc (own := [("_law_term", 15), ("_law_told_here", 14)]) (g := _) (by rfl) sc_law.nd (q_pi_zipG false false (by rfl) T.z_zip (q_pa_cons (q_pv 8) (q_pa_cons (q_pv 7) q_pa_nil star_Name) star_Name)) (blkOk_by (own := [("_law_term", 15), ("_law_told_here", 14)]) (N := ["_law_script", "_law_draw", "_law_many", "_law_towns", "_law_kinds", "_law_days", "_law_calls_here", "_law_rules", "_law_terms", "_law_books", "_law_rows", "_law_k", "_law_at", "_law_row", "_law_told_here", "_law_term"]) (sc := defScope s_law) (by decide +kernel)) (fun _ _ _ _ _ => (q_pg_tupK (K := K) 2 rfl (by rfl) (q_pgs_cons (q_pg_name (i := 15) sc_law.nd rfl (by first | exact Or.inl rfl | exact Or.inr (Or.inl rfl) | exact Or.inr rfl)) (q_pgs_cons (q_pg_name (i := 14) sc_law.nd rfl (by first | exact Or.inl rfl | exact Or.inr (Or.inl rfl) | exact Or.inr rfl)) q_pgs_nil)))) (fun _ _ _ _ _ => q_pts_nil) (fun _ _ _ _ _ => (q_pe_call G_l_alike hr_l_alike (by rfl) T.mg_l_alike T.kp_l_alike T.b_l_alike .nil pass0 (q_pa_cons (q_pe_alt (q_pe_meth0 (q_pv 15) T.cl_Level T.m_Level_told G_Level_told hr_Level_told T.b_Level_told .nil pass0) (q_pe_alt (q_pe_meth0 (q_pv 15) T.cl_Called T.m_Called_told G_Called_told hr_Called_told T.b_Called_told .nil pass0) (q_pe_alt (q_pe_meth0 (q_pv 15) T.cl_Least T.m_Least_told G_Least_told hr_Least_told T.b_Least_told .nil pass0) (q_pe_meth0 (q_pv 15) T.cl_Greatest T.m_Greatest_told G_Greatest_told hr_Greatest_told T.b_Greatest_told .nil pass0)))) (q_pa_cons (q_pv 14) q_pa_nil star_Name) star_Call)))) q_pa_nil star_ListComp))))))))))))))), ?_⟩
    refine ⟨_, rfl, (by show 2 ≤ sizeLine; decide), fun d hd => ?_⟩
    have sd := same_new (o := .lst [V.ref a, V.int 0]) hd
    have D0 : DrawAt K (upd H d (.lst [V.ref a, V.int 0])) d a ns := ⟨⟨0, by decide, upd_same⟩, hS.same sd, hlen⟩
    have ls0 : Lsts (upd H d (.lst [V.ref a, V.int 0])) [d] := Lsts.new (l := []) ⟨List.nodup_nil, by simp⟩ hd
    refine ⟨_, rfl, d, a, ns, _, rfl, D0, by decide, fun mg' H1 g0 g1 D1 k1 => ⟨_, _, rfl, rfl, ?_⟩⟩
    have ls1 := ls0.draw D1 k1
    refine ⟨_, rfl, d, a, ns, 3, rfl, D1, by decide, by decide, fun Ltw tw H2 lw nw gw hw fLw D2 k2 => ?_⟩
    have ls2 := Lsts.new' (ls1.draw D2 k2) ls1 fLw hw
    refine ⟨_, rfl, d, a, ns, 2, rfl, D2, by decide, by decide, fun Lk kds H3 lk nk gk hk fLk D3 k3 => ?_⟩
    have ls3 := Lsts.new' (ls2.draw D3 k3) ls2 fLk hk
    have nLw3 : Ltw ≠ d := D1.ne fLw
    have hw3 := k3 _ _ hw nLw3
    have nLk3 : Lk ≠ d := D2.ne fLk
    refine ⟨5, rfl, by decide, by decide, fun Ld hLd => ?_⟩
    have nLd : Ld ≠ d := D3.ne hLd
    have ls3' := ls3.new (xs := []) hLd
    refine lc_range (lo := 0) (n := 5) (fun i H' => ∃ ds : List Int, ds.length = i ∧ (∀ x ∈ ds, 0 ≤ x ∧ x ≤ 9999) ∧ H' Ld = some (.lst (ds.map V.int)) ∧ DrawAt K H' d a ns ∧ Keep d H3 H') ?_ ?_ ?_
    · exact ⟨[], rfl, by simp, upd_same, D3.same (same_new hLd), .of (same_new hLd)⟩
    · rintro i H4 hi ⟨ds, l4, b4, h4, D4, k4⟩
      refine ⟨rfl, yes_i ⟨_, rfl, d, a, ns, rfl, D4, fun n H5 n0 n1 D5 k5 => ?_⟩⟩
      have h5 := k5 _ _ h4 nLd
      refine ⟨_, h5, small1000 (by rw [List.length_map]; omega), ds ++ [n], by rw [List.length_append, l4]; rfl, ?_, by rw [upd_same, List.map_append]; rfl, D5.upd nLd (nofrz h5), (k4.trans k5).updNew hLd⟩
      intro x hx
      rcases List.mem_append.mp hx with z | z
      · exact b4 x z
      · rw [List.mem_singleton.mp z]; exact ⟨n0, n1⟩
    rintro H4 ⟨ds, ld, gd, hd4, D4, k4⟩
    have ls4 : Lsts H4 [Ld, Lk, Ltw, d] := Lsts.new' (ls3.draw D4 k4) ls3 hLd hd4
    have hw4 := k4 _ _ hw3 nLw3
    have hk4 := k4 _ _ hk nLk3
    refine ⟨_, rfl, (by show 1 ≤ sizeLine; decide), fun l1 hl1 => ?_⟩
    have s5 := same_new (o := .lst [V.non]) hl1
    refine ⟨_, rfl, l1, Ltw, _, _, rfl, rfl, upd_same, s5 _ _ hw4, Nat.le_of_lt (small1000 (by rw [List.length_map, lw]; decide)), fun l2 hl2 => ?_⟩
    have s6 := same_new (o := .lst ([V.non] ++ tw.map V.str)) hl2
    have f6 := new_at (o := .lst ([V.non] ++ tw.map V.str)) hl2
    have s56 := s5.trans s6
    have D6 := D4.same s56
    refine ⟨_, rfl, d, a, l2, Ld, ns, (none :: tw.map some : List (Option Str)), ds, 6, rfl, D6, (by rw [tn_map]; exact f6), (D4.same s5).ne hl2, s56 _ _ hd4, nLd, ?_, (by show 0 < _ + 1; omega), (by rw [List.length_cons, List.length_map, lw]; decide), gd, by omega, by omega, by decide, by decide, fun Lc rs cs H7 h7 ta7 lc7 gc7 nLc D7 k7 => ?_⟩
    · intro x hx y e
      rcases List.mem_cons.mp hx with rfl | hx
      · cases e
      · obtain ⟨z, hz, rfl⟩ := List.mem_map.mp hx
        cases e
        exact gw _ hz
    have k47 := (Keep.of s56).trans k7
    have ls7 := (ls4.same s56).draw D7 k7
    have hw7 := k47 _ _ hw4 nLw3
    have hk7 := k47 _ _ hk4 nLk3
    have hd7 := k47 _ _ hd4 nLd
    clear ls0 ls1 ls2 ls3 ls3' ls4 hw hw3 hw4 hk hk4 hd4 s5 s6 s56 f6 D0 D1 D2 D3 D4 D6 k1 k2 k3 k4 k7 k47 hl1 hl2
    refine ⟨2, rfl, by decide, by decide, fun Lr hLr => ?_⟩
    have nLr : Lr ≠ d := D7.ne hLr
    refine lc_range (lo := 0) (n := 2) (fun i H' => ∃ (as : List Addr) (us : List Tm), as.length = i ∧ us.length = i ∧ H' Lr = some (.lst (as.map V.ref)) ∧ (∀ (j : Nat) (x : Addr) (u : Tm), as[j]? = some x → us[j]? = some u → Told 5 14 H' x u) ∧ DrawAt K H' d a ns ∧ Keep d H7 H') ?_ ?_ ?_
    · exact ⟨[], [], rfl, rfl, upd_same, by simp, D7.same (same_new hLr), .of (same_new hLr)⟩
    · rintro i H8 hi ⟨as, us, la, lu, h8, tl, D8, k8⟩
      refine ⟨rfl, yes_i ⟨_, rfl, _, rfl, d, a, Lc, ns, rs, cs, 14, rfl, D8, k8 _ _ h7 nLc, nLc, ta7.mono (D7.tups k8), by omega, by omega, gc7, by decide, by decide, by decide, fun x u H9 tx D9 k9 => ?_⟩⟩
      have h9 := k9 _ _ h8 nLr
      refine ⟨_, h9, small1000 (by rw [List.length_map]; omega), as ++ [x], us ++ [u], by rw [List.length_append, la]; rfl, by rw [List.length_append, lu]; rfl, by rw [upd_same, List.map_append]; rfl, ?_, D9.upd nLr (nofrz h9), (k8.trans k9).updNew hLr⟩
      intro j x' u' hx' hu'
      rw [List.getElem?_append] at hx' hu'
      by_cases hj : j < as.length
      · rw [if_pos hj] at hx'
        rw [if_pos (by omega)] at hu'
        exact ((tl j x' u' hx' hu').mono (D8.tups k9)).mono (Tups.upd h9)
      · rw [if_neg hj] at hx'
        rw [if_neg (by omega)] at hu'
        have e0 : j - as.length = 0 := by
          have := (List.getElem?_eq_some_iff.mp hx').1
          simp at this
          omega
        have e0' : j - us.length = 0 := by omega
        rw [e0] at hx'
        rw [e0'] at hu'
        cases hx'
        cases hu'
        exact tx.mono (Tups.upd h9)
    rintro H8 ⟨as, us, la, lu, hr8, tl8, D8, k8⟩
    have ls8 : Lsts H8 [Lr, Ld, Lk, Ltw, d] := Lsts.new' (ls7.draw D8 k8) ls7 hLr hr8
    have hw8 := k8 _ _ hw7 nLw3
    have hk8 := k8 _ _ hk7 nLk3
    have hd8 := k8 _ _ hd7 nLd
    clear ls7 hw7 hk7 hd7 D7 k8 h7 ta7
    refine ⟨_, rfl, Lr, rfl, ⟨_, SqL.of hr8⟩, fun Lt hLt => ?_⟩
    refine lc_list (xs := as.map V.ref) (fun i H' => ∃ xs : List Addr, xs.length = i ∧ H' Lt = some (.lst (xs.map V.ref)) ∧ (∀ (j : Nat) (x : Addr) (u : Tm), xs[j]? = some x → us[j]? = some u → Trm t 5 14 H' x u) ∧ Same H8 H') ?_ ?_ ?_ ?_
    · exact ⟨[], rfl, upd_same, by simp, same_new hLt⟩
    · rintro i H9 hi ⟨xs, lx, h9, tr, s9⟩
      exact SqL.of (s9 _ _ hr8)
    · rintro i y H9 hy ⟨xs, lx, h9, tr, s9⟩
      obtain ⟨x', hx', rfl⟩ := ref_at hy
      have hi := (List.getElem?_eq_some_iff.mp hx').1
      obtain ⟨u, hu⟩ : ∃ u, us[i]? = some u := ⟨_, List.getElem?_eq_getElem (by omega)⟩
      refine ⟨rfl, yes_i ⟨_, rfl, x', 14, u, rfl, (tl8 i x' u hx' hu).mono (.same s9), by decide, by decide, fun x H10 tx s10 => ?_⟩⟩
      have h10 := s10 _ _ h9
      refine ⟨_, h10, small1000 (by rw [List.length_map]; omega), xs ++ [x], by rw [List.length_append, lx]; rfl, by rw [upd_same, List.map_append]; rfl, ?_, fun b o e => ?_⟩
      · intro j x2 v hx2 hv
        rw [List.getElem?_append] at hx2
        by_cases hj : j < xs.length
        · rw [if_pos hj] at hx2
          exact ((tr j x2 v hx2 hv).mono (.same s10)).mono (Stay.upd h10)
        · rw [if_neg hj] at hx2
          have e0 : j - xs.length = 0 := by
            have := (List.getElem?_eq_some_iff.mp hx2).1
            simp at this
            omega
          have ej : j = i := by omega
          rw [e0] at hx2
          cases hx2
          rw [ej, hu] at hv
          cases hv
          exact tx.mono (Stay.upd h10)
      · rw [upd_ne (ne_of_none e hLt)]; exact s10 _ _ (s9 b o e)
    rintro H9 ⟨xs, lx, ht9, tr9, s9⟩
    rw [List.length_map, la] at lx
    have ls9 : Lsts H9 [Lt, Lr, Ld, Lk, Ltw, d] := Lsts.new' (ls8.same s9) ls8 hLt ht9
    have D9 := D8.same s9
    intro y0 dy0 hy0 hdy0 ny0
    refine ⟨y0, dy0, rfl, upd_same, fun L0 H10 c10 fL0 k10 => ⟨rfl, ?_⟩⟩
    have s10 := made_same hy0 hdy0 k10
    obtain ⟨_, _, _, hL0, _⟩ := id c10
    have ls10 : Lsts H10 [L0, Lt, Lr, Ld, Lk, Ltw, d] := Lsts.new' (ls9.same s10) (ls9.same (made_new hy0 hdy0)) fL0 hL0
    intro y1 dy1 hy1 hdy1 ny1
    refine ⟨y1, dy1, rfl, upd_same, fun L1 H11 c11 fL1 k11 => ⟨rfl, ?_⟩⟩
    have s11 := made_same hy1 hdy1 k11
    obtain ⟨_, _, _, hL1, _⟩ := id c11
    have ls11 : Lsts H11 [L1, L0, Lt, Lr, Ld, Lk, Ltw, d] := Lsts.new' (ls10.same s11) (ls10.same (made_new hy1 hdy1)) fL1 hL1
    refine ⟨(by show 2 ≤ sizeLine; decide), fun Lb hLb => ?_⟩
    have s12 := same_new (o := .lst [V.ref y0, V.ref y1]) hLb
    have ls12 := ls11.new (xs := [V.ref y0, V.ref y1]) hLb
    refine ⟨by decide, fun r0 hr0 => ?_⟩
    have s13 := same_new (o := .lst []) hr0
    have ls13 := ls12.new (xs := []) hr0
    refine ⟨by decide, fun r1 hr1 => ?_⟩
    have s14 := same_new (o := .lst []) hr1
    have ls14 := ls13.new (xs := []) hr1
    refine ⟨(by show 2 ≤ sizeLine; decide), fun Lw hLw => ?_⟩
    have s15 := same_new (o := .lst [V.ref r0, V.ref r1]) hLw
    have ls15 := ls14.new (xs := [V.ref r0, V.ref r1]) hLw
    have z11 := s9.trans (s10.trans s11)
    have zB := (s12.trans s13).trans (s14.trans s15)
    have S : S22 K t (upd (upd (upd (upd H11 Lb (.lst [V.ref y0, V.ref y1])) r0 (.lst [])) r1 (.lst [])) Lw (.lst [V.ref r0, V.ref r1])) d a ns ⟨Ltw, Lk, Ld, Lt, Lr, Lb, Lw, xs, as, [(y0, L0), (y1, L1)], [r0, r1]⟩ ⟨tw, kds, ds, us, [[], []]⟩ := by
      refine ⟨((D9.same s10).same s11).same zB, ⟨?_, fun p hp => ?_⟩, (z11.trans zB) _ _ hw8, gw, lw, (z11.trans zB) _ _ hk8, gk, lk, (z11.trans zB) _ _ hd8, gd, ld, ((s10.trans s11).trans zB) _ _ ht9, (z11.trans zB) _ _ hr8, ((s13.trans s14).trans s15) _ _ (new_at (o := .lst [V.ref y0, V.ref y1]) hLb), upd_same, lx, la, lu, rfl, rfl, rfl, ?_, ?_, ?_, ?_, ?_⟩
      · exact nd12 ls15.nd
      · exact ls15.al p (mem12 hp)
      · exact fun i x u hx hu => (tr9 i x u hx hu).mono (.same ((s10.trans s11).trans zB))
      · exact fun i x u hx hu => (tl8 i x u hx hu).mono (.same (z11.trans zB))
      · intro i b rows hb hw
        match i, hb, hw with
        | 0, hb, hw => cases hb; cases hw; exact (c10.same s11).same zB
        | 1, hb, hw => cases hb; cases hw; exact c11.same zB
      · intro i r rows hr hw
        match i, hr, hw with
        | 0, hr, hw => cases hr; cases hw; exact ⟨[], (s14.trans s15) _ _ (new_at (o := .lst []) hr0), .nil _⟩
        | 1, hr, hw => cases hr; cases hw; exact ⟨[], s15 _ _ (new_at (o := .lst []) hr1), .nil _⟩
      · intro rows hm
        have : rows = [] := by simpa using hm
        rw [this]; exact ⟨by decide, by simp⟩
    clear zB z11 ls8 ls9 ls10 ls11 ls12 ls13 ls14 ls15 s9 s10 s11 s12 s13 s14 s15 c10 c11 hL0 hL1 hw8 hk8 hd8 hr8 ht9 tr9 tl8 D8 D9
    generalize (upd (upd (upd (upd H11 Lb (.lst [V.ref y0, V.ref y1])) r0 (.lst [])) r1 (.lst [])) Lw (.lst [V.ref r0, V.ref r1])) = H15 at S
    obtain ⟨A', eA⟩ : ∃ A' : Ads, A' = ⟨Ltw, Lk, Ld, Lt, Lr, Lb, Lw, xs, as, [(y0, L0), (y1, L1)], [r0, r1]⟩ := ⟨_, rfl⟩
    rw [← eA] at S
    refine ⟨_, rfl, _, rfl, by omega, by omega, ?_⟩
    refine for_range (lo := 0) (fun i σ H' => ∃ (o11 o12 o13 : Option V) (rws : List (List CRow)), σ = [some (.ref a), some (.ref d), some (.int (1 + mg')), some (.ref A'.Ltw), some (.ref A'.Lk), some (.ref A'.Ld), some (.ref Lc), some (.ref A'.Lr), some (.ref A'.Lt), some (.ref A'.Lb), some (.ref A'.Lw), o11, o12, o13, none, none] ∧ S22 K t H' d a ns A' ⟨tw, kds, ds, us, rws⟩ ∧ ∀ r ∈ rws, r.length ≤ i) ?_ ?_ ?_
    · exact ⟨none, none, none, _, by rw [eA]; rfl, S, by simp⟩
    · rintro i σ H16 hi ⟨o11, o12, o13, rws, rfl, S16, l16⟩
      have hi : i < 10 := by omega
      refine ⟨_, rfl, d, a, ns, _, rfl, S16.D, by decide, fun at' H17 a0 a1 D17 k17 => ?_⟩
      have S17 := S16.draw D17 k17
      obtain ⟨j, ej⟩ : ∃ j : Nat, at' = (j : Int) := ⟨at'.toNat, by omega⟩
      subst ej
      have j2 : j < 2 := by omega
      refine ⟨_, rfl, _, rfl, d, a, ns, _, rfl, D17, by decide, fun r18 H18 b0 b1 D18 k18 => ?_⟩
      have S18 := S17.draw D18 k18
      obtain ⟨tn, htn⟩ : ∃ tn, tw[r18.toNat]? = some tn := ⟨_, List.getElem?_eq_getElem (by rw [lw]; show r18.toNat < 3; omega)⟩
      refine ⟨A'.Ltw, _, r18, _, rfl, rfl, SqL.of S18.hw, at_of (j := r18.toNat) (by omega) (by rw [List.getElem?_map, htn]; rfl), ?_⟩
      refine ⟨_, rfl, _, rfl, d, a, ns, _, rfl, D18, by decide, fun r19 H19 b0' b1' D19 k19 => ?_⟩
      have S19 := S18.draw D19 k19
      obtain ⟨kd, hkd⟩ : ∃ kd, kds[r19.toNat]? = some kd := ⟨_, List.getElem?_eq_getElem (by rw [lk]; show r19.toNat < 2; omega)⟩
      refine ⟨A'.Lk, _, r19, _, rfl, rfl, SqL.of S19.hk, at_of (j := r19.toNat) (by omega) (by rw [List.getElem?_map, hkd]; rfl), ?_⟩
      refine ⟨_, rfl, _, rfl, d, a, ns, _, rfl, D19, by decide, fun r20 H20 b0'' b1'' D20 k20 => ?_⟩
      have S20 := S19.draw D20 k20
      obtain ⟨dy, hdy⟩ : ∃ dy, ds[r20.toNat]? = some dy := ⟨_, List.getElem?_eq_getElem (by omega)⟩
      refine ⟨A'.Ld, _, r20, _, rfl, rfl, SqL.of S20.hd, at_of (j := r20.toNat) (by omega) (by rw [List.getElem?_map, hdy]; rfl), ?_⟩
      refine ⟨_, rfl, d, a, ns, rfl, D20, fun wt H21 t0 t1 D21 k21 => ?_⟩
      have S21 := S20.draw D21 k21
      refine ⟨(by show 4 ≤ sizeLine; decide), fun rt hrt => ?_⟩
      have gt := gw tn (List.mem_of_getElem? htn)
      have gkk := gk kd (List.mem_of_getElem? hkd)
      obtain ⟨y0', y1'⟩ := gd dy (List.mem_of_getElem? hdy)
      have s22 := same_new (o := .tup [V.str tn, V.str kd, V.int dy, V.int wt]) hrt
      have f22 := new_at (o := .tup [V.str tn, V.str kd, V.int dy, V.int wt]) hrt
      have S22' := S21.same s22
      clear S16 S17 S18 S19 S20 S21 D17 D18 D19 D20 D21 k17 k18 k19 k20 k21 s22
      generalize upd H21 rt (.tup [V.str tn, V.str kd, V.int dy, V.int wt]) = H22 at *
      obtain ⟨r, hr'⟩ : ∃ r, A'.rr[j]? = some r := ⟨_, List.getElem?_eq_getElem (by rw [S22'.lr]; exact j2)⟩
      obtain ⟨b, hb'⟩ : ∃ b, A'.bs[j]? = some b := ⟨_, List.getElem?_eq_getElem (by rw [S22'.lb]; exact j2)⟩
      obtain ⟨rows, hrows⟩ : ∃ x, rws[j]? = some x := ⟨_, List.getElem?_eq_getElem (by have : rws.length = 2 := S22'.lq; omega)⟩
      obtain ⟨rs0, hrl, ra⟩ := S22'.lo j r rows hr' hrows
      have ca := S22'.ca j b rows hb' hrows
      have rlen := l16 rows (List.mem_of_getElem? hrows)
      refine ⟨_, rfl, _, rfl, A'.Lw, _, _, V.ref r, rfl, rfl, SqL.of S22'.hl, at_of (j := j) rfl (by rw [List.getElem?_map, hr']; rfl), .inl ⟨rfl, _, SqL.of hrl⟩, _, rfl, ?_⟩
      have rl2 := ra.len
      refine ⟨r, _, _, rfl, rfl, hrl, small1000 (by rw [List.length_map]; omega), ?_⟩
      have nd : (([d, A'.Ltw, A'.Lk, A'.Ld, A'.Lt, A'.Lr, A'.Lb, A'.Lw] : List Addr) ++ (A'.bs.map (·.2) ++ A'.rr)).Nodup := S22'.ls.nd
      rw [List.nodup_append] at nd
      obtain ⟨_, ndM, dis⟩ := nd
      rw [List.nodup_append] at ndM
      obtain ⟨_, _, dis2⟩ := ndM
      have mb : b.2 ∈ A'.bs.map (·.2) := List.mem_map_of_mem (List.mem_of_getElem? hb')
      have mr : r ∈ A'.rr := List.mem_of_getElem? hr'
      have nbr : b.2 ≠ r := dis2 b.2 mb r mr
      have ndr : d ≠ r := dis d (by simp) r (List.mem_append_right _ mr)
      have ndb : d ≠ b.2 := dis d (by simp) b.2 (List.mem_append_left _ mb)
      have nwb : A'.Lb ≠ r := dis A'.Lb (by simp) r (List.mem_append_right _ mr)
      have k23 : Keep r H22 (upd H22 r (.lst (rs0.map V.ref ++ [V.ref rt]))) := fun p o e np => by rw [upd_ne np]; exact e
      have t23 : Tups H22 (upd H22 r (.lst (rs0.map V.ref ++ [V.ref rt]))) := Tups.upd hrl
      have ca23 := ca.keep k23 hrl nbr
      have hb23 := k23 _ _ S22'.hb nwb
      have f23 := t23 _ _ f22
      obtain ⟨dyb, _, hbx, hbL, _⟩ := id ca23
      refine ⟨_, rfl, _, rfl, A'.Lb, _, _, _, rfl, rfl, SqL.of hb23, at_of (j := j) rfl (by rw [List.getElem?_map, hb']; rfl), b.1, dyb, _, rfl, hbx, rfl, ?_⟩
      refine ⟨_, rfl, rt, _, 0, _, rfl, rfl, SqT.of f23, at_of (j := 0) (by decide) rfl, _, rfl, rt, _, 1, _, rfl, rfl, SqT.of f23, at_of (j := 1) (by decide) rfl, _, rfl, rt, _, 2, _, rfl, rfl, SqT.of f23, at_of (j := 2) (by decide) rfl, _, rfl, rt, _, 3, _, rfl, rfl, SqT.of f23, at_of (j := 3) (by decide) rfl, ?_⟩
      refine ⟨b.1, b.2, tn, kd, dy, wt, rows, rfl, ca23, gt, gkk, y0', y1', t0, t1, by omega, fun H24 ca24 k24 => ?_⟩
      have st24 : Tups (upd H22 r (.lst (rs0.map V.ref ++ [V.ref rt]))) H24 := k24.tups hbL
      have lo24 : LRows H24 r (rows ++ [(tn, kd, dy, wt)]) := ⟨rs0 ++ [rt], by rw [k24 _ _ upd_same nbr.symm, List.map_append]; rfl, ((ra.mono t23).mono st24).snoc (st24 _ _ f23)⟩
      have D24 : DrawAt K H24 d a ns := by
        have D23 := S22'.D.upd (o := .lst (rs0.map V.ref ++ [V.ref rt])) ndr.symm (nofrz hrl)
        obtain ⟨z, z0, hz⟩ := D23.ex
        exact ⟨⟨z, z0, k24 _ _ hz ndb⟩, D23.sc.keep k24 (nofrz hbL), D23.len⟩
      have S24 := S22'.step (row := (tn, kd, dy, wt)) hb' hr' hrows (fun p o e np nq => k24 _ _ (k23 _ _ e np) nq) D24 lo24 ca24 ⟨gt, gkk, y0', y1', t0, t1⟩ (by omega)
      refine ⟨_, rfl, _, rfl, _, rfl, _, rfl, _, rfl, _, rfl, _, rfl, _, rfl, d, a, ns, A', _, rfl, S24, fun H25 S25 k25 => ⟨_, rfl, iteF ?_⟩⟩
      refine ⟨_, _, _, _, rfl, S25, fun q hq => ?_⟩
      rcases List.mem_or_eq_of_mem_set hq with z | z
      · have := l16 q z; omega
      · rw [z, List.length_append]; show _ + 1 ≤ i + 1; omega
    · rintro σ H16 ⟨o11, o12, o13, rws, rfl, S16, l16⟩
      have lxv : (A'.xs.map V.ref).length = 2 := by rw [List.length_map]; exact S16.lx
      have lav : (A'.as.map V.ref).length = 2 := by rw [List.length_map]; exact S16.la
      refine ⟨_, rfl, _, rfl, A'.Lt, A'.Lr, _, _, rfl, SqL.of S16.ht, SqL.of S16.hr, fun Lz hLz => ?_⟩
      refine lc_zipG (xs := A'.xs.map V.ref) (ys := A'.as.map V.ref) (by rw [lxv, lav]) (fun i H' => H' Lz = some (.lst ((List.replicate i true).map V.bl)) ∧ Same H16 H') ?_ ?_ ?_ ?_
      · exact ⟨by rw [upd_same]; rfl, same_new hLz⟩
      · rintro i H17 hi ⟨h17, s17⟩
        exact ⟨SqL.of (s17 _ _ S16.ht), SqL.of (s17 _ _ S16.hr)⟩
      · rintro i px py Tp H17 hpx hpy ⟨h17, s17⟩ hTp
        obtain ⟨x, hx, rfl⟩ := ref_at hpx
        obtain ⟨y, hy, rfl⟩ := ref_at hpy
        have i2 : i < 2 := by have := (List.getElem?_eq_some_iff.mp hx).1; rw [S16.lx] at this; exact this
        obtain ⟨u, hu⟩ : ∃ u, us[i]? = some u := ⟨_, List.getElem?_eq_getElem (by omega)⟩
        have s18 := same_new (o := .tup [V.ref x, V.ref y]) hTp
        have sA := s17.trans s18
        have tu := (S16.tr i x u hx hu).mono (.same sA)
        have ty := (S16.tl i y u hy hu).mono (.same sA)
        refine ⟨Tp, _, rfl, SqT.of upd_same, rfl, _, _, rfl, _, _, rfl, rfl, rfl, yes_i ?_⟩
        refine alt_of2 (T := tAlt _ _) (R := fun v H' => ∃ a, v = .ref a ∧ Told 5 14 H' a u) (fun Q' kQ => ?_) (fun v H19 hv s19 => ?_)
        · rcases tu.cases with ⟨sh, dy, fs, ey, _, lk⟩ | ⟨sh, dy, fs, ey, _, lk⟩ | ⟨sh, dy, fs, ey, _, lk⟩ | ⟨sh, dy, fs, ey, _, lk⟩
          · exact .inl ⟨_, rfl, x, dy, fs, rfl, ey, lk, x, 14, u, rfl, tu, sh, fun a' H' ta' s' => kQ _ _ ⟨a', rfl, ta'⟩ s'⟩
          · exact .inr (.inl ⟨_, rfl, x, dy, fs, rfl, ey, lk, x, 14, u, rfl, tu, sh, fun a' H' ta' s' => kQ _ _ ⟨a', rfl, ta'⟩ s'⟩)
          · exact .inr (.inr (.inl ⟨_, rfl, x, dy, fs, rfl, ey, lk, x, 14, u, rfl, tu, sh, fun a' H' ta' s' => kQ _ _ ⟨a', rfl, ta'⟩ s'⟩))
          · exact .inr (.inr (.inr ⟨_, rfl, x, dy, fs, rfl, ey, lk, x, 14, u, rfl, tu, sh, fun a' H' ta' s' => kQ _ _ ⟨a', rfl, ta'⟩ s'⟩))
        · obtain ⟨a', rfl, ta'⟩ := hv
          refine ⟨_, rfl, _, _, rfl, ta'.alk (ty.mono (.same s19)), fun H20 s20 => ?_⟩
          refine ⟨_, s20 _ _ (s19 _ _ (s18 _ _ h17)), small1000 (by rw [List.length_map, List.length_replicate]; omega), ?_, fun b o e => ?_⟩
          · rw [upd_same, List.replicate_succ', List.map_append]; rfl
          · rw [upd_ne (ne_of_none e hLz)]; exact s20 _ _ (s19 _ _ (sA b o e))
      rintro H17 ⟨h17, s17⟩
      refine ⟨Lz, _, rfl, SqL.of h17, ?_⟩
      have e : ∀ m : Nat, (List.replicate m true).all id = true := fun m => by
        rw [List.all_eq_true]; intro x hx; exact List.eq_of_mem_replicate hx
      rw [e]
      exact k _
end
end Ck
set_option Elab.async false
set_option linter.all false
set_option pp.maxSteps 1500
set_option maxRecDepth 100000
set_option maxHeartbeats 4000000
namespace Ck
open PySem L2
theorem walk {l : PySem.W.OpenLaw} {q : Program} {loose : List Str} {XP : (Str → Option Value) → Heap → Prop} {YP : World → Heap → Prop} {d : DefRec} {K : Params → PySem.W.Frag} (hn : l.most = some 63) (hdf : d.params.defaults = [])
    (hnm : d.name = "law") (hY : ∀ (w : World) (h : Heap), YP w h → (K w.params).In h)
    (F : ∀ (w : World) (mg : Str → Option Value) (h : Heap), (K w.params).In h → h.Ns mainGlobals mg → ∃ t : Ad, Env (K w.params) mg t) :
    PySem.W.WalkO q loose XP YP l.row.toRowW d [] (fun f vs => PySem.call f vs) := by
  refine L2.walk_of (n := 63) (k := 13) (x := "_law_script") (CX := fun _ => CX0) (sp := fun w => spLaw (K w.params)) hn (by decide) hdf ⟨rfl, by decide, by decide⟩ hY ?_ (fun _ _ a ns hl hO hS => ⟨a, ns, rfl, Scr.of hS hO, hl, fun _ => rfl⟩) fun _ _ _ _ _ z => z
  intro w mg fa h KX G hmg
  obtain ⟨t, T⟩ := F w mg h KX G
  have e := hmg.symm.trans ((congrArg mg hnm).trans T.mg_law)
  cases e
  refine ⟨t.fd_law, ?_, fun base _ _ => ok_law T⟩
  obtain ⟨oc, od, kV, doc, pm, an, cdv, ct, osl, e, lk, hcd⟩ := T.f_law.ex
  rw [e]
  exact fun s v => .of_eq rfl
end Ck
open PySem PySem.W PyProof.Rows
set_option maxRecDepth 100000 in
set_option maxHeartbeats 0 in
theorem PySem.Challenge.cw_callcoin_k22_rules_asked_holds : PySem.Challenge.rw_callcoin_k22_rules_asked.Holds := by
  w_on; o_law; k_head; (case hw => w_witness2)
  k_fill
  refine Ck.walk (l := PySem.Challenge.rw_callcoin_k22_rules_asked) rfl rfl rfl (fun w h Y => PySem.W.kIn_of Y) ?F
  case F =>
    intro w mg h KX G
    refine' Ck.env_mk KX G ?n_Called ?pg_Called ?hd_Called ?po_Called ?sa_Called ?mk_Called ?kc_Called ?no_Called_when ?no_Called_town ?no_Called_size ?no_Called_depth ?n_Calls ?pg_Calls ?hd_Calls ?po_Calls ?sa_Calls ?mk_Calls ?kc_Calls ?no_Calls_rows ?n_Greatest ?pg_Greatest ?hd_Greatest ?po_Greatest ?sa_Greatest ?mk_Greatest ?kc_Greatest ?no_Greatest_terms ?no_Greatest_size ?no_Greatest_depth ?n_Least ?pg_Least ?hd_Least ?po_Least ?sa_Least ?mk_Least ?kc_Least ?no_Least_terms ?no_Least_size ?no_Least_depth ?n_Level ?pg_Level ?hd_Level ?po_Level ?sa_Level ?mk_Level ?kc_Level ?no_Level_level ?no_Level_size ?no_Level_depth ?n_is_made_of ?l_is_made_of ?c_is_made_of ?k_is_made_of ?n_is_word ?l_is_word ?c_is_word ?k_is_word ?n_is_name ?l_is_name ?c_is_name ?k_is_name ?n_is_number ?l_is_number ?c_is_number ?k_is_number ?n_is_within ?l_is_within ?c_is_within ?k_is_within ?n_is_day ?l_is_day ?c_is_day ?k_is_day ?n_is_worth ?l_is_worth ?c_is_worth ?k_is_worth ?n_check_name ?l_check_name ?c_check_name ?k_check_name ?n_check_day ?l_check_day ?c_check_day ?k_check_day ?n_check_worth ?l_check_worth ?c_check_worth ?k_check_worth ?n_Calls_init ?i_Calls_init ?l_Calls_init ?c_Calls_init ?k_Calls_init ?n_Calls_tell ?i_Calls_tell ?l_Calls_tell ?c_Calls_tell ?k_Calls_tell ?n_Calls_worth ?i_Calls_worth ?l_Calls_worth ?lT_Calls_worth ?c_Calls_worth ?k_Calls_worth ?n_Calls_tellings ?i_Calls_tellings ?l_Calls_tellings ?lT_Calls_tellings ?c_Calls_tellings ?k_Calls_tellings ?n_Calls_worths_by_day ?i_Calls_worths_by_day ?l_Calls_worths_by_day ?c_Calls_worths_by_day ?k_Calls_worths_by_day ?n_call_place ?l_call_place ?c_call_place ?k_call_place ?n_joined_size ?l_joined_size ?c_joined_size ?k_joined_size ?n_joined_depth ?l_joined_depth ?c_joined_depth ?k_joined_depth ?n_check_joined ?l_check_joined ?c_check_joined ?k_check_joined ?n_joined_told ?l_joined_told ?c_joined_told ?k_joined_told ?n_Level_init ?i_Level_init ?l_Level_init ?c_Level_init ?k_Level_init ?n_Level_worth ?i_Level_worth ?l_Level_worth ?c_Level_worth ?k_Level_worth ?n_Level_told ?i_Level_told ?l_Level_told ?c_Level_told ?k_Level_told ?n_Called_init ?i_Called_init ?l_Called_init ?lT_Called_init ?c_Called_init ?k_Called_init ?n_Called_worth ?i_Called_worth ?l_Called_worth ?c_Called_worth ?k_Called_worth ?n_Called_told ?i_Called_told ?l_Called_told ?c_Called_told ?k_Called_told ?n_Least_init ?i_Least_init ?l_Least_init ?c_Least_init ?k_Least_init ?n_Least_worth ?i_Least_worth ?l_Least_worth ?c_Least_worth ?k_Least_worth ?n_Least_told ?i_Least_told ?l_Least_told ?c_Least_told ?k_Least_told ?n_Greatest_init ?i_Greatest_init ?l_Greatest_init ?c_Greatest_init ?k_Greatest_init ?n_Greatest_worth ?i_Greatest_worth ?l_Greatest_worth ?c_Greatest_worth ?k_Greatest_worth ?n_Greatest_told ?i_Greatest_told ?l_Greatest_told ?c_Greatest_told ?k_Greatest_told ?n_l_mixed ?l_l_mixed ?c_l_mixed ?k_l_mixed ?n_l_next ?l_l_next ?c_l_next ?k_l_next ?n_l_word ?l_l_word ?c_l_word ?k_l_word ?n_l_words ?l_l_words ?c_l_words ?k_l_words ?n_l_level ?l_l_level ?c_l_level ?k_l_level ?n_l_day ?l_l_day ?c_l_day ?k_l_day ?n_l_calls ?l_l_calls ?c_l_calls ?k_l_calls ?n_l_told ?l_l_told ?c_l_told ?k_l_told ?n_l_alike ?l_l_alike ?c_l_alike ?k_l_alike ?n_l_build ?l_l_build ?c_l_build ?k_l_build ?n_l_call_worth ?l_l_call_worth ?c_l_call_worth ?k_l_call_worth ?n_l_worth ?l_l_worth ?c_l_worth ?k_l_worth ?n_l_beside ?l_l_beside ?c_l_beside ?k_l_beside ?n_l_asked ?l_l_asked ?c_l_asked ?k_l_asked ?n_law ?l_law ?c_law ?k_law ?n_SMALL_LETTERS ?n_LONGEST_NAME ?n_MOST_DAY ?n_MOST_WORTH ?n_MOST_TELLINGS ?n_LEAST_TERMS ?n_MOST_TERMS ?n_MOST_SIZE ?n_MOST_DEPTH ?z_len ?z_range ?z_max ?z_min ?z_isinstance ?z_all ?z_sum ?z_str ?z_bool ?z_int ?z_list ?z_tuple ?z_zip
    (case n_Called => first | k_is | k_exc | kit_is | kts_exm | kernel_rfl)
    (case pg_Called => first | k_is | k_exc | kit_is | kts_exm | kernel_rfl)
    (case hd_Called => first | k_is | k_exc | kit_is | kts_exm | kernel_rfl)
    (case po_Called => first | k_is | k_exc | kit_is | kts_exm | kernel_rfl)
    (case sa_Called => first | k_is | k_exc | kit_is | kts_exm | kernel_rfl)
    (case mk_Called => first | k_is | k_exc | kit_is | kts_exm | kernel_rfl)
    (case kc_Called => first | k_is | k_exc | kit_is | kts_exm | kernel_rfl)
    (case no_Called_when => first | k_is | k_exc | kit_is | kts_exm | kernel_rfl)
    (case no_Called_town => first | k_is | k_exc | kit_is | kts_exm | kernel_rfl)
    (case no_Called_size => first | k_is | k_exc | kit_is | kts_exm | kernel_rfl)
    (case no_Called_depth => first | k_is | k_exc | kit_is | kts_exm | kernel_rfl)
    (case n_Calls => first | k_is | k_exc | kit_is | kts_exm | kernel_rfl)
    (case pg_Calls => first | k_is | k_exc | kit_is | kts_exm | kernel_rfl)
    (case hd_Calls => first | k_is | k_exc | kit_is | kts_exm | kernel_rfl)
    (case po_Calls => first | k_is | k_exc | kit_is | kts_exm | kernel_rfl)
    (case sa_Calls => first | k_is | k_exc | kit_is | kts_exm | kernel_rfl)
    (case mk_Calls => first | k_is | k_exc | kit_is | kts_exm | kernel_rfl)
    (case kc_Calls => first | k_is | k_exc | kit_is | kts_exm | kernel_rfl)
    (case no_Calls_rows => first | k_is | k_exc | kit_is | kts_exm | kernel_rfl)
    (case n_Greatest => first | k_is | k_exc | kit_is | kts_exm | kernel_rfl)
    (case pg_Greatest => first | k_is | k_exc | kit_is | kts_exm | kernel_rfl)
    (case hd_Greatest => first | k_is | k_exc | kit_is | kts_exm | kernel_rfl)
    (case po_Greatest => first | k_is | k_exc | kit_is | kts_exm | kernel_rfl)
    (case sa_Greatest => first | k_is | k_exc | kit_is | kts_exm | kernel_rfl)
    (case mk_Greatest => first | k_is | k_exc | kit_is | kts_exm | kernel_rfl)
    (case kc_Greatest => first | k_is | k_exc | kit_is | kts_exm | kernel_rfl)
    (case no_Greatest_terms => first | k_is | k_exc | kit_is | kts_exm | kernel_rfl)
    (case no_Greatest_size => first | k_is | k_exc | kit_is | kts_exm | kernel_rfl)
    (case no_Greatest_depth => first | k_is | k_exc | kit_is | kts_exm | kernel_rfl)
    (case n_Least => first | k_is | k_exc | kit_is | kts_exm | kernel_rfl)
    (case pg_Least => first | k_is | k_exc | kit_is | kts_exm | kernel_rfl)
    (case hd_Least => first | k_is | k_exc | kit_is | kts_exm | kernel_rfl)
    (case po_Least => first | k_is | k_exc | kit_is | kts_exm | kernel_rfl)
    (case sa_Least => first | k_is | k_exc | kit_is | kts_exm | kernel_rfl)
    (case mk_Least => first | k_is | k_exc | kit_is | kts_exm | kernel_rfl)
    (case kc_Least => first | k_is | k_exc | kit_is | kts_exm | kernel_rfl)
    (case no_Least_terms => first | k_is | k_exc | kit_is | kts_exm | kernel_rfl)
    (case no_Least_size => first | k_is | k_exc | kit_is | kts_exm | kernel_rfl)
    (case no_Least_depth => first | k_is | k_exc | kit_is | kts_exm | kernel_rfl)
    (case n_Level => first | k_is | k_exc | kit_is | kts_exm | kernel_rfl)
    (case pg_Level => first | k_is | k_exc | kit_is | kts_exm | kernel_rfl)
    (case hd_Level => first | k_is | k_exc | kit_is | kts_exm | kernel_rfl)
    (case po_Level => first | k_is | k_exc | kit_is | kts_exm | kernel_rfl)
    (case sa_Level => first | k_is | k_exc | kit_is | kts_exm | kernel_rfl)
    (case mk_Level => first | k_is | k_exc | kit_is | kts_exm | kernel_rfl)
    (case kc_Level => first | k_is | k_exc | kit_is | kts_exm | kernel_rfl)
    (case no_Level_level => first | k_is | k_exc | kit_is | kts_exm | kernel_rfl)
    (case no_Level_size => first | k_is | k_exc | kit_is | kts_exm | kernel_rfl)
    (case no_Level_depth => first | k_is | k_exc | kit_is | kts_exm | kernel_rfl)
    (case n_is_made_of => first | k_is | k_exc | kit_is | kts_exm | kernel_rfl)
    (case l_is_made_of => first | k_is | k_exc | kit_is | kts_exm | kernel_rfl)
    (case c_is_made_of => first | k_is | k_exc | kit_is | kts_exm | kernel_rfl)
    (case k_is_made_of => first | k_is | k_exc | kit_is | kts_exm | kernel_rfl)
    (case n_is_word => first | k_is | k_exc | kit_is | kts_exm | kernel_rfl)
    (case l_is_word => first | k_is | k_exc | kit_is | kts_exm | kernel_rfl)
    (case c_is_word => first | k_is | k_exc | kit_is | kts_exm | kernel_rfl)
    (case k_is_word => first | k_is | k_exc | kit_is | kts_exm | kernel_rfl)
    (case n_is_name => first | k_is | k_exc | kit_is | kts_exm | kernel_rfl)
    (case l_is_name => first | k_is | k_exc | kit_is | kts_exm | kernel_rfl)
    (case c_is_name => first | k_is | k_exc | kit_is | kts_exm | kernel_rfl)
    (case k_is_name => first | k_is | k_exc | kit_is | kts_exm | kernel_rfl)
    (case n_is_number => first | k_is | k_exc | kit_is | kts_exm | kernel_rfl)
    (case l_is_number => first | k_is | k_exc | kit_is | kts_exm | kernel_rfl)
    (case c_is_number => first | k_is | k_exc | kit_is | kts_exm | kernel_rfl)
    (case k_is_number => first | k_is | k_exc | kit_is | kts_exm | kernel_rfl)
    (case n_is_within => first | k_is | k_exc | kit_is | kts_exm | kernel_rfl)
    (case l_is_within => first | k_is | k_exc | kit_is | kts_exm | kernel_rfl)
    (case c_is_within => first | k_is | k_exc | kit_is | kts_exm | kernel_rfl)
    (case k_is_within => first | k_is | k_exc | kit_is | kts_exm | kernel_rfl)
    (case n_is_day => first | k_is | k_exc | kit_is | kts_exm | kernel_rfl)
    (case l_is_day => first | k_is | k_exc | kit_is | kts_exm | kernel_rfl)
    (case c_is_day => first | k_is | k_exc | kit_is | kts_exm | kernel_rfl)
    (case k_is_day => first | k_is | k_exc | kit_is | kts_exm | kernel_rfl)
    (case n_is_worth => first | k_is | k_exc | kit_is | kts_exm | kernel_rfl)
    (case l_is_worth => first | k_is | k_exc | kit_is | kts_exm | kernel_rfl)
    (case c_is_worth => first | k_is | k_exc | kit_is | kts_exm | kernel_rfl)
    (case k_is_worth => first | k_is | k_exc | kit_is | kts_exm | kernel_rfl)
    (case n_check_name => first | k_is | k_exc | kit_is | kts_exm | kernel_rfl)
    (case l_check_name => first | k_is | k_exc | kit_is | kts_exm | kernel_rfl)
    (case c_check_name => first | k_is | k_exc | kit_is | kts_exm | kernel_rfl)
    (case k_check_name => first | k_is | k_exc | kit_is | kts_exm | kernel_rfl)
    (case n_check_day => first | k_is | k_exc | kit_is | kts_exm | kernel_rfl)
    (case l_check_day => first | k_is | k_exc | kit_is | kts_exm | kernel_rfl)
    (case c_check_day => first | k_is | k_exc | kit_is | kts_exm | kernel_rfl)
    (case k_check_day => first | k_is | k_exc | kit_is | kts_exm | kernel_rfl)
    (case n_check_worth => first | k_is | k_exc | kit_is | kts_exm | kernel_rfl)
    (case l_check_worth => first | k_is | k_exc | kit_is | kts_exm | kernel_rfl)
    (case c_check_worth => first | k_is | k_exc | kit_is | kts_exm | kernel_rfl)
    (case k_check_worth => first | k_is | k_exc | kit_is | kts_exm | kernel_rfl)
    (case n_Calls_init => first | k_is | k_exc | kit_is | kts_exm | kernel_rfl)
    (case i_Calls_init => first | k_is | k_exc | kit_is | kts_exm | kernel_rfl)
    (case l_Calls_init => first | k_is | k_exc | kit_is | kts_exm | kernel_rfl)
    (case c_Calls_init => first | k_is | k_exc | kit_is | kts_exm | kernel_rfl)
    (case k_Calls_init => first | k_is | k_exc | kit_is | kts_exm | kernel_rfl)
    (case n_Calls_tell => first | k_is | k_exc | kit_is | kts_exm | kernel_rfl)
    (case i_Calls_tell => first | k_is | k_exc | kit_is | kts_exm | kernel_rfl)
    (case l_Calls_tell => first | k_is | k_exc | kit_is | kts_exm | kernel_rfl)
    (case c_Calls_tell => first | k_is | k_exc | kit_is | kts_exm | kernel_rfl)
    (case k_Calls_tell => first | k_is | k_exc | kit_is | kts_exm | kernel_rfl)
    (case n_Calls_worth => first | k_is | k_exc | kit_is | kts_exm | kernel_rfl)
    (case i_Calls_worth => first | k_is | k_exc | kit_is | kts_exm | kernel_rfl)
    (case l_Calls_worth => first | k_is | k_exc | kit_is | kts_exm | kernel_rfl)
    (case lT_Calls_worth => first | k_is | k_exc | kit_is | kts_exm | kernel_rfl)
    (case c_Calls_worth => first | k_is | k_exc | kit_is | kts_exm | kernel_rfl)
    (case k_Calls_worth => first | k_is | k_exc | kit_is | kts_exm | kernel_rfl)
    (case n_Calls_tellings => first | k_is | k_exc | kit_is | kts_exm | kernel_rfl)
    (case i_Calls_tellings => first | k_is | k_exc | kit_is | kts_exm | kernel_rfl)
    (case l_Calls_tellings => first | k_is | k_exc | kit_is | kts_exm | kernel_rfl)
    (case lT_Calls_tellings => first | k_is | k_exc | kit_is | kts_exm | kernel_rfl)
    (case c_Calls_tellings => first | k_is | k_exc | kit_is | kts_exm | kernel_rfl)
    (case k_Calls_tellings => first | k_is | k_exc | kit_is | kts_exm | kernel_rfl)
    (case n_Calls_worths_by_day => first | k_is | k_exc | kit_is | kts_exm | kernel_rfl)
    (case i_Calls_worths_by_day => first | k_is | k_exc | kit_is | kts_exm | kernel_rfl)
    (case l_Calls_worths_by_day => first | k_is | k_exc | kit_is | kts_exm | kernel_rfl)
    (case c_Calls_worths_by_day => first | k_is | k_exc | kit_is | kts_exm | kernel_rfl)
    (case k_Calls_worths_by_day => first | k_is | k_exc | kit_is | kts_exm | kernel_rfl)
    (case n_call_place => first | k_is | k_exc | kit_is | kts_exm | kernel_rfl)
    (case l_call_place => first | k_is | k_exc | kit_is | kts_exm | kernel_rfl)
    (case c_call_place => first | k_is | k_exc | kit_is | kts_exm | kernel_rfl)
    (case k_call_place => first | k_is | k_exc | kit_is | kts_exm | kernel_rfl)
    (case n_joined_size => first | k_is | k_exc | kit_is | kts_exm | kernel_rfl)
    (case l_joined_size => first | k_is | k_exc | kit_is | kts_exm | kernel_rfl)
    (case c_joined_size => first | k_is | k_exc | kit_is | kts_exm | kernel_rfl)
    (case k_joined_size => first | k_is | k_exc | kit_is | kts_exm | kernel_rfl)
    (case n_joined_depth => first | k_is | k_exc | kit_is | kts_exm | kernel_rfl)
    (case l_joined_depth => first | k_is | k_exc | kit_is | kts_exm | kernel_rfl)
    (case c_joined_depth => first | k_is | k_exc | kit_is | kts_exm | kernel_rfl)
    (case k_joined_depth => first | k_is | k_exc | kit_is | kts_exm | kernel_rfl)
    (case n_check_joined => first | k_is | k_exc | kit_is | kts_exm | kernel_rfl)
    (case l_check_joined => first | k_is | k_exc | kit_is | kts_exm | kernel_rfl)
    (case c_check_joined => first | k_is | k_exc | kit_is | kts_exm | kernel_rfl)
    (case k_check_joined => first | k_is | k_exc | kit_is | kts_exm | kernel_rfl)
    (case n_joined_told => first | k_is | k_exc | kit_is | kts_exm | kernel_rfl)
    (case l_joined_told => first | k_is | k_exc | kit_is | kts_exm | kernel_rfl)
    (case c_joined_told => first | k_is | k_exc | kit_is | kts_exm | kernel_rfl)
    (case k_joined_told => first | k_is | k_exc | kit_is | kts_exm | kernel_rfl)
    (case n_Level_init => first | k_is | k_exc | kit_is | kts_exm | kernel_rfl)
    (case i_Level_init => first | k_is | k_exc | kit_is | kts_exm | kernel_rfl)
    (case l_Level_init => first | k_is | k_exc | kit_is | kts_exm | kernel_rfl)
    (case c_Level_init => first | k_is | k_exc | kit_is | kts_exm | kernel_rfl)
    (case k_Level_init => first | k_is | k_exc | kit_is | kts_exm | kernel_rfl)
    (case n_Level_worth => first | k_is | k_exc | kit_is | kts_exm | kernel_rfl)
    (case i_Level_worth => first | k_is | k_exc | kit_is | kts_exm | kernel_rfl)
    (case l_Level_worth => first | k_is | k_exc | kit_is | kts_exm | kernel_rfl)
    (case c_Level_worth => first | k_is | k_exc | kit_is | kts_exm | kernel_rfl)
    (case k_Level_worth => first | k_is | k_exc | kit_is | kts_exm | kernel_rfl)
    (case n_Level_told => first | k_is | k_exc | kit_is | kts_exm | kernel_rfl)
    (case i_Level_told => first | k_is | k_exc | kit_is | kts_exm | kernel_rfl)
    (case l_Level_told => first | k_is | k_exc | kit_is | kts_exm | kernel_rfl)
    (case c_Level_told => first | k_is | k_exc | kit_is | kts_exm | kernel_rfl)
    (case k_Level_told => first | k_is | k_exc | kit_is | kts_exm | kernel_rfl)
    (case n_Called_init => first | k_is | k_exc | kit_is | kts_exm | kernel_rfl)
    (case i_Called_init => first | k_is | k_exc | kit_is | kts_exm | kernel_rfl)
    (case l_Called_init => first | k_is | k_exc | kit_is | kts_exm | kernel_rfl)
    (case lT_Called_init => first | k_is | k_exc | kit_is | kts_exm | kernel_rfl)
    (case c_Called_init => first | k_is | k_exc | kit_is | kts_exm | kernel_rfl)
    (case k_Called_init => first | k_is | k_exc | kit_is | kts_exm | kernel_rfl)
    (case n_Called_worth => first | k_is | k_exc | kit_is | kts_exm | kernel_rfl)
    (case i_Called_worth => first | k_is | k_exc | kit_is | kts_exm | kernel_rfl)
    (case l_Called_worth => first | k_is | k_exc | kit_is | kts_exm | kernel_rfl)
    (case c_Called_worth => first | k_is | k_exc | kit_is | kts_exm | kernel_rfl)
    (case k_Called_worth => first | k_is | k_exc | kit_is | kts_exm | kernel_rfl)
    (case n_Called_told => first | k_is | k_exc | kit_is | kts_exm | kernel_rfl)
    (case i_Called_told => first | k_is | k_exc | kit_is | kts_exm | kernel_rfl)
    (case l_Called_told => first | k_is | k_exc | kit_is | kts_exm | kernel_rfl)
    (case c_Called_told => first | k_is | k_exc | kit_is | kts_exm | kernel_rfl)
    (case k_Called_told => first | k_is | k_exc | kit_is | kts_exm | kernel_rfl)
    (case n_Least_init => first | k_is | k_exc | kit_is | kts_exm | kernel_rfl)
    (case i_Least_init => first | k_is | k_exc | kit_is | kts_exm | kernel_rfl)
    (case l_Least_init => first | k_is | k_exc | kit_is | kts_exm | kernel_rfl)
    (case c_Least_init => first | k_is | k_exc | kit_is | kts_exm | kernel_rfl)
    (case k_Least_init => first | k_is | k_exc | kit_is | kts_exm | kernel_rfl)
    (case n_Least_worth => first | k_is | k_exc | kit_is | kts_exm | kernel_rfl)
    (case i_Least_worth => first | k_is | k_exc | kit_is | kts_exm | kernel_rfl)
    (case l_Least_worth => first | k_is | k_exc | kit_is | kts_exm | kernel_rfl)
    (case c_Least_worth => first | k_is | k_exc | kit_is | kts_exm | kernel_rfl)
    (case k_Least_worth => first | k_is | k_exc | kit_is | kts_exm | kernel_rfl)
    (case n_Least_told => first | k_is | k_exc | kit_is | kts_exm | kernel_rfl)
    (case i_Least_told => first | k_is | k_exc | kit_is | kts_exm | kernel_rfl)
    (case l_Least_told => first | k_is | k_exc | kit_is | kts_exm | kernel_rfl)
    (case c_Least_told => first | k_is | k_exc | kit_is | kts_exm | kernel_rfl)
    (case k_Least_told => first | k_is | k_exc | kit_is | kts_exm | kernel_rfl)
    (case n_Greatest_init => first | k_is | k_exc | kit_is | kts_exm | kernel_rfl)
    (case i_Greatest_init => first | k_is | k_exc | kit_is | kts_exm | kernel_rfl)
    (case l_Greatest_init => first | k_is | k_exc | kit_is | kts_exm | kernel_rfl)
    (case c_Greatest_init => first | k_is | k_exc | kit_is | kts_exm | kernel_rfl)
    (case k_Greatest_init => first | k_is | k_exc | kit_is | kts_exm | kernel_rfl)
    (case n_Greatest_worth => first | k_is | k_exc | kit_is | kts_exm | kernel_rfl)
    (case i_Greatest_worth => first | k_is | k_exc | kit_is | kts_exm | kernel_rfl)
    (case l_Greatest_worth => first | k_is | k_exc | kit_is | kts_exm | kernel_rfl)
    (case c_Greatest_worth => first | k_is | k_exc | kit_is | kts_exm | kernel_rfl)
    (case k_Greatest_worth => first | k_is | k_exc | kit_is | kts_exm | kernel_rfl)
    (case n_Greatest_told => first | k_is | k_exc | kit_is | kts_exm | kernel_rfl)
    (case i_Greatest_told => first | k_is | k_exc | kit_is | kts_exm | kernel_rfl)
    (case l_Greatest_told => first | k_is | k_exc | kit_is | kts_exm | kernel_rfl)
    (case c_Greatest_told => first | k_is | k_exc | kit_is | kts_exm | kernel_rfl)
    (case k_Greatest_told => first | k_is | k_exc | kit_is | kts_exm | kernel_rfl)
    (case n_l_mixed => first | k_is | k_exc | kit_is | kts_exm | kernel_rfl)
    (case l_l_mixed => first | k_is | k_exc | kit_is | kts_exm | kernel_rfl)
    (case c_l_mixed => first | k_is | k_exc | kit_is | kts_exm | kernel_rfl)
    (case k_l_mixed => first | k_is | k_exc | kit_is | kts_exm | kernel_rfl)
    (case n_l_next => first | k_is | k_exc | kit_is | kts_exm | kernel_rfl)
    (case l_l_next => first | k_is | k_exc | kit_is | kts_exm | kernel_rfl)
    (case c_l_next => first | k_is | k_exc | kit_is | kts_exm | kernel_rfl)
    (case k_l_next => first | k_is | k_exc | kit_is | kts_exm | kernel_rfl)
    (case n_l_word => first | k_is | k_exc | kit_is | kts_exm | kernel_rfl)
    (case l_l_word => first | k_is | k_exc | kit_is | kts_exm | kernel_rfl)
    (case c_l_word => first | k_is | k_exc | kit_is | kts_exm | kernel_rfl)
    (case k_l_word => first | k_is | k_exc | kit_is | kts_exm | kernel_rfl)
    (case n_l_words => first | k_is | k_exc | kit_is | kts_exm | kernel_rfl)
    (case l_l_words => first | k_is | k_exc | kit_is | kts_exm | kernel_rfl)
    (case c_l_words => first | k_is | k_exc | kit_is | kts_exm | kernel_rfl)
    (case k_l_words => first | k_is | k_exc | kit_is | kts_exm | kernel_rfl)
    (case n_l_level => first | k_is | k_exc | kit_is | kts_exm | kernel_rfl)
    (case l_l_level => first | k_is | k_exc | kit_is | kts_exm | kernel_rfl)
    (case c_l_level => first | k_is | k_exc | kit_is | kts_exm | kernel_rfl)
    (case k_l_level => first | k_is | k_exc | kit_is | kts_exm | kernel_rfl)
    (case n_l_day => first | k_is | k_exc | kit_is | kts_exm | kernel_rfl)
    (case l_l_day => first | k_is | k_exc | kit_is | kts_exm | kernel_rfl)
    (case c_l_day => first | k_is | k_exc | kit_is | kts_exm | kernel_rfl)
    (case k_l_day => first | k_is | k_exc | kit_is | kts_exm | kernel_rfl)
    (case n_l_calls => first | k_is | k_exc | kit_is | kts_exm | kernel_rfl)
    (case l_l_calls => first | k_is | k_exc | kit_is | kts_exm | kernel_rfl)
    (case c_l_calls => first | k_is | k_exc | kit_is | kts_exm | kernel_rfl)
    (case k_l_calls => first | k_is | k_exc | kit_is | kts_exm | kernel_rfl)
    (case n_l_told => first | k_is | k_exc | kit_is | kts_exm | kernel_rfl)
    (case l_l_told => first | k_is | k_exc | kit_is | kts_exm | kernel_rfl)
    (case c_l_told => first | k_is | k_exc | kit_is | kts_exm | kernel_rfl)
    (case k_l_told => first | k_is | k_exc | kit_is | kts_exm | kernel_rfl)
    (case n_l_alike => first | k_is | k_exc | kit_is | kts_exm | kernel_rfl)
    (case l_l_alike => first | k_is | k_exc | kit_is | kts_exm | kernel_rfl)
    (case c_l_alike => first | k_is | k_exc | kit_is | kts_exm | kernel_rfl)
    (case k_l_alike => first | k_is | k_exc | kit_is | kts_exm | kernel_rfl)
    (case n_l_build => first | k_is | k_exc | kit_is | kts_exm | kernel_rfl)
    (case l_l_build => first | k_is | k_exc | kit_is | kts_exm | kernel_rfl)
    (case c_l_build => first | k_is | k_exc | kit_is | kts_exm | kernel_rfl)
    (case k_l_build => first | k_is | k_exc | kit_is | kts_exm | kernel_rfl)
    (case n_l_call_worth => first | k_is | k_exc | kit_is | kts_exm | kernel_rfl)
    (case l_l_call_worth => first | k_is | k_exc | kit_is | kts_exm | kernel_rfl)
    (case c_l_call_worth => first | k_is | k_exc | kit_is | kts_exm | kernel_rfl)
    (case k_l_call_worth => first | k_is | k_exc | kit_is | kts_exm | kernel_rfl)
    (case n_l_worth => first | k_is | k_exc | kit_is | kts_exm | kernel_rfl)
    (case l_l_worth => first | k_is | k_exc | kit_is | kts_exm | kernel_rfl)
    (case c_l_worth => first | k_is | k_exc | kit_is | kts_exm | kernel_rfl)
    (case k_l_worth => first | k_is | k_exc | kit_is | kts_exm | kernel_rfl)
    (case n_l_beside => first | k_is | k_exc | kit_is | kts_exm | kernel_rfl)
    (case l_l_beside => first | k_is | k_exc | kit_is | kts_exm | kernel_rfl)
    (case c_l_beside => first | k_is | k_exc | kit_is | kts_exm | kernel_rfl)
    (case k_l_beside => first | k_is | k_exc | kit_is | kts_exm | kernel_rfl)
    (case n_l_asked => first | k_is | k_exc | kit_is | kts_exm | kernel_rfl)
    (case l_l_asked => first | k_is | k_exc | kit_is | kts_exm | kernel_rfl)
    (case c_l_asked => first | k_is | k_exc | kit_is | kts_exm | kernel_rfl)
    (case k_l_asked => first | k_is | k_exc | kit_is | kts_exm | kernel_rfl)
    (case n_law => first | k_is | k_exc | kit_is | kts_exm | kernel_rfl)
    (case l_law => first | k_is | k_exc | kit_is | kts_exm | kernel_rfl)
    (case c_law => first | k_is | k_exc | kit_is | kts_exm | kernel_rfl)
    (case k_law => first | k_is | k_exc | kit_is | kts_exm | kernel_rfl)
    (case n_SMALL_LETTERS => first | k_is | k_exc | kit_is | kts_exm | kernel_rfl)
    (case n_LONGEST_NAME => first | k_is | k_exc | kit_is | kts_exm | kernel_rfl)
    (case n_MOST_DAY => first | k_is | k_exc | kit_is | kts_exm | kernel_rfl)
    (case n_MOST_WORTH => first | k_is | k_exc | kit_is | kts_exm | kernel_rfl)
    (case n_MOST_TELLINGS => first | k_is | k_exc | kit_is | kts_exm | kernel_rfl)
    (case n_LEAST_TERMS => first | k_is | k_exc | kit_is | kts_exm | kernel_rfl)
    (case n_MOST_TERMS => first | k_is | k_exc | kit_is | kts_exm | kernel_rfl)
    (case n_MOST_SIZE => first | k_is | k_exc | kit_is | kts_exm | kernel_rfl)
    (case n_MOST_DEPTH => first | k_is | k_exc | kit_is | kts_exm | kernel_rfl)
    (case z_len => first | k_is | k_exc | kit_is | kts_exm | kernel_rfl)
    (case z_range => first | k_is | k_exc | kit_is | kts_exm | kernel_rfl)
    (case z_max => first | k_is | k_exc | kit_is | kts_exm | kernel_rfl)
    (case z_min => first | k_is | k_exc | kit_is | kts_exm | kernel_rfl)
    (case z_isinstance => first | k_is | k_exc | kit_is | kts_exm | kernel_rfl)
    (case z_all => first | k_is | k_exc | kit_is | kts_exm | kernel_rfl)
    (case z_sum => first | k_is | k_exc | kit_is | kts_exm | kernel_rfl)
    (case z_str => first | k_is | k_exc | kit_is | kts_exm | kernel_rfl)
    (case z_bool => first | k_is | k_exc | kit_is | kts_exm | kernel_rfl)
    (case z_int => first | k_is | k_exc | kit_is | kts_exm | kernel_rfl)
    (case z_list => first | k_is | k_exc | kit_is | kts_exm | kernel_rfl)
    (case z_tuple => first | k_is | k_exc | kit_is | kts_exm | kernel_rfl)
    (case z_zip => first | k_is | k_exc | kit_is | kts_exm | kernel_rfl)
