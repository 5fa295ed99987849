import PyProof.Rows.All
import Wide.All
import OpenK.AllK
import Wide.FinOn
import PyProof.EqAt
import PyProof.EqKinds
import PyProof.TupleCall
import KE.BitLaws
import PySem.Challenge.RW_callcoin_k51_tables_made
set_option Elab.async false
set_option linter.all false
set_option maxRecDepth 100000
namespace L2
open PySem PySem.Spec PyProof.Rows
abbrev Key := Sum Int Str
def keyIs : Key → Value → Bool
  | .inl k, v => Value.isInt k v
  | .inr x, v => Value.isStrOf x v
def keyH (w : World) : Key → Int
  | .inl k => hashInt k
  | .inr x => hashStr w x
theorem keyIs_shape : ∀ {k : Key} {v : Value}, keyIs k v = true → (∃ i t, k = Sum.inl i ∧ v = Value.int i t) ∨ (∃ x t, k = Sum.inr x ∧ v = Value.str x t)
  | .inl i, v, h => by
    obtain ⟨t, e⟩ := Value.isInt_shape (k := i) (v := v) h
    exact .inl ⟨i, t, rfl, e⟩
  | .inr x, v, h => by
    obtain ⟨t, e⟩ := Value.isStrOf_shape (x := x) (v := v) h
    exact .inr ⟨x, t, rfl, e⟩
theorem keyIs_int (i : Int) (t : Tok) : keyIs (.inl i) (.int i t) = true := by simp [keyIs, Value.isInt]
theorem keyIs_str (x : Str) (t : Tok) : keyIs (.inr x) (.str x t) = true := by simp [keyIs, Value.isStrOf]
theorem key_ll (a b : Int) : decide ((Sum.inl a : Key) = Sum.inl b) = (a == b) := by
  by_cases e : a = b
  · subst e; simp
  · have h : ¬ (Sum.inl a : Key) = Sum.inl b := fun q => e (Sum.inl.inj q)
    rw [decide_eq_false h]
    exact (beq_eq_false_iff_ne.mpr e).symm
theorem key_rr (a b : Str) : decide ((Sum.inr a : Key) = Sum.inr b) = decide (a = b) := by
  by_cases e : a = b
  · subst e; simp
  · have h : ¬ (Sum.inr a : Key) = Sum.inr b := fun q => e (Sum.inr.inj q)
    rw [decide_eq_false h, decide_eq_false e]
theorem key_lr (a : Int) (b : Str) : decide ((Sum.inl a : Key) = Sum.inr b) = false := decide_eq_false (fun q => nomatch q)
theorem key_rl (a : Str) (b : Int) : decide ((Sum.inr a : Key) = Sum.inl b) = false := decide_eq_false (fun q => nomatch q)
def mixKind (prog : Program) (w : World) : PySem.KeyKind prog w Key where
  is := keyIs
  hash := keyH w
  inj := fun v a b ha hb => by
    rcases keyIs_shape ha with ⟨i, t, rfl, rfl⟩ | ⟨x, t, rfl, rfl⟩
    · rcases keyIs_shape hb with ⟨j, u, rfl, e⟩ | ⟨y, u, rfl, e⟩
      · injection e with e1 _; rw [e1]
      · exact nomatch e
    · rcases keyIs_shape hb with ⟨j, u, rfl, e⟩ | ⟨y, u, rfl, e⟩
      · exact nomatch e
      · injection e with e1 _; rw [e1]
  byValue := fun k v h => by
    rcases keyIs_shape h with ⟨i, t, rfl, rfl⟩ | ⟨x, t, rfl, rfl⟩ <;> rfl
  pyHash := fun hv h => by
    rcases keyIs_shape hv with ⟨i, t, rfl, rfl⟩ | ⟨x, t, rfl, rfl⟩
    · exact wpAny_pyHash_int h
    · exact wpAny_pyHash_str h
  eqBool := fun hu hv h => by
    rcases keyIs_shape hu with ⟨i, t, rfl, rfl⟩ | ⟨x, t, rfl, rfl⟩
    · rcases keyIs_shape hv with ⟨j, u, rfl, rfl⟩ | ⟨y, u, rfl, rfl⟩
      · rw [key_ll] at h; exact wpAny_eqBool_int h
      · rw [key_lr] at h; exact SeqAt.EqAt.int_str i t y u _ _ _ _ h
    · rcases keyIs_shape hv with ⟨j, u, rfl, rfl⟩ | ⟨y, u, rfl, rfl⟩
      · rw [key_rl] at h; exact SeqAt.EqAt.str_int x t j u _ _ _ _ h
      · rw [key_rr] at h; exact wpAny_eqBool_str h
  «strs» := fun k x t v h => by
    rcases keyIs_shape h with ⟨i, u, rfl, e⟩ | ⟨y, u, rfl, e⟩
    · exact nomatch e
    · injection e with e1 _
      subst e1
      cases v <;> rfl
theorem mixKind_int (prog : Program) (w : World) (i : Int) (t : Tok) : (mixKind prog w).is (.inl i) (.int i t) = true := keyIs_int i t
theorem mixKind_str (prog : Program) (w : World) (x : Str) (t : Tok) : (mixKind prog w).is (.inr x) (.str x t) = true := keyIs_str x t
end L2
namespace L2
open PySem PySem.Spec PyProof.Rows
inductive V where
  | non | bl (b : Bool) | int (i : Int) | str (x : Str) | byt (b : Array UInt8) | flt (b : UInt64) | ref (a : Addr) | ty (n : String)
  deriving DecidableEq
def RelV : V → Value → Prop
  | .non, u => u = Value.none
  | .bl b, u => u = Value.bool b
  | .int i, u => ∃ t, u = Value.int i t
  | .str x, u => ∃ t, u = Value.str x t
  | .byt b, u => ∃ t, u = Value.bytes b t
  | .flt b, u => ∃ t, u = Value.float b t
  | .ref a, u => u = Value.ref a
  | .ty n, u => u = Value.type n
abbrev Vals : List V → List Value → Prop := Paired RelV
theorem Vals.length {xs : List V} {us : List Value} (r : Vals xs us) : xs.length = us.length := Paired.length r
theorem Vals.get : ∀ {xs : List V} {us : List Value} {i : Nat} {x : V}, Vals xs us → xs[i]? = some x → ∃ u, us[i]? = some u ∧ RelV x u
  | _, _, _, _, .nil, e => by simp at e
  | _, _, 0, _, .cons r _, e => by simp at e; subst e; exact ⟨_, rfl, r⟩
  | _, _, i + 1, x, .cons _ t, e => by
    obtain ⟨u, h1, h2⟩ := Vals.get (i := i) (x := x) t (by simpa using e)
    exact ⟨u, by simpa using h1, h2⟩
theorem Vals.set {x : V} {u : Value} (r : RelV x u) : ∀ {xs : List V} {us : List Value} (i : Nat), Vals xs us → Vals (xs.set i x) (us.set i u)
  | _, _, _, .nil => .nil
  | _, _, 0, .cons _ t => .cons r t
  | _, _, i + 1, .cons q t => .cons q (Vals.set r i t)
theorem Vals.append : ∀ {xs ys : List V} {us ws : List Value}, Vals xs us → Vals ys ws → Vals (xs ++ ys) (us ++ ws)
  | _, _, _, _, .nil, s => s
  | _, _, _, _, .cons r t, s => .cons r (Vals.append t s)
theorem Vals.take : ∀ {xs : List V} {us : List Value} (n : Nat), Vals xs us → Vals (xs.take n) (us.take n)
  | _, _, 0, _ => .nil
  | _, _, _ + 1, .nil => .nil
  | _, _, n + 1, .cons r t => .cons r (Vals.take n t)
theorem Vals.drop : ∀ {xs : List V} {us : List Value} (n : Nat), Vals xs us → Vals (xs.drop n) (us.drop n)
  | _, _, 0, r => r
  | _, _, _ + 1, .nil => .nil
  | _, _, n + 1, .cons _ t => Vals.drop n t
theorem Vals.none_of : ∀ {xs : List V} {us : List Value} {i : Nat}, Vals xs us → xs[i]? = none → us[i]? = none := fun {xs us i} r e => by
  have h1 := r.length
  have h2 : xs.length ≤ i := List.getElem?_eq_none_iff.mp e
  exact List.getElem?_eq_none_iff.mpr (by omega)
def RelO : Option V → Option Value → Prop
  | some v, some u => RelV v u
  | none, none => True
  | _, _ => False
def KV {κ : Type} : List (κ × V) → List (κ × Value) → Prop := Paired fun (p : κ × V) (q : κ × Value) => p.1 = q.1 ∧ RelV p.2 q.2
def kV : Key → V
  | .inl i => .int i
  | .inr x => .str x
inductive HO where
  | lst (xs : List V)
  | tup (xs : List V)
  | dK (kvs : List (Key × V)) | dT (kvs : List (List Key × V))
  | set (S : Int → Bool) (n : Nat)
  | ins (C dx : Addr) (fs : List (Str × V))
  | own (x : Addr)
  | xd (fs : List (Str × V))
  | met (f x : Addr)
  | rng (lo hi : Int)
  | frz (o : Obj) (u : HO)
  | tbl (ps : Array Value)
  | ext (φ : Heap → Prop)
abbrev Hp := Addr → Option HO
def upd (H : Hp) (a : Addr) (o : HO) : Hp := fun b => if b = a then some o else H b
theorem upd_same {H : Hp} {a : Addr} {o : HO} : upd H a o a = some o := by unfold upd; rw [if_pos rfl]
theorem upd_ne {H : Hp} {a b : Addr} {o : HO} (h : b ≠ a) : upd H a o b = H b := by unfold upd; rw [if_neg h]
theorem ne_of {H : Hp} {a b : Addr} {o u : HO} (h : H a = some o) (h' : H b = some u) (d : o ≠ u) : a ≠ b := by
  intro e; subst e; rw [h] at h'; exact d (Option.some.inj h')
theorem ne_of_none {H : Hp} {a b : Addr} {o : HO} (h : H a = some o) (h' : H b = none) : a ≠ b := by
  intro e; subst e; rw [h] at h'; cases h'
section
variable (P : Program) (w : World)
def ObjOk (H : Hp) (h : Heap) (a : Addr) : HO → Prop
  | .lst xs => xs.length ≤ sizeLine ∧ ∃ (its : List Value) (n : Nat), Vals xs its ∧ h.get? a = some { cls := .type "list", data := .seq its.toArray n }
  | .tup xs => xs.length ≤ sizeLine ∧ ∃ its : List Value, Vals xs its ∧ IsTup h a its.toArray
  | .dK kvs => kvs.length ≤ sizeLine ∧ (a == sysModules) = false ∧ ∃ vs, KV kvs vs ∧ h.DictOf (mixKind P w) a vs
  | .dT kvs => kvs.length ≤ sizeLine ∧ (a == sysModules) = false ∧ ∃ xs : List (List Key × Addr × Value),
      Paired (fun (p : List Key × V) (q : List Key × Addr × Value) => p.1 = q.1 ∧ H q.2.1 = some (.tup (p.1.map kV)) ∧ RelV p.2 q.2.2) kvs xs ∧
      ∃ o es ep, h.get? a = some o ∧ o.ExactDict ∧ o.data = .dict es ep ∧ es.toList = xs.map (entryOfKey (tupleKind (mixKind P w))) ∧ (xs.map (·.1)).Nodup
  | .set S n => h.SetOf (intKind P w) a S n
  | .ins C dx fs => H dx = some (.own a) ∧ fs.length ≤ 1000 ∧ dx ≠ a ∧ h.get? a = some (PySem.W.instObj C dx) ∧
      ∃ mA, h.Ns1 dx mA ∧ (∀ f, RelO (fs.lookup f) (mA f)) ∧ PySem.Within mA (fs.map (·.1))
  | .own _ => ∃ o, h.get? a = some o
  | .xd fs => ∃ mA, h.Ns1 a mA ∧ ∀ f, RelO (fs.lookup f) (mA f)
  | .rng lo hi => ∃ t u v, h.get? a = some { cls := .type "range", data := .fields #[.int lo t, .int hi u, .int 1 v] }
  | .frz o u => h.get? a = some o ∧ ObjOk H h a u
  | .tbl ps => h.get? a = some { cls := .none, data := .fields ps }
  | .met f x => h.get? a = some (PySem.W.methodObj (.ref f) (.ref x))
  | .ext φ => φ h ∧ (∃ o, h.get? a = some o) ∧ ∀ h1 h2 : Heap, φ h1 → (∀ o, h1.get? a = some o → h2.get? a = some o) → φ h2
def HOk (H : Hp) (h : Heap) : Prop := ∀ a o, H a = some o → ObjOk P w H h a o
end
section
variable {P : Program} {w : World} {H H' : Hp} {h h' : Heap} {a : Addr} {o : HO}
theorem ObjOk.lt (x : ObjOk P w H h a o) : a < h.objs.size := by
  cases o with
  | lst xs => obtain ⟨_, _, _, _, e⟩ := x; exact Heap.lt_size e
  | tup xs => obtain ⟨_, _, _, p⟩ := x; exact p.lt
  | dK kvs => obtain ⟨_, _, _, _, o, _, _, e, _⟩ := x; exact Heap.lt_size e
  | dT kvs => obtain ⟨_, _, _, _, o, _, _, e, _⟩ := x; exact Heap.lt_size e
  | set S n => obtain ⟨o, _, _, _, e, _⟩ := x; exact Heap.lt_size e
  | ins C dx fs => obtain ⟨_, _, _, e, _⟩ := x; exact Heap.lt_size e
  | own y => obtain ⟨_, e⟩ := x; exact Heap.lt_size e
  | xd fs => obtain ⟨_, ⟨_, _, _, e, _⟩, _⟩ := x; exact Heap.lt_size e
  | rng lo hi => obtain ⟨_, _, _, e⟩ := x; exact Heap.lt_size e
  | frz ob u => obtain ⟨e, _⟩ := x; exact Heap.lt_size e
  | tbl ps => exact Heap.lt_size (show h.get? a = some _ from x)
  | met f y => exact Heap.lt_size (show h.get? a = some _ from x)
  | ext φ => obtain ⟨_, ⟨_, e⟩, _⟩ := x; exact Heap.lt_size e
theorem Paired.mapP {α β : Type} {F G : α → β → Prop} : ∀ {l₁ : List α} {l₂ : List β}, Paired F l₁ l₂ → (∀ a b, F a b → G a b) → Paired G l₁ l₂
  | _, _, .nil, _ => .nil
  | _, _, .cons r t, f => .cons (f _ _ r) (Paired.mapP t f)
theorem ObjOk.stay (x : ObjOk P w H h a o) (k : ∀ b u, (b = a ∨ H b = some (.own a)) → h.get? b = some u → h'.get? b = some u)
    (ho : ∀ b, H b = some (.own a) → H' b = some (.own a)) (ht : ∀ b xs, H b = some (.tup xs) → H' b = some (.tup xs)) : ObjOk P w H' h' a o := by
  induction o with
  | lst xs => obtain ⟨z, its, n, r, e⟩ := x; exact ⟨z, its, n, r, k _ _ (.inl rfl) e⟩
  | tup xs => obtain ⟨z, its, r, ob, e, c⟩ := x; exact ⟨z, its, r, ob, k _ _ (.inl rfl) e, c⟩
  | dK kvs => obtain ⟨z, y, vs, r, ob, es, ep, e, c⟩ := x; exact ⟨z, y, vs, r, ob, es, ep, k _ _ (.inl rfl) e, c⟩
  | dT kvs =>
    obtain ⟨z, y, xs, r, ob, es, ep, e, c⟩ := x
    exact ⟨z, y, xs, Paired.mapP r fun p q z => ⟨z.1, ht _ _ z.2.1, z.2.2⟩, ob, es, ep, k _ _ (.inl rfl) e, c⟩
  | set S n => obtain ⟨ob, es, ep, t, e, c⟩ := x; exact ⟨ob, es, ep, t, k _ _ (.inl rfl) e, c⟩
  | ins C dx fs =>
    obtain ⟨d, z, ne, e, mA, ⟨od, es, ep, e2, c⟩, r⟩ := x
    exact ⟨ho _ d, z, ne, k _ _ (.inl rfl) e, mA, ⟨od, es, ep, k _ _ (.inr d) e2, c⟩, r⟩
  | own y => obtain ⟨ob, e⟩ := x; exact ⟨ob, k _ _ (.inl rfl) e⟩
  | xd fs => obtain ⟨mA, ⟨od, es, ep, e, c⟩, r⟩ := x; exact ⟨mA, ⟨od, es, ep, k _ _ (.inl rfl) e, c⟩, r⟩
  | rng lo hi => obtain ⟨t, u, v, e⟩ := x; exact ⟨t, u, v, k _ _ (.inl rfl) e⟩
  | frz ob u ih => obtain ⟨e, q⟩ := x; exact ⟨k _ _ (.inl rfl) e, ih q⟩
  | tbl ps =>
    have e : h.get? a = some { cls := .none, data := .fields ps } := x
    show h'.get? a = some { cls := .none, data := .fields ps }
    exact k a _ (.inl rfl) e
  | met f y =>
    have e : h.get? a = some (PySem.W.methodObj (.ref f) (.ref y)) := x
    show h'.get? a = some (PySem.W.methodObj (.ref f) (.ref y))
    exact k a _ (.inl rfl) e
  | ext φ => obtain ⟨p, ⟨o, e⟩, st⟩ := x; exact ⟨st _ _ p fun o q => k _ _ (.inl rfl) q, ⟨o, k _ _ (.inl rfl) e⟩, st⟩
theorem HOk.lt (x : HOk P w H h) (e : H a = some o) : a < h.objs.size := (x a o e).lt
theorem HOk.fresh (x : HOk P w H h) (e : h.objs.size ≤ a) : H a = none := by
  cases q : H a with
  | none => rfl
  | some u => exact absurd (Nat.lt_of_lt_of_le (x.lt q) e) (Nat.lt_irrefl _)
theorem HOk.kept (x : HOk P w H h) (k : ∀ b u, h.get? b = some u → h'.get? b = some u) : HOk P w H h' := fun a o e =>
  (x a o e).stay (fun b u _ q => k b u q) (fun _ q => q) fun _ _ q => q
theorem HOk.laid (x : HOk P w H h) (k : ∀ b u, h.get? b = some u → h'.get? b = some u) (hp : h.objs.size ≤ a) (new : ObjOk P w (upd H a o) h' a o) : HOk P w (upd H a o) h' := fun b u e => by
  have hn := x.fresh hp
  by_cases hb : b = a
  · subst hb; rw [upd_same] at e; cases e; exact new
  · rw [upd_ne hb] at e
    exact (x b u e).stay (fun c v _ q => k c v q) (fun c q => by rw [upd_ne (ne_of_none q hn)]; exact q) fun c xs q => by rw [upd_ne (ne_of_none q hn)]; exact q
end
def Rd (H : Hp) (a : Addr) (u : HO) : Prop := H a = some u ∨ ∃ o, H a = some (.frz o u)
theorem Rd.of {H : Hp} {a : Addr} {u : HO} (h : H a = some u) : Rd H a u := .inl h
theorem Rd.ok {P : Program} {w : World} {H : Hp} {h : Heap} {a : Addr} {u : HO} (r : Rd H a u) (x : HOk P w H h) : ObjOk P w H h a u := by
  rcases r with r | ⟨o, r⟩
  · exact x a u r
  · obtain ⟨_, q⟩ := x a _ r
    exact q
def Mut : Option HO → Prop
  | some (.lst _) => True
  | some (.dK _) => True
  | some (.dT _) => True
  | some (.set _ _) => True
  | some (.ins _ _ _) => True
  | some (.ext _) => True
  | _ => False
section
variable {P : Program} {w : World} {H : Hp} {h h' : Heap} {x e : Addr} {o' : HO}
theorem HOk.write (ok : HOk P w H h) (mu : Mut (H x)) (he : e = x ∨ H e = some (.own x)) (k : ∀ b u, b ≠ e → h.get? b = some u → h'.get? b = some u) (heo : ∃ u, h'.get? e = some u)
    (new : ObjOk P w (upd H x o') h' x o') : HOk P w (upd H x o') h' := fun b u q => by
  have nown : ∀ c y, H c = some (.own y) → c ≠ x := fun c y r z => by subst z; rw [r] at mu; exact mu
  have ntup : ∀ c xs, H c = some (.tup xs) → c ≠ x := fun c xs r z => by subst z; rw [r] at mu; exact mu
  by_cases hb : b = x
  · subst hb; rw [upd_same] at q; cases q; exact new
  · rw [upd_ne hb] at q
    by_cases hbe : b = e
    · have q' : H b = some (.own x) := by
        rcases he with z | z
        · exact absurd (hbe.trans z) hb
        · rw [hbe]; exact z
      rw [q] at q'; cases q'
      obtain ⟨v, hv⟩ := heo
      exact ⟨v, by rw [hbe]; exact hv⟩
    · refine (ok b u q).stay (fun c v hc r => k c v ?_ r) (fun c r => by rw [upd_ne (nown c b r)]; exact r) fun c xs r => by rw [upd_ne (ntup c xs r)]; exact r
      rcases hc with rfl | hc
      · exact hbe
      · rintro rfl
        rcases he with z | z
        · exact nown c b hc z
        · rw [hc] at z; cases z; exact hb rfl
end
structure Un (fs ex : List Addr) (H H' : Hp) (h h' : Heap) : Prop where
  keep : ∀ b o, h.get? b = some o → H b = none → b ∉ fs → b ∉ ex → h'.get? b = some o
  slot : ∀ b o, h.get? b = some o → H b = none → b ∈ fs → b ∉ ex → ∃ sl, h'.get? b = some { o with slots := sl }
  free : ∀ b o, h.get? b = some o → H b = none → b ∉ ex → H' b = none
  there : ∀ b o, h.get? b = some o → b ∉ ex → ∃ o', h'.get? b = some o'
  tups : ∀ b xs, H b = some (.tup xs) → H' b = some (.tup xs)
  frzs : ∀ b o u, H b = some (.frz o u) → H' b = some (.frz o u)
  tbls : ∀ b ps, H b = some (.tbl ps) → ∃ more, H' b = some (.tbl (ps ++ more))
section
variable {fs fs' ex ex' : List Addr} {H H1 H2 : Hp} {h h1 h2 h' : Heap} {a x e : Addr} {o : HO}
theorem Un.any (u : Un fs ex H H1 h h1) {b : Addr} {ob : Obj} (q : h.get? b = some ob) (n : H b = none) (hx : b ∉ ex) : ∃ sl, h1.get? b = some { ob with slots := sl } := by
  by_cases hb : b ∈ fs
  · exact u.slot b ob q n hb hx
  · exact ⟨ob.slots, u.keep b ob q n hb hx⟩
theorem Un.trans (a : Un fs ex H H1 h h1) (b : Un fs ex H1 H2 h1 h2) : Un fs ex H H2 h h2 where
  keep := fun c ob q n hc hx => b.keep c ob (a.keep c ob q n hc hx) (a.free c ob q n hx) hc hx
  slot := fun c ob q n hc hx => by
    obtain ⟨sl, e1⟩ := a.slot c ob q n hc hx
    obtain ⟨sl', e2⟩ := b.slot c _ e1 (a.free c ob q n hx) hc hx
    exact ⟨sl', e2⟩
  free := fun c ob q n hx => by
    obtain ⟨o', e1⟩ := a.there c ob q hx
    exact b.free c o' e1 (a.free c ob q n hx) hx
  there := fun c ob q hx => by
    obtain ⟨o', e1⟩ := a.there c ob q hx
    exact b.there c o' e1 hx
  tups := fun c xs q => b.tups c xs (a.tups c xs q)
  frzs := fun c ob xs q => b.frzs c ob xs (a.frzs c ob xs q)
  tbls := fun c ps q => by
    obtain ⟨m1, e1⟩ := a.tbls c ps q
    obtain ⟨m2, e2⟩ := b.tbls c _ e1
    exact ⟨m1 ++ m2, by rw [e2, Array.append_assoc]⟩
theorem Un.kept (k : ∀ b u, h.get? b = some u → h'.get? b = some u) : Un fs ex H H h h' :=
  ⟨fun b ob q _ _ _ => k b ob q, fun b ob q _ _ _ => ⟨ob.slots, k b ob q⟩, fun _ _ _ n _ => n, fun b ob q _ => ⟨ob, k b ob q⟩, fun _ _ q => q, fun _ _ _ q => q, fun _ ps q => ⟨#[], by rw [q]; simp⟩⟩
theorem Un.refl : Un fs ex H H h h := Un.kept fun _ _ q => q
theorem Un.laid (k : ∀ b u, h.get? b = some u → h'.get? b = some u) (hp : h.objs.size ≤ a) (hn : H a = none) : Un fs ex H (upd H a o) h h' where
  keep := fun b u q _ _ _ => k b u q
  slot := fun b u q _ _ _ => ⟨u.slots, k b u q⟩
  free := fun b u q n _ => by rw [upd_ne (Nat.ne_of_lt (Nat.lt_of_lt_of_le (Heap.lt_size q) hp))]; exact n
  there := fun b u q _ => ⟨u, k b u q⟩
  tups := fun b xs q => by rw [upd_ne (ne_of_none q hn)]; exact q
  frzs := fun b u xs q => by rw [upd_ne (ne_of_none q hn)]; exact q
  tbls := fun b ps q => ⟨#[], by rw [upd_ne (ne_of_none q hn), q]; simp⟩
theorem Un.write (mu : Mut (H x)) (he : e = x ∨ H e = some (.own x)) (k : ∀ b u, b ≠ e → h.get? b = some u → h'.get? b = some u) (heo : ∃ u, h'.get? e = some u) : Un fs ex H (upd H x o) h h' := by
  have hx : ∀ b, H b = none → b ≠ x := fun b n z => by subst z; rw [n] at mu; exact mu
  have hb : ∀ b, H b = none → b ≠ e := fun b n z => by
    subst z
    rcases he with r | r
    · exact hx b n r
    · rw [n] at r; cases r
  have hm : ∀ b u, H b = some u → ¬ Mut (some u) → b ≠ x := fun b u q nm z => by subst z; rw [q] at mu; exact nm mu
  refine ⟨fun b u q n _ _ => k b u (hb b n) q, fun b u q n _ _ => ⟨u.slots, k b u (hb b n) q⟩, fun b u q n _ => by rw [upd_ne (hx b n)]; exact n, fun b u q _ => ?_,
    fun b xs q => by rw [upd_ne (hm b _ q fun z => z)]; exact q, fun b u xs q => by rw [upd_ne (hm b _ q fun z => z)]; exact q, fun b ps q => ⟨#[], by rw [upd_ne (hm b _ q fun z => z), q]; simp⟩⟩
  by_cases hbe : b = e
  · subst hbe; exact heo
  · exact ⟨u, k b u hbe q⟩
theorem Un.mono (u : Un fs ex H H1 h h1) (hs : ∀ b ∈ fs, b ∈ fs') (hx : ∀ b ∈ ex, b ∈ ex') : Un fs' ex' H H1 h h1 :=
  ⟨fun b ob q n hb he => u.keep b ob q n (fun z => hb (hs b z)) fun z => he (hx b z), fun _ _ q n _ he => u.any q n fun z => he (hx _ z), fun b ob q n he => u.free b ob q n fun z => he (hx b z), fun b ob q he => u.there b ob q fun z => he (hx b z), u.tups, u.frzs, u.tbls⟩
end
def trk (h : Heap) (H : Hp) : List Addr := (List.range h.objs.size).filter fun a => (H a).isSome
def hidT (h : Heap) (H : Hp) : Heap := PySem.W.hideAll h (trk h H)
theorem hidT_size (h : Heap) (H : Hp) : (hidT h H).objs.size = h.objs.size := PySem.W.hideAll_size _ _
theorem hidT_get {h : Heap} {H : Hp} {b : Addr} {o : Obj} (e : h.get? b = some o) (n : H b = none) : (hidT h H).get? b = some o :=
  PySem.W.hideAll_get _ e fun hm => by
    have q : (H b).isSome = true := (List.mem_filter.mp hm).2
    rw [n] at q; simp at q
theorem of_hidT {h : Heap} {H : Hp} {b : Addr} {o : Obj} (e : (hidT h H).get? b = some o) : h.get? b = some o ∧ H b = none := by
  have e' : h.get? b = some o := PySem.W.of_hideAll (trk h H) e
  refine ⟨e', ?_⟩
  cases q : H b with
  | none => rfl
  | some x =>
    have hm : b ∈ trk h H := List.mem_filter.mpr ⟨List.mem_range.mpr (Heap.lt_size e'), by simp [q]⟩
    have z : (hidT h H).get? b = none := PySem.W.hideAll_none (trk h H) hm
    rw [z] at e; cases e
def allNews (g h : Heap) (L : Addr) : List (Addr × Obj) := (List.range h.objs.size).filterMap fun a => if a = L ∨ (g.get? a).isSome = true then none else (h.get? a).map fun o => (a, o)
def rest (g h : Heap) (L d : Addr) : List (Addr × Obj) := (allNews g h L).filter fun p => decide (p.1 ≠ d)
end L2
namespace L2
open PySem PySem.Spec PyProof.Rows
structure Mod (K : PySem.W.Frag) (mg : Str → Option Value) (base : Heap) : Prop where
  kin : K.In base
  glob : base.Ns mainGlobals mg
  blt : ∃ mb, base.Ns builtinsNs mb ∧ ∀ x : Str, x ≠ "__name__" → mb x = bootBuiltins x
  nolimit : base.NoLimit
structure Cx where
  prog : Program
  w : World
  K : PySem.W.Frag
  mg : Str → Option Value
  base : Heap
  A : Around
  N : List Str
  s_0 : Shared
  H_0 : Hp
  env : Env
  outer : List Env
  stack : List Env
  ex : List Addr
  fn : Str → Bool
  calm : Bool
  pn : List (Addr × Obj)
  xe : Value → Shared → Prop
def frs (l : List Env) : List Addr := l.filterMap (·.frame)
abbrev Cx.fs (X : Cx) : List Addr := frs X.outer
def Vis (sc : Scope) (x : Str) : Prop := sc.names.lookup x = some .local ∨ sc.names.lookup x = some .cell ∨ sc.names.lookup x = some .free
def Loc (sc : Scope) (x : Str) : Prop := sc.names.lookup x = some .local ∨ sc.names.lookup x = some .cell
def Look (env : Env) (h : Heap) (m : Str → Option Value) (x : Str) (u : Value) : Prop :=
  (env.kindOf x = some .local ∧ m x = some u) ∨ ((env.kindOf x = some .cell ∨ env.kindOf x = some .free) ∧ ∃ c, env.cells.lookup x = some c ∧ h.IsCell c (some u))
structure Cx.Ok (X : Cx) : Prop where
  mod : Mod X.K X.mg X.base
  kind : X.env.scope.kind = .function
  glob : X.env.globals = mainGlobals
  blt : X.env.builtins = builtinsNs
  above : X.s_0.heap.objs.size ≤ X.env.locals
  inj : ∀ x y c, X.env.cells.lookup x = some c → X.env.cells.lookup y = some c → x = y
  has : ∀ x, (X.env.kindOf x = some .cell ∨ X.env.kindOf x = some .free) → ∃ c, X.env.cells.lookup x = some c
  cab : ∀ x c, X.fn x = true → X.env.cells.lookup x = some c → X.s_0.heap.objs.size ≤ c
  hd : X.calm = true → X.A.handled = none
  frames : X.A.frames = some X.stack
  stk : X.stack = X.outer ∨ (X.stack = X.env :: X.outer ∧ X.env.frame = some X.env.locals)
  exf : ∀ b ∈ X.ex, b ≠ X.env.locals ∧ ∀ x c, X.env.cells.lookup x = some c → c ≠ b
  bs : ∀ b o, X.base.get? b = some o → X.s_0.heap.get? b = some o ∧ X.H_0 b = none
  bsz : X.base.objs.size ≤ X.s_0.heap.objs.size
  noex : ∀ b o, X.base.get? b = some o → b ∉ X.ex
  exfs : ∀ b ∈ X.ex, b ∉ X.fs
  funs : X.s_0.heap.FunFrames X.base X.outer
  frf : ∀ b ∈ X.fs, X.H_0 b = none
structure Inv (X : Cx) (pins : List (Addr × Obj)) (σ : List (Option V)) (H : Hp) (s : Shared) : Prop where
  ok : X.Ok
  os : s.os = X.s_0.os
  bare : AllBare s.gens
  base : Un X.fs X.ex X.H_0 H X.s_0.heap s.heap
  loc : ∃ m, s.heap.Ns X.env.locals m ∧ ∀ (i : Nat) (x : Str) (v : V), X.N[i]? = some x → σ[i]? = some (some v) → Vis X.env.scope x → ∃ u, RelV v u ∧ Look X.env s.heap m x u
  cell : ∀ x c, X.env.cells.lookup x = some c → ∃ v, s.heap.IsCell c v
  free : H X.env.locals = none
  freeC : ∀ x c, X.env.cells.lookup x = some c → H c = none
  pin : ∀ p ∈ X.pn ++ pins, s.heap.get? p.1 = some p.2 ∧ H p.1 = none ∧ p.1 ≠ X.env.locals ∧ p.1 ∉ X.fs ∧ ∀ v, p.2.data ≠ .cell v
  hok : HOk X.prog X.w H s.heap
  len : σ.length = X.N.length
section
variable {X : Cx} {pins : List (Addr × Obj)} {σ : List (Option V)} {H H' : Hp} {s : Shared} {h' : Heap}
theorem Cx.Ok.nofr (ok : X.Ok) {b : Addr} {o : Obj} (e : X.base.get? b = some o) : b ∉ X.fs := fun hb => by
  have := (ok.funs.mem hb).1
  rw [e] at this; cases this
theorem Inv.bs (I : Inv X pins σ H s) : ∀ b o, X.base.get? b = some o → s.heap.get? b = some o ∧ H b = none := fun b o e =>
  ⟨I.base.keep b o (I.ok.bs b o e).1 (I.ok.bs b o e).2 (I.ok.nofr e) (I.ok.noex b o e), I.base.free b o (I.ok.bs b o e).1 (I.ok.bs b o e).2 (I.ok.noex b o e)⟩
theorem Inv.bk (I : Inv X pins σ H s) : ∀ b o, X.base.get? b = some o → s.heap.get? b = some o := fun b o e => (I.bs b o e).1
theorem Inv.mod (I : Inv X pins σ H s) : Mod X.K X.mg X.base := I.ok.mod
theorem Inv.kIn (I : Inv X pins σ H s) : X.K.In s.heap := I.ok.mod.kin.keeps I.bk
theorem Inv.nolimit (I : Inv X pins σ H s) : s.heap.NoLimit := I.ok.mod.nolimit.keeps I.bk
theorem Inv.fr (I : Inv X pins σ H s) : ∃ m, Fr X.base X.env.locals s.heap m :=
  let ⟨m, hn, _⟩ := I.loc
  ⟨m, hn, I.bk, Nat.le_trans I.ok.bsz I.ok.above⟩
theorem Inv.lt (I : Inv X pins σ H s) : X.env.locals < s.heap.objs.size := let ⟨_, hn, _⟩ := I.loc; hn.lt
theorem Inv.sz (I : Inv X pins σ H s) : X.s_0.heap.objs.size ≤ s.heap.objs.size := Nat.le_trans I.ok.above (Nat.le_of_lt I.lt)
theorem Inv.nofs (I : Inv X pins σ H s) {a : Addr} (h : s.heap.objs.size ≤ a) : a ∉ X.fs := fun hb => by
  obtain ⟨_, o, ho, _⟩ := I.ok.funs.mem hb
  exact absurd (Nat.lt_of_lt_of_le (Heap.lt_size ho) (Nat.le_trans I.sz h)) (Nat.lt_irrefl _)
theorem Inv.cne (I : Inv X pins σ H s) : ∀ x c, X.env.cells.lookup x = some c → c ≠ X.env.locals := fun x c e z => by
  obtain ⟨v, o, ho, hd⟩ := I.cell x c e
  obtain ⟨m, ⟨o', es, ep, ho', hd', _⟩, _⟩ := I.loc
  rw [z, ho'] at ho; cases ho; rw [hd'] at hd; cases hd
theorem Inv.funs (I : Inv X pins σ H s) : s.heap.FunFrames X.base X.outer := by
  have all : ∀ (l : List Env), (∀ b ∈ frs l, b ∈ X.fs) → X.s_0.heap.FunFrames X.base l → s.heap.FunFrames X.base l := by
    intro l
    induction l with
    | nil => intro _ _; trivial
    | cons env r ih =>
      intro hs hl
      obtain ⟨hk, ⟨L, o, hf, hn, ho, hd⟩, hr⟩ := hl
      have hL : L ∈ X.fs := hs L (by unfold frs; rw [List.filterMap_cons, hf]; exact List.mem_cons_self)
      obtain ⟨sl, e⟩ := I.base.slot L o ho (I.ok.frf L hL) hL fun z => I.ok.exfs L z hL
      exact ⟨hk, ⟨L, _, hf, hn, e, hd⟩, ih (fun b hb => hs b (by unfold frs; rw [List.filterMap_cons, hf]; exact List.mem_cons_of_mem _ hb)) hr⟩
  exact all X.outer (fun _ hb => hb) I.ok.funs
theorem Inv.stack (I : Inv X pins σ H s) : s.heap.FunFrames X.base X.stack := by
  rcases I.ok.stk with e | ⟨e, hf⟩
  · rw [e]; exact I.funs
  · rw [e]
    obtain ⟨m, hn, _⟩ := I.loc
    refine .cons (by rw [I.ok.kind]; decide) hf hn ?_ I.funs
    exact Heap.get?_none_of_le (Nat.le_trans I.ok.bsz I.ok.above)
theorem Inv.stkSub (I : Inv X pins σ H s) : ∀ b ∈ frs X.stack, b ∈ X.env.locals :: X.fs := fun b hb => by
  rcases I.ok.stk with e | ⟨e, hf⟩
  · rw [e] at hb; exact List.mem_cons_of_mem _ hb
  · rw [e] at hb
    unfold frs at hb
    rw [List.filterMap_cons, hf] at hb
    exact hb
theorem Inv.stkFree (I : Inv X pins σ H s) : ∀ b ∈ frs X.stack, H b = none := fun b hb => by
  rcases List.mem_cons.mp (I.stkSub b hb) with e | hb
  · rw [e]; exact I.free
  · obtain ⟨_, o, ho, _⟩ := I.ok.funs.mem hb
    exact I.base.free b o ho (I.ok.frf b hb) fun z => I.ok.exfs b z hb
theorem Inv.step {g' : Array GenState} {t' : Nat} {d' : Drawn} {ch : List Addr} (I : Inv X pins σ H s)
    (hch : ∀ b ∈ ch, (b ∈ X.ex ∨ X.s_0.heap.objs.size ≤ b) ∧ b ≠ X.env.locals ∧ (∀ x c, X.env.cells.lookup x = some c → c ≠ b) ∧ ∀ p ∈ X.pn ++ pins, p.1 ≠ b)
    (keep : ∀ b o, b ≠ X.env.locals → b ∉ X.fs → b ∉ ch → s.heap.get? b = some o → H b = none → h'.get? b = some o)
    (slot : ∀ b o, b ≠ X.env.locals → b ∈ X.fs → b ∉ ch → s.heap.get? b = some o → H b = none → ∃ sl, h'.get? b = some { o with slots := sl }) (free : ∀ b o, b ∉ ch → s.heap.get? b = some o → H b = none → H' b = none)
    (there : ∀ b o, b ∉ ch → s.heap.get? b = some o → ∃ o', h'.get? b = some o')
    (tups : ∀ b xs, H b = some (.tup xs) → H' b = some (.tup xs)) (frzs : ∀ b o u, H b = some (.frz o u) → H' b = some (.frz o u)) (tbls : ∀ b ps, H b = some (.tbl ps) → ∃ more, H' b = some (.tbl (ps ++ more)))
    (ns : ∀ m, s.heap.Ns X.env.locals m → h'.Ns X.env.locals m) (hok : HOk X.prog X.w H' h') (hg : AllBare g') :
    Inv X pins σ H' { s with heap := h', gens := g', drawn := d', toks := t' } := by
  have neL : ∀ b o, X.s_0.heap.get? b = some o → b ≠ X.env.locals := fun b o e => Nat.ne_of_lt (Nat.lt_of_lt_of_le (Heap.lt_size e) I.ok.above)
  have neC : ∀ b o, X.s_0.heap.get? b = some o → b ∉ X.ex → b ∉ ch := fun b o e hx hb => by
    rcases (hch b hb).1 with z | z
    · exact hx z
    · exact absurd (Nat.lt_of_lt_of_le (Heap.lt_size e) z) (Nat.lt_irrefl _)
  have cellK : ∀ x c, X.env.cells.lookup x = some c → ∀ v, s.heap.IsCell c v → h'.IsCell c v := fun x c e v ⟨o, ho, hd⟩ => by
    have nch : c ∉ ch := fun z => (hch c z).2.2.1 x c e rfl
    by_cases hc : c ∈ X.fs
    · obtain ⟨sl, q⟩ := slot c o (I.cne x c e) hc nch ho (I.freeC x c e)
      exact ⟨_, q, hd⟩
    · exact ⟨o, keep c o (I.cne x c e) hc nch ho (I.freeC x c e), hd⟩
  refine ⟨I.ok, I.os, hg, ⟨fun b o e n hb hx => ?_, fun b o e n hb hx => ?_, fun b o e n hx => ?_, fun b o e hx => ?_, fun b xs e => tups b xs (I.base.tups b xs e), fun b o xs e => frzs b o xs (I.base.frzs b o xs e), fun b ps e => ?_⟩, ?_, fun x c e => ?_, ?_, fun x c e => ?_, fun p hp => ?_, hok, I.len⟩
  · exact keep b o (neL b o e) hb (neC b o e hx) (I.base.keep b o e n hb hx) (I.base.free b o e n hx)
  · obtain ⟨sl, e1⟩ := I.base.slot b o e n hb hx
    obtain ⟨sl', e2⟩ := slot b _ (neL b o e) hb (neC b o e hx) e1 (I.base.free b o e n hx)
    exact ⟨sl', e2⟩
  · obtain ⟨o', e1⟩ := I.base.there b o e hx
    exact free b o' (neC b o e hx) e1 (I.base.free b o e n hx)
  · obtain ⟨o', e1⟩ := I.base.there b o e hx
    exact there b o' (neC b o e hx) e1
  · obtain ⟨m1, e1⟩ := I.base.tbls b ps e
    obtain ⟨m2, e2⟩ := tbls b _ e1
    exact ⟨m1 ++ m2, by rw [e2, Array.append_assoc]⟩
  · obtain ⟨m, hn, hl⟩ := I.loc
    refine ⟨m, ns m hn, fun i x v e1 e2 e3 => ?_⟩
    obtain ⟨u, r, l⟩ := hl i x v e1 e2 e3
    refine ⟨u, r, ?_⟩
    rcases l with l | ⟨k, c, e, z⟩
    · exact .inl l
    · exact .inr ⟨k, c, e, cellK x c e _ z⟩
  · obtain ⟨v, z⟩ := I.cell x c e
    exact ⟨v, cellK x c e v z⟩
  · obtain ⟨m, ⟨o, _, _, ho, _⟩, _⟩ := I.loc
    exact free _ o (fun z => (hch _ z).2.1 rfl) ho I.free
  · obtain ⟨v, o, ho, hd⟩ := I.cell x c e
    exact free c o (fun z => (hch c z).2.2.1 x c e rfl) ho (I.freeC x c e)
  · obtain ⟨e, n, ne, nf, d⟩ := I.pin p hp
    have nch : p.1 ∉ ch := fun z => (hch p.1 z).2.2.2 p hp rfl
    exact ⟨keep p.1 p.2 ne nf nch e n, free p.1 p.2 nch e n, ne, nf, d⟩
theorem Inv.un {t' : Nat} (I : Inv X pins σ H s) (u : Un X.fs [] H H' s.heap h') (hok : HOk X.prog X.w H' h') : Inv X pins σ H' { s with heap := h', toks := t' } := by
  obtain ⟨m, ⟨o, es, ep, ho, r⟩, _⟩ := id I.loc
  obtain ⟨sl, hL⟩ := u.any ho I.free (by simp)
  exact I.step (g' := s.gens) (d' := s.drawn) (ch := []) (fun _ z => nomatch z) (fun b o _ hb _ e n => u.keep b o e n hb (by simp)) (fun b o _ hb _ e n => u.slot b o e n hb (by simp)) (fun b o _ e n => u.free b o e n (by simp)) (fun b o _ e => u.there b o e (by simp)) u.tups u.frzs u.tbls (fun m' hm => by
    obtain ⟨o', es', ep', ho', r'⟩ := hm
    rw [ho] at ho'; cases ho'
    exact ⟨_, es', ep', hL, r'⟩) hok I.bare
theorem Inv.call {g' : Array GenState} {t' : Nat} {d' : Drawn} {ch : List Addr} (I : Inv X pins σ H s) (u : Un (frs X.stack) ch H H' s.heap h') (hok : HOk X.prog X.w H' h') (hg : AllBare g')
    (hch : ∀ b ∈ ch, (b ∈ X.ex ∨ X.s_0.heap.objs.size ≤ b) ∧ b ≠ X.env.locals ∧ (∀ x c, X.env.cells.lookup x = some c → c ≠ b) ∧ ∀ p ∈ X.pn ++ pins, p.1 ≠ b) :
    Inv X pins σ H' { s with heap := h', gens := g', drawn := d', toks := t' } := by
  obtain ⟨m, ⟨o, es, ep, ho, r⟩, _⟩ := id I.loc
  obtain ⟨sl, hL⟩ := u.any ho I.free fun z => (hch _ z).2.1 rfl
  exact I.step (ch := ch) hch (fun b o hL hb hc e n => u.keep b o e n (fun z => (List.mem_cons.mp (I.stkSub b z)).elim hL hb) hc) (fun b o _ _ hc e n => u.any e n hc) (fun b o hc e n => u.free b o e n hc) (fun b o hc e => u.there b o e hc) u.tups u.frzs u.tbls (fun m' hm => by
    obtain ⟨o', es', ep', ho', r'⟩ := hm
    rw [ho] at ho'; cases ho'
    exact ⟨_, es', ep', hL, r'⟩) hok hg
theorem Inv.turned {t' : Nat} {it : Addr} (I : Inv X pins σ H s) (k : ∀ b o, b ≠ it → s.heap.get? b = some o → h'.get? b = some o) (hn : H it = none) (hL : it ≠ X.env.locals)
    (h1 : it ∈ X.ex ∨ X.s_0.heap.objs.size ≤ it) (h2 : ∀ x c, X.env.cells.lookup x = some c → c ≠ it) (h3 : ∀ p ∈ X.pn ++ pins, p.1 ≠ it) : Inv X pins σ H { s with heap := h', toks := t' } := by
  have nit : ∀ b u, H b = some u → b ≠ it := fun b u e z => by rw [z, hn] at e; cases e
  refine I.step (g' := s.gens) (d' := s.drawn) (ch := [it]) (fun b hb => ?_) (fun b o _ _ hc e _ => k b o (fun z => hc (by simp [z])) e) (fun b o _ _ hc e _ => ⟨o.slots, k b o (fun z => hc (by simp [z])) e⟩) (fun _ _ _ _ n => n)
    (fun b o hc e => ⟨o, k b o (fun z => hc (by simp [z])) e⟩) (fun _ _ e => e) (fun _ _ _ e => e) (fun b ps e => ⟨#[], by rw [e]; simp⟩) (fun m hm => ?_) (fun b u e => ?_) I.bare
  · have e : b = it := by simpa using hb
    subst e
    exact ⟨h1, hL, h2, h3⟩
  · obtain ⟨o, es, ep, ho, r⟩ := hm
    exact ⟨o, es, ep, k _ o (Ne.symm hL) ho, r⟩
  · refine (I.hok b u e).stay (fun c v hc q => k c v ?_ q) (fun _ q => q) fun _ _ q => q
    rcases hc with z | z
    · rw [z]; exact nit b u e
    · exact nit c _ z
theorem Inv.tok (I : Inv X pins σ H s) (t : Nat) : Inv X pins σ H { s with toks := t } := I.un (h' := s.heap) (t' := t) Un.refl I.hok
theorem Inv.kept {t' : Nat} (I : Inv X pins σ H s) (k : ∀ b u, s.heap.get? b = some u → h'.get? b = some u) : Inv X pins σ H { s with heap := h', toks := t' } := I.un (Un.kept k) (I.hok.kept k)
theorem Inv.laid {a : Addr} {o : HO} {t' : Nat} (I : Inv X pins σ H s) (k : ∀ b u, s.heap.get? b = some u → h'.get? b = some u) (hp : s.heap.objs.size ≤ a) (new : ObjOk X.prog X.w (upd H a o) h' a o) :
    Inv X pins σ (upd H a o) { s with heap := h', toks := t' } := I.un (Un.laid k hp (I.hok.fresh hp)) (I.hok.laid k hp new)
theorem Inv.write {x e : Addr} {o : HO} {t' : Nat} (I : Inv X pins σ H s) (mu : Mut (H x)) (he : e = x ∨ H e = some (.own x)) (k : ∀ b u, b ≠ e → s.heap.get? b = some u → h'.get? b = some u) (heo : ∃ u, h'.get? e = some u)
    (new : ObjOk X.prog X.w (upd H x o) h' x o) : Inv X pins σ (upd H x o) { s with heap := h', toks := t' } := I.un (Un.write mu he k heo) (I.hok.write mu he k heo new)
theorem Inv.weak {σ' : List (Option V)} (I : Inv X pins σ H s) (hl : σ'.length = σ.length) (w : ∀ (i : Nat) v, σ'[i]? = some (some v) → σ[i]? = some (some v)) : Inv X pins σ' H s :=
  ⟨I.ok, I.os, I.bare, I.base, let ⟨m, hn, hl'⟩ := I.loc; ⟨m, hn, fun i x v e1 e2 e3 => hl' i x v e1 (w i v e2) e3⟩, I.cell, I.free, I.freeC, I.pin, I.hok, hl.trans I.len⟩
theorem Inv.pins_of {pins' : List (Addr × Obj)} (I : Inv X pins σ H s) (h : ∀ p ∈ pins', s.heap.get? p.1 = some p.2 ∧ H p.1 = none ∧ p.1 ≠ X.env.locals ∧ p.1 ∉ X.fs ∧ ∀ v, p.2.data ≠ .cell v) : Inv X pins' σ H s :=
  ⟨I.ok, I.os, I.bare, I.base, I.loc, I.cell, I.free, I.freeC, fun p hp => (List.mem_append.mp hp).elim (fun z => I.pin p (List.mem_append_left _ z)) (h p), I.hok, I.len⟩
theorem nodup_ix {N : List Str} (hN : N.Nodup) {i j : Nat} {x : Str} (a : N[i]? = some x) (b : N[j]? = some x) : i = j := by
  obtain ⟨h1, e1⟩ := List.getElem?_eq_some_iff.mp a
  obtain ⟨h2, e2⟩ := List.getElem?_eq_some_iff.mp b
  exact (List.getElem_inj hN).mp (e1.trans e2.symm)
theorem store_ok2 {M : Model} {A : Around} {E : Value → Shared → Prop} {i : Nat} {x : Str} {v : V} {u : Value} {Q : Unit → Shared → Prop} (I : Inv X pins σ H s) (hN : X.N.Nodup) (hi : X.N[i]? = some x) (hx : Loc X.env.scope x) (r : RelV v u)
    (h : ∀ s', Inv X pins (σ.set i (some v)) H s' → (∃ a, Heap.SameBut a s.heap s'.heap ∧ (a = X.env.locals ∨ X.env.cells.lookup x = some a)) → Q () s') (hf : X.fn x = true ∨ X.env.scope.names.lookup x = some .local := by first | exact .inl rfl | exact .inr rfl | assumption) : wpAny M A (storeName X.env x u) Q E s := by
  obtain ⟨m, hn, hl⟩ := id I.loc
  have hcls : (X.env.scope.kind == .class || (X.env.scope.kind == .module && X.env.locals != X.env.globals)) = false := by rw [I.ok.kind]; rfl
  have hiσ : i < σ.length := by rw [I.len]; exact (List.getElem?_eq_some_iff.mp hi).1
  have cne := I.cne
  have tracked : ∀ {a : Addr} {h' : Heap}, (∃ o, s.heap.get? a = some o ∧ H a = none) → Heap.SameBut a s.heap h' → HOk X.prog X.w H h' := fun {a h'} ha hs b ob e => by
    obtain ⟨_, _, hfree⟩ := ha
    refine (I.hok b ob e).stay (fun c w' hc q => (hs.2 c ?_).trans q) (fun _ q => q) fun _ _ q => q
    rintro rfl
    rcases hc with rfl | hc
    · rw [hfree] at e; cases e
    · rw [hfree] at hc; cases hc
  rcases hx with hk | hk
  · refine wpAny_storeName_local hk hn (fun h' hn' hs => ?_) hcls
    obtain ⟨oL, _, _, hoL, _⟩ := id hn
    refine h _ ⟨I.ok, I.os, I.bare, ⟨fun b o e n hb hx => ?_, fun b o e n hb hx => ?_, I.base.free, fun b o e hx => ?_, I.base.tups, I.base.frzs, I.base.tbls⟩, ⟨_, hn', fun j y v' e1 e2 e3 => ?_⟩, fun y c e => ?_, I.free, I.freeC, fun p hp => ?_, tracked ⟨oL, hoL, I.free⟩ hs, by simpa using I.len⟩ ⟨_, hs, .inl rfl⟩
    · exact (hs.2 b (Nat.ne_of_lt (Nat.lt_of_lt_of_le (Heap.lt_size e) I.ok.above))).trans (I.base.keep b o e n hb hx)
    · obtain ⟨sl, e1⟩ := I.base.slot b o e n hb hx
      exact ⟨sl, (hs.2 b (Nat.ne_of_lt (Nat.lt_of_lt_of_le (Heap.lt_size e) I.ok.above))).trans e1⟩
    · obtain ⟨o', e1⟩ := I.base.there b o e hx
      exact ⟨o', (hs.2 b (Nat.ne_of_lt (Nat.lt_of_lt_of_le (Heap.lt_size e) I.ok.above))).trans e1⟩
    · by_cases hj : j = i
      · subst hj
        rw [hi] at e1; cases e1
        rw [List.getElem?_set_self hiσ] at e2
        cases e2
        exact ⟨u, r, .inl ⟨hk, by simp⟩⟩
      · rw [List.getElem?_set_ne (Ne.symm hj)] at e2
        obtain ⟨u', r', q⟩ := hl j y v' e1 e2 e3
        refine ⟨u', r', ?_⟩
        rcases q with ⟨k, e⟩ | ⟨k, c, e, z⟩
        · refine .inl ⟨k, ?_⟩
          have : y ≠ x := fun e => hj (nodup_ix hN e1 (e ▸ hi))
          simp [this, e]
        · exact .inr ⟨k, c, e, z.sameBut hs (cne y c e)⟩
    · obtain ⟨w', z⟩ := I.cell y c e
      exact ⟨w', z.sameBut hs (cne y c e)⟩
    · obtain ⟨e, n, ne, nf, d⟩ := I.pin p hp
      exact ⟨(hs.2 p.1 ne).trans e, n, ne, nf, d⟩
  · have hfn : X.fn x = true := by
      rcases hf with z | z
      · exact z
      · rw [z] at hk; cases hk
    obtain ⟨c, hc⟩ := I.ok.has x (.inl hk)
    obtain ⟨w', z⟩ := I.cell x c hc
    refine wpAny_storeName_cell I.ok.kind hk hc z (fun h' hc' hs => ?_)
    obtain ⟨oc, hoc, hocd⟩ := id z
    refine h { s with heap := h' } ⟨I.ok, I.os, I.bare, ⟨fun b o e n hb hx => ?_, fun b o e n hb hx => ?_, I.base.free, fun b o e hx => ?_, I.base.tups, I.base.frzs, I.base.tbls⟩, ⟨m, hn.sameBut hs (Ne.symm (cne x c hc)), fun j y v' e1 e2 e3 => ?_⟩, fun y c' e => ?_, I.free, I.freeC, fun p hp => ?_, tracked ⟨oc, hoc, I.freeC x c hc⟩ hs, by simpa using I.len⟩ ⟨c, hs, .inr hc⟩
    · exact (hs.2 b (Nat.ne_of_lt (Nat.lt_of_lt_of_le (Heap.lt_size e) (I.ok.cab x c hfn hc)))).trans (I.base.keep b o e n hb hx)
    · obtain ⟨sl, e1⟩ := I.base.slot b o e n hb hx
      exact ⟨sl, (hs.2 b (Nat.ne_of_lt (Nat.lt_of_lt_of_le (Heap.lt_size e) (I.ok.cab x c hfn hc)))).trans e1⟩
    · obtain ⟨o', e1⟩ := I.base.there b o e hx
      exact ⟨o', (hs.2 b (Nat.ne_of_lt (Nat.lt_of_lt_of_le (Heap.lt_size e) (I.ok.cab x c hfn hc)))).trans e1⟩
    · by_cases hj : j = i
      · subst hj
        rw [hi] at e1; cases e1
        rw [List.getElem?_set_self hiσ] at e2
        cases e2
        exact ⟨u, r, .inr ⟨.inl hk, c, hc, hc'⟩⟩
      · rw [List.getElem?_set_ne (Ne.symm hj)] at e2
        obtain ⟨u', r', q⟩ := hl j y v' e1 e2 e3
        refine ⟨u', r', ?_⟩
        rcases q with q | ⟨k, c', e, z'⟩
        · exact .inl q
        · refine .inr ⟨k, c', e, z'.sameBut hs ?_⟩
          rintro rfl
          exact hj (nodup_ix hN e1 (I.ok.inj _ _ _ e hc ▸ hi))
    · by_cases hcc : c' = c
      · subst hcc; exact ⟨_, hc'⟩
      · obtain ⟨w2, z2⟩ := I.cell y c' e
        exact ⟨w2, z2.sameBut hs hcc⟩
    · obtain ⟨e, n, ne, nf, d⟩ := I.pin p hp
      refine ⟨(hs.2 p.1 ?_).trans e, n, ne, nf, d⟩
      intro q
      rw [q, hoc] at e
      have q' : oc = p.2 := Option.some.inj e
      exact d w' (by rw [← q']; exact hocd)
theorem store_ok {M : Model} {A : Around} {E : Value → Shared → Prop} {i : Nat} {x : Str} {v : V} {u : Value} {Q : Unit → Shared → Prop} (I : Inv X pins σ H s) (hN : X.N.Nodup) (hi : X.N[i]? = some x) (hx : Loc X.env.scope x) (r : RelV v u)
    (h : ∀ s', Inv X pins (σ.set i (some v)) H s' → Q () s') (hf : X.fn x = true ∨ X.env.scope.names.lookup x = some .local := by first | exact .inl rfl | exact .inr rfl | assumption) : wpAny M A (storeName X.env x u) Q E s :=
  store_ok2 I hN hi hx r (fun s' I' _ => h s' I') hf
theorem Inv.call' {s' : Shared} {ch : List Addr} (I : Inv X pins σ H s) (ho : s'.os = s.os) (u : Un (frs X.stack) ch H H' s.heap s'.heap) (hok : HOk X.prog X.w H' s'.heap) (hg : AllBare s'.gens)
    (hch : ∀ b ∈ ch, (b ∈ X.ex ∨ X.s_0.heap.objs.size ≤ b) ∧ b ≠ X.env.locals ∧ (∀ x c, X.env.cells.lookup x = some c → c ≠ b) ∧ ∀ p ∈ X.pn ++ pins, p.1 ≠ b) : Inv X pins σ H' s' := by
  obtain ⟨h', g', d', t', o'⟩ := s'
  have e : o' = s.os := ho
  subst e
  exact I.call (g' := g') (t' := t') (d' := d') u hok hg hch
end
abbrev XK := Value → Option Addr → Hp → Prop
abbrev St := List (Option V)
abbrev VK := V → Hp → Prop
abbrev TE := St → Hp → VK → Prop
abbrev TT := St → Hp → (Bool → Hp → Prop) → Prop
abbrev TA := St → Hp → (List V → Hp → Prop) → Prop
structure Ends where
  nx : St → Hp → Prop
  rt : VK
  bk : St → Hp → Prop := fun _ _ => False
  ct : St → Hp → Prop := fun _ _ => False
abbrev TS := Ends → St → Hp → Prop
def EP (X : Cx) (pins : List (Addr × Obj)) (σ : St) (Q : VK) (u : Value) (s' : Shared) : Prop := ∃ v H', Inv X pins σ H' s' ∧ RelV v u ∧ Q v H'
def TP (X : Cx) (pins : List (Addr × Obj)) (σ : St) (Q : Bool → Hp → Prop) (b : Bool) (s' : Shared) : Prop := ∃ H', Inv X pins σ H' s' ∧ Q b H'
def AP (X : Cx) (pins : List (Addr × Obj)) (σ : St) (Q : List V → Hp → Prop) (us : List Value) (s' : Shared) : Prop := ∃ vs H', Inv X pins σ H' s' ∧ Vals vs us ∧ Q vs H'
def SP (X : Cx) (pins : List (Addr × Obj)) (D : Ends) (f : Flow) (s' : Shared) : Prop :=
  match f with
  | .next => ∃ σ' H', Inv X pins σ' H' s' ∧ D.nx σ' H'
  | .brk => ∃ σ' H', Inv X pins σ' H' s' ∧ D.bk σ' H'
  | .cont => ∃ σ' H', Inv X pins σ' H' s' ∧ D.ct σ' H'
  | .ret u => ∃ v σ' H', Inv X pins σ' H' s' ∧ RelV v u ∧ D.rt v H'
def PE (X : Cx) (e : Expr) (t : TE) : Prop :=
  ∀ (pins : List (Addr × Obj)) (s : Shared) (σ : St) (H : Hp) (Q : VK), Inv X pins σ H s → t σ H Q → wpAny (model X.prog X.w) X.A (eval e X.env) (EP X pins σ Q) X.xe s
def PT (X : Cx) (e : Expr) (t : TT) : Prop :=
  ∀ (pins : List (Addr × Obj)) (s : Shared) (σ : St) (H : Hp) (Q : Bool → Hp → Prop), Inv X pins σ H s → t σ H Q → wpAny (model X.prog X.w) X.A (isTrue e X.env (eval e X.env)) (TP X pins σ Q) X.xe s
def PW (X : Cx) (e : Expr) (t : TT) : Prop :=
  ∀ (whole : Sem Value) (pins : List (Addr × Obj)) (s : Shared) (σ : St) (H : Hp) (Q : Bool → Hp → Prop), Inv X pins σ H s → t σ H Q → wpAny (model X.prog X.w) X.A (isTrue e X.env whole) (TP X pins σ Q) X.xe s
theorem PW.pt {X : Cx} {e : Expr} {t : TT} (h : PW X e t) : PT X e t := h _
def PA (X : Cx) (es : List Expr) (t : TA) : Prop :=
  ∀ (pos : Pos) (pins : List (Addr × Obj)) (s : Shared) (σ : St) (H : Hp) (Q : List V → Hp → Prop), Inv X pins σ H s → t σ H Q → wpAny (model X.prog X.w) X.A (spliced (backTo pos (starEach es X.env))) (AP X pins σ Q) X.xe s
def PS (X : Cx) (st : Stmt) (t : TS) : Prop :=
  ∀ (pins : List (Addr × Obj)) (s : Shared) (σ : St) (H : Hp) (D : Ends), Inv X pins σ H s → t D σ H → wpAny (model X.prog X.w) X.A (exec st X.env) (SP X pins D) X.xe s
def PSs (X : Cx) (st : List Stmt) (t : TS) : Prop :=
  ∀ (pins : List (Addr × Obj)) (s : Shared) (σ : St) (H : Hp) (D : Ends), Inv X pins σ H s → t D σ H → wpAny (model X.prog X.w) X.A (execs st X.env) (SP X pins D) X.xe s
theorem thn {α : Type} {t : Sem α} {Q Q' : α → Shared → Prop} {M : Model} {A : Around} {E : Value → Shared → Prop} {s : Shared} (h : wpAny M A t Q E s) (hQ : ∀ a s, Q a s → Q' a s) : wpAny M A t Q' E s := wpAny_mono h hQ fun _ _ x => x
end L2
namespace L2
open PySem PySem.Spec PyProof.Rows
section
variable {X : Cx}
def tVar (i : Nat) : TE := fun σ H Q => ∃ v, σ[i]? = some (some v) ∧ Q v H
def tC (v : V) : TE := fun _ H Q => Q v H
theorem pe_var {i : Nat} {x : Str} {pos : Pos} (hN : X.N[i]? = some x) (hv : Vis X.env.scope x) (hd : (x == ("__debug__" : Str)) = false := by decide) (hcd : (x == ("__classdict__" : Str)) = false := by decide) : PE X (.Name x pos) (tVar i) := by
  intro pins s σ H Q I h
  obtain ⟨v, e, h⟩ := h
  obtain ⟨m, hn, hl⟩ := I.loc
  obtain ⟨u, r, l⟩ := hl i x v hN e hv
  have fin : EP X pins σ Q u s := ⟨v, H, I, r, h⟩
  rcases l with ⟨hk, hm⟩ | ⟨hk, c, hc, hcell⟩
  · exact wpAny_Name (wpAny_loadName_local I.ok.kind hk hn hm fin) hd
  · rcases hk with hk | hk
    · exact wpAny_Name (wpAny_loadName_cell I.ok.kind hk hc hcell fin) hd
    · exact wpAny_Name (wpAny_loadName_free I.ok.kind hk hc hcell fin hcd) hd
theorem pe_int {i j pos} : PE X (.Constant (.int i) j pos) (tC (.int i)) := fun _ _ _ H _ I h => wpAny_Constant_int ⟨.int i, H, I.tok _, ⟨_, rfl⟩, h⟩
theorem pe_bl {b j pos} : PE X (.Constant (.bool b) j pos) (tC (.bl b)) := fun _ _ _ H _ I h => Constant_bool ⟨.bl b, H, I, rfl, h⟩
theorem pe_non {j pos} : PE X (.Constant .none j pos) (tC .non) := fun _ _ _ H _ I h => Constant_none ⟨.non, H, I, rfl, h⟩
theorem pe_str {x j pos} : PE X (.Constant (.str x) j pos) (tC (.str x)) := fun _ _ _ H _ I h => Calls.Constant_str ⟨.str x, H, I.tok _, ⟨_, rfl⟩, h⟩
def Gl (X : Cx) (x : Str) : Prop := X.env.kindOf x = some .globalImplicit
theorem ld_glob {E : Value → Shared → Prop} {pins : List (Addr × Obj)} {s : Shared} {σ : St} {H : Hp} {x : Str} {u : Value} {pos : Pos} {Q : Value → Shared → Prop} (I : Inv X pins σ H s) (hg : Gl X x) (hm : X.mg x = some u) (h : Q u s)
    (hd : (x == ("__debug__" : Str)) = false := by decide) : wpAny (model X.prog X.w) X.A (eval (.Name x pos) X.env) Q E s :=
  Calls.Name_function_global I.ok.kind hg (Calls.loadGlobal_global (by rw [I.ok.glob]; exact I.mod.glob.keeps I.bk) hm h) hd
theorem ld_blt {E : Value → Shared → Prop} {pins : List (Addr × Obj)} {s : Shared} {σ : St} {H : Hp} {x : Str} {u : Value} {pos : Pos} {Q : Value → Shared → Prop} (I : Inv X pins σ H s) (hg : Gl X x) (hm : X.mg x = none) (hv : bootBuiltins x = some u) (h : Q u s)
    (hn : x ≠ "__name__" := by decide) (hd : (x == ("__debug__" : Str)) = false := by decide) : wpAny (model X.prog X.w) X.A (eval (.Name x pos) X.env) Q E s := by
  obtain ⟨mb, h1, h2⟩ := I.mod.blt
  exact Calls.Name_function_global I.ok.kind hg (Calls.loadGlobal_builtin (by rw [I.ok.glob]; exact I.mod.glob.keeps I.bk) hm (by rw [I.ok.blt]; exact h1.keeps I.bk) ((h2 x hn).trans hv) h) hd
theorem pe_glob {x : Str} {v : V} {u : Value} {pos : Pos} (hg : Gl X x) (hm : X.mg x = some u) (r : RelV v u) (hd : (x == ("__debug__" : Str)) = false := by decide) : PE X (.Name x pos) (tC v) :=
  fun _ _ _ H _ I h => ld_glob I hg hm ⟨v, H, I, r, h⟩ hd
theorem pe_bltn {x : Str} {v : V} {u : Value} {pos : Pos} (hg : Gl X x) (hm : X.mg x = none) (hv : bootBuiltins x = some u) (r : RelV v u) (hn : x ≠ "__name__" := by decide) (hd : (x == ("__debug__" : Str)) = false := by decide) : PE X (.Name x pos) (tC v) :=
  fun _ _ _ H _ I h => ld_blt I hg hm hv ⟨v, H, I, r, h⟩ hn hd
variable {a b : Expr} {ta tb : TE} {pos : Pos}
def tB (t : TE) : TT := fun σ H Q => t σ H fun x H1 => ∃ c, x = .bl c ∧ Q c H1
theorem pt_val {e : Expr} {t : TE} (h : PE X e t) (he : ∀ whole, isTrue e X.env whole = (do let v ← whole; standAt e.pos; holding [v] (truthy v)) := by intro _; rfl) : PT X e (tB t) := by
  intro pins s σ H Q I hw
  refine isTrue_plain (thn (h pins s σ H _ I hw) fun v s1 ⟨x, H1, I1, r1, q1⟩ => ?_) (he _)
  obtain ⟨d, rfl, q⟩ := q1
  cases r1
  exact wpAny_truthy_bool ⟨H1, I1, q⟩
variable {tA tB' : TT} {rest : List Expr}
def tOr (t u : TT) : TT := fun σ H Q => t σ H fun c H1 => if c = true then Q true H1 else u σ H1 Q
def tNot (t : TT) : TT := fun σ H Q => t σ H fun c H1 => Q (!c) H1
theorem pw_or1 (ha : PT X a tA) : PW X (.BoolOp .Or [a] pos) tA := by
  intro wh pins s σ H Q I h
  refine isTrue_or (thn (ha pins s σ H Q I h) fun c s1 e => ?_)
  cases c with
  | false => exact isTrue_or_nil e
  | true => exact e
theorem pw_or (ha : PT X a tA) (hb : PW X (.BoolOp .Or (b :: rest) pos) tB') : PW X (.BoolOp .Or (a :: b :: rest) pos) (tOr tA tB') := by
  intro wh pins s σ H Q I h
  refine isTrue_or (thn (ha pins s σ H _ I h) fun c s1 ⟨H1, I1, q1⟩ => ?_)
  cases c with
  | true => exact ⟨H1, I1, q1⟩
  | false => exact hb wh pins s1 σ H1 Q I1 q1
theorem pt_not (ha : PT X a tA) : PT X (.UnaryOp .Not a pos) (tNot tA) := by
  intro pins s σ H Q I h
  exact isTrue_not (ha pins s σ H (fun c H1 => Q (!c) H1) I h)
def tAndV (ta tb : TE) : TE := fun σ H Q => ta σ H fun x H1 => ∃ c, x = .bl c ∧ if c = true then tb σ H1 Q else Q (.bl false) H1
def tNotV (ta : TE) : TE := fun σ H Q => ta σ H fun x H1 => ∃ c, x = .bl c ∧ Q (.bl (!c)) H1
theorem pe_one {op} {t : TE} (h : PE X a t) : PE X (.BoolOp op [a] pos) t := fun pins s σ H Q I hw => BoolOp_one (h pins s σ H Q I hw)
theorem pe_and (ha : PE X a ta) (hb : PE X (.BoolOp .And (b :: rest) pos) tb) : PE X (.BoolOp .And (a :: b :: rest) pos) (tAndV ta tb) := by
  intro pins s σ H Q I h
  refine BoolOp_and (thn (ha pins s σ H _ I h) fun v s1 ⟨x, H1, I1, r1, q1⟩ => ?_)
  obtain ⟨c, rfl, q1⟩ := q1
  cases r1
  refine wpAny_truthy_bool ?_
  cases c with
  | true => exact hb pins s1 σ H1 Q I1 q1
  | false => exact ⟨.bl false, H1, I1, rfl, q1⟩
theorem pe_not (ha : PE X a ta) : PE X (.UnaryOp .Not a pos) (tNotV ta) := by
  intro pins s σ H Q I h
  refine UnaryOp_ (thn (ha pins s σ H _ I h) fun v s1 ⟨x, H1, I1, r1, q1⟩ => ?_)
  obtain ⟨c, rfl, q1⟩ := q1
  cases r1
  exact not_of (wpAny_truthy_bool ⟨.bl (!c), H1, I1, rfl, q1⟩)
end
end L2
namespace L2
open PySem PySem.Spec PyProof.Rows
def SqL (K : PySem.W.Frag) (H : Hp) (a : Addr) (xs : List V) : Prop :=
  Rd H a (.lst xs) ∨
    ∃ (o : Obj) (its : Array Value) (n : Nat), K.lookup a = some o ∧ o.cls = .type "list" ∧ o.dict = none ∧ o.data = .seq its n ∧ its.size ≤ sizeLine ∧ Vals xs its.toList
def SqT (K : PySem.W.Frag) (H : Hp) (a : Addr) (xs : List V) : Prop :=
  Rd H a (.tup xs) ∨
    ∃ (o : Obj) (its : Array Value) (n : Nat), K.lookup a = some o ∧ o.cls = .type "tuple" ∧ o.data = .seq its n ∧ its.size ≤ sizeLine ∧ Vals xs its.toList
def absV : Value → Option V
  | .none => some .non
  | .bool b => some (.bl b)
  | .int i _ => some (.int i)
  | .str x _ => some (.str x)
  | .bytes b _ => some (.byt b)
  | .float b _ => some (.flt b)
  | .ref a => some (.ref a)
  | .type n => some (.ty n)
  | _ => none
theorem RelV.abs {x : V} {u : Value} (r : RelV x u) : absV u = some x := by
  cases x with
  | non => cases r; rfl
  | bl _ => cases r; rfl
  | int _ => obtain ⟨t, rfl⟩ := r; rfl
  | str _ => obtain ⟨t, rfl⟩ := r; rfl
  | byt _ => obtain ⟨t, rfl⟩ := r; rfl
  | flt _ => obtain ⟨t, rfl⟩ := r; rfl
  | ref _ => cases r; rfl
  | ty _ => cases r; rfl
theorem RelV.inj {x y : V} {u : Value} (r : RelV x u) (q : RelV y u) : x = y := Option.some.inj (r.abs.symm.trans q.abs)
theorem Vals.inj : ∀ {xs ys : List V} {us : List Value}, Vals xs us → Vals ys us → xs = ys
  | _, _, _, .nil, .nil => rfl
  | _, _, _, .cons r t, .cons r' t' => by rw [r.inj r', Vals.inj t t']
section
variable {X : Cx} {pins : List (Addr × Obj)} {σ : St} {H : Hp} {s : Shared} {a : Addr} {xs ys : List V}
theorem SqL.of {K : PySem.W.Frag} (h : H a = some (.lst xs)) : SqL K H a xs := .inl (.inl h)
theorem SqT.of {K : PySem.W.Frag} (h : H a = some (.tup xs)) : SqT K H a xs := .inl (.inl h)
theorem Inv.list (I : Inv X pins σ H s) (h : SqL X.K H a xs) : ∃ its : List Value, Vals xs its ∧ PlainL s.heap a its.toArray ∧ xs.length ≤ sizeLine := by
  rcases h with h | ⟨o, its, n, hk, hc, hd, hs, hz, r⟩
  · obtain ⟨z, its, n, r, e⟩ := h.ok I.hok
    exact ⟨its, r, ⟨_, n, e, rfl, rfl, rfl⟩, z⟩
  · refine ⟨its.toList, r, ⟨o, n, I.kIn a o hk, hc, hd, by simpa using hs⟩, ?_⟩
    have e := r.length
    simp only [Array.length_toList] at e
    omega
theorem Inv.tuple (I : Inv X pins σ H s) (h : SqT X.K H a xs) : ∃ its : List Value, Vals xs its ∧ IsTup s.heap a its.toArray ∧ xs.length ≤ sizeLine := by
  rcases h with h | ⟨o, its, n, hk, hc, hs, hz, r⟩
  · obtain ⟨z, its, r, p⟩ := h.ok I.hok
    exact ⟨its, r, p, z⟩
  · refine ⟨its.toList, r, ⟨o, I.kIn a o hk, hc, n, by simpa using hs⟩, ?_⟩
    have e := r.length
    simp only [Array.length_toList] at e
    omega
theorem Inv.list_inj (I : Inv X pins σ H s) (h : SqL X.K H a xs) (h' : SqL X.K H a ys) : xs = ys := by
  obtain ⟨its, r, ⟨o, n, e, _, _, d⟩, _⟩ := I.list h
  obtain ⟨its', r', ⟨o', n', e', _, _, d'⟩, _⟩ := I.list h'
  rw [e] at e'; cases e'
  rw [d] at d'
  injection d' with d1 _
  have : its = its' := by simpa using congrArg Array.toList d1
  subst this
  exact r.inj r'
theorem Inv.tuple_inj (I : Inv X pins σ H s) (h : SqT X.K H a xs) (h' : SqT X.K H a ys) : xs = ys := by
  obtain ⟨its, r, ⟨o, e, _, n, d⟩, _⟩ := I.tuple h
  obtain ⟨its', r', ⟨o', e', _, n', d'⟩, _⟩ := I.tuple h'
  rw [e] at e'; cases e'
  rw [d] at d'
  injection d' with d1 _
  have : its = its' := by simpa using congrArg Array.toList d1
  subst this
  exact r.inj r'
end
abbrev Cx.wish (X : Cx) (E : Value → Shared → Prop) : Cx := { X with xe := E }
abbrev Cx.nox (X : Cx) : Cx := X.wish fun _ _ => False
theorem Cx.Ok.wish {X : Cx} (ok : X.Ok) (E : Value → Shared → Prop) : (X.wish E).Ok :=
  ⟨ok.mod, ok.kind, ok.glob, ok.blt, ok.above, ok.inj, ok.has, ok.cab, ok.hd, ok.frames, ok.stk, ok.exf, ok.bs, ok.bsz, ok.noex, ok.exfs, ok.funs, ok.frf⟩
theorem Cx.Ok.unwish {X : Cx} {E : Value → Shared → Prop} (ok : (X.wish E).Ok) : X.Ok :=
  ⟨ok.mod, ok.kind, ok.glob, ok.blt, ok.above, ok.inj, ok.has, ok.cab, ok.hd, ok.frames, ok.stk, ok.exf, ok.bs, ok.bsz, ok.noex, ok.exfs, ok.funs, ok.frf⟩
section
variable {X : Cx} {pins : List (Addr × Obj)} {σ : St} {H : Hp} {s : Shared} {E : Value → Shared → Prop}
theorem Inv.wish (I : Inv X pins σ H s) (E : Value → Shared → Prop) : Inv (X.wish E) pins σ H s := ⟨I.ok.wish E, I.os, I.bare, I.base, I.loc, I.cell, I.free, I.freeC, I.pin, I.hok, I.len⟩
theorem Inv.unwish (I : Inv (X.wish E) pins σ H s) : Inv X pins σ H s := ⟨I.ok.unwish, I.os, I.bare, I.base, I.loc, I.cell, I.free, I.freeC, I.pin, I.hok, I.len⟩
theorem SP.unwish {D : Ends} {f : Flow} {s' : Shared} (h : SP (X.wish E) pins D f s') : SP X pins D f s' := by
  cases f with
  | next => obtain ⟨σ', H', I, q⟩ := h; exact ⟨σ', H', I.unwish, q⟩
  | brk => obtain ⟨σ', H', I, q⟩ := h; exact ⟨σ', H', I.unwish, q⟩
  | cont => obtain ⟨σ', H', I, q⟩ := h; exact ⟨σ', H', I.unwish, q⟩
  | ret u => obtain ⟨v, σ', H', I, r, q⟩ := h; exact ⟨v, σ', H', I.unwish, r, q⟩
theorem PE.nox {e : Expr} {t : TE} (h : PE X.nox e t) : PE X e t := fun pins s σ H Q I hw =>
  wpAny_mono (h pins s σ H Q (I.wish _) hw) (fun _ _ ⟨v, H', I', r, q⟩ => ⟨v, H', I'.unwish, r, q⟩) fun _ _ z => False.elim z
theorem PT.nox {e : Expr} {t : TT} (h : PT X.nox e t) : PT X e t := fun pins s σ H Q I hw =>
  wpAny_mono (h pins s σ H Q (I.wish _) hw) (fun _ _ ⟨H', I', q⟩ => ⟨H', I'.unwish, q⟩) fun _ _ z => False.elim z
theorem PSs.nox {st : List Stmt} {t : TS} (h : PSs X.nox st t) : PSs X st t := fun pins s σ H D I hw =>
  wpAny_mono (h pins s σ H D (I.wish _) hw) (fun _ _ q => q.unwish) fun _ _ z => False.elim z
end
section
variable {X : Cx} {st : Stmt} {rest : List Stmt} {t u : TS} {e : Expr} {te : TE} {pos : Pos}
def tNext : TS := fun D σ H => D.nx σ H
def tSeq (t u : TS) : TS := fun D σ H => t { D with nx := u D } σ H
theorem pss_nil : PSs X [] tNext := fun _ _ σ H _ I h => wpAny_execs_nil ⟨σ, H, I, h⟩
theorem pss_cons (h1 : PS X st t) (h2 : PSs X rest u) : PSs X (st :: rest) (tSeq t u) := by
  intro pins s σ H D I h
  refine wpAny_execs_cons (thn (h1 pins s σ H { D with nx := u D } I h) fun f s1 q => ?_)
  cases f with
  | next =>
    obtain ⟨σ', H', I', q⟩ := q
    exact h2 pins s1 σ' H' D I' q
  | ret v => exact q
  | brk => exact q
  | cont => exact q
theorem pss_one (h1 : PS X st t) : PSs X [st] t := by
  intro pins s σ H D I h
  refine wpAny_execs_cons (thn (h1 pins s σ H D I h) fun f s1 q => ?_)
  cases f with
  | next => exact wpAny_execs_nil q
  | ret v => exact q
  | brk => exact q
  | cont => exact q
theorem Inv.quiet {pins : List (Addr × Obj)} {σ : St} {H : Hp} {s : Shared} (I : Inv X pins σ H s) : interactive X.env = false := by simp [interactive, I.ok.kind]
def tDrop (te : TE) : TS := fun D σ H => te σ H fun _ H1 => D.nx σ H1
theorem ps_expr (he : PE X e te) (hs : swapsWith e none pos.line X.env = pure false := by rfl) : PS X (.Expr e pos) (tDrop te) := by
  intro pins s σ H D I h
  exact wpAny_Expr_any (thn (he pins s σ H _ I h) fun v s1 ⟨x, H1, I1, r1, q1⟩ => ⟨σ, H1, I1, q1⟩) I.quiet hs
def tRet (te : TE) : TS := fun D σ H => te σ H D.rt
theorem ps_ret (he : PE X e te) : PS X (.Return (some e) pos) (tRet te) := by
  intro pins s σ H D I h
  exact wpAny_Return_some (thn (he pins s σ H _ I h) fun v s1 ⟨x, H1, I1, r1, q1⟩ => ⟨x, σ, H1, I1, r1, q1⟩)
def tIfS (c : TT) (t u : TS) : TS := fun D σ H => c σ H fun b H1 => if b = true then t D σ H1 else u D σ H1
theorem ps_if {c : Expr} {a b : List Stmt} {tc : TT} (hc : PT X c tc) (ha : PSs X a t) (hb : PSs X b u) : PS X (.If c a b pos) (tIfS tc t u) := by
  intro pins s σ H D I h
  refine wpAny_If (thn (hc pins s σ H _ I h) fun d s1 ⟨H1, I1, q1⟩ => ?_)
  cases d with
  | true => exact ha pins s1 σ H1 D I1 q1
  | false => exact hb pins s1 σ H1 D I1 q1
end
abbrev TG := V → St → Hp → (St → Hp → Prop) → Prop
abbrev TGs := List V → St → Hp → (St → Hp → Prop) → Prop
def PG (X : Cx) (target : Expr) (t : TG) : Prop :=
  ∀ (pins : List (Addr × Obj)) (s : Shared) (σ : St) (H : Hp) (v : V) (u : Value) (Q : St → Hp → Prop), Inv X pins σ H s → RelV v u → t v σ H Q →
    wpAny (model X.prog X.w) X.A (assign target X.env u) (fun _ s' => ∃ σ' H', Inv X pins σ' H' s' ∧ Q σ' H') X.xe s
def PGs (X : Cx) (ts : List Expr) (t : TGs) : Prop :=
  ∀ (pins : List (Addr × Obj)) (s : Shared) (σ : St) (H : Hp) (vs : List V) (us : List Value) (Q : St → Hp → Prop), Inv X pins σ H s → Vals vs us → t vs σ H Q →
    wpAny (model X.prog X.w) X.A (assignInOrder ((assignEach ts X.env).map (·.2)) us) (fun _ s' => ∃ σ' H', Inv X pins σ' H' s' ∧ Q σ' H') X.xe s
abbrev TSet := V → V → V → Hp → (Hp → Prop) → Prop
def PSet (X : Cx) (t : TSet) : Prop :=
  ∀ (pins : List (Addr × Obj)) (s : Shared) (σ : St) (H : Hp) (o i v : V) (ov iv u : Value) (Q : Hp → Prop), Inv X pins σ H s → RelV o ov → RelV i iv → RelV v u → t o i v H Q →
    wpAny (model X.prog X.w) X.A (setItem ov iv u) (fun _ s' => ∃ H', Inv X pins σ H' s' ∧ Q H') X.xe s
section
variable {X : Cx} {pos : Pos}
def gName (i : Nat) : TG := fun v σ H Q => Q (σ.set i (some v)) H
theorem pg_name {i : Nat} {x : Str} (hN : X.N.Nodup) (hi : X.N[i]? = some x) (hx : Loc X.env.scope x) (hf : X.fn x = true ∨ X.env.scope.names.lookup x = some .local := by first | exact .inl rfl | exact .inr rfl | assumption) : PG X (.Name x pos) (gName i) := by
  intro pins s σ H v u Q I r h
  exact wpAny_assign_Name (store_ok I hN hi hx r (fun s' I' => ⟨_, H, I', h⟩) hf)
def gNil : TGs := fun vs σ H Q => vs = [] ∧ Q σ H
def gCons (t : TG) (u : TGs) : TGs := fun vs σ H Q => ∃ v r, vs = v :: r ∧ t v σ H fun σ' H' => u r σ' H' Q
theorem pgs_nil : PGs X [] gNil := by
  intro pins s σ H vs us Q I r h
  obtain ⟨e, h⟩ := h
  subst e
  cases r
  exact assignInOrder_nil ⟨σ, H, I, h⟩
theorem pgs_cons {e : Expr} {es : List Expr} {t : TG} {u : TGs} (h1 : PG X e t) (h2 : PGs X es u)
    (hs : (assignEach (e :: es) X.env).map (·.2) = assign e X.env :: (assignEach es X.env).map (·.2) := by rfl) : PGs X (e :: es) (gCons t u) := by
  intro pins s σ H vs us Q I r h
  obtain ⟨v, vr, e1, h⟩ := h
  subst e1
  cases r with
  | cons r rr =>
    rw [hs]
    refine assignInOrder_cons (thn (h1 pins s σ H _ _ _ I r h) fun _ s1 ⟨σ1, H1, I1, q1⟩ => ?_)
    exact h2 pins s1 σ1 H1 _ _ Q I1 rr q1
def gTup (K : PySem.W.Frag) (n : Nat) (t : TGs) : TG := fun v σ H Q => ∃ a xs, v = .ref a ∧ SqT K H a xs ∧ xs.length = n ∧ t xs σ H Q
theorem pg_tup {es : List Expr} {k : Nat} {t : TGs} {n : Nat} (hc : X.calm = true) (h : PGs X es t)
    (hn : (assignEach es X.env).length = n := by rfl) (hst : (assignEach es X.env).findIdx? (·.1) = none := by rfl) : PG X (.Tuple es k pos) (gTup X.K n t) := by
  intro pins s σ H v u Q I r hw
  obtain ⟨a, xs, e1, hq, hl, hw⟩ := hw
  subst e1
  cases r
  obtain ⟨its, rv, ht, hz⟩ := I.tuple hq
  refine assign_Tuple_tuple (I.ok.hd hc) ht (by simp [hn, ← hl, rv.length]) hst fun h' hx => ?_
  have I1 : Inv X pins σ H { s with heap := h' } := I.kept (t' := s.toks) fun b o e => hx b o (Nat.ne_of_lt (Heap.lt_size e)) e
  exact h pins _ σ H xs _ Q I1 (by simpa using rv) hw
def gSub (to ti : TE) (t : TSet) : TG := fun v σ H Q => to σ H fun o H1 => ti σ H1 fun i H2 => t o i v H2 fun H3 => Q σ H3
theorem pg_sub {o i : Expr} {to ti : TE} {t : TSet} (ho : PE X o to) (hi : PE X i ti) (hs : PSet X t)
    (ha : ∀ v, assign (.Subscript o i pos) X.env v = (do
      let ov ← holding [v] (eval o X.env)
      let iv ← holding [v, ov] (eval i X.env)
      standAt pos
      holding [v, ov, iv] (setItem ov iv v)
      release [v, ov, iv] []) := by intro _; rfl) : PG X (.Subscript o i pos) (gSub to ti t) := by
  intro pins s σ H v u Q I r h
  rw [ha]
  refine wpAny_bind (wpAny_holding (thn (ho pins s σ H _ I h) fun ov s1 ⟨x, H1, I1, r1, q1⟩ => ?_))
  refine wpAny_bind (wpAny_holding (thn (hi pins s1 σ H1 _ I1 q1) fun iv s2 ⟨y, H2, I2, r2, q2⟩ => ?_))
  refine wpAny_bind (wpAny_standAt (wpAny_bind (wpAny_holding (thn (hs pins s2 σ H2 x y v ov iv u _ I2 r1 r2 r q2) fun _ s3 ⟨H3, I3, q3⟩ => ?_))))
  exact wpAny_release ⟨σ, H3, I3, q3⟩
def tAsg (te : TE) (g : TG) : TS := fun D σ H => te σ H fun x H1 => g x σ H1 D.nx
theorem ps_asg {tg e : Expr} {te : TE} {g : TG} (he : PE X e te) (hg : PG X tg g) (hs : swapsWithSole [tg] e pos.line X.env = pure false := by rfl) (hw : swappedStores [tg] e X.env = pure none := by rfl)
    (h1 : (assignEach [tg] X.env).map (·.2) = [assign tg X.env] := by rfl) : PS X (.Assign [tg] e pos) (tAsg te g) := by
  intro pins s σ H D I h
  refine wpAny_Assign_stores (thn (he pins s σ H _ I h) fun v s1 ⟨x, H1, I1, r1, q1⟩ => ?_) hs hw
  rw [h1]
  exact thn (hg pins s1 σ H1 x v _ I1 r1 q1) fun _ s2 q => q
theorem ps_set {i : Nat} {x : Str} {e : Expr} {te : TE} {pos' : Pos} (hN : X.N.Nodup) (hi : X.N[i]? = some x) (hx : Loc X.env.scope x) (he : PE X e te) (hs : swapsWith e (some (.Name x pos')) pos.line X.env = pure false := by rfl) (hf : X.fn x = true ∨ X.env.scope.names.lookup x = some .local := by first | exact .inl rfl | exact .inr rfl | assumption) :
    PS X (.Assign [.Name x pos'] e pos) (tAsg te (gName i)) := by
  intro pins s σ H D I h
  refine wpAny_Assign_Name (thn (he pins s σ H _ I h) fun v s1 ⟨y, H1, I1, r1, q1⟩ => ?_) hs
  exact store_ok I1 hN hi hx r1 (fun s2 I2 => ⟨_, H1, I2, q1⟩) hf
end
structure It where
  go : Nat → Hp → Prop
  yld : Nat → Hp → V → Hp → Prop
  stop : Nat → Hp → Prop
def FpOk (X : Cx) (pins : List (Addr × Obj)) (H : Hp) (b : Addr) : Prop :=
  H b = none ∧ b ≠ X.env.locals ∧ b ∉ X.fs ∧ (b ∈ X.ex ∨ X.s_0.heap.objs.size ≤ b) ∧ (∀ x c, X.env.cells.lookup x = some c → c ≠ b) ∧ ∀ p ∈ X.pn ++ pins, p.1 ≠ b
theorem Inv.fpOk {X : Cx} {pins : List (Addr × Obj)} {σ : St} {H H' : Hp} {s : Shared} {b : Addr} (I : Inv X pins σ H s) (hb : s.heap.objs.size ≤ b) (hn : H' b = none) : FpOk X pins H' b := by
  refine ⟨hn, Nat.ne_of_gt (Nat.lt_of_lt_of_le I.lt hb), I.nofs hb, .inr (Nat.le_trans I.sz hb), fun x c e z => ?_, fun p hp z => ?_⟩
  · obtain ⟨v, q⟩ := I.cell x c e
    exact absurd (Nat.lt_of_lt_of_le q.lt (by rw [z]; exact hb)) (Nat.lt_irrefl _)
  · exact absurd (Nat.lt_of_lt_of_le (Heap.lt_size (I.pin p hp).1) (by rw [z]; exact hb)) (Nat.lt_irrefl _)
structure Turn (P : Program) (w : World) (K : PySem.W.Frag) (tg : Expr) (J : It) (fp : List Addr) (it : Addr) (tn : Nat → Heap → Prop) : Prop where
  mem : it ∈ fp
  obj : ∀ i h, tn i h → ∀ b ∈ fp, ∃ o, h.get? b = some o ∧ ∀ v, o.data ≠ .cell v
  keep : ∀ i h h', tn i h → (∀ b ∈ fp, ∀ o, h.get? b = some o → h'.get? b = some o) → tn i h'
  item : ∀ (X : Cx), X.prog = P → X.w = w → X.K = K → X.calm = true → ∀ (i : Nat) (pins : List (Addr × Obj)) (s : Shared) (σ : St) (H : Hp) (E : Value → Shared → Prop), Inv X pins σ H s → (∀ b ∈ fp, FpOk X pins H b) → tn i s.heap → J.go i H →
    wpAny (model P w) X.A (pyNext (.ref it)) (fun r s1 => ∃ u, r = some u ∧
      wpAny (model P w) X.A (letOwnedTupleGo tg (.ref it) u) (fun _ s2 => ∃ x H', Inv X pins σ H' s2 ∧ RelV x u ∧ J.yld i H x H' ∧ tn (i + 1) s2.heap ∧ ∀ b ∈ fp, H' b = none) E s1) E s
  done : ∀ (X : Cx), X.prog = P → X.w = w → X.K = K → X.calm = true → ∀ (i : Nat) (pins : List (Addr × Obj)) (s : Shared) (σ : St) (H : Hp) (E : Value → Shared → Prop), Inv X pins σ H s → (∀ b ∈ fp, FpOk X pins H b) → tn i s.heap → J.stop i H →
    wpAny (model P w) X.A (pyNext (.ref it)) (fun r s1 => r = none ∧ Inv X pins σ H s1) E s
  self : ∀ (A : Around) (i : Nat) (s : Shared) (Q : Value → Shared → Prop) (E : Value → Shared → Prop), tn i s.heap → Q (.ref it) s → wpAny (model P w) A (pyIter (.ref it)) Q E s
abbrev TI := St → Hp → (It → Hp → Prop) → Prop
def PIE (X : Cx) (pins : List (Addr × Obj)) (σ : St) (tg : Expr) (R : It → Hp → Prop) (itv : Value) (s2 : Shared) : Prop :=
  ∃ (it : Addr) (fp : List Addr) (tn : Nat → Heap → Prop) (J : It) (H' : Hp), itv = .ref it ∧ Inv X pins σ H' s2 ∧ Turn X.prog X.w X.K tg J fp it tn ∧ tn 0 s2.heap ∧ (∀ b ∈ fp, FpOk X pins H' b) ∧ R J H'
def PI (X : Cx) (tg iter : Expr) (wi : TI) : Prop :=
  ∀ (pins : List (Addr × Obj)) (s : Shared) (σ : St) (H : Hp) (R : It → Hp → Prop), Inv X pins σ H s → wi σ H R →
    wpAny (model X.prog X.w) X.A (eval iter X.env) (fun v s1 => wpAny (model X.prog X.w) X.A (pyIter v) (PIE X pins σ tg R) X.xe s1) X.xe s
theorem go_of {M : Model} {A : Around} {E : Value → Shared → Prop} {s : Shared} {tg : Expr} {it : Addr} {u : Value} {o : Obj} {n : String} {vs : Array Value} {Q : Unit → Shared → Prop} (ho : s.heap.get? it = some o) (hc : o.cls = .type n) (hd : o.data = .fields vs)
    (hn : ["enumerate", "zip", "dict_itemiterator", "dict_reverseitemiterator", "odict_iterator", "itertools.zip_longest", "itertools.pairwise"].contains n = false) (hQ : Q () s) : wpAny M A (letOwnedTupleGo tg (.ref it) u) Q E s := by
  unfold letOwnedTupleGo
  cases tg <;> first
    | exact wpAny_pure hQ
    | (cases u <;> first
        | exact wpAny_pure hQ
        | (refine wpAny_bind (wpAny_load ho ?_)
           rw [hc, hd]
           show wpAny M A (if (["enumerate", "zip", "dict_itemiterator", "dict_reverseitemiterator", "odict_iterator", "itertools.zip_longest", "itertools.pairwise"].contains n && vs[0]? == some (rawInt _)) = true then _ else _) Q E s
           rw [if_neg (by intro h; rw [hn, Bool.false_and] at h; cases h)]
           exact wpAny_pure hQ))
def Itl (K : PySem.W.Frag) (a : Addr) : It :=
  ⟨fun i H => ∃ xs x, SqL K H a xs ∧ xs[i]? = some x, fun i H x H' => H' = H ∧ ∀ xs, SqL K H a xs → xs[i]? = some x, fun i H => ∃ xs, SqL K H a xs ∧ xs.length ≤ i⟩
def Itt (K : PySem.W.Frag) (a : Addr) : It :=
  ⟨fun i H => ∃ xs x, SqT K H a xs ∧ xs[i]? = some x, fun i H x H' => H' = H ∧ ∀ xs, SqT K H a xs → xs[i]? = some x, fun i H => ∃ xs, SqT K H a xs ∧ xs.length ≤ i⟩
def Itr (lo : Int) (n : Nat) : It := ⟨fun i _ => i < n, fun i H x H' => H' = H ∧ x = .int (lo + i), fun i _ => n ≤ i⟩
theorem turn_list {P : Program} {w : World} {K : PySem.W.Frag} {tg : Expr} (a it : Addr) : Turn P w K tg (Itl K a) [it] it (fun i h => h.IsListIter it a i) where
  mem := by simp
  obj := fun i h st b hb => by
    have e : b = it := by simpa using hb
    subst e
    obtain ⟨o, e, c, d⟩ := st
    exact ⟨o, e, fun v z => by rw [d] at z; cases z⟩
  keep := fun i h h' st k => st.at fun o e => k it (by simp) o e
  item := by
    intro X hP hw hK hc i pins s σ H E I hf st hg
    subst hP hw hK
    obtain ⟨xs, x, hq, hx⟩ := hg
    obtain ⟨its, rv, p, hz⟩ := I.list hq
    obtain ⟨u, hu, ru⟩ := rv.get hx
    obtain ⟨f0, f1, f2, f3, f4, f5⟩ := hf it (by simp)
    refine wpAny_pyNext_list_item st p.isList (x := u) (by simpa using hu) fun h' st' sb => ?_
    have I1 : Inv X pins σ H { s with heap := h' } := I.turned (t' := s.toks) (fun b o hb e => (sb.2 b hb).trans e) f0 f1 f3 f4 f5
    obtain ⟨o, e, c, d⟩ := id st'
    exact ⟨u, rfl, go_of (s := { s with heap := h' }) e c d (by decide) ⟨x, H, I1, ru, ⟨rfl, fun ys hy => by rw [I.list_inj hy hq]; exact hx⟩, st', fun b hb => (hf b hb).1⟩⟩
  done := by
    intro X hP hw hK hc i pins s σ H E I hf st hg
    subst hP hw hK
    obtain ⟨xs, hq, hx⟩ := hg
    obtain ⟨its, rv, p, hz⟩ := I.list hq
    obtain ⟨f0, f1, f2, f3, f4, f5⟩ := hf it (by simp)
    have hl := rv.length
    exact wpAny_pyNext_list_end (I.ok.hd hc) st p.isList (by simp; omega) fun h' eb => ⟨rfl, I.turned (t' := s.toks) (fun b o hb e => eb b o hb e) f0 f1 f3 f4 f5⟩
  self := fun _ _ _ _ _ st h => wpAny_pyIter_listiter st h
theorem turn_tuple {P : Program} {w : World} {K : PySem.W.Frag} {tg : Expr} (a it : Addr) : Turn P w K tg (Itt K a) [it] it (fun i h => h.IsTupleIter it a i) where
  mem := by simp
  obj := fun i h st b hb => by
    have e : b = it := by simpa using hb
    subst e
    obtain ⟨o, e, c, d⟩ := st
    exact ⟨o, e, fun v z => by rw [d] at z; cases z⟩
  keep := fun i h h' st k => st.at fun o e => k it (by simp) o e
  item := by
    intro X hP hw hK hc i pins s σ H E I hf st hg
    subst hP hw hK
    obtain ⟨xs, x, hq, hx⟩ := hg
    obtain ⟨its, rv, p, hz⟩ := I.tuple hq
    obtain ⟨u, hu, ru⟩ := rv.get hx
    obtain ⟨f0, f1, f2, f3, f4, f5⟩ := hf it (by simp)
    refine wpAny_pyNext_tuple_item st (show s.heap.IsTuple a its.toArray from p) (x := u) (by simpa using hu) fun h' st' sb => ?_
    have I1 : Inv X pins σ H { s with heap := h' } := I.turned (t' := s.toks) (fun b o hb e => (sb.2 b hb).trans e) f0 f1 f3 f4 f5
    obtain ⟨o, e, c, d⟩ := id st'
    exact ⟨u, rfl, go_of (s := { s with heap := h' }) e c d (by decide) ⟨x, H, I1, ru, ⟨rfl, fun ys hy => by rw [I.tuple_inj hy hq]; exact hx⟩, st', fun b hb => (hf b hb).1⟩⟩
  done := by
    intro X hP hw hK hc i pins s σ H E I hf st hg
    subst hP hw hK
    obtain ⟨xs, hq, hx⟩ := hg
    obtain ⟨its, rv, p, hz⟩ := I.tuple hq
    obtain ⟨f0, f1, f2, f3, f4, f5⟩ := hf it (by simp)
    have hl := rv.length
    exact wpAny_pyNext_tuple_end (I.ok.hd hc) st (show s.heap.IsTuple a its.toArray from p) (by simp; omega) fun h' eb => ⟨rfl, I.turned (t' := s.toks) (fun b o hb e => eb b o hb e) f0 f1 f3 f4 f5⟩
  self := fun _ _ _ _ _ st h => wpAny_pyIter_tupleiter st h
theorem turn_range {P : Program} {w : World} {K : PySem.W.Frag} {tg : Expr} (it : Addr) (lo : Int) (n : Nat) : Turn P w K tg (Itr lo n) [it] it (fun i h => IsRangeIter h it (lo + (i : Nat) * 1) ((n : Int) - (i : Nat)) 1) where
  mem := by simp
  obj := fun i h st b hb => by
    have e : b = it := by simpa using hb
    subst e
    exact ⟨_, st, fun v z => by
      have z' : Data.fields _ = Data.cell v := z
      cases z'⟩
  keep := fun i h h' st k => k it (by simp) _ st
  item := by
    intro X hP hw hK hc i pins s σ H E I hf st hg
    subst hP hw hK
    obtain ⟨f0, f1, f2, f3, f4, f5⟩ := hf it (by simp)
    have W := Walks.range (prog := X.prog) (w := X.w) (I.ok.hd hc) it lo 1 n
    refine W.item i s _ _ hg st fun v h' tk hv st' kk => ?_
    obtain ⟨t, rfl⟩ := hv
    have I1 : Inv X pins σ H { s with heap := h', toks := tk } := I.turned (fun b o hb e => kk b o (by simpa using hb) e) f0 f1 f3 f4 f5
    refine ⟨_, rfl, go_of (s := { s with heap := h', toks := tk }) (n := "range_iterator") st' rfl rfl (by decide) ⟨.int (lo + i), H, I1, ⟨t, ?_⟩, ⟨rfl, rfl⟩, st', fun b hb => (hf b hb).1⟩⟩
    rw [Int.mul_one]
  done := by
    intro X hP hw hK hc i pins s σ H E I hf st hg
    subst hP hw hK
    obtain ⟨f0, f1, f2, f3, f4, f5⟩ := hf it (by simp)
    exact wpAny_pyNext_range_end (I.ok.hd hc) st (by have : n ≤ i := hg; omega) fun h' eb => ⟨rfl, I.turned (t' := s.toks) (fun b o hb e => eb b o hb e) f0 f1 f3 f4 f5⟩
  self := fun _ _ _ _ _ st h => wpAny_pyIter_rangeiter st h
end L2
namespace L2
open PySem PySem.Spec PyProof.Rows
section
variable {X : Cx} {tg : Expr}
def iList (K : PySem.W.Frag) (tl : TE) : TI := fun σ H R => tl σ H fun x H1 => ∃ a, x = .ref a ∧ (∃ xs, SqL K H1 a xs) ∧ R (Itl K a) H1
def iTup (K : PySem.W.Frag) (tl : TE) : TI := fun σ H R => tl σ H fun x H1 => ∃ a, x = .ref a ∧ (∃ xs, SqT K H1 a xs) ∧ R (Itt K a) H1
theorem pi_list {l : Expr} {tl : TE} (hl : PE X l tl) : PI X tg l (iList X.K tl) := by
  intro pins s σ H R I h
  refine thn (hl pins s σ H _ I h) fun v s1 ⟨x, H1, I1, r1, q1⟩ => ?_
  obtain ⟨a, e, ⟨xs, hq⟩, q⟩ := q1
  subst e
  cases r1
  obtain ⟨its, rv, p, hz⟩ := I1.list hq
  refine wpAny_pyIter_list p.isList ?_
  refine ⟨s1.heap.objs.size, [s1.heap.objs.size], _, _, H1, rfl, I1.kept (t' := s1.toks) fun b o e => Heap.get?_push_of_some _ e, turn_list a _, ⟨_, Heap.get?_push_size _ rfl, rfl, rfl⟩, fun b hb => ?_, q⟩
  have e : b = s1.heap.objs.size := by simpa using hb
  subst e
  exact I1.fpOk (Nat.le_refl _) (I1.hok.fresh (Nat.le_refl _))
theorem pi_tup {l : Expr} {tl : TE} (hl : PE X l tl) : PI X tg l (iTup X.K tl) := by
  intro pins s σ H R I h
  refine thn (hl pins s σ H _ I h) fun v s1 ⟨x, H1, I1, r1, q1⟩ => ?_
  obtain ⟨a, e, ⟨xs, hq⟩, q⟩ := q1
  subst e
  cases r1
  obtain ⟨its, rv, p, hz⟩ := I1.tuple hq
  refine wpAny_pyIter_tuple (show s1.heap.IsTuple a its.toArray from p) ?_
  refine ⟨s1.heap.objs.size, [s1.heap.objs.size], _, _, H1, rfl, I1.kept (t' := s1.toks) fun b o e => Heap.get?_push_of_some _ e, turn_tuple a _, ⟨_, Heap.get?_push_size _ rfl, rfl, rfl⟩, fun b hb => ?_, q⟩
  have e : b = s1.heap.objs.size := by simpa using hb
  subst e
  exact I1.fpOk (Nat.le_refl _) (I1.hok.fresh (Nat.le_refl _))
theorem range_it {pins : List (Addr × Obj)} {σ : St} {H : Hp} {s : Shared} {R : It → Hp → Prop} {E : Value → Shared → Prop} {lo hi : Int} {t u v : Tok} {tk : Nat} (I : Inv X pins σ H s) (h1 : -(2 ^ 62) ≤ lo) (h2 : lo < 2 ^ 62) (h3 : -(2 ^ 62) ≤ hi) (h4 : hi < 2 ^ 62)
    (q : R (Itr lo (hi - lo).toNat) H) : wpAny (model X.prog X.w) X.A (pyIter (.ref s.heap.objs.size)) (PIE X pins σ tg R) E { s with heap := s.heap.push { cls := .type "range", data := .fields #[.int lo t, .int hi u, .int 1 v] }, toks := tk } := by
  refine wpAny_pyIter_range (IsRange.new ..) (small_one h1 h2 h3 h4) ?_
  have I1 : Inv X pins σ H { s with heap := s.heap.push { cls := .type "range", data := .fields #[.int lo t, .int hi u, .int 1 v] }, toks := tk } := I.kept fun b o e => Heap.get?_push_of_some _ e
  refine ⟨(s.heap.push { cls := .type "range", data := .fields #[.int lo t, .int hi u, .int 1 v] }).objs.size, [(s.heap.push { cls := .type "range", data := .fields #[.int lo t, .int hi u, .int 1 v] }).objs.size], _, _, H, rfl,
    I1.kept (t' := tk) fun b o e => Heap.get?_push_of_some _ e, turn_range _ lo (hi - lo).toNat, ?_, fun b hb => ?_, q⟩
  · have e1 : lo + ((0 : Nat) : Int) * 1 = lo := by simp
    have e2 : (((hi - lo).toNat : Nat) : Int) - ((0 : Nat) : Int) = Builtin.Range.rangeSize lo hi 1 := by rw [rangeSize_one]; split <;> omega
    show IsRangeIter _ _ (lo + ((0 : Nat) : Int) * 1) ((((hi - lo).toNat : Nat) : Int) - ((0 : Nat) : Int)) 1
    rw [e1, e2]
    exact Heap.get?_push_size _ rfl
  · have e : b = (s.heap.push { cls := .type "range", data := .fields #[.int lo t, .int hi u, .int 1 v] }).objs.size := by simpa using hb
    subst e
    exact I1.fpOk (Nat.le_refl _) (I1.hok.fresh (Nat.le_refl _))
def iRng1 (ta : TA) : TI := fun σ H R => ta σ H fun vs H1 => ∃ j : Int, vs = [.int j] ∧ -(2 ^ 62) ≤ j ∧ j < 2 ^ 62 ∧ R (Itr 0 j.toNat) H1
def iRng2 (ta : TA) : TI := fun σ H R => ta σ H fun vs H1 => ∃ i j : Int, vs = [.int i, .int j] ∧ (-(2 ^ 62) ≤ i ∧ i < 2 ^ 62 ∧ -(2 ^ 62) ≤ j ∧ j < 2 ^ 62) ∧ R (Itr i (j - i).toNat) H1
theorem pi_range1 {a : Expr} {ta : TA} {p pos : Pos} (hg : Gl X "range") (hm : X.mg "range" = none) (ha : PA X [a] ta) (hs : starEach [a] X.env = [(false, eval a X.env)] := by rfl) : PI X tg (.Call (.Name "range" p) [a] [] pos) (iRng1 ta) := by
  intro pins s σ H R I h
  refine Call_ (ld_blt I hg hm boot_range (PyProof.Rows.callWith_type1 (thn (ha pos pins s σ H _ I h) fun us s1 ⟨vs, H1, I1, r1, q1⟩ => ?_) hs rfl))
  obtain ⟨j, e, q1, q2, q⟩ := q1
  subst e
  cases r1 with
  | cons r rr =>
    cases rr
    obtain ⟨t, rfl⟩ := r
    exact call_range_1 (range_it I1 (by omega) (by omega) q1 q2 (by simpa using q))
theorem pi_range2 {a b : Expr} {ta : TA} {p pos : Pos} (hg : Gl X "range") (hm : X.mg "range" = none) (ha : PA X [a, b] ta) (hs : starEach [a, b] X.env = [(false, eval a X.env), (false, eval b X.env)] := by rfl) (hs2 : starEach [b] X.env = [(false, eval b X.env)] := by rfl) :
    PI X tg (.Call (.Name "range" p) [a, b] [] pos) (iRng2 ta) := by
  intro pins s σ H R I h
  refine Call_ (ld_blt I hg hm boot_range (PyProof.Rows.callWith_type1 (thn (ha pos pins s σ H _ I h) fun us s1 ⟨vs, H1, I1, r1, q1⟩ => ?_) (by rw [hs, hs2]) (by rw [hs2]; rfl)))
  obtain ⟨i, j, e, ⟨q1, q2, q3, q4⟩, q⟩ := q1
  subst e
  cases r1 with
  | cons r rr =>
    cases rr with
    | cons r' rr =>
      cases rr
      obtain ⟨t, rfl⟩ := r
      obtain ⟨t', rfl⟩ := r'
      exact call_range_2 (range_it I1 q1 q2 q3 q4 q)
def tFor (wi : TI) (g : TG) (tb : TS) : TS := fun D σ H => wi σ H fun J H1 => ∃ W : Nat → Nat → St → Hp → Prop, (∃ m, W 0 m σ H1) ∧ ∀ i m σ H, W i m σ H →
  (J.stop i H ∧ D.nx σ H) ∨ (J.go i H ∧ ∃ N : St → Hp → Prop, (∀ σ' H', N σ' H' → ∃ m', m' < m ∧ W (i + 1) m' σ' H') ∧ ∀ x H', J.yld i H x H' → g x σ H' fun σ2 H2 => tb { D with nx := N, ct := N, bk := D.nx } σ2 H2)
def pinsAt (fp : List Addr) (h : Heap) : List (Addr × Obj) := fp.filterMap fun b => (h.get? b).map fun o => (b, o)
theorem mem_pinsAt {fp : List Addr} {h : Heap} {b : Addr} {o : Obj} (hb : b ∈ fp) (e : h.get? b = some o) : (b, o) ∈ pinsAt fp h := List.mem_filterMap.mpr ⟨b, hb, by rw [e]; rfl⟩
theorem of_pinsAt {fp : List Addr} {h : Heap} {p : Addr × Obj} (hp : p ∈ pinsAt fp h) : p.1 ∈ fp ∧ h.get? p.1 = some p.2 := by
  obtain ⟨b, hb, e⟩ := List.mem_filterMap.mp hp
  cases q : h.get? b with
  | none => rw [q] at e; cases e
  | some o =>
    rw [q] at e
    have e' : (b, o) = p := Option.some.inj e
    subst e'
    exact ⟨hb, q⟩
theorem Inv.pinned {pins : List (Addr × Obj)} {σ : St} {H : Hp} {s : Shared} {fp : List Addr} (I : Inv X pins σ H s) (hf : ∀ b ∈ fp, FpOk X pins H b) (ho : ∀ b ∈ fp, ∃ o, s.heap.get? b = some o ∧ ∀ v, o.data ≠ .cell v) : Inv X (pins ++ pinsAt fp s.heap) σ H s :=
  I.pins_of fun p hp => (List.mem_append.mp hp).elim (fun z => I.pin p (List.mem_append_right _ z)) fun z => by
    obtain ⟨hb, e⟩ := of_pinsAt z
    obtain ⟨f0, f1, f2, _⟩ := hf p.1 hb
    obtain ⟨o, e', d⟩ := ho p.1 hb
    rw [e] at e'; cases e'
    exact ⟨e, f0, f1, f2, d⟩
theorem Inv.unpinned {pins pl : List (Addr × Obj)} {σ : St} {H : Hp} {s : Shared} (I : Inv X (pins ++ pl) σ H s) : Inv X pins σ H s := I.pins_of fun p hp => I.pin p (List.mem_append_right _ (List.mem_append_left _ hp))
theorem ps_for {iter : Expr} {body : List Stmt} {wi : TI} {g : TG} {tb : TS} {pos : Pos} (hp : PassesOwn (model X.prog X.w) X.A X.env X.xe) (hc : X.calm = true) (hi : PI X tg iter wi) (hg : PG X tg g) (hb : PSs X body tb)
    (hs : ∀ x, foldedSetIterable iter X.env x = pure x := by intro _; rfl) : PS X (.For tg iter body [] pos) (tFor wi g tb) := by
  intro pins s σ H D I h
  refine wpAny_For (thn (hi pins s σ H _ I h) fun v s1 h1 => thn h1 fun itv s2 h2 => ?_) hs
  obtain ⟨it, fp, tn, J, H2, e, I2, T, st2, f2, W, ⟨m0, w0⟩, turn⟩ := h2
  subst e
  have stat : ∀ {H' : Hp}, (∀ b ∈ fp, H' b = none) → ∀ b ∈ fp, FpOk X pins H' b := fun hn b hb => ⟨hn b hb, (f2 b hb).2⟩
  refine codeAny_forLoop_any (fun n s' => ∃ i σ' H', Inv X pins σ' H' s' ∧ tn i s'.heap ∧ (∀ b ∈ fp, H' b = none) ∧ W i n σ' H') ?_ m0 ⟨0, σ, H2, I2, st2, fun b hb => (f2 b hb).1, w0⟩
  rintro n s3 ⟨i, σ3, H3, I3, st3, fr3, w3⟩
  rcases turn i n σ3 H3 w3 with ⟨stop, qn⟩ | ⟨go, N, hN, step⟩
  · refine wpAny_passesOwn hp (thn (T.done X rfl rfl rfl hc i pins s3 σ3 H3 X.xe I3 (stat fr3) st3 stop) fun r s4 ⟨hr, I4⟩ => ?_)
    subst hr
    exact wpAny_execs_nil ⟨σ3, H3, I4, qn⟩
  · refine wpAny_passesOwn hp (thn (T.item X rfl rfl rfl hc i pins s3 σ3 H3 X.xe I3 (stat fr3) st3 go) fun r s4 ⟨u, hr, h4⟩ => ?_)
    subst hr
    refine wpAny_passesOwn hp (thn h4 fun _ s5 ⟨x, H5, I5, r5, y5, st5, fr5⟩ => ?_)
    have I5' := I5.pinned (stat fr5) (T.obj _ _ st5)
    refine wpAny_passesOwn hp (thn (hg _ s5 σ3 H5 x u _ I5' r5 (step x H5 y5)) fun _ s6 ⟨σ6, H6, I6, q6⟩ => ?_)
    refine wpAny_passesOwn hp (thn (hb _ s6 σ6 H6 _ I6 q6) fun f s7 q7 => ?_)
    have again : ∀ {σ7 : St} {H7 : Hp}, Inv X (pins ++ pinsAt fp s5.heap) σ7 H7 s7 → N σ7 H7 → ∃ m, m < n ∧ ∃ i σ' H', Inv X pins σ' H' s7 ∧ tn i s7.heap ∧ (∀ b ∈ fp, H' b = none) ∧ W i m σ' H' := fun {σ7 H7} I7 n7 => by
      obtain ⟨m', hm, w7⟩ := hN σ7 H7 n7
      refine ⟨m', hm, i + 1, σ7, H7, I7.unpinned, T.keep _ _ _ st5 fun b hb o e => (I7.pin (b, o) (List.mem_append_right _ (List.mem_append_right _ (mem_pinsAt hb e)))).1, fun b hb => ?_, w7⟩
      obtain ⟨o, e, d⟩ := T.obj _ _ st5 b hb
      exact (I7.pin (b, o) (List.mem_append_right _ (List.mem_append_right _ (mem_pinsAt hb e)))).2.1
    cases f with
    | next => obtain ⟨σ7, H7, I7, n7⟩ := q7; exact again I7 n7
    | cont => obtain ⟨σ7, H7, I7, n7⟩ := q7; exact again I7 n7
    | brk => obtain ⟨σ7, H7, I7, q7⟩ := q7; exact ⟨σ7, H7, I7.unpinned, q7⟩
    | ret v => obtain ⟨x7, σ7, H7, I7, r7, q7⟩ := q7; exact ⟨x7, σ7, H7, I7.unpinned, r7, q7⟩
end
theorem for_list {K : PySem.W.Frag} {a : Addr} {xs : List V} {g : TG} {tb : TS} {D : Ends} {σ : St} {H : Hp} (Pv : Nat → St → Hp → Prop) (h0 : Pv 0 σ H) (hl : ∀ i σ H, i ≤ xs.length → Pv i σ H → SqL K H a xs)
    (hs : ∀ i x σ H, xs[i]? = some x → Pv i σ H → g x σ H fun σ2 H2 => tb { D with nx := Pv (i + 1), ct := Pv (i + 1), bk := D.nx } σ2 H2) (hd : ∀ σ H, Pv xs.length σ H → D.nx σ H) :
    ∃ W : Nat → Nat → St → Hp → Prop, (∃ m, W 0 m σ H) ∧ ∀ i m σ H, W i m σ H →
      ((Itl K a).stop i H ∧ D.nx σ H) ∨ ((Itl K a).go i H ∧ ∃ N : St → Hp → Prop, (∀ σ' H', N σ' H' → ∃ m', m' < m ∧ W (i + 1) m' σ' H') ∧ ∀ x H', (Itl K a).yld i H x H' → g x σ H' fun σ2 H2 => tb { D with nx := N, ct := N, bk := D.nx } σ2 H2) := by
  refine ⟨fun i m σ H => m = xs.length - i ∧ i ≤ xs.length ∧ Pv i σ H, ⟨xs.length, by simp, Nat.zero_le _, h0⟩, ?_⟩
  rintro i m σ H ⟨rfl, hi, p⟩
  have q := hl i σ H hi p
  by_cases hlt : i < xs.length
  · refine .inr ⟨⟨xs, xs[i], q, by simp [hlt]⟩, Pv (i + 1), fun σ' H' p' => ⟨xs.length - (i + 1), by omega, rfl, hlt, p'⟩, fun x H' y => ?_⟩
    obtain ⟨e, y⟩ := y
    subst e
    exact hs i x σ _ (y xs q) p
  · have e : i = xs.length := by omega
    subst e
    exact .inl ⟨⟨xs, q, Nat.le_refl _⟩, hd σ H p⟩
theorem for_tup {K : PySem.W.Frag} {a : Addr} {xs : List V} {g : TG} {tb : TS} {D : Ends} {σ : St} {H : Hp} (Pv : Nat → St → Hp → Prop) (h0 : Pv 0 σ H) (hl : ∀ i σ H, i ≤ xs.length → Pv i σ H → SqT K H a xs)
    (hs : ∀ i x σ H, xs[i]? = some x → Pv i σ H → g x σ H fun σ2 H2 => tb { D with nx := Pv (i + 1), ct := Pv (i + 1), bk := D.nx } σ2 H2) (hd : ∀ σ H, Pv xs.length σ H → D.nx σ H) :
    ∃ W : Nat → Nat → St → Hp → Prop, (∃ m, W 0 m σ H) ∧ ∀ i m σ H, W i m σ H →
      ((Itt K a).stop i H ∧ D.nx σ H) ∨ ((Itt K a).go i H ∧ ∃ N : St → Hp → Prop, (∀ σ' H', N σ' H' → ∃ m', m' < m ∧ W (i + 1) m' σ' H') ∧ ∀ x H', (Itt K a).yld i H x H' → g x σ H' fun σ2 H2 => tb { D with nx := N, ct := N, bk := D.nx } σ2 H2) := by
  refine ⟨fun i m σ H => m = xs.length - i ∧ i ≤ xs.length ∧ Pv i σ H, ⟨xs.length, by simp, Nat.zero_le _, h0⟩, ?_⟩
  rintro i m σ H ⟨rfl, hi, p⟩
  have q := hl i σ H hi p
  by_cases hlt : i < xs.length
  · refine .inr ⟨⟨xs, xs[i], q, by simp [hlt]⟩, Pv (i + 1), fun σ' H' p' => ⟨xs.length - (i + 1), by omega, rfl, hlt, p'⟩, fun x H' y => ?_⟩
    obtain ⟨e, y⟩ := y
    subst e
    exact hs i x σ _ (y xs q) p
  · have e : i = xs.length := by omega
    subst e
    exact .inl ⟨⟨xs, q, Nat.le_refl _⟩, hd σ H p⟩
theorem for_range {lo : Int} {n : Nat} {g : TG} {tb : TS} {D : Ends} {σ : St} {H : Hp} (Pv : Nat → St → Hp → Prop) (h0 : Pv 0 σ H)
    (hs : ∀ i σ H, i < n → Pv i σ H → g (.int (lo + i)) σ H fun σ2 H2 => tb { D with nx := Pv (i + 1), ct := Pv (i + 1), bk := D.nx } σ2 H2) (hd : ∀ σ H, Pv n σ H → D.nx σ H) :
    ∃ W : Nat → Nat → St → Hp → Prop, (∃ m, W 0 m σ H) ∧ ∀ i m σ H, W i m σ H →
      ((Itr lo n).stop i H ∧ D.nx σ H) ∨ ((Itr lo n).go i H ∧ ∃ N : St → Hp → Prop, (∀ σ' H', N σ' H' → ∃ m', m' < m ∧ W (i + 1) m' σ' H') ∧ ∀ x H', (Itr lo n).yld i H x H' → g x σ H' fun σ2 H2 => tb { D with nx := N, ct := N, bk := D.nx } σ2 H2) := by
  refine ⟨fun i m σ H => m = n - i ∧ i ≤ n ∧ Pv i σ H, ⟨n, by simp, Nat.zero_le _, h0⟩, ?_⟩
  rintro i m σ H ⟨rfl, hi, p⟩
  by_cases hlt : i < n
  · refine .inr ⟨hlt, Pv (i + 1), fun σ' H' p' => ⟨n - (i + 1), by omega, rfl, hlt, p'⟩, fun x H' y => ?_⟩
    obtain ⟨e, y⟩ := y
    subst e y
    exact hs i σ _ hlt p
  · have e : i = n := by omega
    subst e
    exact .inl ⟨Nat.le_refl _, hd σ H p⟩
end L2
namespace L2
open PySem PySem.Spec PyProof.Rows
abbrev R2 := V → V → Hp → VK → Prop
def OpR (X : Cx) (f : Value → Value → Sem Value) (r : R2) : Prop :=
  ∀ (pins : List (Addr × Obj)) (s : Shared) (σ : St) (H : Hp) (x y : V) (v u : Value) (Q : VK), Inv X pins σ H s → RelV x v → RelV y u → r x y H Q →
    wpAny (model X.prog X.w) X.A (f v u) (EP X pins σ Q) X.xe s
def UnR (X : Cx) (f : Value → Sem Value) (r : V → Hp → VK → Prop) : Prop :=
  ∀ (pins : List (Addr × Obj)) (s : Shared) (σ : St) (H : Hp) (x : V) (v : Value) (Q : VK), Inv X pins σ H s → RelV x v → r x H Q →
    wpAny (model X.prog X.w) X.A (f v) (EP X pins σ Q) X.xe s
def CallR (X : Cx) (f : Value) (r : List V → Hp → VK → Prop) : Prop :=
  ∀ (pins : List (Addr × Obj)) (s : Shared) (σ : St) (H : Hp) (xs : List V) (us : List Value) (Q : VK), Inv X pins σ H s → Vals xs us → r xs H Q →
    wpAny (model X.prog X.w) X.A (call f us) (EP X pins σ Q) X.xe s
def tOp (r : R2) (ta tb : TE) : TE := fun σ H Q => ta σ H fun x H1 => tb σ H1 fun y H2 => r x y H2 Q
def tUn (r : V → Hp → VK → Prop) (ta : TE) : TE := fun σ H Q => ta σ H fun x H1 => r x H1 Q
def rI (C : Int → Int → Prop) (g : Int → Int → V) : R2 := fun x y H Q => ∃ i j, x = .int i ∧ y = .int j ∧ C i j ∧ Q (g i j) H
def rI0 (g : Int → Int → V) : R2 := fun x y H Q => ∃ i j, x = .int i ∧ y = .int j ∧ Q (g i j) H
def rU (g : Int → V) : V → Hp → VK → Prop := fun x H Q => ∃ i, x = .int i ∧ Q (g i) H
section
variable {X : Cx} {a b c : Expr} {ta tb tc : TE} {pos : Pos}
theorem binT (ha : PE X a ta) (hb : PE X b tb) {pins : List (Addr × Obj)} {s : Shared} {σ : St} {H : Hp} {R : V → V → Hp → Prop} (I : Inv X pins σ H s)
    (h : ta σ H fun x H1 => tb σ H1 fun y H2 => R x y H2) {Q : Value → Shared → Prop} {f : Value → Value → Sem Value}
    (hf : ∀ v u s2 x y H2, Inv X pins σ H2 s2 → RelV x v → RelV y u → R x y H2 → wpAny (model X.prog X.w) X.A (f v u) Q X.xe s2) :
    wpAny (model X.prog X.w) X.A (eval a X.env) (fun v s₁ => wpAny (model X.prog X.w) X.A (eval b X.env) (fun u s₂ => wpAny (model X.prog X.w) X.A (f v u) Q X.xe s₂) X.xe s₁) X.xe s := by
  refine thn (ha pins s σ H _ I h) fun v s1 ⟨x, H1, I1, r1, q1⟩ => ?_
  refine thn (hb pins s1 σ H1 _ I1 q1) fun u s2 ⟨y, H2, I2, r2, q2⟩ => ?_
  exact hf v u s2 x y H2 I2 r1 r2 q2
theorem pe_op {op : Operator} {r : R2} (ho : OpR X (binaryOp op) r) (ha : PE X a ta) (hb : PE X b tb) : PE X (.BinOp a op b pos) (tOp r ta tb) := by
  intro pins s σ H Q I h
  exact wpAny_BinOp (binT ha hb I h fun v u s2 x y H2 I2 rx ry q => ho pins s2 σ H2 x y v u Q I2 rx ry q)
theorem pe_un {op : UnaryOp} {r : V → Hp → VK → Prop} (ho : UnR X (unaryOp op) r) (ha : PE X a ta) : PE X (.UnaryOp op a pos) (tUn r ta) := by
  intro pins s σ H Q I h
  exact UnaryOp_ (thn (ha pins s σ H _ I h) fun v s1 ⟨x, H1, I1, r1, q1⟩ => ho pins s1 σ H1 x v Q I1 r1 q1)
theorem opI {f : Value → Value → Sem Value} {C : Int → Int → Prop} {g : Int → Int → Int}
    (rule : ∀ (i j : Int) (t u : Tok) (s : Shared) (Q : Value → Shared → Prop) (E : Value → Shared → Prop), C i j → Q (.int (g i j) s.toks) { s with toks := s.toks + 1 } → wpAny (model X.prog X.w) X.A (f (.int i t) (.int j u)) Q E s) :
    OpR X f (rI C fun i j => .int (g i j)) := by
  intro pins s σ H x y v u Q I rx ry h
  obtain ⟨i, j, rfl, rfl, hc, q⟩ := h
  obtain ⟨t, rfl⟩ := rx
  obtain ⟨t', rfl⟩ := ry
  exact rule i j t t' s _ _ hc ⟨.int (g i j), H, I.tok _, ⟨_, rfl⟩, q⟩
theorem opI0 {f : Value → Value → Sem Value} {g : Int → Int → Int}
    (rule : ∀ (i j : Int) (t u : Tok) (s : Shared) (Q : Value → Shared → Prop) (E : Value → Shared → Prop), Q (.int (g i j) s.toks) { s with toks := s.toks + 1 } → wpAny (model X.prog X.w) X.A (f (.int i t) (.int j u)) Q E s) :
    OpR X f (rI0 fun i j => .int (g i j)) := by
  intro pins s σ H x y v u Q I rx ry h
  obtain ⟨i, j, rfl, rfl, q⟩ := h
  obtain ⟨t, rfl⟩ := rx
  obtain ⟨t', rfl⟩ := ry
  exact rule i j t t' s _ _ ⟨.int (g i j), H, I.tok _, ⟨_, rfl⟩, q⟩
theorem opB0 {f : Value → Value → Sem Value} {g : Int → Int → Bool}
    (rule : ∀ (i j : Int) (t u : Tok) (s : Shared) (Q : Value → Shared → Prop) (E : Value → Shared → Prop), Q (.bool (g i j)) s → wpAny (model X.prog X.w) X.A (f (.int i t) (.int j u)) Q E s) :
    OpR X f (rI0 fun i j => .bl (g i j)) := by
  intro pins s σ H x y v u Q I rx ry h
  obtain ⟨i, j, rfl, rfl, q⟩ := h
  obtain ⟨t, rfl⟩ := rx
  obtain ⟨t', rfl⟩ := ry
  exact rule i j t t' s _ _ ⟨.bl (g i j), H, I, rfl, q⟩
def CDiv (i j : Int) : Prop := 0 < j ∧ j < 1073741824
def CPow (i j : Int) : Prop := 0 ≤ j ∧ j ≤ 1000000 ∧ i.natAbs < 2 ^ 64
def CMul (i j : Int) : Prop := (-(2 ^ 64) < i ∧ i < 2 ^ 64) ∨ (-(2 ^ 64) < j ∧ j < 2 ^ 64)
theorem CMul.ok {i j : Int} (h : CMul i j) : IntMulOk i j := by
  rcases h with ⟨h1, h2⟩ | ⟨h1, h2⟩
  · exact .of_left (intBits_le_64 h1 h2)
  · exact .of_right (intBits_le_64 h1 h2)
theorem op_add : OpR X (binaryOp .Add) (rI0 fun i j => .int (i + j)) := opI0 fun _ _ _ _ _ _ _ q => add_int q
theorem op_sub : OpR X (binaryOp .Sub) (rI0 fun i j => .int (i - j)) := opI0 fun _ _ _ _ _ _ _ q => sub_int q
theorem op_mul : OpR X (binaryOp .Mult) (rI CMul fun i j => .int (i * j)) := opI fun _ _ _ _ _ _ _ hc q => mul_int q hc.ok
theorem op_fdiv : OpR X (binaryOp .FloorDiv) (rI CDiv fun i j => .int (i / j)) := opI fun i j _ _ _ _ _ hc q => by
  have h1 : (0 : Int) < j := hc.1
  have h2 : j < 1073741824 := hc.2
  exact floordiv_int (by omega) (by rw [Int.fdiv_eq_ediv_of_nonneg i (by omega)]; exact q) (.inl (PyProof.noPylong_small (by omega)))
theorem op_mod : OpR X (binaryOp .Mod) (rI (fun _ j => 0 < j) fun i j => .int (i % j)) := opI fun i j _ _ _ _ _ hc q => by
  have h1 : (0 : Int) < j := hc
  exact mod_int' (by omega) (by rw [Int.fmod_eq_emod_of_nonneg i (by omega)]; exact q)
theorem op_pow : OpR X (binaryOp .Pow) (rI CPow fun i j => .int (i ^ j.toNat)) := opI fun _ _ _ _ _ _ _ hc q => pow_int_small hc.1 hc.2.1 hc.2.2 q
theorem unI {f : Value → Sem Value} {g : Int → Int}
    (rule : ∀ (i : Int) (t : Tok) (s : Shared) (Q : Value → Shared → Prop) (E : Value → Shared → Prop), Q (.int (g i) s.toks) { s with toks := s.toks + 1 } → wpAny (model X.prog X.w) X.A (f (.int i t)) Q E s) :
    UnR X f (rU fun i => .int (g i)) := by
  intro pins s σ H x v Q I rx h
  obtain ⟨i, rfl, q⟩ := h
  obtain ⟨t, rfl⟩ := rx
  exact rule i t s _ _ ⟨.int (g i), H, I.tok _, ⟨_, rfl⟩, q⟩
theorem un_neg : UnR X (unaryOp .USub) (rU fun i => .int (-i)) := unI fun _ _ _ _ _ q => neg_int q
end
def scal : V → V → Bool
  | .non, .non => true | .non, .int _ => true | .int _, .non => true | .non, .bl _ => true | .bl _, .non => true | .non, .str _ => true | .str _, .non => true
  | .int _, .int _ => true | .bl _, .bl _ => true | .str _, .str _ => true | .byt _, .byt _ => true
  | .int _, .str _ => true | .str _, .int _ => true | .bl _, .str _ => true | .str _, .bl _ => true
  | _, _ => false
def rEq : R2 := fun x y H Q => scal x y = true ∧ Q (.bl (decide (x = y))) H
def rNe : R2 := fun x y H Q => scal x y = true ∧ Q (.bl (!decide (x = y))) H
theorem dec_int {i j : Int} : decide (V.int i = V.int j) = (i == j) := by
  rw [Bool.eq_iff_iff]
  simp
theorem dec_bl {i j : Bool} : decide (V.bl i = V.bl j) = (i == j) := by
  rw [Bool.eq_iff_iff]
  simp
theorem dec_str {i j : Str} : decide (V.str i = V.str j) = (i == j) := by
  rw [Bool.eq_iff_iff]
  simp
theorem dec_byt {i j : Array UInt8} : decide (V.byt i = V.byt j) = (i.toList == j.toList) := by
  rw [Bool.eq_iff_iff]
  cases i
  cases j
  simp
section
variable {X : Cx} {a b c : Expr} {ta tb tc : TE} {pos : Pos}
theorem fin_bl {pins : List (Addr × Obj)} {σ : St} {H : Hp} {s : Shared} {Q : VK} {k k' : Bool} (I : Inv X pins σ H s) (q : Q (.bl k) H) (e : k = k') : EP X pins σ Q (.bool k') s := by
  subst e
  exact ⟨.bl k, H, I, rfl, q⟩
theorem op_eq : OpR X (compareOp .Eq) rEq := by
  intro pins s σ H x y v u Q I rx ry h
  obtain ⟨hs, q⟩ := h
  cases x with
  | non =>
    cases rx
    cases y with
    | non => cases ry; exact PySem.EqNone.eq_none_none (fin_bl I q (by simp))
    | bl j => cases ry; exact PySem.EqNone.eq_none_bool (fin_bl I q (by simp))
    | int j => obtain ⟨t', rfl⟩ := ry; exact PySem.EqNone.eq_none_int (fin_bl I q (by simp))
    | str j => obtain ⟨t', rfl⟩ := ry; exact PySem.EqNone.eq_none_str (fin_bl I q (by simp))
    | _ => exact absurd (show false = true from hs) Bool.false_ne_true
  | bl i =>
    cases rx
    cases y with
    | non => cases ry; exact PySem.EqNone.eq_bool_none (fin_bl I q (by simp))
    | bl j => cases ry; exact eq_bool (fin_bl I q dec_bl)
    | str j => obtain ⟨t', rfl⟩ := ry; exact PySem.EqMixed.eq_bool_str (fin_bl I q (by simp))
    | _ => exact absurd (show false = true from hs) Bool.false_ne_true
  | int i =>
    obtain ⟨t, rfl⟩ := rx
    cases y with
    | non => cases ry; exact PySem.EqNone.eq_int_none (fin_bl I q (by simp))
    | int j => obtain ⟨t', rfl⟩ := ry; exact eq_int (fin_bl I q dec_int)
    | str j => obtain ⟨t', rfl⟩ := ry; exact PySem.EqMixed.eq_int_str (fin_bl I q (by simp))
    | _ => exact absurd (show false = true from hs) Bool.false_ne_true
  | str i =>
    obtain ⟨t, rfl⟩ := rx
    cases y with
    | non => cases ry; exact PySem.EqNone.eq_str_none (fin_bl I q (by simp))
    | bl j => cases ry; exact PySem.EqMixed.eq_str_bool (fin_bl I q (by simp))
    | int j => obtain ⟨t', rfl⟩ := ry; exact PySem.EqMixed.eq_str_int (fin_bl I q (by simp))
    | str j => obtain ⟨t', rfl⟩ := ry; exact eq_str (fin_bl I q dec_str)
    | _ => exact absurd (show false = true from hs) Bool.false_ne_true
  | byt i =>
    obtain ⟨t, rfl⟩ := rx
    cases y with
    | byt j => obtain ⟨t', rfl⟩ := ry; exact PySem.W.eq_bytes (fin_bl I q dec_byt)
    | _ => exact absurd (show false = true from hs) Bool.false_ne_true
  | _ => cases y <;> exact absurd (show false = true from hs) Bool.false_ne_true
theorem op_ne : OpR X (compareOp .NotEq) rNe := by
  intro pins s σ H x y v u Q I rx ry h
  obtain ⟨hs, q⟩ := h
  cases x with
  | non =>
    cases rx
    cases y with
    | non => cases ry; exact PySem.EqNone.ne_none_none (fin_bl I q (by simp))
    | bl j => cases ry; exact PySem.EqNone.ne_none_bool (fin_bl I q (by simp))
    | int j => obtain ⟨t', rfl⟩ := ry; exact PySem.EqNone.ne_none_int (fin_bl I q (by simp))
    | str j => obtain ⟨t', rfl⟩ := ry; exact PySem.EqNone.ne_none_str (fin_bl I q (by simp))
    | _ => exact absurd (show false = true from hs) Bool.false_ne_true
  | bl i =>
    cases rx
    cases y with
    | non => cases ry; exact PySem.EqNone.ne_bool_none (fin_bl I q (by simp))
    | bl j => cases ry; exact ne_bool (fin_bl I q (congrArg not dec_bl))
    | str j => obtain ⟨t', rfl⟩ := ry; exact PySem.EqMixed.ne_bool_str (fin_bl I q (by simp))
    | _ => exact absurd (show false = true from hs) Bool.false_ne_true
  | int i =>
    obtain ⟨t, rfl⟩ := rx
    cases y with
    | non => cases ry; exact PySem.EqNone.ne_int_none (fin_bl I q (by simp))
    | int j => obtain ⟨t', rfl⟩ := ry; exact ne_int (fin_bl I q (congrArg not dec_int))
    | str j => obtain ⟨t', rfl⟩ := ry; exact PySem.EqMixed.ne_int_str (fin_bl I q (by simp))
    | _ => exact absurd (show false = true from hs) Bool.false_ne_true
  | str i =>
    obtain ⟨t, rfl⟩ := rx
    cases y with
    | non => cases ry; exact PySem.EqNone.ne_str_none (fin_bl I q (by simp))
    | bl j => cases ry; exact PySem.EqMixed.ne_str_bool (fin_bl I q (by simp))
    | int j => obtain ⟨t', rfl⟩ := ry; exact PySem.EqMixed.ne_str_int (fin_bl I q (by simp))
    | str j => obtain ⟨t', rfl⟩ := ry; exact ne_str (fin_bl I q (congrArg not dec_str))
    | _ => exact absurd (show false = true from hs) Bool.false_ne_true
  | byt i =>
    obtain ⟨t, rfl⟩ := rx
    cases y with
    | byt j => obtain ⟨t', rfl⟩ := ry; exact PySem.W.ne_bytes (fin_bl I q (congrArg not dec_byt))
    | _ => exact absurd (show false = true from hs) Bool.false_ne_true
  | _ => cases y <;> exact absurd (show false = true from hs) Bool.false_ne_true
theorem op_lt : OpR X (compareOp .Lt) (rI0 fun i j => .bl (decide (i < j))) := opB0 fun _ _ _ _ _ _ _ q => lt_int q
theorem op_le : OpR X (compareOp .LtE) (rI0 fun i j => .bl (decide (i ≤ j))) := opB0 fun _ _ _ _ _ _ _ q => le_int q
theorem op_gt : OpR X (compareOp .Gt) (rI0 fun i j => .bl (decide (j < i))) := opB0 fun _ _ _ _ _ _ _ q => gt_int q
theorem op_notN : OpR X (compareOp .IsNot) (fun x y H Q => y = .non ∧ Q (.bl (!decide (x = .non))) H) := by
  intro pins s σ H x y v u Q I rx ry h
  obtain ⟨rfl, q⟩ := h
  cases ry
  refine isnot_none_gen (fin_bl I q ?_)
  cases x <;> first
    | (cases rx; rfl)
    | (obtain ⟨t, rfl⟩ := rx; rfl)
theorem nomark (b : Expr) {op : CmpOp} (h : op ≠ .In := by decide) (h2 : op ≠ .NotIn := by decide) : behindInMarks op b = false := by
  have e1 : (op == CmpOp.In) = false := by cases op <;> first | rfl | exact absurd rfl h
  have e2 : (op == CmpOp.NotIn) = false := by cases op <;> first | rfl | exact absurd rfl h2
  cases b <;> simp [behindInMarks, e1, e2]
theorem pe_cmpR {op : CmpOp} {r : R2} (ho : OpR X (compareOp op) r) (ha : PE X a ta) (hb : PE X b tb) (hm : behindInMarks op b = false) : PE X (.Compare a [op] [b] pos) (tOp r ta tb) := by
  intro pins s σ H Q I h
  exact wpAny_Compare1 (binT ha hb I h fun v u s2 x y H2 I2 rx ry q => ho pins s2 σ H2 x y v u Q I2 rx ry q) hm
def tTest (t : TE) : TT := fun σ H Q => t σ H fun x H' => ∃ k, x = .bl k ∧ Q k H'
theorem pt_cmpR {op : CmpOp} {r : R2} (ho : OpR X (compareOp op) r) (ha : PE X a ta) (hb : PE X b tb) (hm : behindInMarks op b = false) : PT X (.Compare a [op] [b] pos) (tTest (tOp r ta tb)) := by
  intro pins s σ H Q I h
  refine wpAny_isTrue_Compare1 (thn (ha pins s σ H _ I h) fun v s1 ⟨x, H1, I1, r1, q1⟩ => thn (hb pins s1 σ H1 _ I1 q1) fun u s2 ⟨y, H2, I2, r2, q2⟩ =>
    thn (ho pins s2 σ H2 x y v u _ I2 r1 r2 q2) fun c s3 ⟨z, H3, I3, r3, k, e, q3⟩ => ?_) hm
  subst e
  cases r3
  exact wpAny_truthy_bool ⟨H3, I3, q3⟩
def tChain (r r' : R2) (ta tb tc : TE) : TE := fun σ H Q => ta σ H fun x H1 => tb σ H1 fun y H2 => r x y H2 fun z H3 => ∃ k, z = .bl k ∧
  (if k = true then tc σ H3 fun w' H4 => r' y w' H4 Q else Q (.bl false) H3)
theorem pe_chain {op op' : CmpOp} {r r' : R2} (ho : OpR X (compareOp op) r) (ho' : OpR X (compareOp op') r') (ha : PE X a ta) (hb : PE X b tb) (hc : PE X c tc)
    (hm : lastMarks [op, op'] [b, c] = false := by with_unfolding_all rfl) : PE X (.Compare a [op, op'] [b, c] pos) (tChain r r' ta tb tc) := by
  intro pins s σ H Q I h
  refine Compare_chain (thn (ha pins s σ H _ I h) fun v s1 ⟨x, H1, I1, r1, q1⟩ => chain_link (thn (hb pins s1 σ H1 _ I1 q1) fun u s2 ⟨y, H2, I2, r2, q2⟩ =>
    thn (ho pins s2 σ H2 x y v u _ I2 r1 r2 q2) fun d s3 ⟨z, H3, I3, r3, k, e, q3⟩ => ?_)) hm
  subst e
  cases r3
  refine wpAny_truthy_bool ?_
  cases k with
  | false => exact ite_ff ⟨.bl false, H3, I3, rfl, q3⟩
  | true => exact ite_tt (chain_last (thn (hc pins s3 σ H3 _ I3 q3) fun w' s4 ⟨z', H4, I4, r4, q4⟩ => ho' pins s4 σ H4 y z' u w' Q I4 r2 r4 q4))
theorem pt_chain {op op' : CmpOp} {r r' : R2} (ho : OpR X (compareOp op) r) (ho' : OpR X (compareOp op') r') (ha : PE X a ta) (hb : PE X b tb) (hc : PE X c tc)
    (hm : lastMarks [op, op'] [b, c] = false := by with_unfolding_all rfl) : PT X (.Compare a [op, op'] [b, c] pos) (tTest (tChain r r' ta tb tc)) := by
  intro pins s σ H Q I h
  refine isTrue_chain (thn (ha pins s σ H _ I h) fun v s1 ⟨x, H1, I1, r1, q1⟩ => test_link (thn (hb pins s1 σ H1 _ I1 q1) fun u s2 ⟨y, H2, I2, r2, q2⟩ =>
    thn (ho pins s2 σ H2 x y v u _ I2 r1 r2 q2) fun d s3 ⟨z, H3, I3, r3, k, e, q3⟩ => ?_)) hm
  subst e
  cases r3
  refine wpAny_truthy_bool ?_
  cases k with
  | false =>
    obtain ⟨k', e', q'⟩ := q3
    cases e'
    exact ite_ff ⟨H3, I3, q'⟩
  | true =>
    refine ite_tt (test_last (thn (hc pins s3 σ H3 _ I3 q3) fun w' s4 ⟨z', H4, I4, r4, q4⟩ => thn (ho' pins s4 σ H4 y z' u w' _ I4 r2 r4 q4) fun d' s5 ⟨z2, H5, I5, r5, k2, e2, q5⟩ => ?_))
    subst e2
    cases r5
    exact wpAny_truthy_bool ⟨H5, I5, q5⟩
theorem line63 : (sizeLine : Nat) < 2 ^ 63 := by rw [sizeLine_eq]; decide
theorem op_add_str : OpR X (binaryOp .Add) (fun x y H Q => ∃ i j, x = .str i ∧ y = .str j ∧ i.length + j.length ≤ sizeLine ∧ Q (.str (i ++ j)) H) := by
  intro pins s σ H x y v u Q I rx ry h
  obtain ⟨i, j, rfl, rfl, hz, q⟩ := h
  obtain ⟨t, rfl⟩ := rx
  obtain ⟨t', rfl⟩ := ry
  exact add_str (fun t' tk => ⟨.str (i ++ j), H, I.tok _, ⟨_, rfl⟩, q⟩) hz
theorem vals1 {x : V} {us : List Value} (r : Vals [x] us) : ∃ u, us = [u] ∧ RelV x u := by
  cases r with
  | cons r1 r2 => cases r2; exact ⟨_, rfl, r1⟩
theorem vals2 {x y : V} {us : List Value} (r : Vals [x, y] us) : ∃ u w', us = [u, w'] ∧ RelV x u ∧ RelV y w' := by
  cases r with
  | cons r1 r2 =>
    cases r2 with
    | cons r3 r4 => cases r4; exact ⟨_, _, rfl, r1, r3⟩
theorem call_max2 (hc : X.calm = true) : CallR X (.builtin "max") (fun xs H Q => ∃ i j, xs = [.int i, .int j] ∧ Q (.int (if j > i then j else i)) H) := by
  intro pins s σ H xs us Q I r h
  obtain ⟨i, j, rfl, q⟩ := h
  obtain ⟨u, w', rfl, ⟨t, rfl⟩, ⟨t', rfl⟩⟩ := vals2 r
  refine max_two_ints (I.ok.hd hc) fun h' tk k => ⟨_, H, I.kept k, ?_, q⟩
  by_cases hj : j > i
  · rw [if_pos hj, if_pos hj]; exact ⟨_, rfl⟩
  · rw [if_neg hj, if_neg hj]; exact ⟨_, rfl⟩
theorem call_int1 : CallR X (.type "int") (fun xs H Q => (∃ i, xs = [.int i] ∧ Q (.int i) H) ∨ ∃ k, xs = [.bl k] ∧ Q (.int (if k then 1 else 0)) H) := by
  intro pins s σ H xs us Q I r h
  rcases h with ⟨i, rfl, q⟩ | ⟨k, rfl, q⟩
  · obtain ⟨u, rfl, t, rfl⟩ := vals1 r
    exact call_int_int ⟨.int i, H, I, ⟨_, rfl⟩, q⟩
  · obtain ⟨u, rfl, r1⟩ := vals1 r
    cases r1
    exact call_int_bool ⟨.int (if k then 1 else 0), H, I.tok _, ⟨_, rfl⟩, q⟩
end
end L2
namespace L2
open PySem PySem.Spec PyProof.Rows
structure ObjM (h : Heap) (x dx C : Addr) (mA : Str → Option Value) : Prop where
  obj : h.get? x = some (PySem.W.instObj C dx)
  ns : h.Ns1 dx mA
  ne : dx ≠ x
theorem lookIn_ns {h : Heap} {dx : Addr} {mA : Str → Option Value} (n : h.Ns1 dx mA) : ∃ od, h.get? dx = some od ∧ ∀ name, PySem.W.lookIn name od = some (mA name) := by
  obtain ⟨o, es, ep, ho, hd, hk, _, hm⟩ := n
  refine ⟨o, ho, fun name => ?_⟩
  have e := hm name
  unfold nsFind findBy at e
  rw [← Array.find?_toList] at e
  unfold PySem.W.lookIn
  rw [hd]
  dsimp only
  split
  · rename_i y q
    rw [q] at e
    exact congrArg some e
  · rename_i q
    rw [q] at e
    have a : es.toList.any (·.refKey) = false := by
      rw [List.any_eq_false]
      intro y hy
      obtain ⟨z, t, hkey⟩ := hk y (Array.mem_toList_iff.mp hy)
      simp [DictEntry.refKey, hkey]
    have a' : ¬ es.toList.any (·.refKey) = true := by rw [a]; exact Bool.false_ne_true
    rw [if_neg a']
    exact congrArg some e
theorem ObjM.look {h : Heap} {x dx C : Addr} {mA : Str → Option Value} (I : ObjM h x dx C mA) : ∃ od, PySem.W.InstAt h x (PySem.W.instObj C dx) C (some od) ∧ ∀ name, PySem.W.lookIn name od = some (mA name) :=
  let ⟨od, ho, hl⟩ := lookIn_ns I.ns
  ⟨od, ⟨I.obj, rfl, rfl, ho⟩, hl⟩
section
variable {prog : Program} {w : World} {A : Around} {E : Value → Shared → Prop} {s : Shared} {K : PySem.W.Frag} {x dx C f : Addr} {mA : Str → Option Value} {name : Str} {v : Value}
theorem get_map {expr : Bool} {Q : Value → Shared → Prop} (X : K.In s.heap) (I : ObjM s.heap x dx C mA) (hg : PySem.W.plainGet K C name = true) (hh : PySem.W.hasDictIn K C = true)
    (ha : PySem.W.findIn K (.ref C) name = some none) (hv : mA name = some v) (hv' : PySem.W.handedIn v = true) (h : Q v { s with toks := s.toks + 1 }) :
    wpAny (model prog w) A (getAttr (.ref x) name expr) Q E s := by
  obtain ⟨od, J, hl⟩ := I.look
  exact PySem.W.get_value X J (PySem.W.plainGet_of hg).1 (PySem.W.findObj_own hh ha rfl (by rw [hl, hv])) hv' h
theorem get_meth {pl : Sem Bool} {Q : Value × List Value → Shared → Prop} (X : K.In s.heap) (I : ObjM s.heap x dx C mA) (hg : PySem.W.plainGet K C name = true)
    (hf : PySem.W.findIn K (.ref C) name = some (some (.ref f))) (ht : PySem.W.isFn K (.ref f) = true) (hv : mA name = none) (h : Q (.ref f, [.ref x]) s) :
    wpAny (model prog w) A (getMethod (.ref x) name pl) Q E s := by
  obtain ⟨od, J, hl⟩ := I.look
  exact PySem.W.method_fn X J (PySem.W.plainGet_of hg).1 (PySem.W.plainGet_of hg).2 hf (beq_iff_eq.mp ht) (by show (PySem.W.lookIn name od).map (·.isSome) = some false; rw [hl, hv]; rfl) h
theorem set_map {ns : List Str} {Q : Unit → Shared → Prop} (X : K.In s.heap) (I : ObjM s.heap x dx C mA)
    (hs : PySem.W.findIn K (.ref C) "__setattr__" = some (some (.builtin "object.__setattr__"))) (hp : PySem.W.plainOver K C = true) (ht : PySem.W.takerIn K C name = some none) (hh : PySem.W.hasDictIn K C = true)
    (hw : PySem.Within mA ns) (hsz : ns.length ≤ sizeLine)
    (h : ∀ h', ObjM h' x dx C (fun y => if y = name then some v else mA y) → Heap.SameBut dx s.heap h' → Q () { s with heap := h', toks := s.toks + 2 }) :
    wpAny (model prog w) A (setAttr (.ref x) name v) Q E s := by
  obtain ⟨od, J, hl⟩ := I.look
  refine PySem.W.set_plain X J hs (PySem.W.osa_open (s := { s with toks := s.toks + 1 }) (r := none) X J hp ht fun b => ?_)
  obtain ⟨cd, hc, hd'⟩ := PySem.W.any_some hh
  have hx : s.heap.get? x = some ⟨.ref C, some dx, .plain, #[]⟩ := I.obj
  refine wpAny_bind (wpAny_pure (wpAny_bind (wpAny_bind (wpAny_loadPart hx (wpAny_bind (PySem.W.Looks.here (s := { s with toks := s.toks + 1 }) (PySem.W.looks_clsIn X hc) ?_))))))
  rw [hd']
  refine wpAny_pure (a := some dx) (wpAny_bind (wpAny_pure (wpAny_bind ?_)))
  refine wpAny_nsSet1 (s := { s with toks := s.toks + 1 }) I.ns fun h' hn2 hs2 => ?_
  obtain ⟨oD, esD, epD, hoD, hdD, hcD⟩ := hn2.count (PySem.Within.cons name v hw)
  refine wpAny_bind (wpAny_lookBehind hoD (by rw [hdD]; exact pastItsLine_dict (Nat.le_trans hcD (by rw [List.length_cons]; omega))) ?_)
  exact wpAny_pure (h _ ⟨(hs2.2 _ (Ne.symm I.ne)).trans I.obj, hn2, I.ne⟩ hs2)
theorem make_map {R : Result → Shared → Prop} {vs : List Value} {kw : List (Str × Value)} (X : K.In s.heap) (hm : PySem.W.makesIn K C = true)
    (hi : PySem.W.findIn K (.ref C) "__init__" = some (some (.ref f))) (hf : PySem.W.typeIn K (.ref f) = some (.type "function"))
    (h : codeAny (model prog w) (A.under (.builtin "type.__call__" ⟨.ref C :: vs, kw⟩)) (.call (.ref f) ⟨.ref (s.heap.objs.size + 1) :: vs, kw⟩) (PySem.W.InitBack (s.heap.objs.size + 1) R)
      { s with heap := (s.heap.push PySem.W.emptyDict).push (PySem.W.instObj C s.heap.objs.size) }) :
    codeAny (model prog w) A (.call (.ref C) ⟨vs, kw⟩) R s := by
  obtain ⟨hh, g, d, t, os⟩ := s
  exact PySem.W.make_core (PySem.W.makes_of X hm) (PySem.W.looks_findIn X hi) (fun self => PySem.W.bind_fn X self hf) (.inl rfl) h
end
def putF (f : Str) (v : V) : List (Str × V) → List (Str × V)
  | [] => [(f, v)]
  | (g, x) :: r => if g = f then (g, v) :: r else (g, x) :: putF f v r
theorem lookup_putF (f g : Str) (v : V) : ∀ fs : List (Str × V), (putF f v fs).lookup g = if g = f then some v else fs.lookup g
  | [] => by
    show List.lookup g [(f, v)] = _
    by_cases h : g = f
    · have hb : (g == f) = true := beq_iff_eq.mpr h
      simp only [List.lookup, hb, if_pos h]
    · have hb : (g == f) = false := beq_eq_false_iff_ne.mpr h
      simp only [List.lookup, hb, if_neg h]
  | (k, x) :: r => by
    have ih := lookup_putF f g v r
    rw [show putF f v ((k, x) :: r) = (if k = f then (k, v) :: r else (k, x) :: putF f v r) from rfl]
    by_cases hk : k = f
    · rw [if_pos hk]
      by_cases h : g = k
      · have hb : (g == k) = true := beq_iff_eq.mpr h
        simp only [List.lookup, hb, if_pos (h.trans hk)]
      · have hb : (g == k) = false := beq_eq_false_iff_ne.mpr h
        simp only [List.lookup, hb, if_neg (fun e : g = f => h (e.trans hk.symm))]
    · rw [if_neg hk]
      by_cases h : g = k
      · have hb : (g == k) = true := beq_iff_eq.mpr h
        simp only [List.lookup, hb, if_neg (fun e : g = f => hk (h.symm.trans e))]
      · have hb : (g == k) = false := beq_eq_false_iff_ne.mpr h
        simp only [List.lookup, hb]
        exact ih
theorem keys_putF (f : Str) (v : V) : ∀ fs : List (Str × V), f ∈ (putF f v fs).map (·.1) ∧ ∀ g, g ∈ fs.map (·.1) → g ∈ (putF f v fs).map (·.1)
  | [] => ⟨by simp [putF], fun g h => by simp at h⟩
  | (k, x) :: r => by
    obtain ⟨i1, i2⟩ := keys_putF f v r
    rw [show putF f v ((k, x) :: r) = (if k = f then (k, v) :: r else (k, x) :: putF f v r) from rfl]
    by_cases hk : k = f
    · rw [if_pos hk]
      subst hk
      exact ⟨by simp, fun g h => by simpa using h⟩
    · rw [if_neg hk]
      refine ⟨?_, fun g h => ?_⟩
      · rw [List.map_cons]
        exact List.mem_cons_of_mem _ i1
      · rw [List.map_cons] at h ⊢
        rcases List.mem_cons.mp h with e | e
        · exact List.mem_cons.mpr (.inl e)
        · exact List.mem_cons_of_mem _ (i2 g e)
theorem length_putF (f : Str) (v : V) : ∀ fs : List (Str × V), (putF f v fs).length ≤ fs.length + 1
  | [] => by simp [putF]
  | (k, x) :: r => by
    have ih := length_putF f v r
    rw [show putF f v ((k, x) :: r) = (if k = f then (k, v) :: r else (k, x) :: putF f v r) from rfl]
    by_cases hk : k = f
    · rw [if_pos hk, List.length_cons, List.length_cons]; omega
    · rw [if_neg hk, List.length_cons, List.length_cons]; omega
theorem RelO.some_of {v : V} {o : Option Value} (r : RelO (some v) o) : ∃ u, o = some u ∧ RelV v u := by
  cases o with
  | none => exact (show False from r).elim
  | some u => exact ⟨u, rfl, r⟩
theorem RelO.none_of {o : Option Value} (r : RelO none o) : o = none := by
  cases o with
  | none => rfl
  | some u => exact (show False from r).elim
theorem handed_of {v : V} {u : Value} (r : RelV v u) : PySem.W.handedIn u = true := by
  cases v with
  | non => cases (show u = Value.none from r); rfl
  | bl b => cases (show u = Value.bool b from r); rfl
  | int i => obtain ⟨t, e⟩ := (show ∃ t, u = Value.int i t from r); cases e; rfl
  | str x => obtain ⟨t, e⟩ := (show ∃ t, u = Value.str x t from r); cases e; rfl
  | byt b => obtain ⟨t, e⟩ := (show ∃ t, u = Value.bytes b t from r); cases e; rfl
  | flt b => obtain ⟨t, e⟩ := (show ∃ t, u = Value.float b t from r); cases e; rfl
  | ref a => cases (show u = Value.ref a from r); rfl
  | ty n => cases (show u = Value.type n from r); rfl
section
variable {P : Program} {w : World} {H H' : Hp} {h h' : Heap} {a C dx : Addr} {fs fs' : List (Str × V)}
theorem ins_get (hok : HOk P w H h) (e : H a = some (.ins C dx fs)) : ∃ mA, ObjM h a dx C mA ∧ (∀ f, RelO (fs.lookup f) (mA f)) ∧ PySem.Within mA (fs.map (·.1)) ∧ fs.length ≤ 1000 ∧ H dx = some (.own a) := by
  obtain ⟨d, z, ne, ob, mA, n, r, q⟩ := (show ObjOk P w H h a (.ins C dx fs) from hok a _ e)
  exact ⟨mA, ⟨ob, n, ne⟩, r, q, z, d⟩
end
structure Cls (K : PySem.W.Frag) (C : Addr) : Prop where
  pg : PySem.W.plainGet K C Str.empty = true
  hd : PySem.W.hasDictIn K C = true
  po : PySem.W.plainOver K C = true
  sa : PySem.W.findIn K (.ref C) "__setattr__" = some (some (.builtin "object.__setattr__"))
theorem Cls.get {K : PySem.W.Frag} {C : Addr} (c : Cls K C) (f : Str) : PySem.W.plainGet K C f = true := c.pg
def NoAttr (K : PySem.W.Frag) (C : Addr) (f : Str) : Prop := PySem.W.findIn K (.ref C) f = some none
theorem NoAttr.taker {K : PySem.W.Frag} {C : Addr} {f : Str} (n : NoAttr K C f) : PySem.W.takerIn K C f = some none := by
  unfold PySem.W.takerIn
  rw [show PySem.W.findIn K (.ref C) f = some none from n]
  rfl
structure Con (K : PySem.W.Frag) (C : Addr) (f : Str) (v : V) (u : Value) : Prop where
  at_ : PySem.W.findIn K (.ref C) f = some (some u)
  rel : RelV v u
  get : PySem.W.specialIn K u "__get__" = some none
  cp : PySem.W.copiedNames.contains f = false
structure Meth (K : PySem.W.Frag) (C : Addr) (m : Str) (f : Addr) : Prop where
  at_ : PySem.W.findIn K (.ref C) m = some (some (.ref f))
  fn : PySem.W.isFn K (.ref f) = true
  kp : PySem.W.keepIn K (.ref f) = true
section
variable {X : Cx} {pins : List (Addr × Obj)} {σ : St} {H : Hp} {s : Shared} {a C dx : Addr} {fs : List (Str × V)} {f : Str} {v : V} {A : Around} {E : Value → Shared → Prop}
theorem getattr_ok {b : Bool} {Q : Value → Shared → Prop} (I : Inv X pins σ H s) (e : H a = some (.ins C dx fs)) (c : Cls X.K C) (n : NoAttr X.K C f) (l : fs.lookup f = some v)
    (h : ∀ u s', Inv X pins σ H s' → RelV v u → Q u s') : wpAny (model X.prog X.w) A (getAttr (.ref a) f b) Q E s := by
  obtain ⟨mA, O, r, _, _, _⟩ := ins_get I.hok e
  obtain ⟨u, hu, ru⟩ := RelO.some_of (v := v) (o := mA f) (by rw [← l]; exact r f)
  exact get_map I.kIn O (c.get f) c.hd n hu (handed_of ru) (h u _ (I.tok _) ru)
theorem getmeth_ok {m : Str} {g : Addr} {pl : Sem Bool} {Q : Value × List Value → Shared → Prop} (I : Inv X pins σ H s) (e : H a = some (.ins C dx fs)) (c : Cls X.K C) (k : Meth X.K C m g) (l : fs.lookup m = none)
    (h : Q (.ref g, [.ref a]) s) : wpAny (model X.prog X.w) A (getMethod (.ref a) m pl) Q E s := by
  obtain ⟨mA, O, r, _, _, _⟩ := ins_get I.hok e
  have hn : mA m = none := RelO.none_of (by rw [← l]; exact r m)
  exact get_meth I.kIn O (c.get m) k.at_ k.fn hn h
theorem setattr_ok {y : V} {u : Value} {Q : Unit → Shared → Prop} (I : Inv X pins σ H s) (e : H a = some (.ins C dx fs)) (c : Cls X.K C) (n : NoAttr X.K C f) (hl : fs.length < 1000) (ry : RelV y u)
    (h : ∀ s', Inv X pins σ (upd H a (.ins C dx (putF f y fs))) s' → Q () s') : wpAny (model X.prog X.w) A (setAttr (.ref a) f u) Q E s := by
  obtain ⟨mA, O, r, wi, _, ho⟩ := ins_get I.hok e
  have hz : (fs.map (·.1)).length ≤ sizeLine := by rw [List.length_map, sizeLine_eq]; omega
  refine set_map I.kIn O c.sa c.po n.taker c.hd wi hz fun h' O' sb => h _ ?_
  have hd : ∃ o, h'.get? dx = some o := let ⟨o, _, _, e', _⟩ := O'.ns; ⟨o, e'⟩
  refine I.write (x := a) (e := dx) (by rw [e]; exact True.intro) (.inr ho) (fun b q hb z => (sb.2 b hb).trans z) hd ?_
  refine ⟨by rw [upd_ne O.ne]; exact ho, ?_, O.ne, O'.obj, _, O'.ns, fun g => ?_, fun g hg => ?_⟩
  · have := length_putF f y fs; omega
  · show RelO ((putF f y fs).lookup g) (if g = f then some u else mA g)
    rw [lookup_putF]
    by_cases q : g = f
    · rw [if_pos q, if_pos q]; exact ry
    · rw [if_neg q, if_neg q]; exact r g
  · by_cases q : g = f
    · rw [q]; exact (keys_putF f y fs).1
    · refine (keys_putF f y fs).2 g (wi g fun z => hg ?_)
      show (if g = f then some u else mA g) = none
      rw [if_neg q]; exact z
theorem Inv.made (I : Inv X pins σ H s) : Inv X pins σ (upd (upd H s.heap.objs.size (.own (s.heap.objs.size + 1))) (s.heap.objs.size + 1) (.ins C s.heap.objs.size []))
    { s with heap := (s.heap.push PySem.W.emptyDict).push (PySem.W.instObj C s.heap.objs.size) } := by
  have e1 : (s.heap.push PySem.W.emptyDict).get? s.heap.objs.size = some PySem.W.emptyDict := Heap.get?_push_size s.heap rfl
  have e2 : ((s.heap.push PySem.W.emptyDict).push (PySem.W.instObj C s.heap.objs.size)).get? (s.heap.objs.size + 1) = some (PySem.W.instObj C s.heap.objs.size) := by
    have := Heap.get?_push_size (s.heap.push PySem.W.emptyDict) (o := PySem.W.instObj C s.heap.objs.size) rfl
    rwa [Heap.size_push] at this
  have e3 : (s.heap.push PySem.W.emptyDict).Ns s.heap.objs.size (fun _ => none) := ⟨PySem.W.emptyDict, #[], _, e1, rfl, (fun e he => absurd he (by simp)), fun _ => rfl⟩
  have I1 := I.laid (a := s.heap.objs.size) (o := .own (s.heap.objs.size + 1)) (h' := s.heap.push PySem.W.emptyDict) (t' := s.toks) (fun b u q => Heap.get?_push_of_some _ q) (Nat.le_refl _) ⟨_, e1⟩
  refine I1.laid (a := s.heap.objs.size + 1) (o := .ins C s.heap.objs.size []) (t' := s.toks) (fun b u q => Heap.get?_push_of_some _ q) (Nat.le_of_eq (Heap.size_push _ _)) ?_
  have ne : s.heap.objs.size ≠ s.heap.objs.size + 1 := Nat.ne_of_lt (Nat.lt_succ_self _)
  refine ⟨by rw [upd_ne ne, upd_same], Nat.zero_le _, ne, e2, fun _ => none, (Heap.Ns1.of_empty e3).at fun o q => Heap.get?_push_of_some _ q, fun _ => True.intro, fun y hy => absurd rfl hy⟩
theorem attr_of {prog : Program} {w : World} {env : Env} {e : Expr} {f : Str} {pos : Pos} {s : Shared} {Q : Value → Shared → Prop} (hb : attributeBase e f env (eval e env) = eval e env)
    (h : wpAny (model prog w) A (eval e env) (fun o s₁ => wpAny (model prog w) A (getAttr o f true) Q E s₁) E s) : wpAny (model prog w) A (eval (.Attribute e f pos) env) Q E s :=
  Attribute_any_ h (by rw [arm_eval_Attribute, hb])
end
def tFld (K : PySem.W.Frag) (ta : TE) (f : Str) : TE := fun σ H Q => ta σ H fun x H1 => ∃ a C dx fs v, x = .ref a ∧ H1 a = some (.ins C dx fs) ∧ Cls K C ∧ NoAttr K C f ∧ fs.lookup f = some v ∧ Q v H1
def sFld (K : PySem.W.Frag) (ta tv : TE) (f : Str) : TS := fun D σ H => tv σ H fun y H1 => ta σ H1 fun x H2 => ∃ a C dx fs, x = .ref a ∧ H2 a = some (.ins C dx fs) ∧ Cls K C ∧ NoAttr K C f ∧ fs.length < 1000 ∧
  D.nx σ (upd H2 a (.ins C dx (putF f y fs)))
section
variable {X : Cx} {o e value : Expr} {f : Str} {pos pos' tpos : Pos} {ta tv : TE}
theorem pe_fld (he : PE X e ta) (hb : attributeBase e f X.env (eval e X.env) = eval e X.env) : PE X (.Attribute e f pos) (tFld X.K ta f) := by
  intro pins s σ H Q I h
  refine attr_of hb (thn (he pins s σ H _ I h) fun u s1 ⟨x, H1, I1, rx, a, C, dx, fs, v, ex, ea, c, n, l, q⟩ => ?_)
  subst ex
  obtain rfl : u = Value.ref a := rx
  exact getattr_ok I1 ea c n l fun u' s2 I2 ru => ⟨v, H1, I2, ru, q⟩
theorem ps_fld (ha : PE X o ta) (hv : PE X value tv) (hs : swapsWith value (some (.Attribute o f pos')) pos.line X.env = pure false) : PS X (.Assign [.Attribute o f pos'] value pos) (sFld X.K ta tv f) := by
  intro pins s σ H D I h
  refine plainObj_wpAny_Assign_Attribute (thn (hv pins s σ H _ I h) fun u s1 ⟨y, H1, I1, ry, q⟩ => thn (ha pins s1 σ H1 _ I1 q) fun ov s2 ⟨x, H2, I2, rx, a, C, dx, fs, ex, ea, c, n, l, q2⟩ => ?_) hs
  subst ex
  obtain rfl : ov = Value.ref a := rx
  exact setattr_ok I2 ea c n l ry fun s3 I3 => ⟨σ, _, I3, q2⟩
end
section
variable {X : Cx} {pins : List (Addr × Obj)} {σ : St} {H : Hp} {s : Shared} {A : Around} {E : Value → Shared → Prop} {Q : Value → Shared → Prop} {c : Value} {b : Bool}
inductive TyOf (K : PySem.W.Frag) (H : Hp) : V → Value → Prop where
  | non : TyOf K H .non (.type "NoneType")
  | bl (x : Bool) : TyOf K H (.bl x) (.type "bool")
  | int (i : Int) : TyOf K H (.int i) (.type "int")
  | str (x : Str) : TyOf K H (.str x) (.type "str")
  | flt (x : UInt64) : TyOf K H (.flt x) (.type "float")
  | lst {a : Addr} {xs : List V} (e : H a = some (.lst xs)) : TyOf K H (.ref a) (.type "list")
  | frz {a : Addr} {o : Obj} {xs : List V} (e : H a = some (.frz o (.lst xs))) : TyOf K H (.ref a) (.type "list")
  | tup {a : Addr} {xs : List V} (e : H a = some (.tup xs)) : TyOf K H (.ref a) (.type "tuple")
  | dK {a : Addr} {kvs : List (Key × V)} (e : H a = some (.dK kvs)) : TyOf K H (.ref a) (.type "dict")
  | dT {a : Addr} {kvs : List (List Key × V)} (e : H a = some (.dT kvs)) : TyOf K H (.ref a) (.type "dict")
  | ins {a C dx : Addr} {fs : List (Str × V)} (e : H a = some (.ins C dx fs)) (cl : Cls K C) (ha : PySem.W.findIn K (.ref C) "__class__" = some (some (.builtin "object.__class__")))
      (hn : PySem.W.specialIn K (.builtin "object.__class__") "__get__" = some (some (.builtin "getset_descriptor.__get__"))) (htk : PySem.W.takesIn K (.builtin "object.__class__") = some true)
      (hm : PySem.W.mroIn K C (.type "object") = some true) : TyOf K H (.ref a) (.ref C)
theorem isinst_ok {x : V} {u t : Value} (I : Inv X pins σ H s) (rx : RelV x u) (ty : TyOf X.K H x t) (e : PySem.W.kitOne X.K t c = some b) (h : ∀ tk, Q (.bool b) { s with toks := tk }) :
    wpAny (model X.prog X.w) A (call (.builtin "isinstance") [u, c]) Q E s := by
  cases ty with
  | non => cases (show u = Value.none from rx); exact PySem.W.kia_one PySem.W.kitx_none I.kIn True.intro e (fun z => nomatch z) h
  | bl y => cases (show u = Value.bool y from rx); exact PySem.W.kia_one PySem.W.kitx_bool I.kIn True.intro e (fun z => nomatch z) h
  | int i => obtain ⟨t, q⟩ := (show ∃ t, u = Value.int i t from rx); cases q; exact PySem.W.kia_one PySem.W.kitx_int I.kIn True.intro e (fun z => nomatch z) h
  | str y => obtain ⟨t, q⟩ := (show ∃ t, u = Value.str y t from rx); cases q; exact PySem.W.kia_one PySem.W.kitx_str I.kIn True.intro e (fun z => nomatch z) h
  | flt y => obtain ⟨t, q⟩ := (show ∃ t, u = Value.float y t from rx); cases q; exact PySem.W.kia_one PySem.W.kitx_float I.kIn True.intro e (fun z => nomatch z) h
  | @lst a xs ea =>
    cases (show u = Value.ref a from rx)
    obtain ⟨_, _, n, _, h1⟩ := (show ObjOk X.prog X.w H s.heap a (.lst xs) from I.hok a _ ea)
    exact PySem.W.kia_one PySem.W.kitx_list I.kIn ⟨_, h1, rfl⟩ e (fun z => nomatch z) h
  | @frz a ob xs ea =>
    cases (show u = Value.ref a from rx)
    obtain ⟨_, _, _, n, _, h1⟩ := (show ObjOk X.prog X.w H s.heap a (.frz ob (.lst xs)) from I.hok a _ ea)
    exact PySem.W.kia_one PySem.W.kitx_list I.kIn ⟨_, h1, rfl⟩ e (fun z => nomatch z) h
  | @tup a xs ea =>
    cases (show u = Value.ref a from rx)
    obtain ⟨_, _, _, p⟩ := (show ObjOk X.prog X.w H s.heap a (.tup xs) from I.hok a _ ea)
    obtain ⟨o, h1, h2, _⟩ := p
    exact PySem.W.kia_one PySem.W.kitx_tuple I.kIn ⟨o, h1, h2⟩ e (fun z => nomatch z) h
  | @dK a kvs ea =>
    cases (show u = Value.ref a from rx)
    obtain ⟨_, _, vs, _, p⟩ := (show ObjOk X.prog X.w H s.heap a (.dK kvs) from I.hok a _ ea)
    obtain ⟨o, es, ep, h1, h2, _⟩ := p
    exact PySem.W.kia_one PySem.W.kitx_dict I.kIn ⟨o, h1, h2.1⟩ e (fun z => nomatch z) h
  | @dT a kvs ea =>
    cases (show u = Value.ref a from rx)
    obtain ⟨_, _, xs, _, o, es, ep, h1, h2, _⟩ := (show ObjOk X.prog X.w H s.heap a (.dT kvs) from I.hok a _ ea)
    exact PySem.W.kia_one PySem.W.kitx_dict I.kIn ⟨o, h1, h2.1⟩ e (fun z => nomatch z) h
  | @ins a C dx fs ea cl ha hn htk hm =>
    cases (show u = Value.ref a from rx)
    obtain ⟨mA, O, _⟩ := ins_get I.hok ea
    obtain ⟨od, J, _⟩ := O.look
    exact PySem.W.kia_one (PySem.W.kitx_own (cl.get _) cl.hd ha hn htk hm) I.kIn J e (fun z => nomatch z) h
end
end L2
namespace L2
open PySem PySem.Spec PyProof.Rows
structure Room (k : Nat) (A : Around) : Prop where
  hd : A.handled = none
  dp : A.depth + 3 * k + 5 < recursionLimit
  un : A.units + 16 * k + 200 < cLine
theorem Room.mono {j k : Nat} {A : Around} (r : Room k A) (h : j ≤ k) : Room j A := ⟨r.hd, by have := r.dp; omega, by have := r.un; omega⟩
theorem Room.deeper {k : Nat} {A : Around} (r : Room (k + 1) A) (env : Env) : Room k (A.deeper env) :=
  ⟨r.hd, by have := r.dp; show A.depth + 1 + 3 * k + 5 < _; omega, by have := r.un; show A.units + 3 + 16 * k + 200 < _; omega⟩
theorem Room.in1 {k : Nat} {A : Around} (r : Room (k + 1) A) : Room k A.in1 :=
  ⟨r.hd, by have := r.dp; show A.depth + 3 * k + 5 < _; omega, by have := r.un; show A.units + 1 + 16 * k + 200 < _; omega⟩
theorem make_depth {A : Around} {C : Addr} {us : List Value} {kw : List (Str × Value)} : (A.under (.builtin "type.__call__" ⟨.ref C :: us, kw⟩)).depth = A.depth + 1 := by
  first | rfl | simp [Around.under, Code.weight, Code.isCreation, Code.isGuard, Code.isCaller, Code.frames, Code.isFrame, guardIds]
theorem make_units {A : Around} {C : Addr} {us : List Value} {kw : List (Str × Value)} : (A.under (.builtin "type.__call__" ⟨.ref C :: us, kw⟩)).units = A.units + 1 := by
  first | rfl | simp [Around.under, Code.cUnits, Code.frames, Code.isFrame]
theorem Room.make {k : Nat} {A : Around} (r : Room (k + 1) A) (C : Addr) (us : List Value) (kw : List (Str × Value)) : Room k (A.under (.builtin "type.__call__" ⟨.ref C :: us, kw⟩)) :=
  ⟨r.hd, by have := r.dp; rw [make_depth]; omega, by have := r.un; rw [make_units]; omega⟩
theorem Room.depth {k : Nat} {A : Around} (r : Room k A) : A.depth < recursionLimit := by have := r.dp; omega
theorem Room.units {k : Nat} {A : Around} (r : Room k A) : A.units + 64 < cLine := by have := r.un; omega
def tNil : TA := fun _ H Q => Q [] H
def tCons (ta : TE) (tr : TA) : TA := fun σ H Q => ta σ H fun x H1 => tr σ H1 fun xs H2 => Q (x :: xs) H2
section
variable {X : Cx} {e : Expr} {es : List Expr} {te : TE} {t : TA} {pos : Pos}
theorem pa_nil : PA X [] tNil := fun _ _ _ _ H Q I h => Calls.spliced_nil ⟨[], H, I, .nil, h⟩
theorem pa_cons (ha : PE X e te) (hr : PA X es t) (hs : starEach (e :: es) X.env = (false, eval e X.env) :: starEach es X.env := by rfl) : PA X (e :: es) (tCons te t) := by
  intro pos pins s σ H Q I h
  rw [hs]
  show wpAny _ _ (spliced ((false, eval e X.env) :: backTo pos (starEach es X.env))) _ _ s
  refine Calls.spliced_cons (thn (ha pins s σ H _ I h) fun u s1 ⟨x, H1, I1, r1, q1⟩ => ?_)
  exact thn (hr pos pins s1 σ H1 _ I1 q1) fun us s2 ⟨xs, H2, I2, r2, q2⟩ => ⟨x :: xs, H2, I2, .cons r1 r2, q2⟩
def tTup (t : TA) : TE := fun σ H Q => t σ H fun xs H1 => xs.length ≤ sizeLine ∧ ∀ p, H1 p = none → Q (.ref p) (upd H1 p (.tup xs))
def tLst (t : TA) : TE := fun σ H Q => t σ H fun xs H1 => xs.length ≤ sizeLine ∧ ∀ p, H1 p = none → Q (.ref p) (upd H1 p (.lst xs))
theorem pe_tup {x1} (h : PA X es t) : PE X (.Tuple es x1 pos) (tTup t) := by
  intro pins s σ H Q I hq
  refine wpAny_Tuple_spliced (thn (h pos pins s σ H _ I hq) fun us s1 ⟨xs, H1, I1, r, z, q⟩ => ⟨by rw [← r.length]; exact z, ?_⟩)
  have hf : H1 s1.heap.objs.size = none := I1.hok.fresh (Nat.le_refl _)
  refine ⟨.ref s1.heap.objs.size, upd H1 s1.heap.objs.size (.tup xs), I1.laid (t' := s1.toks) (fun b u e => Heap.get?_push_of_some _ e) (Nat.le_refl _) ?_, rfl, q _ hf⟩
  exact ⟨z, us, r, ⟨_, Heap.get?_push_size _ rfl, rfl, _, rfl⟩⟩
theorem pe_lst (h : PA X es t) : PE X (.List es pos) (tLst t) := by
  intro pins s σ H Q I hq
  refine wpAny_List_spliced (thn (h pos pins s σ H _ I hq) fun us s1 ⟨xs, H1, I1, r, z, q⟩ => ⟨by rw [← r.length]; exact z, ?_⟩)
  have hf : H1 s1.heap.objs.size = none := I1.hok.fresh (Nat.le_refl _)
  refine ⟨.ref s1.heap.objs.size, upd H1 s1.heap.objs.size (.lst xs), I1.laid (t' := s1.toks) (fun b u e => Heap.get?_push_of_some _ e) (Nat.le_refl _) ?_, rfl, q _ hf⟩
  exact ⟨z, us, 0, r, Heap.get?_push_size _ rfl⟩
end
abbrev Sp := List V → Hp → VK → XK → Prop
abbrev CXT := List Env → Hp → Shared → XK → Value → Shared → Prop
structure Env0 (P : Program) (w : World) (K : PySem.W.Frag) (mg : Str → Option Value) (base : Heap) (A : Around) (outer : List Env) (s : Shared) (H : Hp) : Prop where
  frames : A.frames = some outer
  mod : Mod K mg base
  bs : ∀ b o, base.get? b = some o → s.heap.get? b = some o ∧ H b = none
  bsz : base.objs.size ≤ s.heap.objs.size
  funs : s.heap.FunFrames base outer
  frf : ∀ b ∈ frs outer, H b = none
  hok : HOk P w H s.heap
  bare : AllBare s.gens
def CE (outer : List Env) (P : Program) (w : World) (H : Hp) (s : Shared) (Q : VK) (u : Value) (s' : Shared) : Prop :=
  ∃ v H', s'.os = s.os ∧ AllBare s'.gens ∧ Un (frs outer) [] H H' s.heap s'.heap ∧ HOk P w H' s'.heap ∧ RelV v u ∧ Q v H'
def CR (CX : CXT) (outer : List Env) (P : Program) (w : World) (H : Hp) (s : Shared) (Q : VK) (E : XK) (r : Result) (s' : Shared) : Prop :=
  match r with
  | .ok (.ret u) => CE outer P w H s Q u s'
  | .ok _ => False
  | .error e => CX outer H s E e s'
structure FnOk (P : Program) (w : World) (K : PySem.W.Frag) (mg : Str → Option Value) (base : Heap) (CX : CXT) (k : Nat) (f : Addr) (fd : FuncData) (ps : List Str) (sp : Sp) : Prop where
  len : ∀ vs H Q E, sp vs H Q E → vs.length = ps.length
  run : ∀ (A : Around) (outer : List Env) (s : Shared) (H : Hp) (args : Args) (us : List Value) (vs : List V) (Q : VK) (E : XK), Room k A → Env0 P w K mg base A outer s H → BindsTo s fd args (ps.zip us) → Vals vs us → sp vs H Q E →
    codeAny (model P w) A (.call (.ref f) args) (CR CX outer P w H s Q E) s
theorem FnOk.mono {P : Program} {w : World} {K : PySem.W.Frag} {mg : Str → Option Value} {base : Heap} {CX : CXT} {j k : Nat} {f : Addr} {fd : FuncData} {ps : List Str} {sp : Sp} (F : FnOk P w K mg base CX j f fd ps sp) (h : j ≤ k) :
    FnOk P w K mg base CX k f fd ps sp := ⟨F.len, fun A outer s H args us vs Q E hr => F.run A outer s H args us vs Q E (hr.mono h)⟩
theorem Env0.make {P : Program} {w : World} {K : PySem.W.Frag} {mg : Str → Option Value} {base : Heap} {A : Around} {outer : List Env} {s : Shared} {H : Hp} (e : Env0 P w K mg base A outer s H) (C : Addr) (us : List Value) (kw : List (Str × Value)) :
    Env0 P w K mg base (A.under (.builtin "type.__call__" ⟨.ref C :: us, kw⟩)) outer s H := ⟨by first | exact e.frames | (simpa [Around.under, Code.envs, Code.isFrame, pushEnvs] using e.frames), e.mod, e.bs, e.bsz, e.funs, e.frf, e.hok, e.bare⟩
theorem Env0.in1 {P : Program} {w : World} {K : PySem.W.Frag} {mg : Str → Option Value} {base : Heap} {A : Around} {outer : List Env} {s : Shared} {H : Hp} (e : Env0 P w K mg base A outer s H) :
    Env0 P w K mg base A.in1 outer s H := ⟨e.frames, e.mod, e.bs, e.bsz, e.funs, e.frf, e.hok, e.bare⟩
section
variable {X : Cx} {pins : List (Addr × Obj)} {σ : St} {H : Hp} {s s' : Shared}
theorem Inv.env0 (I : Inv X pins σ H s) : Env0 X.prog X.w X.K X.mg X.base X.A X.stack s H :=
  ⟨I.ok.frames, I.ok.mod, I.bs, Nat.le_trans I.ok.bsz I.sz, I.stack, I.stkFree, I.hok, I.bare⟩
theorem Inv.after {Q : VK} {u : Value} (I : Inv X pins σ H s) (h : CE X.stack X.prog X.w H s Q u s') : EP X pins σ Q u s' := by
  obtain ⟨v, H', os, bare, un, hok, r, q⟩ := h
  obtain ⟨hh, g, d, t, os'⟩ := s'
  obtain rfl : os' = s.os := os
  exact ⟨v, H', I.call (h' := hh) (g' := g) (d' := d) (t' := t) (ch := []) un hok bare (fun b z => absurd z (by simp)), r, q⟩
end
def tCall (sp : Sp) (dvs : List V) (E : XK) (t : TA) : TE := fun σ H Q => t σ H fun vs H1 => sp (vs ++ dvs) H1 Q E
def tMeth (C : Addr) (m : Str) (sp : Sp) (dvs : List V) (E : XK) (ta : TE) (t : TA) : TE := fun σ H Q => ta σ H fun x H1 => ∃ a dx fs, x = .ref a ∧ H1 a = some (.ins C dx fs) ∧ fs.lookup m = none ∧
  t σ H1 fun vs H2 => sp (x :: (vs ++ dvs)) H2 Q E
def tMake (C : Addr) (sp : Sp) (dvs : List V) (E : XK) (t : TA) : TE := fun σ H Q => t σ H fun vs H1 => ∀ x dx, H1 x = none → H1 dx = none → dx ≠ x →
  sp (.ref x :: (vs ++ dvs)) (upd (upd H1 dx (.own x)) x (.ins C dx [])) (fun v H2 => v = .non ∧ Q (.ref x) H2) E
def Binds (K : PySem.W.Frag) (fd : FuncData) (ps : List Str) (ds : List Value) : Prop :=
  ∀ (s : Shared) (us : List Value), K.In s.heap → (us ++ ds).length = ps.length → BindsTo s fd ⟨us, []⟩ (ps.zip (us ++ ds))
theorem Binds.all {K : PySem.W.Frag} {fd : FuncData} {ps : List Str} (h : ∀ us : List Value, us.length = ps.length → bindArgs fd ⟨us, []⟩ = pure (ps.zip us)) : Binds K fd ps [] := fun s us _ hl => by
  rw [List.append_nil] at hl ⊢
  exact .of_eq (h us hl)
def Passes (CX : CXT) (X : Cx) (E : XK) : Prop := ∀ (pins : List (Addr × Obj)) (σ : St) (H : Hp) (s : Shared) (e : Value) (s' : Shared), Inv X pins σ H s → CX X.stack H s E e s' → X.xe e s'
section
variable {X : Cx} {CX : CXT} {k : Nat} {f C : Addr} {fd : FuncData} {ps : List Str} {sp : Sp} {dvs : List V} {ds : List Value} {E : XK} {x m : Str} {p pos apos : Pos} {e o : Expr} {es : List Expr} {ta : TE} {t : TA}
theorem run_fn {pins : List (Addr × Obj)} {σ : St} {H : Hp} {s : Shared} {Q : VK} {us : List Value} {vs : List V} (F : FnOk X.prog X.w X.K X.mg X.base CX k f fd ps sp) (hr : Room k X.A) (hb : Binds X.K fd ps ds) (hd : Vals dvs ds) (hx : Passes CX X E)
    (I : Inv X pins σ H s) (r : Vals vs us) (h : sp (vs ++ dvs) H Q E) : wpAny (model X.prog X.w) X.A (call (.ref f) us) (EP X pins σ Q) X.xe s := by
  have r2 : Vals (vs ++ dvs) (us ++ ds) := r.append hd
  have hl : (us ++ ds).length = ps.length := by rw [← r2.length]; exact F.len _ _ _ _ h
  refine wpAny_call (codeAny_mono (F.run X.A X.stack s H ⟨us, []⟩ (us ++ ds) (vs ++ dvs) Q E hr I.env0 (hb s us I.kIn hl) r2 h) fun r s' hq => ?_)
  cases r with
  | error e => exact hx pins σ H s e s' I hq
  | ok fl =>
    cases fl with
    | ret u => exact I.after hq
    | next => exact False.elim hq
    | brk => exact False.elim hq
    | cont => exact False.elim hq
theorem pe_call (F : FnOk X.prog X.w X.K X.mg X.base CX k f fd ps sp) (hr : Room k X.A) (hg : Gl X x) (hm : X.mg x = some (.ref f)) (hk : PySem.W.keepIn X.K (.ref f) = true) (hb : Binds X.K fd ps ds) (hd : Vals dvs ds) (hx : Passes CX X E)
    (ha : PA X (e :: es) t) (hdb : (x == ("__debug__" : Str)) = false := by decide) (he : starEach (e :: es) X.env = (false, eval e X.env) :: starEach es X.env := by rfl) (hpl : (backTo pos (starEach es X.env)).any (·.1) = false := by rfl) :
    PE X (.Call (.Name x p) (e :: es) [] pos) (tCall sp dvs E t) := by
  intro pins s σ H Q I h
  refine wpAny_Call_Name_kw (ld_glob I hg hm ?_ hdb)
  refine PySem.W.callWith_K (h₀ := X.base) I.ok.mod.kin hk (thn (ha pos pins s σ H _ I h) fun us s1 ⟨vs, H1, I1, r, q⟩ => ⟨I1.kIn, ?_⟩) he hpl
  exact run_fn F hr hb hd hx I1 r q
theorem pe_meth0 {pl : Sem Bool} (he : PE X o ta) (c : Cls X.K C) (hm : Meth X.K C m f) (F : FnOk X.prog X.w X.K X.mg X.base CX k f fd ps sp) (hr : Room k X.A) (hb : Binds X.K fd ps ds) (hd : Vals dvs ds) (hx : Passes CX X E)
    (ht : eval (.Call (.Attribute o m apos) [] [] pos) X.env = (do
      let ov ← eval o X.env
      standAt apos.atName
      let (f, first) ← holding [ov] (getMethod ov m pl)
      callWith pos f first (backTo pos (starEach [] X.env)) (backToKw pos (keywordEach [] X.env))) := by rfl) :
    PE X (.Call (.Attribute o m apos) [] [] pos) (tMeth C m sp dvs E ta tNil) := by
  intro pins s σ H Q I h
  refine PySem.W.methodCall_KW (pl := pl) (thn (he pins s σ H _ I h) fun u s1 ⟨x, H1, I1, rx, a, dx, fs, ex, ea, l, q⟩ => ?_) ht
  subst ex
  obtain rfl : u = Value.ref a := rx
  refine getmeth_ok I1 ea c hm l ?_
  exact PySem.W.callWith_K0 (first := [.ref a]) I1.kIn hm.kp (run_fn (us := [.ref a]) (vs := [.ref a]) F hr hb hd hx I1 (.cons rfl .nil) q)
structure Mk (K : PySem.W.Frag) (C f : Addr) : Prop where
  makes : PySem.W.makesIn K C = true
  init : PySem.W.findIn K (.ref C) "__init__" = some (some (.ref f))
  fn : PySem.W.isFn K (.ref f) = true
  kp : PySem.W.keepIn K (.ref C) = true
theorem run_make {pins : List (Addr × Obj)} {σ : St} {H : Hp} {s : Shared} {Q : VK} {us : List Value} {vs : List V} (M : Mk X.K C f) (F : FnOk X.prog X.w X.K X.mg X.base CX k f fd ps sp) (hr : Room (k + 1) X.A) (hb : Binds X.K fd ps ds) (hd : Vals dvs ds)
    (hx : Passes CX X E) (I : Inv X pins σ H s) (r : Vals vs us)
    (h : ∀ x dx, H x = none → H dx = none → dx ≠ x → sp (.ref x :: (vs ++ dvs)) (upd (upd H dx (.own x)) x (.ins C dx [])) (fun v H2 => v = .non ∧ Q (.ref x) H2) E) :
    wpAny (model X.prog X.w) X.A (call (.ref C) us) (EP X pins σ Q) X.xe s := by
  have hq := h (s.heap.objs.size + 1) s.heap.objs.size (I.hok.fresh (Nat.le_succ _)) (I.hok.fresh (Nat.le_refl _)) (Nat.ne_of_lt (Nat.lt_succ_self _))
  have I2 := Inv.made (C := C) I
  have r2 : Vals (V.ref (s.heap.objs.size + 1) :: (vs ++ dvs)) (Value.ref (s.heap.objs.size + 1) :: (us ++ ds)) := .cons rfl (r.append hd)
  have hl : (Value.ref (s.heap.objs.size + 1) :: us ++ ds).length = ps.length := by
    have e := r2.length
    rw [F.len _ _ _ _ hq] at e
    exact e.symm
  refine wpAny_call (make_map (f := f) I.kIn M.makes M.init (beq_iff_eq.mp M.fn) (codeAny_mono (F.run _ X.stack _ _ ⟨Value.ref (s.heap.objs.size + 1) :: us, []⟩ (Value.ref (s.heap.objs.size + 1) :: (us ++ ds)) _ _ E (hr.make C us [])
    (I2.env0.make C us []) (hb _ (Value.ref (s.heap.objs.size + 1) :: us) I2.kIn hl) r2 hq) fun r s' hq' => ?_))
  cases r with
  | error e => exact hx pins σ _ _ e s' I2 hq'
  | ok fl =>
    cases fl with
    | ret u =>
      obtain ⟨v, H', I3, rv, ev, q3⟩ := I2.after hq'
      subst ev
      exact ⟨rv, ⟨V.ref (s.heap.objs.size + 1), H', I3, rfl, q3⟩⟩
    | next => exact False.elim hq'
    | brk => exact False.elim hq'
    | cont => exact False.elim hq'
theorem pe_make (M : Mk X.K C f) (F : FnOk X.prog X.w X.K X.mg X.base CX k f fd ps sp) (hr : Room (k + 1) X.A) (hg : Gl X x) (hm : X.mg x = some (.ref C)) (hb : Binds X.K fd ps ds) (hd : Vals dvs ds) (hx : Passes CX X E)
    (ha : PA X (e :: es) t) (hdb : (x == ("__debug__" : Str)) = false := by decide) (he : starEach (e :: es) X.env = (false, eval e X.env) :: starEach es X.env := by rfl) (hpl : (backTo pos (starEach es X.env)).any (·.1) = false := by rfl) :
    PE X (.Call (.Name x p) (e :: es) [] pos) (tMake C sp dvs E t) := by
  intro pins s σ H Q I h
  refine wpAny_Call_Name_kw (ld_glob I hg hm ?_ hdb)
  refine PySem.W.callWith_K (h₀ := X.base) I.ok.mod.kin M.kp (thn (ha pos pins s σ H _ I h) fun us s1 ⟨vs, H1, I1, r, q⟩ => ⟨I1.kIn, ?_⟩) he hpl
  exact run_make M F hr hb hd hx I1 r q
end
def PK (X : Cx) (kws : List Keyword) (t : TA) : Prop :=
  ∀ (pos : Pos) (pins : List (Addr × Obj)) (s : Shared) (σ : St) (H : Hp) (Q : List V → Hp → Prop), Inv X pins σ H s → t σ H Q → wpAny (model X.prog X.w) X.A (evalAll ((backToKw pos (keywordEach kws X.env)).map (·.2))) (AP X pins σ Q) X.xe s
section
variable {X : Cx} {CX : CXT} {k : Nat} {f C : Addr} {fd : FuncData} {ps ks : List Str} {sp : Sp} {E : XK} {x m : Str} {p pos apos kpos : Pos} {e o : Expr} {es : List Expr} {kws : List Keyword} {te ta : TE} {t tk : TA} {nm : Option Str}
structure KBinds (K : PySem.W.Frag) (fd : FuncData) (ps ks : List Str) (g : List Value → List Value → List Value) (gV : List V → List V → List V) : Prop where
  to : ∀ (s : Shared) (us ws : List Value), K.In s.heap → (g us ws).length = ps.length → BindsTo s fd ⟨us, ks.zip ws⟩ (ps.zip (g us ws))
  rel : ∀ {vs : List V} {us : List Value} {zs : List V} {ws : List Value}, Vals vs us → Vals zs ws → Vals (gV vs zs) (g us ws)
variable {g : List Value → List Value → List Value} {gV : List V → List V → List V}
end
structure FnScope (N P : List Str) (sc : Scope) : Prop where
  kind : sc.kind = .function
  co : sc.isCoroutine = false
  gen : sc.isGenerator = false
  nd : N.Nodup
  pre : N.take P.length = P
  par : ∀ x ∈ P, sc.names.lookup x = some .local ∨ sc.names.lookup x = some .cell
  nofree : ∀ y ∈ sc.names, y.2 ≠ .free
theorem bindL_out {kindOf : Str → Option NameKind} {x : Str} : ∀ {binds : List (Str × Value)} {m : Str → Option Value}, (∀ v, (x, v) ∉ binds) → bindL kindOf binds m x = m x
  | [], _, _ => rfl
  | (n, v) :: r, m, h => by
    unfold bindL
    rw [bindL_out fun w hw => h w (List.mem_cons_of_mem _ hw)]
    split
    · have : x ≠ n := by rintro rfl; exact h v List.mem_cons_self
      simp [this]
    · rfl
theorem bindC_out {kindOf : Str → Option NameKind} {x : Str} : ∀ {binds : List (Str × Value)} {m : Str → Option Value}, (∀ v, (x, v) ∉ binds) → bindC kindOf binds m x = m x
  | [], _, _ => rfl
  | (n, v) :: r, m, h => by
    unfold bindC
    rw [bindC_out fun w hw => h w (List.mem_cons_of_mem _ hw)]
    split
    · rfl
    · have : x ≠ n := by rintro rfl; exact h v List.mem_cons_self
      simp [this]
theorem bindL_get {kindOf : Str → Option NameKind} {x : Str} {v : Value} : ∀ {P : List Str} {vs : List Value} {i : Nat} {m : Str → Option Value}, P.Nodup → P[i]? = some x → vs[i]? = some v → kindOf x = some .local →
    bindL kindOf (P.zip vs) m x = some v
  | [], _, _, _, _, h, _, _ => by simp at h
  | _ :: _, [], _, _, _, _, h, _ => by simp at h
  | p :: P, w :: vs, 0, m, nd, h1, h2, hk => by
    simp at h1 h2; subst h1; subst h2
    show bindL kindOf ((p, w) :: P.zip vs) m p = _
    unfold bindL
    rw [bindL_out fun v hv => (List.nodup_cons.mp nd).1 (List.of_mem_zip hv).1, if_pos hk]
    simp
  | p :: P, w :: vs, i + 1, m, nd, h1, h2, hk => by
    show bindL kindOf ((p, w) :: P.zip vs) m x = _
    unfold bindL
    exact bindL_get (i := i) (List.nodup_cons.mp nd).2 (by simpa using h1) (by simpa using h2) hk
theorem bindC_get {kindOf : Str → Option NameKind} {x : Str} {v : Value} : ∀ {P : List Str} {vs : List Value} {i : Nat} {m : Str → Option Value}, P.Nodup → P[i]? = some x → vs[i]? = some v → kindOf x ≠ some .local →
    bindC kindOf (P.zip vs) m x = some v
  | [], _, _, _, _, h, _, _ => by simp at h
  | _ :: _, [], _, _, _, _, h, _ => by simp at h
  | p :: P, w :: vs, 0, m, nd, h1, h2, hk => by
    simp at h1 h2; subst h1; subst h2
    show bindC kindOf ((p, w) :: P.zip vs) m p = _
    unfold bindC
    rw [bindC_out fun v hv => (List.nodup_cons.mp nd).1 (List.of_mem_zip hv).1, if_neg hk]
    simp
  | p :: P, w :: vs, i + 1, m, nd, h1, h2, hk => by
    show bindC kindOf ((p, w) :: P.zip vs) m x = _
    unfold bindC
    exact bindC_get (i := i) (List.nodup_cons.mp nd).2 (by simpa using h1) (by simpa using h2) hk
def start (N : List Str) (vs : List V) : St := vs.map some ++ List.replicate (N.length - vs.length) none
def cxOf (CX : CXT) (P : Program) (w : World) (K : PySem.W.Frag) (mg : Str → Option Value) (base : Heap) (N : List Str) (qual : Str) (scope : Scope) (f : Addr) (cd : Value) (A : Around) (outer : List Env) (s : Shared) (H : Hp) (E : XK) : Cx where
  prog := P
  w := w
  K := K
  mg := mg
  base := base
  A := A.deeper (envOfC qual scope s.heap.objs.size f cd)
  N := N
  s_0 := s
  H_0 := H
  env := envOfC qual scope s.heap.objs.size f cd
  outer := outer
  stack := envOfC qual scope s.heap.objs.size f cd :: outer
  ex := []
  calm := true
  fn := fun _ => true
  pn := []
  xe := fun e s' => wpAny (model P w) (A.deeper (envOfC qual scope s.heap.objs.size f cd)) (leaving (envOfC qual scope s.heap.objs.size f cd) e) (fun _ s'' => CX outer H s E e s'') (fun e' s'' => CX outer H s E e' s'') s'
theorem cell_has {sc : Scope} {n : Nat} {x : Str} (h : sc.names.lookup x = some .cell) : ∃ c, (cellsFrom n sc.names []).lookup x = some c := by
  have q := PySem.W.cellsFrom_some sc.names n [] (.inl h)
  exact Option.isSome_iff_exists.mp q
theorem inv_start {CX : CXT} {P : Program} {w : World} {K : PySem.W.Frag} {mg : Str → Option Value} {base : Heap} {N ps : List Str} {qual : Str} {scope : Scope} {f : Addr} {cd : Value} {A : Around} {outer : List Env} {s s1 : Shared} {H : Hp} {E : XK} {us : List Value} {vs : List V}
    (S : FnScope N ps scope) (hd : A.handled = none) (e0 : Env0 P w K mg base A outer s H) (hl : vs.length = ps.length) (r : Vals vs us)
    (x : InCallC s s.heap.objs.size (bindL (envOfC qual scope s.heap.objs.size f cd).kindOf (ps.zip us) fun _ => none) (cellsFrom (s.heap.objs.size + 1) scope.names []) (bindC (envOfC qual scope s.heap.objs.size f cd).kindOf (ps.zip us) fun _ => none) s1) :
    Inv (cxOf CX P w K mg base N qual scope f cd A outer s H E) [] (start N vs) H s1 := by
  have hpl : ps.length ≤ N.length := by have := congrArg List.length S.pre; rw [List.length_take] at this; omega
  obtain ⟨h1, tk, rfl, hk⟩ := x.done
  have noA : ∀ b : Addr, b ∉ (cxOf CX P w K mg base N qual scope f cd A outer s H E).ex := fun b z => absurd (show b ∈ ([] : List Addr) from z) (by simp)
  refine ⟨⟨e0.mod, S.kind, rfl, rfl, Nat.le_refl _, fun y z c h1 h2 => ?_, fun y hy => ?_, fun y c _ h => ?_, fun _ => hd, Around.frames_deeper e0.frames, .inr ⟨rfl, rfl⟩, fun b z => absurd z (noA b), e0.bs, e0.bsz, fun b _ _ => noA b, fun b z => absurd z (noA b), e0.funs, e0.frf⟩,
    rfl, e0.bare, Un.kept hk, ⟨_, x.toInCall.ns, fun i y v h1 h2 h3 => ?_⟩, fun y c h => ⟨_, x.cell y c h⟩, e0.hok.fresh (Nat.le_refl _), fun y c h => ?_, fun p hp => absurd (show p ∈ ([] : List (Addr × Obj)) from hp) (by simp), e0.hok.kept hk, ?_⟩
  · exact name_of_addr x.apart (PySem.mem_of_lookup h1) (PySem.mem_of_lookup h2)
  · have hy : scope.names.lookup y = some .cell ∨ scope.names.lookup y = some .free := hy
    rcases hy with hy | hy
    · exact cell_has hy
    · exact absurd rfl (S.nofree _ (PySem.mem_of_lookup hy))
  · exact Nat.le_of_lt (x.above y c (PySem.mem_of_lookup h))
  · have hi : i < vs.length := by
      unfold start at h2
      by_cases hi : i < vs.length
      · exact hi
      · rw [List.getElem?_append_right (by simpa using hi)] at h2
        rw [List.getElem?_replicate] at h2
        split at h2 <;> cases h2
    have ha : vs[i]? = some v := by
      unfold start at h2
      rw [List.getElem?_append_left (by simpa using hi), List.getElem?_map] at h2
      cases e : vs[i]? with
      | none => rw [e] at h2; cases h2
      | some a => rw [e] at h2; cases h2; rfl
    obtain ⟨u, hu, rv⟩ := r.get ha
    have hp : ps[i]? = some y := by
      rw [← S.pre, List.getElem?_take_of_lt (by omega)]; exact h1
    have ndP : ps.Nodup := by rw [← S.pre]; exact S.nd.sublist (List.take_sublist _ _)
    refine ⟨u, rv, ?_⟩
    rcases S.par y (List.mem_of_getElem? hp) with k | k
    · exact .inl ⟨k, bindL_get ndP hp hu k⟩
    · obtain ⟨c, e⟩ := cell_has (n := s.heap.objs.size + 1) k
      refine .inr ⟨.inl k, c, e, ?_⟩
      have q := x.cell y c e
      rw [bindC_get ndP hp hu (by show scope.names.lookup y ≠ _; rw [k]; decide)] at q
      exact q
  · exact e0.hok.fresh (Nat.le_of_lt (x.above y c (PySem.mem_of_lookup h)))
  · unfold start
    show _ = N.length
    rw [List.length_append, List.length_map, List.length_replicate]
    omega
theorem fn_of {CX : CXT} {P : Program} {w : World} {K : PySem.W.Frag} {mg : Str → Option Value} {base : Heap} {k : Nat} {f : Addr} {name qual : Str} {params : Arguments} {body : List Stmt} {scope : Scope} {dV kV doc pm cdv ct oc : Value} {an od : Option Addr}
    {osl : Array (Option Value)} {N ps : List Str} {sp : Sp} (lk : K.lookup f = some ⟨oc, od, .func (PySem.W.fnOf name qual params body scope dV kV doc pm an cdv ct), osl⟩) (hcd : PySem.W.codeIn K cdv qual = true) (S : FnScope N ps scope)
    (len : ∀ vs H Q E, sp vs H Q E → vs.length = ps.length)
    (hbody : ∀ (A : Around) (outer : List Env) (s : Shared) (H : Hp) (vs : List V) (Q : VK) (E : XK), Room k (A.deeper (envOfC qual scope s.heap.objs.size f cdv)) → sp vs H Q E →
      ∃ t, PSs (cxOf CX P w K mg base N qual scope f cdv A outer s H E) body t ∧ t { nx := fun _ H' => Q .non H', rt := Q } (start N vs) H) :
    FnOk P w K mg base CX (k + 1) f (PySem.W.fnOf name qual params body scope dV kV doc pm an cdv ct) ps sp := by
  refine ⟨len, fun A outer s H args us vs Q E hr e0 hb r hsp => ?_⟩
  have hl := len _ _ _ _ hsp
  have KX : K.In s.heap := e0.mod.kin.keeps fun b o e => (e0.bs b o e).1
  have lim : s.heap.NoLimit := e0.mod.nolimit.keeps fun b o e => (e0.bs b o e).1
  have hkind : ∀ y ∈ ps.zip us, scope.names.lookup y.1 = some .local ∨ (scope.names.lookup y.1 = some .cell ∧ ((cellsFrom (s.heap.objs.size + 1) scope.names []).lookup y.1).isSome = true) := fun ⟨n, v⟩ hy => by
    rcases S.par n (List.of_mem_zip hy).1 with q | q
    · exact .inl q
    · exact .inr ⟨q, PySem.W.cellsFrom_some _ _ _ (.inl q)⟩
  refine codeAny_call_function hr.depth (KX _ _ lk) rfl S.co S.gen rfl (PySem.W.codeRec_of KX hcd) (hb _ _ _ _ ?_)
  refine wpAny_newFunctionEnv_cells S.kind hkind fun env he s1 x => ?_
  subst he
  refine ⟨lim.keeps x.toInCall.keep, codeAny_func ?_⟩
  obtain ⟨t, ht, hq⟩ := hbody A outer s H vs Q E (hr.deeper _) hsp
  have I : Inv (cxOf CX P w K mg base N qual scope f cdv A outer s H E) [] (start N vs) H s1 := inv_start S hr.hd e0 hl r x
  refine wpAny_mono (ht [] s1 (start N vs) H _ I hq) (fun fl s' hs => ?_) fun e s' hs => hs
  have fin : ∀ {σ' : St} {H' : Hp} {v : V} {u : Value}, Inv (cxOf CX P w K mg base N qual scope f cdv A outer s H E) [] σ' H' s' → RelV v u → Q v H' → CE outer P w H s Q u s' :=
    fun {σ' H' v u} J rv q => ⟨v, H', J.os, J.bare, J.base, J.hok, rv, q⟩
  cases fl with
  | ret u =>
    obtain ⟨v, σ', H', J, rv, q⟩ := hs
    exact fin J rv q
  | next =>
    obtain ⟨σ', H', J, q⟩ := hs
    exact fin (v := V.non) (u := Value.none) J rfl q
  | brk =>
    obtain ⟨_, _, _, q⟩ := hs
    exact False.elim q
  | cont =>
    obtain ⟨_, _, _, q⟩ := hs
    exact False.elim q
end L2
namespace L2
open PySem PySem.Spec PyProof.Rows
section
variable {X : Cx} {x : Str} {p pos : Pos} {e : Expr} {es : List Expr} {t : TA} {id T : String} {r : List V → Hp → VK → Prop}
def tCB (r : List V → Hp → VK → Prop) (t : TA) : TE := fun σ H Q => t σ H fun vs H1 => r vs H1 Q
theorem pe_callB (hc : CallR X (.builtin id) r) (hg : Gl X x) (hm : X.mg x = none) (hv : bootBuiltins x = some (.builtin id)) (ha : PA X (e :: es) t) (hn : x ≠ "__name__" := by decide) (hdb : (x == ("__debug__" : Str)) = false := by decide)
    (he : starEach (e :: es) X.env = (false, eval e X.env) :: starEach es X.env := by rfl) (hpl : (backTo pos (starEach es X.env)).any (·.1) = false := by rfl) : PE X (.Call (.Name x p) (e :: es) [] pos) (tCB r t) := by
  intro pins s σ H Q I h
  refine wpAny_Call_Name_kw (ld_blt I hg hm hv ?_ hn hdb)
  exact PyProof.Rows.callWith_builtin1 (thn (ha pos pins s σ H _ I h) fun us s1 ⟨vs, H1, I1, r1, q1⟩ => hc pins s1 σ H1 vs us Q I1 r1 q1) he hpl
theorem pe_callTy (hc : CallR X (.type T) r) (hg : Gl X x) (hm : X.mg x = none) (hv : bootBuiltins x = some (.type T)) (ha : PA X (e :: es) t) (hn : x ≠ "__name__" := by decide) (hdb : (x == ("__debug__" : Str)) = false := by decide)
    (he : starEach (e :: es) X.env = (false, eval e X.env) :: starEach es X.env := by rfl) (hpl : (backTo pos (starEach es X.env)).any (·.1) = false := by rfl) : PE X (.Call (.Name x p) (e :: es) [] pos) (tCB r t) := by
  intro pins s σ H Q I h
  refine wpAny_Call_Name_kw (ld_blt I hg hm hv ?_ hn hdb)
  exact PyProof.Rows.callWith_type1 (thn (ha pos pins s σ H _ I h) fun us s1 ⟨vs, H1, I1, r1, q1⟩ => hc pins s1 σ H1 vs us Q I1 r1 q1) he hpl
end
end L2
namespace HT
open PySem PyProof.Rows
section
variable {prog : Program} {w : World} {A : Around} {E : Value → Shared → Prop} {s : Shared}
theorem cat_tup {t b : Addr} {vs ws : List Value} {Q : Value → Shared → Prop} (ht : IsTup s.heap t vs.toArray) (hb : IsTup s.heap b ws.toArray) (hv : vs ≠ [])
    (h1 : ws = [] → Q (.ref t) s) (h2 : ws ≠ [] → Q (.ref s.heap.objs.size) { s with heap := s.heap.push { cls := .type "tuple", data := .seq (vs ++ ws).toArray } })
    (hsz : vs.length + ws.length ≤ sizeLine) : wpAny (model prog w) A (binaryOp .Add (.ref t) (.ref b)) Q E s := by
  obtain ⟨⟨cls, dd, data, sl⟩, ho, hc, n, hd⟩ := id ht
  obtain ⟨⟨cls2, dd2, data2, sl2⟩, ho2, hc2, n2, hd2⟩ := id hb
  simp only at hc hd hc2 hd2
  subst hc hd hc2 hd2
  have e : vs.toArray ++ ws.toArray = (vs ++ ws).toArray := by simp
  by_cases hw : ws = []
  · exact concat_meets ⟨_, ho, rfl⟩ ⟨_, ho2, rfl⟩ noFill_tuple_add seq_tuple_add PySem.F.slot_tuple_add PySem.F.entry_tuple_add (PySem.F.args_tuple_add_2 _ _)
      (tuple_addW1 t b vs.toArray ws.toArray n n2 dd dd2 sl sl2 (by simpa using hv) (by simp [hw])) ⟨ho, ho2, h1 hw⟩
  · refine concat_meets ⟨_, ho, rfl⟩ ⟨_, ho2, rfl⟩ noFill_tuple_add seq_tuple_add PySem.F.slot_tuple_add PySem.F.entry_tuple_add (PySem.F.args_tuple_add_2 _ _)
      (tuple_addW2 t b vs.toArray ws.toArray n n2 dd dd2 sl sl2 (by simpa using hv) (by simpa using hw) (by rw [List.size_toArray, List.size_toArray]; exact hsz)) ⟨ho, ho2, ?_⟩
    rw [e]
    exact h2 hw
def sIx (n d : Nat) : Option Int → Nat
  | none => d
  | some v => if v < 0 then (v + (n : Int)).toNat else min v.toNat n
theorem sIx_le (n d : Nat) (hd : d ≤ n) (o : Option Int) : sIx n d o ≤ n := by
  cases o with
  | none => exact hd
  | some v =>
    show (if v < 0 then (v + (n : Int)).toNat else min v.toNat n) ≤ n
    by_cases hv : v < 0
    · rw [if_pos hv]; omega
    · rw [if_neg hv]; exact Nat.min_le_right _ _
end
end HT
namespace L2
open PySem PySem.Spec PyProof.Rows
abbrev TO := St → Hp → (Option Int → Hp → Prop) → Prop
def PO (X : Cx) (e : Option Expr) (t : TO) : Prop :=
  ∀ (pins : List (Addr × Obj)) (s : Shared) (σ : St) (H : Hp) (Q : Option Int → Hp → Prop), Inv X pins σ H s → t σ H Q →
    wpAny (model X.prog X.w) X.A (evalPart e X.env) (fun u s' => ∃ o H', Inv X pins σ H' s' ∧ IsPart u o ∧ Q o H') X.xe s
def tNoPart : TO := fun _ H Q => Q none H
def tPart (t : TE) : TO := fun σ H Q => t σ H fun x H1 => ∃ i, x = .int i ∧ Q (some i) H1
section
variable {X : Cx} {e : Expr} {te : TE} {lo hi : Option Expr} {tl th : TO} {pos p2 : Pos}
theorem po_none : PO X none tNoPart := by
  intro pins s σ H Q I h
  rw [evalPart_none]
  exact wpAny_pure ⟨none, H, I, .none, h⟩
theorem po_some (h : PE X e te) : PO X (some e) (tPart te) := by
  intro pins s σ H Q I hw
  rw [evalPart_some]
  refine thn (h pins s σ H _ I hw) fun u s1 ⟨x, H1, I1, r1, q1⟩ => ?_
  obtain ⟨i, rfl, q⟩ := q1
  obtain ⟨t, rfl⟩ := r1
  exact ⟨some i, H1, I1, .int i t, q⟩
def SlR (X : Cx) (r : V → Option Int → Option Int → Hp → VK → Prop) : Prop :=
  ∀ (pins : List (Addr × Obj)) (s : Shared) (σ : St) (H : Hp) (x : V) (v vl vu : Value) (lo hi : Option Int) (sl : Addr) (Q : VK), Inv X pins σ H s → RelV x v → s.heap.IsSliceOf sl vl vu .none → IsPart vl lo → IsPart vu hi → r x lo hi H Q →
    ∃ T id, typeLookup (.type T) "__getitem__" = pure (some (.builtin id)) ∧ s.TypeIs v T ∧ wpAny (model X.prog X.w) X.A (getItem v (.ref sl)) (EP X pins σ Q) X.xe s
def tSl (r : V → Option Int → Option Int → Hp → VK → Prop) (te : TE) (tl th : TO) : TE := fun σ H Q => te σ H fun x H1 => tl σ H1 fun l H2 => th σ H2 fun u H3 => r x l u H3 Q
theorem pe_slice {r : V → Option Int → Option Int → Hp → VK → Prop} (hr : SlR X r) (he : PE X e te) (hl : PO X lo tl) (hu : PO X hi th) : PE X (.Subscript e (.Slice lo hi none p2) pos) (tSl r te tl th) := by
  intro pins s σ H Q I h
  refine Subscript_ (thn (he pins s σ H _ I h) fun v s1 ⟨x, H1, I1, r1, q1⟩ => ?_)
  refine wpAny_Slice (thn (hl pins s1 σ H1 _ I1 q1) fun vl s2 ⟨l, H2, I2, pl, q2⟩ => thn (hu pins s2 σ H2 _ I2 q2) fun vu s3 ⟨u, H3, I3, pu, q3⟩ => ?_)
  rw [evalPart_none]
  refine wpAny_pure ?_
  have I4 : Inv X pins σ H3 { s3 with heap := s3.heap.push { cls := .type "slice", data := .fields #[vl, vu, .none] } } := I3.kept (t' := s3.toks) fun b ob q => Heap.get?_push_of_some _ q
  obtain ⟨T, id, hT, ht, hg⟩ := hr pins { s3 with heap := s3.heap.push { cls := .type "slice", data := .fields #[vl, vu, .none] } } σ H3 x v vl vu l u s3.heap.objs.size Q I4 r1 (Heap.IsSliceOf.new ..) pl pu q3
  show wpAny (model X.prog X.w) X.A (subscriptTail e (.Slice lo hi none p2) v (.ref s3.heap.objs.size)) (EP X pins σ Q) X.xe { s3 with heap := s3.heap.push { cls := .type "slice", data := .fields #[vl, vu, .none] } }
  exact tail_any (ops := [.ref s3.heap.objs.size, v]) ht hT hg (by with_unfolding_all rfl)
def cutV (xs : List V) (lo hi : Option Int) : List V := (xs.drop (HT.sIx xs.length 0 lo)).take (HT.sIx xs.length xs.length hi - HT.sIx xs.length 0 lo)
theorem cutV_length (xs : List V) (lo hi : Option Int) : (cutV xs lo hi).length ≤ xs.length := by
  unfold cutV
  rw [List.length_take, List.length_drop]
  omega
def rCatT (K : PySem.W.Frag) : R2 := fun x y H Q => ∃ a b xs ys, x = .ref a ∧ y = .ref b ∧ SqT K H a xs ∧ SqT K H b ys ∧ xs ≠ [] ∧ xs.length + ys.length ≤ sizeLine ∧
  (ys = [] → Q (.ref a) H) ∧ (ys ≠ [] → ∀ p, H p = none → Q (.ref p) (upd H p (.tup (xs ++ ys))))
theorem Vals.nil_iff {xs : List V} {us : List Value} (r : Vals xs us) : us = [] ↔ xs = [] := by
  cases r with
  | nil => simp
  | cons _ _ => simp
theorem op_catT : OpR X (binaryOp .Add) (rCatT X.K) := by
  intro pins s σ H x y v u Q I rx ry h
  obtain ⟨a, b, xs, ys, rfl, rfl, ha, hb, hx, hz, q1, q2⟩ := h
  cases rx
  cases ry
  obtain ⟨its, r1, p1, _⟩ := I.tuple ha
  obtain ⟨its2, r2, p2, _⟩ := I.tuple hb
  refine HT.cat_tup p1 p2 (fun z => hx (r1.nil_iff.mp z)) (fun z => ⟨.ref a, H, I, rfl, q1 (r2.nil_iff.mp z)⟩) (fun z => ?_) (by rw [← r1.length, ← r2.length]; exact hz)
  refine ⟨.ref s.heap.objs.size, _, I.laid (t' := s.toks) (o := .tup (xs ++ ys)) (fun b ob q => Heap.get?_push_of_some _ q) (Nat.le_refl _) ?_, rfl, q2 (fun w => z (r2.nil_iff.mpr w)) _ (I.hok.fresh (Nat.le_refl _))⟩
  exact ⟨by rw [List.length_append]; exact hz, _, r1.append r2, IsTup.new _ _⟩
end
end L2
namespace L2
open PySem PySem.Spec PyProof.Rows
def ixN (n : Nat) (i : Int) : Option Nat := if 0 ≤ i then (if i < n then some i.toNat else none) else if -(n : Int) ≤ i then some (i + n).toNat else none
def atI {α : Type} (xs : List α) (i : Int) : Option α := (ixN xs.length i).bind fun j => xs[j]?
theorem ixN_seq {n : Nat} {i : Int} {j : Nat} (h : ixN n i = some j) : seqIndex? i n = some j ∧ j < n ∧ -(n : Int) ≤ i ∧ i < n := by
  unfold ixN at h
  by_cases h0 : 0 ≤ i
  · rw [if_pos h0] at h
    by_cases h1 : i < n
    · rw [if_pos h1] at h
      have e : i.toNat = j := Option.some.inj h
      exact ⟨by rw [seqIndex_of h0 h1, e], by omega, by omega, h1⟩
    · rw [if_neg h1] at h; cases h
  · rw [if_neg h0] at h
    by_cases h1 : -(n : Int) ≤ i
    · rw [if_pos h1] at h
      have e : (i + n).toNat = j := Option.some.inj h
      exact ⟨by rw [seqIndex_neg (by omega) h1, e], by omega, h1, by omega⟩
    · rw [if_neg h1] at h; cases h
theorem atI_get {α : Type} {xs : List α} {i : Int} {v : α} (h : atI xs i = some v) : ∃ j, seqIndex? i xs.length = some j ∧ xs[j]? = some v ∧ j < xs.length ∧ -(xs.length : Int) ≤ i ∧ i < xs.length := by
  unfold atI at h
  cases e : ixN xs.length i with
  | none => rw [e] at h; cases h
  | some j =>
    rw [e] at h
    obtain ⟨h1, h2, h3, h4⟩ := ixN_seq e
    exact ⟨j, h1, h, h2, h3, h4⟩
theorem atI_nat {α : Type} {xs : List α} {j : Nat} {v : α} (h : xs[j]? = some v) : atI xs (j : Int) = some v := by
  have hj : j < xs.length := (List.getElem?_eq_some_iff.mp h).1
  have e : ixN xs.length (j : Int) = some j := by
    unfold ixN
    rw [if_pos (by omega), if_pos (by omega)]; simp
  unfold atI; rw [e]; exact h
def PlainIx (b : Expr) : Prop := ∀ o i, subscripted b false o i = operate [o, i] (getItem o i)
def IxR (X : Cx) (r : R2) : Prop :=
  ∀ (value slice : Expr) (pins : List (Addr × Obj)) (s : Shared) (σ : St) (H : Hp) (x y : V) (v u : Value) (Q : VK), Inv X pins σ H s → RelV x v → RelV y u → r x y H Q →
    subscripted slice false v u = operate [v, u] (getItem v u) → wpAny (model X.prog X.w) X.A (subscriptTail value slice v u) (EP X pins σ Q) X.xe s
def MtR (X : Cx) (id : String) (r : V → List V → Hp → VK → Prop) : Prop :=
  ∀ (pins : List (Addr × Obj)) (s : Shared) (σ : St) (H : Hp) (x : V) (xs : List V) (v : Value) (us : List Value) (Q : VK), Inv X pins σ H s → RelV x v → Vals xs us → r x xs H Q →
    wpAny (model X.prog X.w) X.A (call (.builtin id) (v :: us)) (EP X pins σ Q) X.xe s
section
variable {X : Cx} {a b : Expr} {ta tb : TE} {pos : Pos}
theorem pe_ix {r : R2} (hr : IxR X r) (ha : PE X a ta) (hb : PE X b tb) (hs : PlainIx b) : PE X (.Subscript a b pos) (tOp r ta tb) := by
  intro pins s σ H Q I h
  exact Subscript_ (binT ha hb I h fun v u s2 x y H2 I2 rx ry q => hr a b pins s2 σ H2 x y v u Q I2 rx ry q (hs _ _))
def rIxL (K : PySem.W.Frag) : R2 := fun x y H Q => ∃ p xs i v, x = .ref p ∧ y = .int i ∧ SqL K H p xs ∧ atI xs i = some v ∧ Q v H
def rIxT (K : PySem.W.Frag) : R2 := fun x y H Q => ∃ p xs i v, x = .ref p ∧ y = .int i ∧ SqT K H p xs ∧ atI xs i = some v ∧ Q v H
def rIxS : R2 := fun x y H Q => ∃ z i c, x = .str z ∧ y = .int i ∧ z.length ≤ sizeLine ∧ atI z.cps.toList i = some c ∧ Q (.str ⟨#[c]⟩) H
theorem ix_list : IxR X (rIxL X.K) := by
  intro value slice pins s σ H x y v u Q I rx ry h hs
  obtain ⟨p, xs, i, z, rfl, rfl, hq, he, q⟩ := h
  cases rx
  obtain ⟨t, rfl⟩ := ry
  obtain ⟨its, r, pl, hz⟩ := I.list hq
  obtain ⟨j, h1, h2, h3, h4, h5⟩ := atI_get he
  obtain ⟨w, ew, rw'⟩ := r.get h2
  have hl := r.length
  have hn := line63
  have fin : EP X pins σ Q w s := ⟨z, H, I, rw', q⟩
  by_cases h0 : 0 ≤ i
  · have hj : i.toNat = j := by
      rw [seqIndex_of h0 h5] at h1
      exact Option.some.inj h1
    exact item_listR pl.isList h0 (by omega) (by rw [hj]; simpa using ew) fin hs
  · have hj : (i + (its.toArray.size : Int)).toNat = j := by
      rw [seqIndex_neg (by omega) h4] at h1
      rw [List.size_toArray, ← hl]
      exact Option.some.inj h1
    exact subscriptTail_builtinR (x := w) pl.isList.typeIs slot_list_getitem.lookup
      (wpAny_getItem_list_neg (Q := fun r s' => r = w ∧ EP X pins σ Q r s') pl.isList (by omega) (by rw [List.size_toArray] <;> omega) (by omega) (by rw [hj]; simpa using ew) ⟨rfl, fin⟩) hs
theorem ix_tup : IxR X (rIxT X.K) := by
  intro value slice pins s σ H x y v u Q I rx ry h hs
  obtain ⟨p, xs, i, z, rfl, rfl, hq, he, q⟩ := h
  cases rx
  obtain ⟨t, rfl⟩ := ry
  obtain ⟨its, r, pl, hz⟩ := I.tuple hq
  obtain ⟨j, h1, h2, h3, h4, h5⟩ := atI_get he
  obtain ⟨w, ew, rw'⟩ := r.get h2
  have hl := r.length
  have hn := line63
  have fin : EP X pins σ Q w s := ⟨z, H, I, rw', q⟩
  exact subscriptTail_builtinR (x := w) pl.typeIs slot_tuple_getitem.lookup
    (getItem_tuple (j := j) (Q := fun r s' => r = w ∧ EP X pins σ Q r s') pl (by omega) (by omega) (by rw [List.size_toArray, ← hl]; exact h1) (by simpa using ew) ⟨rfl, fin⟩) hs
theorem ix_str : IxR X rIxS := by
  intro value slice pins s σ H x y v u Q I rx ry h hs
  obtain ⟨z, i, c, rfl, rfl, hz, he, q⟩ := h
  obtain ⟨t, rfl⟩ := rx
  obtain ⟨t', rfl⟩ := ry
  obtain ⟨j, h1, h2, h3, h4, h5⟩ := atI_get he
  have hl : z.cps.toList.length = z.length := by simp [Str.length]
  rw [hl] at h1 h4 h5
  have hn := line63
  exact tail_any (typeIs_str s z t) slot_str_getitem.lookup (getItem_str (c := c) (by
    have e1 : decide (i < -(2 ^ 63 : Int)) = false := decide_eq_false (by omega)
    have e2 : decide (i ≥ 2 ^ 63) = false := decide_eq_false (by omega)
    rw [e1, e2, Bool.or_false]) (by rw [h1]; simpa using h2) ⟨.str ⟨#[c]⟩, H, I.tok _, ⟨_, rfl⟩, q⟩) hs
theorem mapSeq_set (its : List Value) (n j : Nat) (u : Value) : Obj.mapSeq (·.setIfInBounds j u) { cls := .type "list", data := .seq its.toArray n } = { cls := .type "list", data := .seq (its.set j u).toArray n } := by
  simp [Obj.mapSeq]
theorem Inv.lst {pins : List (Addr × Obj)} {σ : St} {H : Hp} {s : Shared} {p : Addr} {xs : List V} (I : Inv X pins σ H s) (h : H p = some (.lst xs)) :
    ∃ (its : List Value) (n : Nat), Vals xs its ∧ s.heap.get? p = some { cls := .type "list", data := .seq its.toArray n } ∧ xs.length ≤ sizeLine := by
  obtain ⟨z, its, n, r, e⟩ := I.hok p _ h
  exact ⟨its, n, r, e, z⟩
theorem Inv.lstUpd {pins : List (Addr × Obj)} {σ : St} {H : Hp} {s : Shared} {p : Addr} {xs ys : List V} {its its' : List Value} {n n' : Nat} {f : Obj → Obj} (I : Inv X pins σ H s) (h : H p = some (.lst xs))
    (ho : s.heap.get? p = some { cls := .type "list", data := .seq its.toArray n }) (hf : f { cls := .type "list", data := .seq its.toArray n } = { cls := .type "list", data := .seq its'.toArray n' }) (r : Vals ys its') (hz : ys.length ≤ sizeLine) (t : Nat) :
    Inv X pins σ (upd H p (.lst ys)) { s with heap := s.heap.update p f, toks := t } := by
  have e : (s.heap.update p f).get? p = some { cls := .type "list", data := .seq its'.toArray n' } := by
    rw [Heap.get?_update_self f ho (by rw [hf] <;> rfl), hf]
  refine I.write (x := p) (e := p) (by rw [h]; trivial) (.inl rfl) (fun b u hb q => (Heap.get?_update_other _ _ (Ne.symm hb)).trans q) ⟨_, e⟩ ?_
  exact ⟨hz, its', n', r, e⟩
def rSetL : V → V → V → Hp → (Hp → Prop) → Prop := fun o i v H Q => ∃ p xs k j, o = .ref p ∧ i = .int k ∧ H p = some (.lst xs) ∧ ixN xs.length k = some j ∧ Q (upd H p (.lst (xs.set j v)))
theorem set_list : PSet X rSetL := by
  intro pins s σ H o i v ov iv u Q I ro ri rv h
  obtain ⟨p, xs, k, j, rfl, rfl, hp, hj, q⟩ := h
  cases ro
  obtain ⟨t, rfl⟩ := ri
  obtain ⟨its, n, r, ho, hz⟩ := I.lst hp
  obtain ⟨h1, h2, h3, h4⟩ := ixN_seq hj
  have hl := r.length
  have hn := line63
  have I' : Inv X pins σ (upd H p (.lst (xs.set j v))) { s with heap := s.heap.update p (Obj.mapSeq (·.setIfInBounds j u)) } :=
    I.lstUpd hp ho (mapSeq_set its n j u) (r.set rv j) (by rw [List.length_set]; exact hz) s.toks
  by_cases h0 : 0 ≤ k
  · have hk : k.toNat = j := by
      rw [seqIndex_of h0 h4] at h1
      exact Option.some.inj h1
    exact PySem.W.ki_setAt ho h0 (by omega) (by rw [List.size_toArray, ← hl]; exact h4) (by rw [hk]; exact ⟨_, I', q⟩)
  · have hk : (k + (its.toArray.size : Int)).toNat = j := by
      rw [seqIndex_neg (by omega) h3] at h1
      rw [List.size_toArray, ← hl]
      exact Option.some.inj h1
    exact PySem.W.ki_setBack ho (by omega) (by rw [List.size_toArray, ← hl]; exact h3) (by omega) (by rw [hk]; exact ⟨_, I', q⟩)
theorem slice_bounds (lo hi : Option Int) (n : Nat) : (sliceBounds lo hi none n).1 = ((HT.sIx n 0 lo : Nat) : Int) ∧ (sliceBounds lo hi none n).2.1 = ((HT.sIx n n hi : Nat) : Int) ∧ (sliceBounds lo hi none n).2.2 = 1 := by
  refine ⟨?_, ?_, rfl⟩
  · cases lo with
    | none => simp [sliceBounds, HT.sIx]
    | some i =>
      simp only [sliceBounds, HT.sIx, Option.getD_none, show (1 : Int) > 0 by decide, if_true]
      by_cases h : i < 0
      · simp only [h, if_true] <;> omega
      · simp only [h, if_false] <;> omega
  · cases hi with
    | none => simp [sliceBounds, HT.sIx]
    | some i =>
      simp only [sliceBounds, HT.sIx, Option.getD_none, show (1 : Int) > 0 by decide, if_true]
      by_cases h : i < 0
      · simp only [h, if_true] <;> omega
      · simp only [h, if_false] <;> omega
theorem slicePick_cut (its : List Value) (lo hi : Option Int) : slicePick its.toArray lo hi none = ((its.drop (HT.sIx its.length 0 lo)).take (HT.sIx its.length its.length hi - HT.sIx its.length 0 lo)).toArray := by
  obtain ⟨h1, h2, h3⟩ := slice_bounds lo hi its.toArray.size
  unfold slicePick
  rw [h1, h2, h3]
  simp only [sliceRange_one, pick_run, List.size_toArray] <;> rfl
def rSlL (K : PySem.W.Frag) : V → Option Int → Option Int → Hp → VK → Prop := fun x lo hi H Q => ∃ a xs, x = .ref a ∧ SqL K H a xs ∧ ∀ p, H p = none → Q (.ref p) (upd H p (.lst (cutV xs lo hi)))
theorem sl_list : SlR X (rSlL X.K) := by
  intro pins s σ H x v vl vu lo hi sl Q I rx hs pl pu h
  obtain ⟨a, xs, rfl, hx, q⟩ := h
  cases rx
  obtain ⟨its, r, ht, hz⟩ := I.list hx
  have hlen := r.length
  refine ⟨"list", _, slot_list_getitem.lookup, ht.isList.typeIs, ?_⟩
  refine wpAny_getItem_list_slice ht.isList hs pl pu .none (by simp) ?_ (by rw [List.size_toArray] <;> omega)
  rw [slicePick_cut, ← hlen]
  refine ⟨.ref s.heap.objs.size, _, I.laid (t' := s.toks) (o := .lst (cutV xs lo hi)) (fun b ob q => Heap.get?_push_of_some _ q) (Nat.le_refl _) ?_, rfl, q _ (I.hok.fresh (Nat.le_refl _))⟩
  exact ⟨Nat.le_trans (cutV_length xs lo hi) hz, _, 0, (r.drop (HT.sIx xs.length 0 lo)).take (HT.sIx xs.length xs.length hi - HT.sIx xs.length 0 lo), Heap.get?_push_size _ rfl⟩
def flatV : V → Bool
  | .non => true
  | .bl _ => true
  | .int _ => true
  | .str _ => true
  | _ => false
def eqV : V → V → Bool
  | .non, .non => true
  | .bl a, .bl b => a == b
  | .bl a, .int b => (if a then 1 else 0) == b
  | .int a, .bl b => a == (if b then 1 else 0)
  | .int a, .int b => a == b
  | .str a, .str b => a == b
  | _, _ => false
theorem eqAt_V {A : Around} {s : Shared} {y x : V} {u v : Value} (ry : RelV y u) (rx : RelV x v) (fy : flatV y = true) (fx : flatV x = true) : SeqAt.EqAt A s u v (eqV y x) := by
  cases y with
  | non =>
    cases ry
    cases x with
    | non => cases rx; exact SeqAt.EqAt.same _
    | bl b => cases rx; exact SeqAt.EqAt.none_bool b
    | int b => obtain ⟨t, rfl⟩ := rx; exact SeqAt.EqAt.none_int b t
    | str b => obtain ⟨t, rfl⟩ := rx; exact SeqAt.EqAt.none_str b t
    | _ => exact absurd (show false = true from fx) Bool.false_ne_true
  | bl a =>
    cases ry
    cases x with
    | non => cases rx; exact SeqAt.EqAt.bool_none a
    | bl b => cases rx; exact SeqAt.EqAt.bool_bool a b
    | int b => obtain ⟨t, rfl⟩ := rx; exact SeqAt.EqAt.bool_int a b t
    | str b => obtain ⟨t, rfl⟩ := rx; exact SeqAt.EqAt.bool_str a b t
    | _ => exact absurd (show false = true from fx) Bool.false_ne_true
  | int a =>
    obtain ⟨t', rfl⟩ := ry
    cases x with
    | non => cases rx; exact SeqAt.EqAt.int_none a t'
    | bl b => cases rx; exact SeqAt.EqAt.int_bool a t' b
    | int b => obtain ⟨t, rfl⟩ := rx; exact SeqAt.EqAt.int_int a t' b t
    | str b => obtain ⟨t, rfl⟩ := rx; exact SeqAt.EqAt.int_str a t' b t
    | _ => exact absurd (show false = true from fx) Bool.false_ne_true
  | str a =>
    obtain ⟨t', rfl⟩ := ry
    cases x with
    | non => cases rx; exact SeqAt.EqAt.str_none a t'
    | bl b => cases rx; exact SeqAt.EqAt.str_bool a t' b
    | int b => obtain ⟨t, rfl⟩ := rx; exact SeqAt.EqAt.str_int a t' b t
    | str b => obtain ⟨t, rfl⟩ := rx; exact SeqAt.EqAt.str_str a t' b t
    | _ => exact absurd (show false = true from fx) Bool.false_ne_true
  | _ => exact absurd (show false = true from fy) Bool.false_ne_true
def eqU (x : V) (u : Value) : Bool := match u with
  | .none => eqV .non x
  | .bool b => eqV (.bl b) x
  | .int i _ => eqV (.int i) x
  | .str z _ => eqV (.str z) x
  | _ => false
theorem eqU_of {x y : V} {u : Value} (r : RelV y u) (f : flatV y = true) : eqU x u = eqV y x := by
  cases y with
  | non => cases r; rfl
  | bl b => cases r; rfl
  | int i => obtain ⟨t, rfl⟩ := r; rfl
  | str z => obtain ⟨t, rfl⟩ := r; rfl
  | _ => exact absurd (show false = true from f) Bool.false_ne_true
theorem any_eqU {x : V} : ∀ {xs : List V} {us : List Value}, Vals xs us → xs.all flatV = true → us.any (eqU x) = xs.any fun y => eqV y x
  | _, _, .nil, _ => rfl
  | y :: xs, u :: us, .cons r t, f => by
    rw [List.all_cons, Bool.and_eq_true] at f
    rw [List.any_cons, List.any_cons, eqU_of r f.1, any_eqU t f.2]
theorem mem_eqAt {A : Around} {s : Shared} {x : V} {v : Value} (rx : RelV x v) (fx : flatV x = true) : ∀ {xs : List V} {us : List Value}, Vals xs us → xs.all flatV = true → ∀ u ∈ us, SeqAt.EqAt A s u v (eqU x u)
  | _, _, .nil, _ => fun u hu => by cases hu
  | y :: xs, u :: us, .cons r t, f => fun u' hu => by
    rw [List.all_cons, Bool.and_eq_true] at f
    rcases List.mem_cons.mp hu with rfl | hu
    · rw [eqU_of r f.1]; exact eqAt_V r rx f.1 fx
    · exact mem_eqAt rx fx t f.2 u' hu
def inV (x : V) (xs : List V) : Bool := xs.any fun y => eqV y x
def rIn (K : PySem.W.Frag) (neg : Bool) : R2 := fun x y H Q => ∃ p xs, y = .ref p ∧ (SqL K H p xs ∨ SqT K H p xs) ∧ flatV x = true ∧ xs.all flatV = true ∧ Q (.bl (if neg then !inV x xs else inV x xs)) H
theorem op_in_seq : OpR X (compareOp .In) (rIn X.K false) := by
  intro pins s σ H x y v u Q I rx ry h
  obtain ⟨p, xs, rfl, hq, fx, fs, q⟩ := h
  cases ry
  rcases hq with hq | hq
  · obtain ⟨its, r, pl, hz⟩ := I.list hq
    refine SeqAt.in_listAt (eqU x) pl.isList (fun w hw => mem_eqAt rx fx r fs w (by simpa using hw)) ⟨.bl _, H, I, rfl, ?_⟩
    rw [show its.toArray.any (eqU x) = its.any (eqU x) by simp, any_eqU r fs]
    exact q
  · obtain ⟨its, r, pl, hz⟩ := I.tuple hq
    refine SeqAt.in_tupleAt (eqU x) pl (fun w hw => mem_eqAt rx fx r fs w (by simpa using hw)) ⟨.bl _, H, I, rfl, ?_⟩
    rw [show its.toArray.any (eqU x) = its.any (eqU x) by simp, any_eqU r fs]
    exact q
theorem op_notIn_seq : OpR X (compareOp .NotIn) (rIn X.K true) := by
  intro pins s σ H x y v u Q I rx ry h
  obtain ⟨p, xs, rfl, hq, fx, fs, q⟩ := h
  cases ry
  rcases hq with hq | hq
  · obtain ⟨its, r, pl, hz⟩ := I.list hq
    refine SeqAt.notIn_listAt (eqU x) pl.isList (fun w hw => mem_eqAt rx fx r fs w (by simpa using hw)) ⟨.bl _, H, I, rfl, ?_⟩
    rw [show its.toArray.any (eqU x) = its.any (eqU x) by simp, any_eqU r fs]
    exact q
  · obtain ⟨its, r, pl, hz⟩ := I.tuple hq
    refine SeqAt.notIn_tupleAt (eqU x) pl (fun w hw => mem_eqAt rx fx r fs w (by simpa using hw)) ⟨.bl _, H, I, rfl, ?_⟩
    rw [show its.toArray.any (eqU x) = its.any (eqU x) by simp, any_eqU r fs]
    exact q
theorem call_len_seq : CallR X (.builtin "len") (fun xs H Q => ∃ p ys, xs = [.ref p] ∧ (SqL X.K H p ys ∨ SqT X.K H p ys) ∧ Q (.int ys.length) H) := by
  intro pins s σ H xs us Q I r h
  obtain ⟨p, ys, rfl, hq, q⟩ := h
  obtain ⟨u, rfl, rx⟩ := vals1 r
  cases rx
  have hn := line63
  rcases hq with hq | hq
  · obtain ⟨its, r', pl, hz⟩ := I.list hq
    have hlen := r'.length
    exact Calls.call_len_list pl.isList (by simp only [List.size_toArray] <;> omega) ⟨.int ys.length, H, I.tok _, ⟨s.toks + 1, by rw [List.size_toArray, hlen]⟩, q⟩
  · obtain ⟨its, r', pl, hz⟩ := I.tuple hq
    have hlen := r'.length
    exact len_tuple pl (by simp only [List.size_toArray] <;> omega) ⟨.int ys.length, H, I.tok _, ⟨s.toks + 1, by rw [List.size_toArray, hlen]⟩, q⟩
theorem call_len_str : CallR X (.builtin "len") (fun xs H Q => ∃ z, xs = [.str z] ∧ z.length ≤ sizeLine ∧ Q (.int z.length) H) := by
  intro pins s σ H xs us Q I r h
  obtain ⟨z, rfl, hz, q⟩ := h
  obtain ⟨u, rfl, t, rfl⟩ := vals1 r
  have hn := line63
  exact len_str (by omega) ⟨.int z.length, H, I.tok _, ⟨_, rfl⟩, q⟩
theorem call_list_of : CallR X (.type "list") (fun xs H Q => ∃ p ys, xs = [.ref p] ∧ (SqL X.K H p ys ∨ SqT X.K H p ys) ∧ ∀ l, H l = none → Q (.ref l) (upd H l (.lst ys))) := by
  intro pins s σ H xs us Q I r h
  obtain ⟨p, ys, rfl, hq, q⟩ := h
  obtain ⟨u, rfl, rx⟩ := vals1 r
  cases rx
  have fin : ∀ (its : List Value), Vals ys its → ys.length ≤ sizeLine → ∀ (h' : Heap) (c' : Nat), (∀ b o', s.heap.get? b = some o' → h'.get? b = some o') →
      h'.get? s.heap.objs.size = some { cls := .type "list", dict := none, data := .seq its.toArray c', slots := #[] } → EP X pins σ Q (.ref s.heap.objs.size) { s with heap := h' } := fun its r' hz h' c' kp e =>
    ⟨.ref s.heap.objs.size, _, I.laid (t' := s.toks) kp (Nat.le_refl _) (show ObjOk X.prog X.w _ h' _ (.lst ys) from ⟨hz, its, c', r', e⟩), rfl, q _ (I.hok.fresh (Nat.le_refl _))⟩
  rcases hq with hq | hq
  · obtain ⟨its, r', pl, hz⟩ := I.list hq
    have hlen := r'.length
    obtain ⟨o, ho, hc, n, hd⟩ := pl.isList
    exact call_list_seq p (.inl rfl) ho hc hd (fun h' c' kp e => fin its r' hz h' c' kp e) (by simp only [List.size_toArray] <;> omega)
  · obtain ⟨its, r', pl, hz⟩ := I.tuple hq
    have hlen := r'.length
    obtain ⟨o, ho, hc, n, hd⟩ := pl
    exact call_list_seq p (.inr rfl) ho hc hd (fun h' c' kp e => fin its r' hz h' c' kp e) (by simp only [List.size_toArray] <;> omega)
theorem call_tuple_of : CallR X (.type "tuple") (fun xs H Q => ∃ p ys, xs = [.ref p] ∧ ((SqL X.K H p ys ∧ ∀ l, H l = none → Q (.ref l) (upd H l (.tup ys))) ∨ (SqT X.K H p ys ∧ Q (.ref p) H))) := by
  intro pins s σ H xs us Q I r h
  obtain ⟨p, ys, rfl, h⟩ := h
  obtain ⟨u, rfl, rx⟩ := vals1 r
  cases rx
  rcases h with ⟨hq, q⟩ | ⟨hq, q⟩
  · obtain ⟨its, r', pl, hz⟩ := I.list hq
    have hlen := r'.length
    refine call_tuple_list pl.isList (fun h' kp => ?_) (by simp only [List.size_toArray] <;> omega)
    have I1 : Inv X pins σ H { s with heap := h' } := I.kept (t' := s.toks) kp
    have I2 : Inv X pins σ (upd H h'.objs.size (.tup ys)) { s with heap := h'.push { cls := .type "tuple", data := .seq its.toArray } } :=
      I1.laid (t' := s.toks) (fun b o e => Heap.get?_push_of_some _ e) (Nat.le_refl _) (show ObjOk X.prog X.w _ _ _ (.tup ys) from ⟨hz, its, r', IsTup.new _ _⟩)
    exact ⟨.ref h'.objs.size, _, I2, rfl, q _ (I1.hok.fresh (Nat.le_refl _))⟩
  · obtain ⟨its, r', pl, hz⟩ := I.tuple hq
    exact call_tuple_same pl ⟨.ref p, H, I, rfl, q⟩
def tyV (K : PySem.W.Frag) (T : String) (x : V) (H : Hp) : Prop := match x with
  | .str _ => T = "str"
  | .int _ => T = "int"
  | .ref p => (T = "list" ∧ ∃ xs, SqL K H p xs) ∨ (T = "tuple" ∧ ∃ o, K.lookup p = some o ∧ o.cls = .type "tuple" ∧ o.dict = none) ∨
      (T = "dict" ∧ ((∃ kvs, H p = some (.dK kvs)) ∨ ∃ kvs, H p = some (.dT kvs))) ∨ (T = "set" ∧ ∃ S n, H p = some (.set S n))
  | _ => False
theorem tyV_is {pins : List (Addr × Obj)} {σ : St} {H : Hp} {s : Shared} {T : String} {x : V} {v : Value} (I : Inv X pins σ H s) (r : RelV x v) (ty : tyV X.K T x H) :
    s.TypeIs v T ∧ ∀ a, v = .ref a → ∃ ob, s.heap.get? a = some ob ∧ ob.dict = none := by
  cases x with
  | str z =>
    obtain ⟨t, rfl⟩ := r
    cases (show T = "str" from ty)
    exact ⟨typeIs_str s z t, fun _ e => nomatch e⟩
  | int i =>
    obtain ⟨t, rfl⟩ := r
    cases (show T = "int" from ty)
    exact ⟨typeIs_int s i t, fun _ e => nomatch e⟩
  | ref p =>
    cases r
    rcases ty with ⟨rfl, xs, hq⟩ | ⟨rfl, o, hk, hc, hd⟩ | ⟨rfl, hk⟩ | ⟨rfl, S, n, hk⟩
    · obtain ⟨its, _, pl, _⟩ := I.list hq
      refine ⟨pl.isList.typeIs, fun a e => ?_⟩
      cases e
      obtain ⟨o, n, e, c, hd, _⟩ := pl
      exact ⟨o, e, hd⟩
    · refine ⟨⟨o, I.kIn p o hk, hc⟩, fun a e => ?_⟩
      cases e
      exact ⟨o, I.kIn _ o hk, hd⟩
    · have z : ∃ o, s.heap.get? p = some o ∧ o.ExactDict := by
        rcases hk with ⟨kvs, hk⟩ | ⟨kvs, hk⟩
        · obtain ⟨_, _, _, _, o, _, _, e, ex, _⟩ := I.hok p _ hk
          exact ⟨o, e, ex⟩
        · obtain ⟨_, _, _, _, o, _, _, e, ex, _⟩ := I.hok p _ hk
          exact ⟨o, e, ex⟩
      obtain ⟨o, e, ex⟩ := z
      refine ⟨⟨o, e, ex.1⟩, fun a e2 => ?_⟩
      cases e2
      exact ⟨o, e, ex.2.1⟩
    · obtain ⟨o, _, _, _, e, ex, _⟩ := I.hok p _ hk
      refine ⟨⟨o, e, ex.1⟩, fun a e2 => ?_⟩
      cases e2
      exact ⟨o, e, ex.2.1⟩
  | _ => exact False.elim ty
def tBM (K : PySem.W.Frag) (T : String) (r : V → List V → Hp → VK → Prop) (to : TE) (t : TA) : TE := fun σ H Q => to σ H fun x H1 => tyV K T x H1 ∧ t σ H1 fun xs H2 => r x xs H2 Q
variable {o e : Expr} {es : List Expr} {to : TE} {t : TA} {name : Str} {apos cpos : Pos} {T id : String} {r : V → List V → Hp → VK → Prop}
theorem pe_bm (pa : PlainAttrs T) (slot : Slot T name id) (hty : typeOf (.builtin id) = pure (.type "method_descriptor")) (hm : MtR X id r) (ho : PE X o to) (ha : PA X (e :: es) t)
    (hbase : attributeBase o name X.env (eval o X.env) = eval o X.env := by rfl)
    (hfew : ((backTo cpos (starEach (e :: es) X.env)).all (fun x => !x.1) && (backToKw cpos (keywordEach [] X.env)).all (fun x => x.1.isSome)
      && decide ((e :: es).length + ([] : List Keyword).length + (if ([] : List Keyword).isEmpty then 0 else 1) < 30)) = true := by rfl)
    (hline : (apos.endLine == cpos.line) = true := by rfl) (hs : starEach (e :: es) X.env = (false, eval e X.env) :: starEach es X.env := by rfl) (hplain : (backTo cpos (starEach es X.env)).any (·.1) = false := by rfl) :
    PE X (.Call (.Attribute o name apos) (e :: es) [] cpos) (tBM X.K T r to t) := by
  intro pins s σ H Q I h
  refine wpAny_Call_method_late hbase hfew hline rfl (thn (ho pins s σ H _ I h) fun v s1 ⟨x, H1, I1, r1, ty, q1⟩ => ?_)
  obtain ⟨h1, h2⟩ := tyV_is I1 r1 ty
  refine ⟨T, id, pa, slot, hty, h1, h2, ?_⟩
  have hA := ha cpos pins s1 σ H1 _ I1 q1
  rw [hs] at hA ⊢
  refine Calls.callWith_builtin (by show (false || (backTo cpos (starEach es X.env)).any (·.1)) = false; rw [hplain] <;> rfl) (Calls.evalArgs_plain ?_)
  exact thn hA fun us s2 ⟨vs, H2, I2, r2, q2⟩ => hm pins s2 σ H2 x vs v us Q I2 r1 r2 q2
end
end L2
namespace L2
open PySem PySem.Spec PyProof.Rows
def MtM (X : Cx) (id : String) (r : V → List V → Hp → VK → Prop) : Prop :=
  ∀ (pins : List (Addr × Obj)) (s : Shared) (σ : St) (H : Hp) (x : V) (xs : List V) (v : Value) (us : List Value) (Q : VK), Inv X pins σ H s → RelV x v → Vals xs us → r x xs H Q →
    wpAny (model X.prog X.w) X.A (call (.builtin id) (v :: us)) (EP X pins σ Q) X.xe s
theorem Vals.one : ∀ {x : V} {us : List Value}, Vals [x] us → ∃ u, us = [u] ∧ RelV x u
  | _, _, .cons r .nil => ⟨_, rfl, r⟩
theorem Vals.zero : ∀ {us : List Value}, Vals [] us → us = []
  | _, .nil => rfl
theorem Vals.dropLast {xs : List V} {us : List Value} (h : Vals xs us) : Vals xs.dropLast us.dropLast := by
  induction h with
  | nil => exact .nil
  | cons r t ih =>
    cases t with
    | nil => exact .nil
    | cons q t' => exact .cons r ih
theorem Vals.eraseIdx : ∀ {xs : List V} {us : List Value} (i : Nat), Vals xs us → Vals (xs.eraseIdx i) (us.eraseIdx i)
  | _, _, _, .nil => .nil
  | _, _, 0, .cons _ t => t
  | _, _, i + 1, .cons r t => .cons r (Vals.eraseIdx i t)
theorem Vals.reverse {xs : List V} {us : List Value} (h : Vals xs us) : Vals xs.reverse us.reverse := by
  induction h with
  | nil => exact .nil
  | cons r t ih => rw [List.reverse_cons, List.reverse_cons]; exact Vals.append ih (.cons r .nil)
theorem Vals.rep {xs : List V} {us : List Value} (h : Vals xs us) : ∀ k : Nat, Vals (List.replicate k xs).flatten (List.replicate k us).flatten
  | 0 => .nil
  | k + 1 => by
    rw [List.replicate_succ, List.replicate_succ, List.flatten_cons, List.flatten_cons]
    exact Vals.append h (Vals.rep h k)
theorem len_erase {α : Type} : ∀ (l : List α) (i : Nat), (l.eraseIdx i).length ≤ l.length
  | [], _ => Nat.le_refl _
  | _ :: _, 0 => Nat.le_succ _
  | _ :: r, i + 1 => Nat.succ_le_succ (len_erase r i)
theorem foldl_rep (its : List Value) : ∀ (k : Nat) (acc : List Value),
    List.foldl (fun x1 x2 => x1 ++ x2) acc.toArray (List.replicate k its.toArray) = (acc ++ (List.replicate k its).flatten).toArray
  | 0, acc => by simp
  | k + 1, acc => by
    have e : acc.toArray ++ its.toArray = (acc ++ its).toArray := by simp
    have e2 : (acc ++ its) ++ (List.replicate k its).flatten = acc ++ (List.replicate (k + 1) its).flatten := by
      rw [List.replicate_succ, List.flatten_cons, List.append_assoc]
    rw [← e2, ← foldl_rep its k (acc ++ its), ← e, List.replicate_succ, List.foldl_cons]
section
variable {X : Cx} {pins : List (Addr × Obj)} {σ : St} {H : Hp} {s : Shared} {l b : Addr} {xs ys zs : List V}
theorem Inv.lset {its its' : List Value} {n : Nat} {f : Array Value → Array Value} {t' : Nat} (I : Inv X pins σ H s) (hH : H l = some (.lst xs))
    (e : s.heap.get? l = some { cls := .type "list", data := .seq its.toArray n }) (hf : f its.toArray = its'.toArray) (hv : Vals ys its') (hz : ys.length ≤ sizeLine) :
    Inv X pins σ (upd H l (.lst ys)) { s with heap := s.heap.update l (Obj.mapSeq f), toks := t' } := by
  have q := PySem.IsL.update e f
  rw [hf] at q
  refine I.write (x := l) (e := l) (by rw [hH]; exact trivial) (.inl rfl) (fun b' u hb hu => (Heap.get?_update_other s.heap (Obj.mapSeq f) (Ne.symm hb)).trans hu) ⟨_, q⟩ ?_
  exact ⟨hz, its', _, hv, q⟩
theorem Inv.lnew {its : List Value} {t' : Nat} (I : Inv X pins σ H s) (hv : Vals ys its) (hz : ys.length ≤ sizeLine) :
    Inv X pins σ (upd H s.heap.objs.size (.lst ys)) { s with heap := s.heap.push { cls := .type "list", data := .seq its.toArray }, toks := t' } :=
  I.laid (fun _ _ q => Heap.get?_push_of_some _ q) (Nat.le_refl _) ⟨hz, its, 0, hv, Heap.get?_push_size _ rfl⟩
theorem Inv.fresh (I : Inv X pins σ H s) : H s.heap.objs.size = none := I.hok.fresh (Nat.le_refl _)
theorem Inv.lstM (I : Inv X pins σ H s) (hH : H l = some (.lst xs)) : xs.length ≤ sizeLine ∧ ∃ (its : List Value) (n : Nat), Vals xs its ∧ xs.length = its.length ∧ s.heap.get? l = some { cls := .type "list", data := .seq its.toArray n } := by
  obtain ⟨z, its, n, r, e⟩ := I.hok l _ hH
  exact ⟨z, its, n, r, r.length, e⟩
theorem notLongL {n : Nat} (h : n ≤ sizeLine) : Builtin.List.listTooLong n = false := by
  unfold Builtin.List.listTooLong
  exact decide_eq_false (by omega)
end
section
variable {X : Cx}
def rAppend : V → List V → Hp → VK → Prop := fun x vs H Q => ∃ l xs y, x = .ref l ∧ vs = [y] ∧ H l = some (.lst xs) ∧ xs.length < sizeLine ∧ Q .non (upd H l (.lst (xs ++ [y])))
theorem mt_append : MtM X "list.append" rAppend := by
  intro pins s σ H x vs v us Q I rx rv h
  obtain ⟨l, xs, y, rfl, rfl, hH, hz, q⟩ := h
  cases rx
  obtain ⟨u, rfl, ru⟩ := rv.one
  obtain ⟨z, its, n, r, hl, e⟩ := I.lstM hH
  refine call_meets F.slot_list_append ⟨_, e, rfl⟩ F.entry_list_append (F.args_list_append_2 _ _) (PySem.list_append l its.toArray n u (by rw [List.size_toArray]; omega)) ⟨e, ?_⟩
  refine ⟨.non, _, I.lset (its' := its ++ [u]) hH e (by simp) (r.append (.cons ru .nil)) ?_, rfl, q⟩
  rw [List.length_append, List.length_singleton]
  omega
def rPopAt : V → List V → Hp → VK → Prop := fun x vs H Q => ∃ l xs i k y, x = .ref l ∧ vs = [.int i] ∧ H l = some (.lst xs) ∧ -(2 ^ 63) ≤ i ∧ i < 2 ^ 63 ∧ seqIndex? i xs.length = some k ∧ xs[k]? = some y ∧ Q y (upd H l (.lst (xs.eraseIdx k)))
theorem mt_popAt : MtM X "list.pop" rPopAt := by
  intro pins s σ H x vs v us Q I rx rv h
  obtain ⟨l, xs, i, k, y, rfl, rfl, hH, h1, h2, hk, hy, q⟩ := h
  cases rx
  obtain ⟨u, rfl, ru⟩ := rv.one
  obtain ⟨t, rfl⟩ := ru
  obtain ⟨z, its, n, r, hl, e⟩ := I.lstM hH
  obtain ⟨w, hw, rw'⟩ := r.get hy
  refine call_meets F.slot_list_pop ⟨_, e, rfl⟩ F.entry_list_pop (F.args_list_pop_2 _ _)
    (MeetsSeq.list_pop_at l its.toArray n i t k w (fitsIndex_both h1 h2) (by rw [List.size_toArray, ← hl]; exact hk) (by rw [← Array.getElem?_toList]; exact hw) (by rw [List.size_toArray]; omega)) ⟨e, ?_⟩
  refine ⟨y, _, I.lset (its' := its.eraseIdx k) hH e ?_ (r.eraseIdx k) ?_, rw', q⟩
  · show its.toArray.eraseIdxIfInBounds k = (its.eraseIdx k).toArray
    rw [List.eraseIdxIfInBounds_toArray]
  · have := len_erase xs k
    omega
def rCat : R2 := fun x y H Q => ∃ l b xs zs, x = .ref l ∧ y = .ref b ∧ H l = some (.lst xs) ∧ H b = some (.lst zs) ∧ xs.length + zs.length ≤ sizeLine ∧ ∀ p, H p = none → Q (.ref p) (upd H p (.lst (xs ++ zs)))
theorem op_cat : OpR X (binaryOp .Add) rCat := by
  intro pins s σ H x y v u Q I rx ry h
  obtain ⟨l, b, xs, zs, rfl, rfl, hH, hB, hz, q⟩ := h
  cases rx
  cases ry
  obtain ⟨z, its, n, r, hl, e⟩ := I.lstM hH
  obtain ⟨z2, its2, n2, r2, hl2, e2⟩ := I.lstM hB
  refine PySem.P.add_list e e2 ?_ (by rw [List.size_toArray, List.size_toArray]; omega)
  have ea : its.toArray ++ its2.toArray = (its ++ its2).toArray := by simp
  rw [ea]
  exact ⟨.ref _, _, I.lnew (t' := s.toks) (r.append r2) (by rw [List.length_append]; omega), rfl, q _ I.fresh⟩
def rRep : R2 := fun x y H Q => ∃ l k xs, x = .ref l ∧ y = .int k ∧ H l = some (.lst xs) ∧ -(2 ^ 63) ≤ k ∧ k < 2 ^ 63 ∧ xs.length * k.toNat ≤ sizeLine ∧
  ∀ p, H p = none → Q (.ref p) (upd H p (.lst (List.replicate k.toNat xs).flatten))
theorem len_rep {α : Type} (xs : List α) (k : Nat) : (List.replicate k xs).flatten.length = k * xs.length := by
  induction k with
  | zero => simp
  | succ k ih => rw [List.replicate_succ, List.flatten_cons, List.length_append, ih, Nat.succ_mul, Nat.add_comm]
theorem op_rep : OpR X (binaryOp .Mult) rRep := by
  intro pins s σ H x y v u Q I rx ry h
  obtain ⟨l, k, xs, rfl, rfl, hH, h1, h2, hz, q⟩ := h
  cases rx
  obtain ⟨t, rfl⟩ := ry
  obtain ⟨z, its, n, r, hl, e⟩ := I.lstM hH
  have hlen : its.toArray.size * k.toNat ≤ sizeLine := by rw [List.size_toArray, ← hl]; exact hz
  have hcap : ¬ its.toArray.size * k.toNat > (2 ^ 63 - 1) / 8 := by
    have : (sizeLine : Nat) ≤ (2 ^ 63 - 1) / 8 := by decide
    omega
  have hfit : ¬ (!Builtin.List.listFitsIndex k) = true := by
    rw [fitsIndex_both h1 h2]
    exact Bool.false_ne_true
  have hlong : ¬ Builtin.List.listTooLong (its.toArray.size * k.toNat) = true := by
    rw [notLongL hlen]
    exact Bool.false_ne_true
  have hnew : List.foldl (fun x1 x2 => x1 ++ x2) #[] (List.replicate (if its.toArray.isEmpty = true then 0 else k.toNat) its.toArray) = (List.replicate k.toNat its).flatten.toArray := by
    have f0 : ∀ m : Nat, List.foldl (fun x1 x2 => x1 ++ x2) #[] (List.replicate m its.toArray) = (List.replicate m its).flatten.toArray := fun m => by
      have := foldl_rep its m []
      rw [List.nil_append] at this
      exact this
    rw [f0]
    cases its with
    | nil => simp
    | cons a r' => rw [if_neg (by simp)]
  refine wpAny_binaryOp_repeat_ref (T := "list") (U := "int") (by decide) ⟨_, e, rfl⟩ (fun s' => typeIs_int s' k t) noFill_list_mul F.fills_int_mul F.slot_int_rmul repeat_list F.slot_int_index.lookup
    (call_meets F.slot_int_rmul (typeIs_int s k t) F.entry_int_rmul (F.args_int_rmul_2 _ _) (int___rmul___int_list k t l its.toArray n)
      ⟨e, rfl, ⟨_, e, rfl⟩, call_meets F.slot_list_mul ⟨_, e, rfl⟩ F.entry_list_mul (F.args_list_mul_2 _ _) (AutoListH.list___mul___list_int_3 l its.toArray n k t hfit hcap hlong) ⟨e, ?_⟩⟩)
  rw [hnew]
  exact ⟨.ref _, _, I.lnew (t' := s.toks) (r.rep k.toNat) (by rw [len_rep, Nat.mul_comm]; exact hz), rfl, q _ I.fresh⟩
end
end L2
namespace L2
open PySem PySem.Spec PyProof.Rows
theorem Vals.strs : ∀ {xs : List Str} {us : List Value}, Vals (xs.map V.str) us → StrsAre us xs
  | [], us, h => by
    rw [List.map_nil] at h
    cases h
    exact StrsAre.nil
  | x :: xs, us, h => by
    rw [List.map_cons] at h
    cases h with
    | cons r t =>
      obtain ⟨k, rfl⟩ := r
      exact StrsAre.cons x k (Vals.strs t)
theorem Vals.bls : ∀ {bs : List Bool} {us : List Value}, Vals (bs.map V.bl) us → us = bs.map Value.bool
  | [], us, h => by
    rw [List.map_nil] at h
    cases h
    rfl
  | b :: bs, us, h => by
    rw [List.map_cons] at h
    cases h with
    | cons r t =>
      cases r
      rw [Vals.bls t, List.map_cons]
theorem Vals.ref1 {a : Addr} {us : List Value} (r : Vals [V.ref a] us) : us = [Value.ref a] := by
  cases r with
  | cons r t =>
    cases t
    cases r
    rfl
section
variable {X : Cx}
def rIndex (K : PySem.W.Frag) : V → List V → Hp → VK → Prop := fun x xs H Q => ∃ (a : Addr) (ys : List V) (y : V) (j : Nat) (z : V), x = V.ref a ∧ xs = [y] ∧ SqL K H a ys ∧ flatV y = true ∧ ys.all flatV = true ∧ ys[j]? = some z ∧ eqV z y = true ∧
  (∀ (m : Nat) (z' : V), m < j → ys[m]? = some z' → eqV z' y = false) ∧ Q (.int (j : Nat)) H
theorem flat_at {ys : List V} (f : ys.all flatV = true) {j : Nat} {z : V} (h : ys[j]? = some z) : flatV z = true := List.all_eq_true.mp f z (List.mem_of_getElem? h)
theorem mt_index : MtR X "list.index" (rIndex X.K) := by
  intro pins s σ H x xs v us Q I rx rxs h
  obtain ⟨a, ys, y, j, z, rfl, rfl, hs, fy, fys, hz, hzj, hno, q⟩ := h
  cases rx
  cases rxs with
  | cons ry rt =>
    rename_i uy ut
    cases rt
    obtain ⟨its, rv, ⟨⟨cls, dd, data, sl⟩, n, ho, hc, hdn, hd⟩, hlen⟩ := I.list hs
    simp only at hc hd
    subst hc hd
    obtain ⟨u, hu, ru⟩ := rv.get hz
    obtain ⟨hjl, hje⟩ := List.getElem?_eq_some_iff.mp hu
    have hvl := rv.length
    have hj : j < its.toArray.size := by simpa using hjl
    have hsl := sizeLine_eq
    refine call_meets PySem.F.slot_list_index ⟨_, ho, rfl⟩ PySem.F.entry_list_index (PySem.F.args_list_index_2 _ _)
      (SeqAt.list_indexAt a its.toArray n dd sl uy (eqU y) j hj (by omega) ?_ ?_) ⟨ho, fun u' hu' => mem_eqAt ry fy rv fys u' (by simpa using hu'), ?_⟩
    · have e1 : its.toArray[j] = u := by simpa using hje
      rw [e1, eqU_of ru (flat_at fys hz)]
      exact hzj
    · intro m hm hmj
      have hml : m < its.length := by simpa using hm
      have hmy : m < ys.length := by omega
      have hy' : ys[m]? = some ys[m] := List.getElem?_eq_getElem hmy
      obtain ⟨u2, hu2, ru2⟩ := rv.get hy'
      obtain ⟨_, hme⟩ := List.getElem?_eq_some_iff.mp hu2
      have e1 : its.toArray[m] = u2 := by simpa using hme
      rw [e1, eqU_of ru2 (flat_at fys hy')]
      exact hno m _ hmj hy'
    · exact ⟨.int (j : Nat), H, I.tok _, ⟨_, rfl⟩, q⟩
end
theorem iter_any {prog : Program} {w : World} {A : Around} {E : Value → Shared → Prop} {s : Shared} {l : Addr} {items : Array Value} {Q : Value → Shared → Prop} (hl : s.heap.IsList l items)
    (h : ∀ s₂ : Shared, s₂ = { s with heap := s.heap.push { cls := .type "list_iterator", data := .fields #[.ref l, .int 0 0] } } →
      (s₂.heap.IsListIter s.heap.objs.size l 0 ∧ s₂.heap.IsList l items) → l ≠ s.heap.objs.size → Q (.ref s.heap.objs.size) s₂) : wpAny (model prog w) A (pyIter (.ref l)) Q E s := by
  have hlt : l < s.heap.objs.size := by obtain ⟨_, e, _⟩ := hl; exact Heap.lt_size e
  exact wpAny_pyIter_list hl (h _ rfl ⟨⟨_, Heap.get?_push_size _ rfl, rfl, rfl⟩, hl.push _⟩ (Nat.ne_of_lt hlt))
theorem truth_bools {prog : Program} {w : World} {A : Around} {bs : List Bool} {its : List Value} (e : its = bs.map Value.bool) :
    TruthOf prog w A (fun i v => its.toArray[i]? = some v) (fun i => bs.getD i false) := fun i v s Q E hv hq => by
  have hv' : its[i]? = some v := by simpa using hv
  rw [e, List.getElem?_map] at hv'
  obtain ⟨b, hb, rfl⟩ := Option.map_eq_some_iff.mp hv'
  have hg : bs.getD i false = b := by rw [List.getD_eq_getElem?_getD, hb] <;> rfl
  have hq' : Q (bs.getD i false) s := hq
  rw [hg] at hq'
  exact wpAny_truthy_bool hq'
theorem all_range : ∀ bs : List Bool, (List.range bs.length).all (fun i => bs.getD i false) = bs.all id
  | [] => rfl
  | b :: bs => by
    rw [List.length_cons, List.range_succ_eq_map, List.all_cons, List.all_map, List.all_cons, ← all_range bs]
    all_goals rfl
section
variable {X : Cx}
def rAll (K : PySem.W.Frag) : List V → Hp → VK → Prop := fun vs H Q => ∃ (a : Addr) (bs : List Bool), vs = [V.ref a] ∧ SqL K H a (bs.map V.bl) ∧ Q (.bl (bs.all id)) H
theorem cr_all (hc : X.calm = true) : CallR X (.builtin "all") (rAll X.K) := by
  intro pins s σ H vs us Q I r h
  obtain ⟨a, bs, rfl, hs, q⟩ := h
  obtain ⟨its, rv, hl, _⟩ := I.list hs
  rw [Vals.ref1 r]
  have hb := rv.bls
  refine call_all_walk (iter_any hl.isList fun s₂ e2 st hne => ?_)
  subst e2
  refine ⟨_, _, _, _, _, _, _, rfl, Walks.list (A := X.A.in1) (I.ok.hd hc) _ a hne its.toArray, st, truth_bools hb, fun h' tk hk => ?_⟩
  refine ⟨.bl _, H, I.kept fun b o eo => hk b o (fun hmem => ?_) (Heap.get?_push_of_some _ eo), ?_, q⟩
  · rcases List.mem_cons.mp hmem with e1 | hmem
    · exact absurd (e1 ▸ Heap.lt_size eo) (Nat.lt_irrefl _)
    · cases hmem
  · show Value.bool _ = Value.bool _
    rw [← all_range, hb, List.size_toArray, List.length_map]
end
mutual
inductive Dp (K : PySem.W.Frag) (H : Hp) : V → PyData → Prop
  | non : Dp K H .non .none
  | bl (b : Bool) : Dp K H (.bl b) (.bool b)
  | int (i : Int) : Dp K H (.int i) (.int i)
  | str (x : Str) : Dp K H (.str x) (.str x)
  | lst {a : Addr} {xs : List V} {ds : List PyData} : SqL K H a xs → DpAll K H xs ds → Dp K H (.ref a) (.list ds)
  | tup {a : Addr} {xs : List V} {ds : List PyData} : SqT K H a xs → DpAll K H xs ds → Dp K H (.ref a) (.tuple ds)
inductive DpAll (K : PySem.W.Frag) (H : Hp) : List V → List PyData → Prop
  | nil : DpAll K H [] []
  | cons {v : V} {vs : List V} {d : PyData} {ds : List PyData} : Dp K H v d → DpAll K H vs ds → DpAll K H (v :: vs) (d :: ds)
end
section
variable {X : Cx} {pins : List (Addr × Obj)} {σ : St} {H : Hp} {s : Shared}
mutual
theorem Dp.reads (I : Inv X pins σ H s) : ∀ (d : PyData) (v : V) (u : Value), Dp X.K H v d → RelV v u → ∃ as, Reads s.heap u d as
  | .none, _, _, h, r => by
    cases h
    cases r
    exact ⟨_, Reads.none⟩
  | .bool b, _, _, h, r => by
    cases h
    cases r
    exact ⟨_, Reads.bool b⟩
  | .int i, _, _, h, r => by
    cases h
    obtain ⟨t, rfl⟩ := r
    exact ⟨_, Reads.int i t⟩
  | .str x, _, _, h, r => by
    cases h
    obtain ⟨t, rfl⟩ := r
    exact ⟨_, Reads.str x t⟩
  | .list ds, _, _, h, r => by
    cases h with
    | lst hs ha =>
      cases r
      obtain ⟨its, rv, ⟨o, n, ho, hc, _, hd⟩, _⟩ := I.list hs
      obtain ⟨as, hr⟩ := Dp.readsAll I ds _ its ha rv
      exact ⟨_, Reads.list ho hc hd hr⟩
  | .tuple ds, _, _, h, r => by
    cases h with
    | tup hs ha =>
      cases r
      obtain ⟨its, rv, ⟨o, ho, hc, n, hd⟩, _⟩ := I.tuple hs
      obtain ⟨as, hr⟩ := Dp.readsAll I ds _ its ha rv
      exact ⟨_, Reads.tuple ho hc hd hr⟩
  | .dict _, _, _, h, _ => by cases h
theorem Dp.readsAll (I : Inv X pins σ H s) : ∀ (ds : List PyData) (vs : List V) (us : List Value), DpAll X.K H vs ds → Vals vs us → ∃ as, ReadsAll s.heap us ds as
  | [], _, _, h, r => by
    cases h
    cases r
    exact ⟨_, ReadsAll.nil⟩
  | d :: ds, _, _, h, r => by
    cases h with
    | cons h1 h2 =>
      cases r with
      | cons r1 r2 =>
        obtain ⟨as, q1⟩ := Dp.reads I d _ _ h1 r1
        obtain ⟨bs, q2⟩ := Dp.readsAll I ds _ _ h2 r2
        exact ⟨_, ReadsAll.cons q1 q2⟩
end
end
section
variable {X : Cx}
def rEqD (K : PySem.W.Frag) : R2 := fun x y H Q => ∃ d e, Dp K H x d ∧ Dp K H y e ∧ SeqAt.shaped d = true ∧ SeqAt.shaped e = true ∧ Q (.bl (PyData.eqv d e)) H
def rNeD (K : PySem.W.Frag) : R2 := fun x y H Q => ∃ d e, Dp K H x d ∧ Dp K H y e ∧ SeqAt.shaped d = true ∧ SeqAt.shaped e = true ∧ Q (.bl (!PyData.eqv d e)) H
theorem op_eqD (hu : X.A.units + 64 < cLine) : OpR X (compareOp .Eq) (rEqD X.K) := by
  intro pins s σ H x y v u Q I rx ry h
  obtain ⟨d, e, hd, he, sd, se, q⟩ := h
  obtain ⟨as, r1⟩ := Dp.reads I d x v hd rx
  obtain ⟨bs, r2⟩ := Dp.reads I e y u he ry
  exact SeqAt.compareEq_shaped r1 r2 sd se hu ⟨.bl _, H, I, rfl, q⟩
theorem op_neD (hu : X.A.units + 64 < cLine) : OpR X (compareOp .NotEq) (rNeD X.K) := by
  intro pins s σ H x y v u Q I rx ry h
  obtain ⟨d, e, hd, he, sd, se, q⟩ := h
  obtain ⟨as, r1⟩ := Dp.reads I d x v hd rx
  obtain ⟨bs, r2⟩ := Dp.reads I e y u he ry
  exact SeqAt.compareNe_shaped r1 r2 sd se hu ⟨.bl _, H, I, rfl, q⟩
end
end L2
namespace L2
open PySem PySem.Spec PyProof.Rows
abbrev CellAt (h : Heap) (c : Addr) (v : Option Value) : Prop := h.IsCell c v
def relS (scope sc : Scope) : Scope :=
  { scope with names := scope.names.map fun (n, k) => if (k == .free && sc.kind == .function && sc.names.lookup n == some .cell) then (n, .cell) else (n, k) }
def cloFrom (cells : List (Str × Addr)) : List (Str × NameKind) → List (Str × Addr) → List (Str × Addr)
  | [], acc => acc
  | (n, k) :: r, acc => if k == .free then cloFrom cells r ((n, (cells.lookup n).getD 0) :: acc) else cloFrom cells r acc
theorem closure_loop (env : Env) (f : Str × NameKind → List (Str × Addr) → Sem (ForInStep (List (Str × Addr))))
    (hf : ∀ n k c, f (n, k) c = if k == .free then (do let a ← cellOf env n; pure (.yield ((n, a) :: c))) else pure (.yield c)) :
    ∀ (names : List (Str × NameKind)) (acc : List (Str × Addr)), (∀ y ∈ names, y.2 = .free → ∃ c, env.cells.lookup y.1 = some c) → forIn names acc f = pure (cloFrom env.cells names acc)
  | [], acc, _ => by rw [List.forIn_nil]; rfl
  | (n, k) :: r, acc, h => by
    rw [List.forIn_cons, hf]
    have ih := fun acc => closure_loop env f hf r acc fun y hy => h y (List.mem_cons_of_mem _ hy)
    unfold cloFrom
    by_cases hk : (k == NameKind.free) = true
    · rw [if_pos hk, if_pos hk]
      obtain ⟨c, hc⟩ := h (n, k) List.mem_cons_self (by simpa using hk)
      have e : cellOf env n = pure c := by unfold cellOf; rw [hc]
      rw [e]
      have e2 : (env.cells.lookup n).getD 0 = c := by rw [hc]; rfl
      rw [e2]
      exact ih _
    · rw [if_neg hk, if_neg hk]
      exact ih _
theorem closure_ok {scope : Scope} {env : Env} (h : ∀ y ∈ scope.names, y.2 = .free → ∃ c, env.cells.lookup y.1 = some c) : closureFor scope env = pure (cloFrom env.cells scope.names []) := by
  simp only [closureFor]
  rw [closure_loop env _ (fun n k c => rfl) scope.names [] h]
  rfl
theorem mem_lookup {α : Type} : ∀ {l : List (Str × α)} {n : Str} {c : α}, (n, c) ∈ l → ∃ c', l.lookup n = some c'
  | (k, v) :: r, n, c, h => by
    rw [List.lookup_cons]
    cases hb : n == k with
    | true => exact ⟨_, rfl⟩
    | false =>
      rcases List.mem_cons.mp h with e | h
      · cases e; simp at hb
      · exact mem_lookup h
theorem cloFrom_mem {cells : List (Str × Addr)} : ∀ {names : List (Str × NameKind)} {acc : List (Str × Addr)} {n : Str} {c : Addr}, (n, c) ∈ cloFrom cells names acc → (n, c) ∈ acc ∨ ((n, .free) ∈ names ∧ c = (cells.lookup n).getD 0)
  | [], _, _, _, h => .inl h
  | (m, k) :: r, acc, n, c, h => by
    unfold cloFrom at h
    split at h
    · rename_i hk
      have hk : k = .free := by simpa using hk
      rcases cloFrom_mem h with h | ⟨h1, h2⟩
      · rcases List.mem_cons.mp h with e | h
        · cases e; exact .inr ⟨hk ▸ List.mem_cons_self, rfl⟩
        · exact .inl h
      · exact .inr ⟨List.mem_cons_of_mem _ h1, h2⟩
    · rcases cloFrom_mem h with h | ⟨h1, h2⟩
      · exact .inl h
      · exact .inr ⟨List.mem_cons_of_mem _ h1, h2⟩
theorem cloFrom_acc {cells : List (Str × Addr)} : ∀ {names : List (Str × NameKind)} {acc : List (Str × Addr)} {p : Str × Addr}, p ∈ acc → p ∈ cloFrom cells names acc
  | [], _, _, h => h
  | (m, k) :: r, acc, p, h => by
    unfold cloFrom
    split
    · exact cloFrom_acc (List.mem_cons_of_mem _ h)
    · exact cloFrom_acc h
theorem cloFrom_has {cells : List (Str × Addr)} : ∀ {names : List (Str × NameKind)} {acc : List (Str × Addr)} {n : Str}, (n, .free) ∈ names → (n, (cells.lookup n).getD 0) ∈ cloFrom cells names acc
  | (m, k) :: r, acc, n, h => by
    unfold cloFrom
    rcases List.mem_cons.mp h with e | h
    · cases e
      exact cloFrom_acc List.mem_cons_self
    · split
      · exact cloFrom_has h
      · exact cloFrom_has h
theorem cells_mem : ∀ {names : List (Str × NameKind)} {h : Heap} {acc : List (Str × Addr)} {x : Str} {c : Addr}, (x, c) ∈ cellsFrom h.objs.size names acc →
    (x, c) ∈ acc ∨ ((x, .cell) ∈ names ∧ h.objs.size ≤ c ∧ CellAt (pushCells h names) c none)
  | [], _, _, _, _, h => .inl h
  | (n, k) :: r, h, acc, x, c, hm => by
    unfold cellsFrom at hm
    unfold pushCells
    split at hm
    · rename_i hk
      rw [if_pos hk]
      have hk : k = .cell := by simpa using hk
      rw [← Heap.size_push h { cls := .type "cell", data := .cell none }] at hm
      rcases cells_mem hm with hm | ⟨h1, h2, h3⟩
      · rcases List.mem_cons.mp hm with e | hm
        · cases e
          exact .inr ⟨hk ▸ List.mem_cons_self, Nat.le_refl _, _, pushCells_keeps r _ _ _ (Heap.get?_push_size _ rfl), rfl⟩
        · exact .inl hm
      · rw [Heap.size_push] at h2
        exact .inr ⟨List.mem_cons_of_mem _ h1, Nat.le_of_succ_le h2, h3⟩
    · rename_i hk
      rw [if_neg hk]
      rcases cells_mem hm with hm | ⟨h1, h2, h3⟩
      · exact .inl hm
      · exact .inr ⟨List.mem_cons_of_mem _ h1, h2, h3⟩
theorem cells_acc : ∀ {names : List (Str × NameKind)} {n : Nat} {acc : List (Str × Addr)} {p : Str × Addr}, p ∈ acc → p ∈ cellsFrom n names acc
  | [], _, _, _, h => h
  | (m, k) :: r, n, acc, p, h => by
    unfold cellsFrom
    split
    · exact cells_acc (List.mem_cons_of_mem _ h)
    · exact cells_acc h
theorem cells_has : ∀ {names : List (Str × NameKind)} {n : Nat} {acc : List (Str × Addr)} {x : Str}, (x, .cell) ∈ names → ∃ c, (x, c) ∈ cellsFrom n names acc
  | (m, k) :: r, n, acc, x, h => by
    unfold cellsFrom
    rcases List.mem_cons.mp h with e | h
    · cases e
      exact ⟨n, cells_acc List.mem_cons_self⟩
    · split
      · exact cells_has h
      · exact cells_has h
theorem cells_inj : ∀ {names : List (Str × NameKind)} {h : Heap} {acc : List (Str × Addr)} {x y : Str} {c : Addr}, (∀ p ∈ acc, p.2 < h.objs.size) → (∀ x y c, (x, c) ∈ acc → (y, c) ∈ acc → x = y) →
    (x, c) ∈ cellsFrom h.objs.size names acc → (y, c) ∈ cellsFrom h.objs.size names acc → x = y
  | [], _, _, _, _, _, _, hi, h1, h2 => hi _ _ _ h1 h2
  | (n, k) :: r, h, acc, x, y, c, hl, hi, h1, h2 => by
    unfold cellsFrom at h1 h2
    split at h1
    · rename_i hk
      rw [if_pos hk] at h2
      rw [← Heap.size_push h { cls := .type "cell", data := .cell none }] at h1 h2
      refine cells_inj (h := h.push _) (fun p hp => ?_) (fun x y c a b => ?_) h1 h2
      · rw [Heap.size_push]
        rcases List.mem_cons.mp hp with rfl | hp
        · exact Nat.lt_succ_self _
        · exact Nat.lt_succ_of_lt (hl p hp)
      · rcases List.mem_cons.mp a with e | a <;> rcases List.mem_cons.mp b with e' | b
        · cases e; cases e'; rfl
        · cases e; exact absurd (hl _ b) (Nat.lt_irrefl _)
        · cases e'; exact absurd (hl _ a) (Nat.lt_irrefl _)
        · exact hi _ _ _ a b
    · rename_i hk
      rw [if_neg hk] at h2
      exact cells_inj hl hi h1 h2
theorem newEnv_comp {M : Model} {A : Around} {E : Value → Shared → Prop} {s : Shared} {scope : Scope} {globals : Addr} {closure : List (Str × Addr)} {qual : Str} {func : Option Addr} {code : Value} {around : Env} {builtins : Addr} {Q : Env → Shared → Prop}
    (h : Q (newEnv scope s.heap.objs.size globals (cellsFrom (s.heap.objs.size + 1) scope.names closure) qual func code (some around) builtins)
      { s with heap := pushCells (s.heap.push { cls := .type "dict", data := .dict #[] }) scope.names }) :
    wpAny M A (newFunctionEnv scope globals closure [] qual func code (some around) builtins) Q E s := by
  simp only [newFunctionEnv, Option.isSome_some, if_true]
  refine wpAny_bind (wpAny_alloc ?_)
  refine wpAny_bind (wpAny_layCells _ (fun n k c => rfl) scope.names closure _ _ ?_)
  rw [show ({ s with heap := s.heap.push { cls := .type "dict", data := .dict #[] } } : Shared).heap.objs.size = s.heap.objs.size + 1 from Heap.size_push ..]
  rw [List.forIn_nil]
  exact wpAny_bind (wpAny_pure (wpAny_pure h))
theorem lookup_relS {sc : Scope} : ∀ {names : List (Str × NameKind)} {x : Str} {k : NameKind},
    (names.map fun (n, k) => if (k == NameKind.free && sc.kind == .function && sc.names.lookup n == some .cell) then (n, NameKind.cell) else (n, k)).lookup x = some k →
    ∃ k', names.lookup x = some k' ∧ (k = k' ∨ (k' = .free ∧ k = .cell))
  | [], _, _, h => by simp at h
  | (n, k₀) :: r, x, k, h => by
    have ih := @lookup_relS sc r x k
    have h' : List.lookup x ((if (k₀ == NameKind.free && sc.kind == .function && sc.names.lookup n == some .cell) = true then (n, NameKind.cell) else (n, k₀)) :: (r.map _)) = some k := h
    cases hx : x == n with
    | true =>
      simp only [List.lookup_cons, hx]
      by_cases hc : (k₀ == NameKind.free && sc.kind == .function && sc.names.lookup n == some .cell) = true
      · rw [if_pos hc] at h'
        simp only [List.lookup_cons, hx] at h'
        cases h'
        simp only [Bool.and_eq_true, beq_iff_eq] at hc
        exact ⟨k₀, rfl, .inr ⟨hc.1.1, rfl⟩⟩
      · rw [if_neg hc] at h'
        simp only [List.lookup_cons, hx] at h'
        cases h'
        exact ⟨_, rfl, .inl rfl⟩
    | false =>
      simp only [List.lookup_cons, hx]
      by_cases hc : (k₀ == NameKind.free && sc.kind == .function && sc.names.lookup n == some .cell) = true
      · rw [if_pos hc] at h'
        simp only [List.lookup_cons, hx] at h'
        exact ih h'
      · rw [if_neg hc] at h'
        simp only [List.lookup_cons, hx] at h'
        exact ih h'
structure BlkOk (N : List Str) (sc scope : Scope) (own : List (Str × Nat)) : Prop where
  kind : scope.kind = .function
  uniq : ∀ y ∈ scope.names, scope.names.lookup y.1 = some y.2
  ix : ∀ p ∈ own, N[p.2]? = some p.1
  free : ∀ y ∈ scope.names, y.2 = .free → sc.names.lookup y.1 = some .cell ∨ sc.names.lookup y.1 = some .free
  own : ∀ y ∈ scope.names, y.2 = .local ∨ y.2 = .cell → y.1 ∈ own.map (·.1) ∨ y.1 ∉ N
def wipe (σ : St) : List Nat → St
  | [] => σ
  | v :: vs => (wipe σ vs).set v none
theorem wipe_length (σ : St) : ∀ vs : List Nat, (wipe σ vs).length = σ.length
  | [] => rfl
  | v :: vs => by unfold wipe; rw [List.length_set, wipe_length σ vs]
theorem wipe_some {σ : St} {i : Nat} {x : V} : ∀ {vs : List Nat}, (wipe σ vs)[i]? = some (some x) → σ[i]? = some (some x) ∧ i ∉ vs
  | [], h => ⟨h, by simp⟩
  | v :: vs, h => by
    unfold wipe at h
    by_cases hi : v = i
    · subst hi
      by_cases hv : v < (wipe σ vs).length
      · rw [List.getElem?_set_self hv] at h; cases h
      · rw [List.getElem?_eq_none (by simpa using hv)] at h; cases h
    · rw [List.getElem?_set_ne hi] at h
      obtain ⟨h1, h2⟩ := wipe_some h
      exact ⟨h1, by simp only [List.mem_cons, not_or]; exact ⟨fun e => hi e.symm, h2⟩⟩
abbrev Cx.blk (X : Cx) (s : Shared) (H : Hp) (scope : Scope) (cenv : Env) (fp : List Addr) : Cx := { X with s_0 := s, H_0 := H, env := cenv, outer := X.stack, ex := fp, fn := fun x => scope.names.lookup x == some .cell, pn := [], xe := fun _ _ => False }
section
variable {X : Cx} {pins : List (Addr × Obj)} {σ : St} {H : Hp} {s : Shared}
theorem block_start {scope : Scope} {own : List (Str × Nat)} {fp : List Addr} (I : Inv X pins σ H s) (ok : BlkOk X.N X.env.scope scope own) (hN : X.N.Nodup) (hfp : ∀ b ∈ fp, FpOk X pins H b ∧ b < s.heap.objs.size) :
    Inv (X.blk s H scope (compEnvC scope (cellsFrom (s.heap.objs.size + 1) scope.names (cloFrom X.env.cells scope.names [])) s.heap.objs.size X.env) fp) [] (wipe σ (own.map (·.2))) H { s with heap := pushCells (s.heap.push { cls := .type "dict", data := .dict #[] }) scope.names } := by
  have hfree : ∀ y ∈ scope.names, y.2 = .free → ∃ c, X.env.cells.lookup y.1 = some c := fun y hy e => by
    rcases ok.free y hy e with k | k
    · exact I.ok.has _ (.inl k)
    · exact I.ok.has _ (.inr k)
  generalize hcenv : compEnvC scope (cellsFrom (s.heap.objs.size + 1) scope.names (cloFrom X.env.cells scope.names [])) s.heap.objs.size X.env = cenv
  have kp : ∀ b o, s.heap.get? b = some o → (pushCells (s.heap.push { cls := .type "dict", data := .dict #[] }) scope.names).get? b = some o := fun b o e => pushCells_keeps _ _ _ _ (Heap.get?_push_of_some _ e)
  have hL : cenv.locals = s.heap.objs.size := by rw [← hcenv]; rfl
  have hcl : cenv.cells = cellsFrom (s.heap.objs.size + 1) scope.names (cloFrom X.env.cells scope.names []) := by rw [← hcenv]; rfl
  have hsc : cenv.scope = relS scope X.env.scope := by rw [← hcenv]; rfl
  rw [← Heap.size_push s.heap { cls := .type "dict", data := .dict #[] }] at hcl
  have cm : ∀ {y c}, (y, c) ∈ cloFrom X.env.cells scope.names [] → X.env.cells.lookup y = some c ∧ c < s.heap.objs.size := fun {y c} hm => by
    rcases cloFrom_mem hm with hm | ⟨h1, rfl⟩
    · cases hm
    · obtain ⟨c, hc⟩ := hfree _ h1 rfl
      rw [hc]
      obtain ⟨w, z⟩ := I.cell _ _ hc
      exact ⟨rfl, z.lt⟩
  have mem : ∀ {y c}, cenv.cells.lookup y = some c → (X.env.cells.lookup y = some c ∧ c < s.heap.objs.size) ∨ (s.heap.objs.size + 1 ≤ c ∧ CellAt (pushCells (s.heap.push { cls := .type "dict", data := .dict #[] }) scope.names) c none) := fun {y c} e => by
    rw [hcl] at e
    rcases cells_mem (PySem.mem_of_lookup e) with hm | ⟨_, h2, h3⟩
    · exact .inl (cm hm)
    · rw [Heap.size_push] at h2; exact .inr ⟨h2, h3⟩
  have look : ∀ {y}, scope.names.lookup y = some .free → ∃ c, cenv.cells.lookup y = some c ∧ X.env.cells.lookup y = some c := fun {y} hl => by
    have hy : (y, NameKind.free) ∈ scope.names := PySem.mem_of_lookup hl
    obtain ⟨c', e'⟩ := mem_lookup (cells_acc (names := scope.names) (n := (s.heap.push { cls := .type "dict", data := .dict #[] }).objs.size) (cloFrom_has (cells := X.env.cells) (acc := []) hy))
    rw [← hcl] at e'
    refine ⟨c', e', ?_⟩
    rw [hcl] at e'
    rcases cells_mem (PySem.mem_of_lookup e') with hm | ⟨h1, _, _⟩
    · exact (cm hm).1
    · have := ok.uniq _ h1
      rw [hl] at this; cases this
  have okB : (X.blk s H scope cenv fp).Ok := by
    refine ⟨I.ok.mod, by show cenv.scope.kind = _; rw [hsc]; exact ok.kind, by show cenv.globals = _; rw [← hcenv]; exact I.ok.glob, by show cenv.builtins = _; rw [← hcenv]; exact I.ok.blt, by show s.heap.objs.size ≤ cenv.locals; rw [hL]; exact Nat.le_refl _,
      fun y z c e1 e2 => ?_, fun y hy => ?_, fun y c z e => ?_, I.ok.hd, I.ok.frames, .inl rfl, fun b hb => ⟨?_, fun y c e z => ?_⟩, I.bs, Nat.le_trans I.ok.bsz I.sz, fun b o e hb => ?_, fun b hb z => ?_, I.stack, I.stkFree⟩
    · have e1 : cenv.cells.lookup y = some c := e1
      have e2 : cenv.cells.lookup z = some c := e2
      rw [hcl] at e1 e2
      refine cells_inj (fun p hp => ?_) (fun y z c a b => I.ok.inj y z c (cm a).1 (cm b).1) (PySem.mem_of_lookup e1) (PySem.mem_of_lookup e2)
      rw [Heap.size_push]
      exact Nat.lt_succ_of_lt (cm (y := p.1) (c := p.2) hp).2
    · show ∃ c, cenv.cells.lookup y = some c
      have key : ∀ k, cenv.kindOf y = some k → (k = .cell ∨ k = .free) → ∃ c, cenv.cells.lookup y = some c := fun k hk hk' => by
        unfold Env.kindOf at hk
        rw [hsc] at hk
        obtain ⟨k', e, r⟩ := lookup_relS hk
        have : k' = .cell ∨ k' = .free := by
          rcases r with rfl | ⟨rfl, _⟩
          · exact hk'
          · exact .inr rfl
        rcases this with rfl | rfl
        · obtain ⟨c, hm⟩ := cells_has (n := (s.heap.push { cls := .type "dict", data := .dict #[] }).objs.size) (acc := cloFrom X.env.cells scope.names []) (PySem.mem_of_lookup e)
          obtain ⟨c', e'⟩ := mem_lookup hm
          exact ⟨c', by rw [hcl]; exact e'⟩
        · obtain ⟨c, h1, _⟩ := look e
          exact ⟨c, h1⟩
      rcases hy with hy | hy
      · exact key _ hy (.inl rfl)
      · exact key _ hy (.inr rfl)
    · have z : (scope.names.lookup y == some NameKind.cell) = true := z
      have z : scope.names.lookup y = some .cell := by simpa using z
      have e : cenv.cells.lookup y = some c := e
      rw [hcl] at e
      rcases cells_mem (PySem.mem_of_lookup e) with hm | ⟨_, h2, _⟩
      · rcases cloFrom_mem hm with hm | ⟨h1, _⟩
        · cases hm
        · have q := ok.uniq _ h1
          rw [z] at q; cases q
      · rw [Heap.size_push] at h2
        exact Nat.le_of_succ_le h2
    · show b ≠ cenv.locals
      rw [hL]; exact Nat.ne_of_lt (hfp b hb).2
    · have e : cenv.cells.lookup y = some c := e
      rcases mem e with ⟨h1, _⟩ | ⟨h1, _⟩
      · exact (hfp b hb).1.2.2.2.2.1 y c h1 z
      · have h2 : s.heap.objs.size + 1 ≤ b := by rw [← z]; exact h1
        exact absurd (Nat.lt_of_lt_of_le (hfp b hb).2 (Nat.le_of_succ_le h2)) (Nat.lt_irrefl _)
    · rcases (hfp b hb).1.2.2.2.1 with z | z
      · exact I.ok.noex b o e z
      · exact absurd (Nat.lt_of_lt_of_le (Heap.lt_size e) (Nat.le_trans I.ok.bsz z)) (Nat.lt_irrefl _)
    · rcases List.mem_cons.mp (I.stkSub b z) with z | z
      · exact (hfp b hb).1.2.1 z
      · exact (hfp b hb).1.2.2.1 z
  refine ⟨okB, rfl, I.bare, Un.kept kp, ⟨fun _ => none, ?_, fun i y av e1 e2 e3 => ?_⟩, fun y c e => ?_, ?_, fun y c e => ?_, fun p hp => ?_, I.hok.kept kp, by rw [wipe_length]; exact I.len⟩
  · show Heap.Ns _ cenv.locals _
    rw [hL]
    exact Heap.Ns.keeps (Heap.Ns.new ..) fun b o e => pushCells_keeps _ _ _ _ e
  · obtain ⟨e2, hne⟩ := wipe_some e2
    have hfr : scope.names.lookup y = some .free ∧ (cenv.kindOf y = some .cell ∨ cenv.kindOf y = some .free) := by
      have key : ∀ k, cenv.scope.names.lookup y = some k → k = .local ∨ k = .cell ∨ k = .free → scope.names.lookup y = some .free ∧ (cenv.kindOf y = some .cell ∨ cenv.kindOf y = some .free) := fun k hk hk' => by
        have hk0 := hk
        rw [hsc] at hk
        obtain ⟨k', e, r⟩ := lookup_relS hk
        have no : ¬ (k' = .local ∨ k' = .cell) := fun hh => by
          rcases ok.own _ (PySem.mem_of_lookup e) hh with e' | e'
          · obtain ⟨p, hp, hpy⟩ := List.mem_map.mp e'
            have e3 := ok.ix p hp
            have : p.1 = y := hpy
            rw [this] at e3
            exact hne (List.mem_map.mpr ⟨p, hp, nodup_ix hN e3 e1⟩)
          · exact e' (List.mem_of_getElem? e1)
        rcases r with rfl | ⟨rfl, rfl⟩
        · rcases hk' with rfl | rfl | rfl
          · exact absurd (.inl rfl) no
          · exact absurd (.inr rfl) no
          · exact ⟨e, .inr hk0⟩
        · exact ⟨e, .inl hk0⟩
      have e3 : Vis cenv.scope y := e3
      rcases e3 with e3 | e3 | e3
      · exact key _ e3 (.inl rfl)
      · exact key _ e3 (.inr (.inl rfl))
      · exact key _ e3 (.inr (.inr rfl))
    obtain ⟨m, hn, hl⟩ := I.loc
    have hvis : Vis X.env.scope y := (ok.free _ (PySem.mem_of_lookup hfr.1) rfl).elim (fun k => .inr (.inl k)) (fun k => .inr (.inr k))
    obtain ⟨w, r, q⟩ := hl i y av e1 e2 hvis
    refine ⟨w, r, .inr ⟨hfr.2, ?_⟩⟩
    obtain ⟨c, h1, h2⟩ := look hfr.1
    rcases q with ⟨k, _⟩ | ⟨_, c', e', z⟩
    · have k : X.env.scope.names.lookup y = some .local := k
      rcases ok.free _ (PySem.mem_of_lookup hfr.1) rfl with k' | k' <;> rw [show X.env.scope.names.lookup y = _ from k'] at k <;> cases k
    · rw [h2] at e'; cases e'
      exact ⟨c, h1, z.keeps kp⟩
  · have e : cenv.cells.lookup y = some c := e
    rcases mem e with ⟨h1, _⟩ | ⟨_, z⟩
    · obtain ⟨w, z⟩ := I.cell y c h1
      exact ⟨w, z.keeps kp⟩
    · exact ⟨_, z⟩
  · show H cenv.locals = none
    rw [hL]; exact I.hok.fresh (Nat.le_refl _)
  · have e : cenv.cells.lookup y = some c := e
    rcases mem e with ⟨h1, _⟩ | ⟨h1, _⟩
    · exact I.freeC y c h1
    · exact I.hok.fresh (Nat.le_of_succ_le h1)
  · exact absurd (show p ∈ ([] : List (Addr × Obj)) ++ [] from hp) (by simp)
theorem app_ok {E : Value → Shared → Prop} {D : Addr} {xs : List V} {y : V} {v : Value} {Q : Value → Shared → Prop} (I : Inv X pins σ H s) (hD : H D = some (.lst xs)) (hz : xs.length < sizeLine) (r : RelV y v)
    (h : ∀ s', Inv X pins σ (upd H D (.lst (xs ++ [y]))) s' → Q .none s') : wpAny (model X.prog X.w) X.A (call (.builtin "list.append") [.ref D, v]) Q E s := by
  obtain ⟨hz', its, n, ri, e⟩ := I.hok D _ hD
  have hl := ri.length
  refine append_at (hsz := by rw [List.size_toArray]; omega) e fun h' sb ho' => ?_
  refine h { s with heap := h' } (I.write (t' := s.toks) (by rw [hD]; trivial) (.inl rfl) (fun b u hb q => (sb.2 b hb).trans q) ⟨_, ho'⟩ ⟨by rw [List.length_append]; exact hz, its ++ [v], n + 1, ri.append (.cons r .nil), ?_⟩)
  rw [ho']
  simp
def PTs (X : Cx) (ifs : List Expr) (t : TT) : Prop :=
  ∀ (pins : List (Addr × Obj)) (s : Shared) (σ : St) (H : Hp) (Q : Bool → Hp → Prop), Inv X pins σ H s → t σ H Q →
    wpAny (model X.prog X.w) X.A (forIn ifs true fun c r => if r = true then do let ok ← isTrue c X.env (eval c X.env); pure (ForInStep.yield ok) else pure (ForInStep.yield r)) (TP X pins σ Q) X.xe s
def tYes : TT := fun _ H Q => Q true H
theorem pts_nil : PTs X [] tYes := fun _ _ _ H _ I h => wpAny_tests_nil ⟨H, I, h⟩
theorem pts_one {c : Expr} {t : TT} (h : PT X c t) : PTs X [c] t := fun pins s σ H Q I hw => wpAny_tests_one (h pins s σ H Q I hw)
end
theorem thnF {α : Type} {t : Sem α} {Q Q' : α → Shared → Prop} {M : Model} {A : Around} {E : Value → Shared → Prop} {s : Shared} (h : wpAny M A t Q (fun _ _ => False) s) (hQ : ∀ a s, Q a s → Q' a s) : wpAny M A t Q' E s := wpAny_mono h hQ fun _ _ z => False.elim z
theorem compLoop_any {prog : Program} {w : World} {A : Around} {R : Result → Shared → Prop} {s : Shared} {elt target iter : Expr} {ifs : List Expr} {scope : Scope} {pos : Pos} {it acc : Value} {env : Env} (I : Nat → Shared → Prop)
    (turn : ∀ n s, I n s → wpAny (model prog w) A (pyNext it) (fun r s₁ => match r with
      | none => R (.ok .next) s₁
      | some v => wpAny (model prog w) A (letOwnedTupleGo target it v) (fun _ s₁' => wpAny (model prog w) A (assign target env v) (fun _ s₂ =>
          wpAny (model prog w) A (forIn ifs true fun c r => if r = true then do let ok ← isTrue c env (eval c env); pure (ForInStep.yield ok) else pure (ForInStep.yield r)) (fun ok s₃ =>
            if ok = true then wpAny (model prog w) A (eval elt env) (fun x s₄ =>
              wpAny (model prog w) A (call (.builtin "list.append") [acc, x]) (fun _ s₅ => ∃ m, m < n ∧ I m s₅) (notedBy (model prog w) A env fun e s' => R (.error e) s') s₄) (notedBy (model prog w) A env fun e s' => R (.error e) s') s₃
            else ∃ m, m < n ∧ I m s₃) (notedBy (model prog w) A env fun e s' => R (.error e) s') s₂) (notedBy (model prog w) A env fun e s' => R (.error e) s') s₁') (notedBy (model prog w) A env fun e s' => R (.error e) s') s₁) (notedBy (model prog w) A env fun e s' => R (.error e) s') s)
    (n : Nat) (h : I n s) :
    codeAny (model prog w) A (.compLoop (.ListComp elt [⟨target, iter, ifs, 0⟩] scope pos) 0 it acc env) R s := by
  refine codeAny_loop rfl I (fun n s hI => ?_) n h
  show wpAny _ A ((compTurn (.ListComp elt [⟨target, iter, ifs, 0⟩] scope pos) 0 it acc env).onRaise (fun x => do noteFrame x env; theTreesLotGoes x)) _ _ s
  refine wpAny_noted ?_
  rw [compTurn_list]
  refine wpAny_bind (wpAny_standAt (wpAny_bind (wpAny_mono (turn n s hI) (fun r s₁ h₁ => ?_) fun _ _ h' => h')))
  cases r with
  | none => exact wpAny_pure h₁
  | some v =>
    refine wpAny_bind (wpAny_mono h₁ (fun _ s₁' h₁' => ?_) fun _ _ h' => h')
    refine wpAny_bind (wpAny_mono h₁' (fun _ s₂ h₂ => wpAny_bind (wpAny_mono h₂ (fun ok s₃ h₃ => ?_) fun _ _ h' => h')) fun _ _ h' => h')
    cases ok with
    | false => exact wpAny_pure ⟨rfl, h₃⟩
    | true =>
      exact wpAny_bind (wpAny_bind (wpAny_mono h₃ (fun x s₄ h₄ => wpAny_bind (wpAny_mono h₄ (fun _ s₅ h₅ => wpAny_pure (wpAny_pure ⟨rfl, h₅⟩)) fun _ _ h' => h')) fun _ _ h' => h'))
section
variable {X : Cx}
def tLc (wi : TI) (g : TG) (tt : TT) (te : TE) (vs : List Nat) : TE := fun σ H Q => wi σ H fun J H1 => ∀ D, H1 D = none → ∃ W : Nat → Nat → Hp → Prop, (∃ m, W 0 m (upd H1 D (.lst []))) ∧ ∀ i m H, W i m H →
  (J.stop i H ∧ Q (.ref D) H) ∨ (J.go i H ∧ ∃ Nx : Hp → Prop, (∀ H', Nx H' → ∃ m', m' < m ∧ W (i + 1) m' H') ∧ ∀ x H', J.yld i H x H' → g x (wipe σ vs) H' fun σ2 H2 => wipe σ2 vs = wipe σ vs ∧ tt σ2 H2 fun b H3 =>
    if b = true then te σ2 H3 fun y H4 => ∃ acc, H4 D = some (.lst acc) ∧ acc.length < sizeLine ∧ Nx (upd H4 D (.lst (acc ++ [y]))) else Nx H3)
theorem lc_core {pins : List (Addr × Obj)} {s : Shared} {σ : St} {H : Hp} {Q : VK} {elt tg iter : Expr} {ifs : List Expr} {scope : Scope} {own : List (Str × Nat)} {pos pos' : Pos} {wi : TI} {g : TG} {tt : TT} {te : TE} {use : Option (Value → Sem Unit)} {Qf : Value → Shared → Prop}
    (hc : X.calm = true) (hN : X.N.Nodup) (I : Inv X pins σ H s) (hi : PI X tg iter wi) (ok : BlkOk X.N X.env.scope scope own)
    (hg : ∀ (s : Shared) (H : Hp) (C : Addr) (cl : List (Str × Addr)) (fp : List Addr), PG (X.blk s H scope (compEnvC scope cl C X.env) fp) tg g) (ht : ∀ (s : Shared) (H : Hp) (C : Addr) (cl : List (Str × Addr)) (fp : List Addr), PTs (X.blk s H scope (compEnvC scope cl C X.env) fp) ifs tt)
    (he : ∀ (s : Shared) (H : Hp) (C : Addr) (cl : List (Str × Addr)) (fp : List Addr), PE (X.blk s H scope (compEnvC scope cl C X.env) fp) elt te) (hs : ∀ x, foldedSetIterable iter X.env x = pure x)
    (h : tLc wi g tt te (own.map (·.2)) σ H Q)
    (hRR : ∀ D C s' m H', Inv X pins σ H' s' → Q (.ref D) H' → s'.heap.Ns C m → FpOk X pins H' C → compPost (model X.prog X.w) X.A X.xe use Qf (.ref D) C (.ok .next) s') :
    wpAny (model X.prog X.w) X.A (comprehension (.ListComp elt [⟨tg, iter, ifs, 0⟩] scope pos) scope X.env pos' (newList []) false (eval iter X.env) use) Qf X.xe s := by
  have hfree : ∀ y ∈ scope.names, y.2 = .free → ∃ c, X.env.cells.lookup y.1 = some c := fun y hy e => by
    rcases ok.free y hy e with k | k
    · exact I.ok.has _ (.inl k)
    · exact I.ok.has _ (.inr k)
  refine wpAny_comprehension_free (use := use) rfl hs (closure_ok hfree) ok.kind (fun y hy e => by rw [ok.uniq y hy, e])
    (thn (hi pins s σ H _ I h) fun xv s1 hx => thn hx fun itv s2 h2 => ?_)
  obtain ⟨it, fp, tn, J, H2, e, I2, T, st2, f2, q⟩ := h2
  subst e
  refine wpAny_newObj_type (newEnv_comp ?_) (by show 0 ≤ sizeLine; decide)
  generalize hD : s2.heap.objs.size = D
  have hDn : H2 D = none := I2.hok.fresh (Nat.le_of_eq hD)
  obtain ⟨W, ⟨m0, w0⟩, turn⟩ := q D hDn
  generalize hs3 : ({ s2 with heap := s2.heap.push { cls := .type "list", data := .seq ([] : List Value).toArray } } : Shared) = s3
  have I3 : Inv X pins σ (upd H2 D (.lst [])) s3 := by
    rw [← hs3]
    refine I2.laid (t' := s2.toks) (fun b o e => Heap.get?_push_of_some _ e) (Nat.le_of_eq hD) ⟨Nat.zero_le _, [], 0, .nil, ?_⟩
    rw [← hD]
    exact Heap.get?_push_size _ rfl
  have h3 : s3.heap = s2.heap.push { cls := .type "list", data := .seq ([] : List Value).toArray } := by rw [← hs3]
  have sz : ∀ b ∈ fp, b < s2.heap.objs.size := fun b hb => by
    obtain ⟨o, e, _⟩ := T.obj _ _ st2 b hb
    exact Heap.lt_size e
  have f3 : ∀ b ∈ fp, FpOk X pins (upd H2 D (.lst [])) b ∧ b < s3.heap.objs.size := fun b hb => by
    have hlt := sz b hb
    refine ⟨⟨?_, (f2 b hb).2⟩, by rw [h3, Heap.size_push]; exact Nat.lt_succ_of_lt hlt⟩
    rw [upd_ne (by rw [← hD]; exact Nat.ne_of_lt hlt)]
    exact (f2 b hb).1
  have st3 : tn 0 s3.heap := T.keep _ _ _ st2 fun b _ o e => by rw [h3]; exact Heap.get?_push_of_some _ e
  have I4 := block_start I3 ok hN f3
  have pg := hg s3 (upd H2 D (.lst [])) s3.heap.objs.size (cellsFrom (s3.heap.objs.size + 1) scope.names (cloFrom X.env.cells scope.names [])) fp
  have pt := ht s3 (upd H2 D (.lst [])) s3.heap.objs.size (cellsFrom (s3.heap.objs.size + 1) scope.names (cloFrom X.env.cells scope.names [])) fp
  have pe := he s3 (upd H2 D (.lst [])) s3.heap.objs.size (cellsFrom (s3.heap.objs.size + 1) scope.names (cloFrom X.env.cells scope.names [])) fp
  show codeAny _ _ (.compStart (.ListComp elt [⟨tg, iter, ifs, 0⟩] scope pos) 0 (.ref it) (.ref D) (compEnvC scope (cellsFrom (s3.heap.objs.size + 1) scope.names (cloFrom X.env.cells scope.names [])) s3.heap.objs.size X.env)) (compPost (model X.prog X.w) X.A X.xe use Qf (.ref D) s3.heap.objs.size) { s3 with heap := pushCells (s3.heap.push { cls := .type "dict", data := .dict #[] }) scope.names }
  have nfp : ∀ b ∈ fp, (upd H2 D (.lst [])) b = none := fun b hb => (f3 b hb).1.1
  generalize hce : compEnvC scope (cellsFrom (s3.heap.objs.size + 1) scope.names (cloFrom X.env.cells scope.names [])) s3.heap.objs.size X.env = ce at I4 pg pt pe ⊢
  have cL : ce.locals = s3.heap.objs.size := by subst hce; rfl
  generalize hH3 : upd H2 D (.lst []) = H3 at I3 I4 pg pt pe w0 nfp f3
  generalize hs4 : ({ s3 with heap := pushCells (s3.heap.push { cls := .type "dict", data := .dict #[] }) scope.names } : Shared) = s4 at I4 ⊢
  have st4 : tn 0 s4.heap := T.keep _ _ _ st3 fun b _ o e => by rw [← hs4]; exact pushCells_keeps _ _ _ _ (Heap.get?_push_of_some _ e)
  have stat : ∀ {σ' : St} {H' : Hp} {s' : Shared}, Inv (X.blk s3 H3 scope ce fp) [] σ' H' s' → (∀ b ∈ fp, H' b = none) → ∀ b ∈ fp, FpOk (X.blk s3 H3 scope ce fp) [] H' b := fun {σ' H' s'} I' hn b hb =>
    ⟨hn b hb, (I'.ok.exf b hb).1, I'.ok.exfs b hb, .inl hb, fun x c e => (I'.ok.exf b hb).2 x c e, fun p hp => absurd (show p ∈ ([] : List (Addr × Obj)) ++ [] from hp) (by simp)⟩
  have loop : codeAny (model X.prog X.w) X.A (.compLoop (.ListComp elt [⟨tg, iter, ifs, 0⟩] scope pos) 0 (.ref it) (.ref D) ce) (compPost (model X.prog X.w) X.A X.xe use Qf (.ref D) s3.heap.objs.size) s4 := by
    refine compLoop_any (fun n s' => ∃ i H', Inv (X.blk s3 H3 scope ce fp) [] (wipe σ (own.map (·.2))) H' s' ∧ tn i s'.heap ∧ (∀ b ∈ fp, H' b = none) ∧ W i n H') ?_ m0 ⟨0, H3, I4, st4, nfp, w0⟩
    rintro n s5 ⟨i, H5, I5, st5, n5, w5⟩
    rcases turn i n H5 w5 with ⟨stop, qq⟩ | ⟨go, Nx, hNx, step⟩
    · have td := T.done (X.blk s3 H3 scope ce fp) rfl rfl rfl hc i [] s5 _ H5 (fun _ _ => False) I5 (stat I5 n5) st5 stop
      refine thnF td fun r s6 ⟨hr, I6⟩ => ?_
      subst hr
      have I7 : Inv X pins σ H5 s6 := I3.call' (ch := fp) I6.os I6.base I6.hok I6.bare fun b hb => ⟨(f3 b hb).1.2.2.2.1, (f3 b hb).1.2.1, (f3 b hb).1.2.2.2.2.1, (f3 b hb).1.2.2.2.2.2⟩
      have nC : H5 s3.heap.objs.size = none := by
        have z : H5 ce.locals = none := I6.free
        rw [cL] at z
        exact z
      obtain ⟨m, hn, _⟩ := I6.loc
      have hn : s6.heap.Ns ce.locals m := hn
      rw [cL] at hn
      exact hRR D s3.heap.objs.size s6 m H5 I7 qq hn (I3.fpOk (Nat.le_refl _) nC)
    · have ti := T.item (X.blk s3 H3 scope ce fp) rfl rfl rfl hc i [] s5 _ H5 (fun _ _ => False) I5 (stat I5 n5) st5 go
      refine thnF ti fun r s6 ⟨u, hr, h6⟩ => ?_
      subst hr
      refine thnF h6 fun _ s7 ⟨x, H7, I7, r7, y7, st7, n7⟩ => ?_
      have I7' := I7.pinned (stat I7 n7) (T.obj _ _ st7)
      refine thnF (pg _ s7 _ H7 x u _ I7' r7 (step x H7 y7)) fun _ s8 ⟨σ8, H8, I8, hw8, q8⟩ => ?_
      refine thnF (pt _ s8 σ8 H8 _ I8 q8) fun b s9 ⟨H9, I9, q9⟩ => ?_
      have fin : ∀ {s' : Shared} {H' : Hp}, Inv (X.blk s3 H3 scope ce fp) ([] ++ pinsAt fp s7.heap) σ8 H' s' → Nx H' → ∃ m, m < n ∧ ∃ i H', Inv (X.blk s3 H3 scope ce fp) [] (wipe σ (own.map (·.2))) H' s' ∧ tn i s'.heap ∧ (∀ b ∈ fp, H' b = none) ∧ W i m H' := fun {s' H'} I' nx => by
        obtain ⟨m', hm, w'⟩ := hNx H' nx
        have pin' : ∀ b ∈ fp, ∀ o, s7.heap.get? b = some o → s'.heap.get? b = some o ∧ H' b = none := fun b hb o e =>
          let z := I'.pin (b, o) (List.mem_append_right _ (List.mem_append_right _ (mem_pinsAt hb e)))
          ⟨z.1, z.2.1⟩
        have hl : (wipe σ (own.map (·.2))).length = σ8.length := by rw [← hw8, wipe_length]
        refine ⟨m', hm, i + 1, H', (I'.unpinned (pins := [])).weak hl (fun j v e => ?_), T.keep _ _ _ st7 fun b hb o e => (pin' b hb o e).1, fun b hb => ?_, w'⟩
        · rw [← hw8] at e
          exact (wipe_some e).1
        · obtain ⟨o, e, _⟩ := T.obj _ _ st7 b hb
          exact (pin' b hb o e).2
      cases b with
      | false =>
        simp only [Bool.false_eq_true, if_false] at q9 ⊢
        exact fin I9 q9
      | true =>
        simp only [if_true] at q9 ⊢
        refine thnF (pe _ s9 σ8 H9 _ I9 q9) fun z s10 ⟨yv, H10, I10, r10, acc, hD10, hz10, nx⟩ => ?_
        exact app_ok (X := X.blk s3 H3 scope ce fp) I10 hD10 hz10 r10 fun s11 I11 => fin I11 nx
  exact codeAny_compStart_list loop (T.self X.A 0 _ _ _ st4 loop)
theorem pe_lc {elt tg iter : Expr} {ifs : List Expr} {scope : Scope} {own : List (Str × Nat)} {pos : Pos} {wi : TI} {g : TG} {tt : TT} {te : TE} (hc : X.calm = true) (hN : X.N.Nodup) (hi : PI X tg iter wi) (ok : BlkOk X.N X.env.scope scope own)
    (hg : ∀ (s : Shared) (H : Hp) (C : Addr) (cl : List (Str × Addr)) (fp : List Addr), PG (X.blk s H scope (compEnvC scope cl C X.env) fp) tg g) (ht : ∀ (s : Shared) (H : Hp) (C : Addr) (cl : List (Str × Addr)) (fp : List Addr), PTs (X.blk s H scope (compEnvC scope cl C X.env) fp) ifs tt)
    (he : ∀ (s : Shared) (H : Hp) (C : Addr) (cl : List (Str × Addr)) (fp : List Addr), PE (X.blk s H scope (compEnvC scope cl C X.env) fp) elt te) (hs : ∀ x, foldedSetIterable iter X.env x = pure x := by intro _; rfl) :
    PE X (.ListComp elt [⟨tg, iter, ifs, 0⟩] scope pos) (tLc wi g tt te (own.map (·.2))) := by
  intro pins s σ H Q I h
  rw [eval_ListComp]
  refine lc_core hc hN I hi ok hg ht he hs h fun D C s' m H' I' q hn f => ⟨m, hn, fun h'' sb => ?_⟩
  obtain ⟨f0, f1, f2, f3, f4, f5⟩ := f
  exact ⟨.ref D, H', I'.turned (t' := s'.toks) (fun b o hb e => (sb.2 b hb).trans e) f0 f1 f3 f4 f5, rfl, q⟩
theorem ps_setLc {i : Nat} {y : Str} {py : Pos} {elt tg iter : Expr} {ifs : List Expr} {scope : Scope} {own : List (Str × Nat)} {pos spos : Pos} {wi : TI} {g : TG} {tt : TT} {te : TE} (hc : X.calm = true) (hN : X.N.Nodup) (hy : X.N[i]? = some y) (hyl : X.env.scope.names.lookup y = some .local)
    (hsw : swapsWith (.ListComp elt [⟨tg, iter, ifs, 0⟩] scope pos) (some (.Name y py)) spos.line X.env = pure true) (hi : PI X tg iter wi) (ok : BlkOk X.N X.env.scope scope own)
    (hg : ∀ (s : Shared) (H : Hp) (C : Addr) (cl : List (Str × Addr)) (fp : List Addr), PG (X.blk s H scope (compEnvC scope cl C X.env) fp) tg g) (ht : ∀ (s : Shared) (H : Hp) (C : Addr) (cl : List (Str × Addr)) (fp : List Addr), PTs (X.blk s H scope (compEnvC scope cl C X.env) fp) ifs tt)
    (he : ∀ (s : Shared) (H : Hp) (C : Addr) (cl : List (Str × Addr)) (fp : List Addr), PE (X.blk s H scope (compEnvC scope cl C X.env) fp) elt te) (hs : ∀ x, foldedSetIterable iter X.env x = pure x := by intro _; rfl) :
    PS X (.Assign [.Name y py] (.ListComp elt [⟨tg, iter, ifs, 0⟩] scope pos) spos) (tAsg (tLc wi g tt te (own.map (·.2))) (gName i)) := by
  intro pins s σ H D I h
  rw [exec_Assign_Name_used _ _ _ _ hsw]
  refine wpAny_bind (wpAny_standAt (wpAny_bind ?_))
  show wpAny _ X.A (do let _ ← comprehension (.ListComp elt [⟨tg, iter, ifs, 0⟩] scope pos) scope X.env (firstIterPos [⟨tg, iter, ifs, 0⟩] pos) (newList []) false (eval iter X.env) (some (assign (.Name y py) X.env))) _ _ s
  have h : tLc wi g tt te (own.map (·.2)) σ H (fun x H1 => gName i x σ H1 D.nx) := h
  refine wpAny_bind (thn (lc_core (Qf := fun _ s' => SP X pins D .next s') hc hN I hi ok hg ht he hs h fun L C s' m H' I' q hn f => ?_) fun _ s' hq => wpAny_pure (wpAny_pure hq))
  show wpAny _ _ (assign (.Name y py) X.env (.ref L)) _ _ _
  refine wpAny_assign_Name (store_ok2 (v := V.ref L) I' hN hy (.inl hyl) rfl (fun s2 I2 ⟨a, sb, ha⟩ => ?_) (.inr hyl))
  obtain ⟨f0, f1, f2, f3, f4, f5⟩ := f
  have haC : C ≠ a := by
    rcases ha with z | z
    · rw [z]; exact f1
    · exact fun e => f4 y a z e.symm
  refine ⟨m, hn.sameBut sb haC, fun h3 sb3 => ?_⟩
  exact ⟨_, H', I2.turned (t' := s2.toks) (fun b o hb e => (sb3.2 b hb).trans e) f0 f1 f3 f4 f5, q⟩
theorem sw_true {elt : Expr} {gs : List Comprehension} {scope : Scope} {pos py : Pos} {y : Str} {l : Nat} {env : Env} (hk : env.scope.kind = .function) (hy : env.scope.names.lookup y = some .local) (hl : (py.line == pos.line) = true)
    (ha : (scope.names.any fun (n, k) => n == y && (k == .local || k == .cell)) = false) : swapsWith (.ListComp elt gs scope pos) (some (.Name y py)) l env = pure true := by
  have ky : env.kindOf y = some .local := hy
  have hb : env.blockKind = .function := by unfold Env.blockKind; rw [hk]; rfl
  unfold swapsWith
  simp only [hb, ky, ha, Expr.pos, hl]
  rfl
end
theorem lc_range {lo : Int} {n : Nat} {g : TG} {tt : TT} {te : TE} {vs : List Nat} {σ : St} {H1 : Hp} {D : Addr} {Qd : Hp → Prop} (Pv : Nat → Hp → Prop) (h0 : Pv 0 (upd H1 D (.lst [])))
    (hs : ∀ i H, i < n → Pv i H → g (.int (lo + i)) (wipe σ vs) H fun σ2 H2 => wipe σ2 vs = wipe σ vs ∧ tt σ2 H2 fun b H3 =>
      if b = true then te σ2 H3 fun y H4 => ∃ acc, H4 D = some (.lst acc) ∧ acc.length < sizeLine ∧ Pv (i + 1) (upd H4 D (.lst (acc ++ [y]))) else Pv (i + 1) H3) (hd : ∀ H, Pv n H → Qd H) :
    ∃ W : Nat → Nat → Hp → Prop, (∃ m, W 0 m (upd H1 D (.lst []))) ∧ ∀ i m H, W i m H →
      ((Itr lo n).stop i H ∧ Qd H) ∨ ((Itr lo n).go i H ∧ ∃ Nx : Hp → Prop, (∀ H', Nx H' → ∃ m', m' < m ∧ W (i + 1) m' H') ∧ ∀ x H', (Itr lo n).yld i H x H' → g x (wipe σ vs) H' fun σ2 H2 => wipe σ2 vs = wipe σ vs ∧ tt σ2 H2 fun b H3 =>
        if b = true then te σ2 H3 fun y H4 => ∃ acc, H4 D = some (.lst acc) ∧ acc.length < sizeLine ∧ Nx (upd H4 D (.lst (acc ++ [y]))) else Nx H3) := by
  refine ⟨fun i m H => m = n - i ∧ i ≤ n ∧ Pv i H, ⟨n, by simp, Nat.zero_le _, h0⟩, ?_⟩
  rintro i m H ⟨rfl, hi, p⟩
  by_cases hlt : i < n
  · refine .inr ⟨hlt, Pv (i + 1), fun H' p' => ⟨n - (i + 1), by omega, rfl, hlt, p'⟩, fun x H' y => ?_⟩
    obtain ⟨e, y⟩ := y
    subst e y
    exact hs i _ hlt p
  · have e : i = n := by omega
    subst e
    exact .inl ⟨Nat.le_refl _, hd H p⟩
theorem lc_list {K : PySem.W.Frag} {a : Addr} {xs : List V} {g : TG} {tt : TT} {te : TE} {vs : List Nat} {σ : St} {H1 : Hp} {D : Addr} {Qd : Hp → Prop} (Pv : Nat → Hp → Prop) (h0 : Pv 0 (upd H1 D (.lst []))) (hl : ∀ i H, i ≤ xs.length → Pv i H → SqL K H a xs)
    (hs : ∀ i x H, xs[i]? = some x → Pv i H → g x (wipe σ vs) H fun σ2 H2 => wipe σ2 vs = wipe σ vs ∧ tt σ2 H2 fun b H3 =>
      if b = true then te σ2 H3 fun y H4 => ∃ acc, H4 D = some (.lst acc) ∧ acc.length < sizeLine ∧ Pv (i + 1) (upd H4 D (.lst (acc ++ [y]))) else Pv (i + 1) H3) (hd : ∀ H, Pv xs.length H → Qd H) :
    ∃ W : Nat → Nat → Hp → Prop, (∃ m, W 0 m (upd H1 D (.lst []))) ∧ ∀ i m H, W i m H →
      ((Itl K a).stop i H ∧ Qd H) ∨ ((Itl K a).go i H ∧ ∃ Nx : Hp → Prop, (∀ H', Nx H' → ∃ m', m' < m ∧ W (i + 1) m' H') ∧ ∀ x H', (Itl K a).yld i H x H' → g x (wipe σ vs) H' fun σ2 H2 => wipe σ2 vs = wipe σ vs ∧ tt σ2 H2 fun b H3 =>
        if b = true then te σ2 H3 fun y H4 => ∃ acc, H4 D = some (.lst acc) ∧ acc.length < sizeLine ∧ Nx (upd H4 D (.lst (acc ++ [y]))) else Nx H3) := by
  refine ⟨fun i m H => m = xs.length - i ∧ i ≤ xs.length ∧ Pv i H, ⟨xs.length, by simp, Nat.zero_le _, h0⟩, ?_⟩
  rintro i m H ⟨rfl, hi, p⟩
  have q := hl i H hi p
  by_cases hlt : i < xs.length
  · refine .inr ⟨⟨xs, xs[i], q, by simp [hlt]⟩, Pv (i + 1), fun H' p' => ⟨xs.length - (i + 1), by omega, rfl, hlt, p'⟩, fun x H' y => ?_⟩
    obtain ⟨e, y⟩ := y
    subst e
    exact hs i x _ (y xs q) p
  · have e : i = xs.length := by omega
    subst e
    exact .inl ⟨⟨xs, q, Nat.le_refl _⟩, hd H p⟩
theorem lc_tup {K : PySem.W.Frag} {a : Addr} {xs : List V} {g : TG} {tt : TT} {te : TE} {vs : List Nat} {σ : St} {H1 : Hp} {D : Addr} {Qd : Hp → Prop} (Pv : Nat → Hp → Prop) (h0 : Pv 0 (upd H1 D (.lst []))) (hl : ∀ i H, i ≤ xs.length → Pv i H → SqT K H a xs)
    (hs : ∀ i x H, xs[i]? = some x → Pv i H → g x (wipe σ vs) H fun σ2 H2 => wipe σ2 vs = wipe σ vs ∧ tt σ2 H2 fun b H3 =>
      if b = true then te σ2 H3 fun y H4 => ∃ acc, H4 D = some (.lst acc) ∧ acc.length < sizeLine ∧ Pv (i + 1) (upd H4 D (.lst (acc ++ [y]))) else Pv (i + 1) H3) (hd : ∀ H, Pv xs.length H → Qd H) :
    ∃ W : Nat → Nat → Hp → Prop, (∃ m, W 0 m (upd H1 D (.lst []))) ∧ ∀ i m H, W i m H →
      ((Itt K a).stop i H ∧ Qd H) ∨ ((Itt K a).go i H ∧ ∃ Nx : Hp → Prop, (∀ H', Nx H' → ∃ m', m' < m ∧ W (i + 1) m' H') ∧ ∀ x H', (Itt K a).yld i H x H' → g x (wipe σ vs) H' fun σ2 H2 => wipe σ2 vs = wipe σ vs ∧ tt σ2 H2 fun b H3 =>
        if b = true then te σ2 H3 fun y H4 => ∃ acc, H4 D = some (.lst acc) ∧ acc.length < sizeLine ∧ Nx (upd H4 D (.lst (acc ++ [y]))) else Nx H3) := by
  refine ⟨fun i m H => m = xs.length - i ∧ i ≤ xs.length ∧ Pv i H, ⟨xs.length, by simp, Nat.zero_le _, h0⟩, ?_⟩
  rintro i m H ⟨rfl, hi, p⟩
  have q := hl i H hi p
  by_cases hlt : i < xs.length
  · refine .inr ⟨⟨xs, xs[i], q, by simp [hlt]⟩, Pv (i + 1), fun H' p' => ⟨xs.length - (i + 1), by omega, rfl, hlt, p'⟩, fun x H' y => ?_⟩
    obtain ⟨e, y⟩ := y
    subst e
    exact hs i x _ (y xs q) p
  · have e : i = xs.length := by omega
    subst e
    exact .inl ⟨⟨xs, q, Nat.le_refl _⟩, hd H p⟩
def blkC (N : List Str) (sc scope : Scope) (own : List (Str × Nat)) : Bool :=
  (match scope.kind with | .function => true | _ => false) && (scope.names.all fun y => decide (scope.names.lookup y.1 = some y.2)) && (own.all fun p => decide (N[p.2]? = some p.1)) &&
    (scope.names.all fun y => match y.2 with
      | .free => (match sc.names.lookup y.1 with | some .cell => true | some .free => true | _ => false)
      | .local => decide (y.1 ∈ own.map (·.1)) || decide (y.1 ∉ N)
      | .cell => decide (y.1 ∈ own.map (·.1)) || decide (y.1 ∉ N)
      | _ => true)
theorem blkOk_by {N : List Str} {sc scope : Scope} {own : List (Str × Nat)} (h : blkC N sc scope own = true) : BlkOk N sc scope own := by
  unfold blkC at h
  simp only [Bool.and_eq_true, List.all_eq_true, decide_eq_true_eq] at h
  obtain ⟨⟨⟨h1, h2⟩, h3⟩, h4⟩ := h
  refine ⟨?_, h2, h3, fun y hy e => ?_, fun y hy e => ?_⟩
  · split at h1
    · assumption
    · cases h1
  · have q := h4 y hy
    simp only [e] at q
    split at q <;> first | exact .inl (by assumption) | exact .inr (by assumption) | cases q
  · have q := h4 y hy
    rcases e with e | e <;> (simp only [e, Bool.or_eq_true, decide_eq_true_eq] at q; exact q)
end L2
namespace L2
open PySem PySem.Spec PyProof.Rows
end L2
namespace L2
open PySem PySem.Spec PyProof.Rows
section
variable {κ : Type} [DecidableEq κ]
def valV (kvs : List (κ × V)) (k : κ) : Option V := (kvs.find? fun kv => decide (kv.1 = k)).map (·.2)
def putK (kvs : List (κ × V)) (k : κ) (v : V) : List (κ × V) :=
  if (kvs.any fun kv => decide (kv.1 = k)) = true then kvs.map (fun kv => if kv.1 = k then (kv.1, v) else kv) else kvs ++ [(k, v)]
def dropK (kvs : List (κ × V)) (k : κ) : List (κ × V) := kvs.filter fun kv => decide (kv.1 ≠ k)
theorem valV_pos {p : κ × V} {r : List (κ × V)} {k : κ} (e : p.1 = k) : valV (p :: r) k = some p.2 := by simp [valV, List.find?_cons, e]
theorem valV_neg {p : κ × V} {r : List (κ × V)} {k : κ} (e : ¬ p.1 = k) : valV (p :: r) k = valV r k := by simp [valV, List.find?_cons, e]
theorem valV_any (k : κ) : ∀ kvs : List (κ × V), (kvs.any fun kv => decide (kv.1 = k)) = (valV kvs k).isSome
  | [] => rfl
  | p :: r => by
    rw [List.any_cons]
    by_cases e : p.1 = k
    · simp only [valV_pos e, decide_eq_true e, Bool.true_or, Option.isSome_some]
    · rw [valV_neg e, decide_eq_false e, Bool.false_or]; exact valV_any k r
theorem valV_map (k j : κ) (y : V) : ∀ kvs : List (κ × V), valV (kvs.map fun kv => if kv.1 = k then (kv.1, y) else kv) j = (valV kvs j).map fun x => if j = k then y else x
  | [] => rfl
  | p :: r => by
    have ih := valV_map k j y r
    rw [List.map_cons]
    by_cases h : p.1 = k
    · rw [if_pos h]
      by_cases e : p.1 = j
      · rw [valV_pos (p := (p.1, y)) e, valV_pos e, Option.map_some, if_pos (e.symm.trans h)]
      · rw [valV_neg (p := (p.1, y)) e, valV_neg e, ih]
    · rw [if_neg h]
      by_cases e : p.1 = j
      · rw [valV_pos (p := p) e, valV_pos e, Option.map_some, if_neg (fun z => h (e.trans z))]
      · rw [valV_neg (p := p) e, valV_neg e, ih]
theorem valV_snoc (k j : κ) (y : V) : ∀ kvs : List (κ × V), valV kvs k = none → valV (kvs ++ [(k, y)]) j = if j = k then some y else valV kvs j
  | [], _ => by
    by_cases e : k = j
    · rw [if_pos e.symm]; exact valV_pos (p := (k, y)) e
    · rw [if_neg (fun z => e z.symm)]; exact valV_neg (p := (k, y)) e
  | p :: r, hn => by
    rw [List.cons_append]
    have hk : ¬ p.1 = k := fun z => by rw [valV_pos z] at hn; cases hn
    rw [valV_neg hk] at hn
    have ih := valV_snoc k j y r hn
    by_cases e : p.1 = j
    · rw [valV_pos e, valV_pos e, if_neg (fun z => hk (e.trans z))]
    · rw [valV_neg e, valV_neg e, ih]
theorem valV_put (kvs : List (κ × V)) (k j : κ) (y : V) : valV (putK kvs k y) j = if j = k then some y else valV kvs j := by
  unfold putK
  by_cases a : (kvs.any fun kv => decide (kv.1 = k)) = true
  · rw [if_pos a, valV_map]
    rw [valV_any] at a
    by_cases e : j = k
    · obtain ⟨x, hx⟩ := Option.isSome_iff_exists.mp a
      rw [if_pos e, e, hx, Option.map_some, if_pos rfl]
    · rw [if_neg e]
      cases valV kvs j with
      | none => rfl
      | some x => rw [Option.map_some, if_neg e]
  · rw [if_neg a]
    refine valV_snoc k j y kvs ?_
    rw [valV_any] at a
    cases q : valV kvs k with
    | none => rfl
    | some x => rw [q] at a; exact (a rfl).elim
theorem length_putK (kvs : List (κ × V)) (k : κ) (v : V) : (putK kvs k v).length ≤ kvs.length + 1 := by
  unfold putK
  split
  · rw [List.length_map]; omega
  · rw [List.length_append, List.length_cons, List.length_nil]; omega
theorem RelO.isSome_eq {o : Option V} {u : Option Value} (r : RelO o u) : o.isSome = u.isSome := by
  cases o with
  | none => cases u with
    | none => rfl
    | some _ => exact (show False from r).elim
  | some _ => cases u with
    | none => exact (show False from r).elim
    | some _ => rfl
theorem RelO.getD {o : Option V} {u : Option Value} {d : V} {d' : Value} (r : RelO o u) (rd : RelV d d') : RelV (o.getD d) (u.getD d') := by
  cases o with
  | none => cases u with
    | none => exact rd
    | some _ => exact (show False from r).elim
  | some _ => cases u with
    | none => exact (show False from r).elim
    | some _ => exact r
theorem KV.val {kvs : List (κ × V)} {vs : List (κ × Value)} (r : KV kvs vs) (k : κ) : RelO (valV kvs k) (valueAt vs k) := by
  unfold KV at r
  induction r with
  | nil => exact True.intro
  | @cons p q ps qs h t ih =>
    obtain ⟨h1, h2⟩ := h
    by_cases e : p.1 = k
    · have e' : q.1 = k := h1.symm.trans e
      have b : valueAt (q :: qs) k = some q.2 := by simp [valueAt, List.find?_cons, e']
      rw [valV_pos e, b]; exact h2
    · have e' : ¬ q.1 = k := fun z => e (h1.trans z)
      have b : valueAt (q :: qs) k = valueAt qs k := by simp [valueAt, List.find?_cons, e']
      rw [valV_neg e, b]; exact ih
theorem KV.any {kvs : List (κ × V)} {vs : List (κ × Value)} (r : KV kvs vs) (k : κ) : (kvs.any fun kv => decide (kv.1 = k)) = vs.any fun kv => decide (kv.1 = k) := by
  unfold KV at r
  induction r with
  | nil => rfl
  | cons h t ih => rw [List.any_cons, List.any_cons, ih, h.1]
theorem KV.repl {kvs : List (κ × V)} {vs : List (κ × Value)} (r : KV kvs vs) (k : κ) {y : V} {u : Value} (ry : RelV y u) :
    KV (kvs.map fun kv => if kv.1 = k then (kv.1, y) else kv) (vs.map fun kv => if kv.1 = k then (kv.1, u) else kv) := by
  unfold KV at r ⊢
  induction r with
  | nil => exact .nil
  | @cons p q ps qs h t ih =>
    rw [List.map_cons, List.map_cons]
    refine .cons ?_ ih
    obtain ⟨h1, h2⟩ := h
    by_cases e : p.1 = k
    · rw [if_pos e, if_pos (h1.symm.trans e)]; exact ⟨h1, ry⟩
    · rw [if_neg e, if_neg (fun z => e (h1.trans z))]; exact ⟨h1, h2⟩
theorem KV.put {kvs : List (κ × V)} {vs : List (κ × Value)} (r : KV kvs vs) (k : κ) {y : V} {u : Value} (ry : RelV y u) : KV (putK kvs k y) (stored vs k u) := by
  unfold putK stored
  rw [r.any k]
  by_cases e : (vs.any fun kv => decide (kv.1 = k)) = true
  · rw [if_pos e, if_pos e]; exact r.repl k ry
  · rw [if_neg e, if_neg e]; exact Paired.snoc r ⟨rfl, ry⟩
theorem KV.drop {kvs : List (κ × V)} {vs : List (κ × Value)} (r : KV kvs vs) (k : κ) : KV (dropK kvs k) (without vs k) := by
  unfold KV at r ⊢
  unfold dropK without
  induction r with
  | nil => exact .nil
  | @cons p q ps qs h t ih =>
    obtain ⟨h1, h2⟩ := h
    rw [List.filter_cons, List.filter_cons]
    by_cases e : p.1 = k
    · have a : ¬ decide (p.1 ≠ k) = true := by simp [e]
      have b : ¬ decide (q.1 ≠ k) = true := by simp [h1.symm.trans e]
      rw [if_neg a, if_neg b]; exact ih
    · have e' : ¬ q.1 = k := fun z => e (h1.trans z)
      have a : decide (p.1 ≠ k) = true := by simp [e]
      have b : decide (q.1 ≠ k) = true := by simp [e']
      rw [if_pos a, if_pos b]; exact .cons ⟨h1, h2⟩ ih
theorem KV.length {kvs : List (κ × V)} {vs : List (κ × Value)} (r : KV kvs vs) : kvs.length = vs.length := Paired.length r
end
theorem kV_is {P : Program} {w : World} {k : Key} {u : Value} (r : RelV (kV k) u) : (mixKind P w).is k u = true := by
  cases k with
  | inl i => obtain ⟨t, e⟩ := (show ∃ t, u = Value.int i t from r); subst e; exact mixKind_int P w i t
  | inr x => obtain ⟨t, e⟩ := (show ∃ t, u = Value.str x t from r); subst e; exact mixKind_str P w x t
theorem items_are {P : Program} {w : World} : ∀ {ks : List Key} {us : List Value}, Vals (ks.map kV) us → ItemsAre (mixKind P w) ks us
  | [], _, r => by rw [List.map_nil] at r; cases r; exact .nil
  | k :: ks, _, r => by
    rw [List.map_cons] at r
    cases r with
    | cons h t => exact .cons (kV_is h) (items_are t)
abbrev KT (H : Hp) : List (List Key × V) → List (List Key × Addr × Value) → Prop := Paired fun p q => p.1 = q.1 ∧ H q.2.1 = some (.tup (p.1.map kV)) ∧ RelV p.2 q.2.2
theorem KT.val {H : Hp} {kvs : List (List Key × V)} {xs : List (List Key × Addr × Value)} (r : KT H kvs xs) (k : List Key) : RelO (valV kvs k) ((atKey xs k).map (·.2)) := by
  induction r with
  | nil => exact True.intro
  | @cons p q ps qs h t ih =>
    obtain ⟨h1, _, h2⟩ := h
    by_cases e : p.1 = k
    · have e' : q.1 = k := h1.symm.trans e
      have b : atKey (q :: qs) k = some q.2 := by simp [atKey, List.find?_cons, e']
      rw [valV_pos e, b]; exact h2
    · have e' : ¬ q.1 = k := fun z => e (h1.trans z)
      have b : atKey (q :: qs) k = atKey qs k := by simp [atKey, List.find?_cons, e']
      rw [valV_neg e, b]; exact ih
theorem KT.repl {H : Hp} {kvs : List (List Key × V)} {xs : List (List Key × Addr × Value)} (r : KT H kvs xs) (k : List Key) {y : V} {u : Value} (ry : RelV y u) :
    KT H (kvs.map fun kv => if kv.1 = k then (kv.1, y) else kv) (xs.map (putAt k u)) := by
  induction r with
  | nil => exact .nil
  | @cons p q ps qs h t ih =>
    rw [List.map_cons, List.map_cons]
    refine .cons ?_ ih
    obtain ⟨h1, h2, h3⟩ := h
    unfold putAt
    by_cases e : p.1 = k
    · rw [if_pos e, if_pos (h1.symm.trans e)]; exact ⟨h1, h2, ry⟩
    · rw [if_neg e, if_neg (fun z => e (h1.trans z))]; exact ⟨h1, h2, h3⟩
theorem KT.put {H : Hp} {kvs : List (List Key × V)} {xs : List (List Key × Addr × Value)} (r : KT H kvs xs) (k : List Key) {b : Addr} {y : V} {u : Value} (hb : H b = some (.tup (k.map kV))) (ry : RelV y u) :
    KT H (putK kvs k y) (storedH xs k b u) := by
  have e : (kvs.any fun kv => decide (kv.1 = k)) = (atKey xs k).isSome := by
    rw [valV_any, (r.val k).isSome_eq, Option.isSome_map]
  unfold putK storedH
  rw [e]
  by_cases q : (atKey xs k).isSome = true
  · rw [if_pos q, if_pos q]; exact r.repl k ry
  · rw [if_neg q, if_neg q]; exact Paired.snoc r ⟨rfl, hb, ry⟩
theorem KT.keeps {H H' : Hp} {kvs : List (List Key × V)} {xs : List (List Key × Addr × Value)} (r : KT H kvs xs) (ht : ∀ b ys, H b = some (.tup ys) → H' b = some (.tup ys)) : KT H' kvs xs :=
  Paired.mapP r fun _ _ z => ⟨z.1, ht _ _ z.2.1, z.2.2⟩
section
variable {P : Program} {w : World} {H : Hp} {h : Heap} {a : Addr}
theorem rd_of {u : HO} (ok : HOk P w H h) (e : Rd H a u) : ObjOk P w H h a u := e.ok ok
theorem dk_rd {kvs : List (Key × V)} (ok : HOk P w H h) (e : Rd H a (.dK kvs)) : kvs.length ≤ sizeLine ∧ (a == sysModules) = false ∧ ∃ vs, KV kvs vs ∧ h.DictOf (mixKind P w) a vs :=
  show ObjOk P w H h a (.dK kvs) from rd_of ok e
theorem dk_of {kvs : List (Key × V)} (ok : HOk P w H h) (e : H a = some (.dK kvs)) : kvs.length ≤ sizeLine ∧ (a == sysModules) = false ∧ ∃ vs, KV kvs vs ∧ h.DictOf (mixKind P w) a vs := dk_rd ok (.inl e)
theorem key_of {ks : List Key} (ok : HOk P w H h) (e : H a = some (.tup (ks.map kV))) : (tupleKind (mixKind P w)).is h ks a := by
  obtain ⟨_, its, r, o, h1, h2, n, h3⟩ := (show ObjOk P w H h a (.tup (ks.map kV)) from ok a _ e)
  exact ⟨o, its.toArray, n, h1, h2, h3, by simpa using items_are r⟩
theorem dt_rd {kvs : List (List Key × V)} (ok : HOk P w H h) (e : Rd H a (.dT kvs)) : kvs.length ≤ sizeLine ∧ (a == sysModules) = false ∧
    ∃ xs, KT H kvs xs ∧ h.DictOfH (tupleKind (mixKind P w)) a xs := by
  obtain ⟨z, y, xs, r, o, es, ep, h1, h2, h3, h4, h5⟩ := (show ObjOk P w H h a (.dT kvs) from rd_of ok e)
  refine ⟨z, y, xs, r, o, es, ep, h1, h2, h3, h4, fun x hx => ?_, h5⟩
  have all : ∀ {l : List (List Key × V)} {m : List (List Key × Addr × Value)}, KT H l m → ∀ x ∈ m, (tupleKind (mixKind P w)).is h x.1 x.2.1 := by
    intro l m q
    induction q with
    | nil => intro x hx; exact nomatch hx
    | @cons p q ps qs hq t ih =>
      intro x hx
      rcases List.mem_cons.mp hx with e | hx
      · subst e
        exact key_of ok (by rw [← hq.1]; exact hq.2.1)
      · exact ih x hx
  exact all r x hx
theorem dt_of {kvs : List (List Key × V)} (ok : HOk P w H h) (e : H a = some (.dT kvs)) : kvs.length ≤ sizeLine ∧ (a == sysModules) = false ∧
    ∃ xs, KT H kvs xs ∧ h.DictOfH (tupleKind (mixKind P w)) a xs := dt_rd ok (.inl e)
end
def DGet (H : Hp) (a : Addr) (y : V) (r : Option V) : Prop :=
  (∃ kvs k, Rd H a (.dK kvs) ∧ y = kV k ∧ r = valV kvs k) ∨ ∃ kvs k b, Rd H a (.dT kvs) ∧ y = .ref b ∧ H b = some (.tup (k.map kV)) ∧ r = valV kvs k
def DPut (H : Hp) (a : Addr) (y v : V) (H' : Hp) : Prop :=
  (∃ kvs k, H a = some (.dK kvs) ∧ y = kV k ∧ kvs.length < sizeLine ∧ H' = upd H a (.dK (putK kvs k v))) ∨
  ∃ kvs k b, H a = some (.dT kvs) ∧ y = .ref b ∧ H b = some (.tup (k.map kV)) ∧ kvs.length < sizeLine ∧ H' = upd H a (.dT (putK kvs k v))
theorem DGet.k {H : Hp} {a : Addr} {kvs : List (Key × V)} {k : Key} (e : H a = some (.dK kvs)) : DGet H a (kV k) (valV kvs k) := .inl ⟨kvs, k, .inl e, rfl, rfl⟩
theorem DGet.t {H : Hp} {a b : Addr} {kvs : List (List Key × V)} {k : List Key} (e : H a = some (.dT kvs)) (eb : H b = some (.tup (k.map kV))) : DGet H a (.ref b) (valV kvs k) := .inr ⟨kvs, k, b, .inl e, rfl, eb, rfl⟩
theorem DPut.k {H : Hp} {a : Addr} {kvs : List (Key × V)} {k : Key} {v : V} (e : H a = some (.dK kvs)) (hl : kvs.length < sizeLine) : DPut H a (kV k) v (upd H a (.dK (putK kvs k v))) := .inl ⟨kvs, k, e, rfl, hl, rfl⟩
theorem DPut.t {H : Hp} {a b : Addr} {kvs : List (List Key × V)} {k : List Key} {v : V} (e : H a = some (.dT kvs)) (eb : H b = some (.tup (k.map kV))) (hl : kvs.length < sizeLine) :
    DPut H a (.ref b) v (upd H a (.dT (putK kvs k v))) := .inr ⟨kvs, k, b, e, rfl, eb, hl, rfl⟩
section
variable {X : Cx} {pins : List (Addr × Obj)} {σ : St} {H : Hp} {s : Shared} {a : Addr} {y v : V} {u r : Value} {o : Option V} {A : Around} {E : Value → Shared → Prop}
theorem Inv.big (I : Inv X pins σ H s) : sysModules < s.heap.objs.size := by
  have h : mainGlobals < s.heap.objs.size := (I.mod.glob.keeps I.bk).lt
  exact Nat.lt_trans (by decide) h
theorem d_write {h' : Heap} {t' : Nat} {ob : HO} (I : Inv X pins σ H s) (mu : Mut (H a)) (hs : Heap.SameBut a s.heap h') (he : ∃ q, h'.get? a = some q) (new : ObjOk X.prog X.w (upd H a ob) h' a ob) :
    Inv X pins σ (upd H a ob) { s with heap := h', toks := t' } :=
  I.write (x := a) (e := a) mu (.inl rfl) (fun b q hb z => (hs.2 b hb).trans z) he new
theorem dk_new {P : Program} {w : World} {H' : Hp} {h' : Heap} {kvs : List (Key × V)} {vs : List (Key × Value)} (z : kvs.length ≤ sizeLine) (hd : (a == sysModules) = false) (rel : KV kvs vs) (dd : h'.DictOf (mixKind P w) a vs) :
    ObjOk P w H' h' a (.dK kvs) := ⟨z, hd, vs, rel, dd⟩
theorem d_setItem {H' : Hp} {Q : Unit → Shared → Prop} (hu : A.units + 1 < cLine) (I : Inv X pins σ H s) (g : DPut H a y v H') (ry : RelV y u) (rv : RelV v r) (h : ∀ s', Inv X pins σ H' s' → Q () s') :
    wpAny (model X.prog X.w) A (setItem (.ref a) u r) Q E s := by
  rcases g with ⟨kvs, k, e, ey, l, eH⟩ | ⟨kvs, k, b, e, ey, eb, l, eH⟩
  · subst ey eH
    obtain ⟨z, hd, vs, rel, dd⟩ := dk_of I.hok e
    have hz : vs.length ≤ sizeLine := by rw [← rel.length]; exact z
    have hl : (putK kvs k v).length ≤ sizeLine := by have := length_putK kvs k v; omega
    refine wpAny_setItem_pairs (hsz := hz) (kV_is ry) dd fun h' dd' hs => h _ ?_
    have he : ∃ q, h'.get? a = some q := let ⟨q, _, _, hq, _⟩ := dd'; ⟨q, hq⟩
    exact d_write I (by rw [e]; exact True.intro) hs he (dk_new hl hd (rel.put k rv) dd')
  · subst ey eH
    cases (show u = Value.ref b from ry)
    obtain ⟨z, hd, xs, rel, dd⟩ := dt_of I.hok e
    have hz : xs.length ≤ sizeLine := by rw [← Paired.length rel]; exact z
    have hl : (putK kvs k v).length ≤ sizeLine := by have := length_putK kvs k v; omega
    refine wpAny_setItem_heap (hsz := hz) (tupleKind_room_in1 hu) (key_of I.hok eb) dd fun h' dd' hs => h _ ?_
    obtain ⟨q, es, ep, hq, h2, h3, h4, _, h5⟩ := dd'
    refine d_write I (by rw [e]; exact True.intro) hs ⟨q, hq⟩ ⟨hl, hd, _, (rel.put k eb rv).keeps fun c ys ec => ?_, q, es, ep, hq, h2, h3, h4, h5⟩
    rw [upd_ne (ne_of ec e (fun z => nomatch z))]
    exact ec
end
def sDPut (td ty tv : TE) : TS := fun D σ H => tv σ H fun v H1 => td σ H1 fun x H2 => ty σ H2 fun y H3 => ∃ a H4, x = .ref a ∧ DPut H3 a y v H4 ∧ D.nx σ H4
section
variable {X : Cx} {o i e value : Expr} {pos pos' tpos : Pos} {td ty tv : TE}
theorem ps_dput (hu : X.A.units + 1 < cLine) (ho : PE X o td) (hi : PE X i ty) (hv : PE X value tv) (hs : swapsWith value (some (.Subscript o i pos')) pos.line X.env = pure false) :
    PS X (.Assign [.Subscript o i pos'] value pos) (sDPut td ty tv) := by
  intro pins s σ H D I h
  refine wpAny_Assign_Subscript (thn (hv pins s σ H _ I h) fun r s1 ⟨v, H1, I1, rv, q1⟩ => thn (ho pins s1 σ H1 _ I1 q1) fun u s2 ⟨x, H2, I2, rx, q2⟩ => thn (hi pins s2 σ H2 _ I2 q2) fun iv s3 ⟨y, H3, I3, ry, a, H4, ex, g, q3⟩ => ?_) hs
  subst ex
  obtain rfl : u = Value.ref a := rx
  exact d_setItem hu I3 g ry rv fun s4 I4 => ⟨σ, H4, I4, q3⟩
end
theorem dt_empty {P : Program} {w : World} {H : Hp} (h : Heap) (hb : sysModules < h.objs.size) : ObjOk P w H (h.push { cls := .type "dict", data := .dict #[] }) h.objs.size (.dT []) :=
  ⟨Nat.zero_le _, beq_eq_false_iff_ne.mpr (Ne.symm (Nat.ne_of_lt hb)), [], .nil, _, #[], 0, Heap.get?_push_size _ rfl, ⟨rfl, rfl, rfl⟩, rfl, rfl, List.nodup_nil⟩
def tDNewT : TE := fun _ H Q => ∀ p, H p = none → Q (.ref p) (upd H p (.dT []))
section
variable {X : Cx} {pos : Pos}
theorem pe_dnewT : PE X (.Dict [] [] pos) tDNewT := fun pins s σ H Q I h =>
  wpAny_Dict_empty ⟨.ref s.heap.objs.size, _, I.laid (a := s.heap.objs.size) (o := .dT []) (t' := s.toks) (fun _ _ q => Heap.get?_push_of_some _ q) (Nat.le_refl _) (dt_empty s.heap I.big), rfl, h _ (I.hok.fresh (Nat.le_refl _))⟩
end
structure M1 (X : Cx) (o : Expr) (m : Str) (apos : Pos) (e : Expr) (cpos : Pos) : Prop where
  base : attributeBase o m X.env (eval o X.env) = eval o X.env
  few : ((backTo cpos (starEach [e] X.env)).all (fun x => !x.1) && (backToKw cpos (keywordEach [] X.env)).all (fun x => x.1.isSome)
    && decide (([e] : List Expr).length + ([] : List Keyword).length + (if ([] : List Keyword).isEmpty then 0 else 1) < 30)) = true
  line : (apos.endLine == cpos.line) = true
  trees : backTo cpos (starEach [e] X.env) = [(false, eval e X.env)]
structure M2 (X : Cx) (o : Expr) (m : Str) (apos : Pos) (e f : Expr) (cpos : Pos) : Prop where
  base : attributeBase o m X.env (eval o X.env) = eval o X.env
  few : ((backTo cpos (starEach [e, f] X.env)).all (fun x => !x.1) && (backToKw cpos (keywordEach [] X.env)).all (fun x => x.1.isSome)
    && decide (([e, f] : List Expr).length + ([] : List Keyword).length + (if ([] : List Keyword).isEmpty then 0 else 1) < 30)) = true
  line : (apos.endLine == cpos.line) = true
  trees : backTo cpos (starEach [e, f] X.env) = [(false, eval e X.env), (false, eval f X.env)]
end L2
namespace L2
open PySem PySem.Spec PyProof.Rows
end L2
namespace L2
open PySem PySem.Spec PyProof.Rows
section
variable {X : Cx} {pins : List (Addr × Obj)} {σ : St} {H : Hp} {s : Shared} {h' : Heap}
theorem Inv.lock {d : Addr} {u : HO} (I : Inv X pins σ H s) (h : H d = some u) (mu : Mut (some u)) : ∃ od, Inv X pins σ (upd H d (.frz od u)) s := by
  have x := I.hok d u h
  have ex : ∃ od, s.heap.get? d = some od := by
    cases u with
    | lst xs => obtain ⟨_, _, _, _, e⟩ := x; exact ⟨_, e⟩
    | dK kvs => obtain ⟨_, _, _, _, o, _, _, e, _⟩ := x; exact ⟨o, e⟩
    | dT kvs => obtain ⟨_, _, _, _, o, _, _, e, _⟩ := x; exact ⟨o, e⟩
    | set S n => obtain ⟨o, _, _, _, e, _⟩ := x; exact ⟨o, e⟩
    | ins C dx fs => obtain ⟨_, _, _, e, _⟩ := x; exact ⟨_, e⟩
    | ext φ => obtain ⟨_, ⟨_, e⟩, _⟩ := x; exact ⟨_, e⟩
    | _ => exact False.elim mu
  obtain ⟨od, e⟩ := ex
  have new : ObjOk X.prog X.w (upd H d (.frz od u)) s.heap d (.frz od u) := by
    refine ⟨e, x.stay (fun b v _ q => q) (fun b q => ?_) fun b xs q => ?_⟩
    · rw [upd_ne (fun z => by rw [z, h] at q; cases q; exact mu)]; exact q
    · rw [upd_ne (fun z => by rw [z, h] at q; cases q; exact mu)]; exact q
  exact ⟨od, I.write (x := d) (e := d) (t' := s.toks) (h' := s.heap) (by rw [h]; exact mu) (.inl rfl) (fun b v _ q => q) ⟨od, e⟩ new⟩
theorem Inv.nofrz {d : Addr} {u : HO} (I : Inv X pins σ H s) (h : H d = some u) (mu : Mut (some u)) : ∀ o' u', X.H_0 d ≠ some (.frz o' u') := fun o' u' e => by
  have q := I.base.frzs d o' u' e
  rw [h] at q
  cases q
  exact mu
theorem Inv.unlock {d : Addr} {od : Obj} {u : HO} (I : Inv X pins σ H s) (h : H d = some (.frz od u)) (hn : ∀ o' u', X.H_0 d ≠ some (.frz o' u')) : Inv X pins σ (upd H d u) s := by
  have neH : ∀ b o, H b = some o → (∀ o' u', o ≠ .frz o' u') → b ≠ d := fun b o e hne z => by
    rw [z, h] at e
    cases e
    exact hne _ _ rfl
  have neN : ∀ b, H b = none → b ≠ d := fun b e z => by rw [z, h] at e; cases e
  refine ⟨I.ok, I.os, I.bare, ⟨I.base.keep, I.base.slot, fun b o e n hx => ?_, I.base.there, fun b xs e => ?_, fun b o x e => ?_, fun b ps e => ?_⟩, I.loc, I.cell, ?_, fun x c e => ?_, fun p hp => ?_, fun b o e => ?_, I.len⟩
  · rw [upd_ne (neN b (I.base.free b o e n hx))]; exact I.base.free b o e n hx
  · have q := I.base.tups b xs e
    rw [upd_ne (neH b _ q (fun _ _ z => nomatch z))]; exact q
  · have q := I.base.frzs b o x e
    rw [upd_ne (fun z => by rw [z] at e; exact hn _ _ e)]; exact q
  · obtain ⟨m, q⟩ := I.base.tbls b ps e
    exact ⟨m, by rw [upd_ne (neH b _ q (fun _ _ z => nomatch z))]; exact q⟩
  · rw [upd_ne (neN _ I.free)]; exact I.free
  · rw [upd_ne (neN c (I.freeC x c e))]; exact I.freeC x c e
  · obtain ⟨e, n, r⟩ := I.pin p hp
    exact ⟨e, by rw [upd_ne (neN _ n)]; exact n, r⟩
  · by_cases hb : b = d
    · rw [hb, upd_same] at e
      cases e
      rw [hb]
      obtain ⟨_, x⟩ := I.hok d _ h
      exact x.stay (fun c v _ q => q) (fun c q => by rw [upd_ne (neH c _ q (fun _ _ z => nomatch z))]; exact q) fun c xs q => by rw [upd_ne (neH c _ q (fun _ _ z => nomatch z))]; exact q
    · rw [upd_ne hb] at e
      exact (I.hok b o e).stay (fun c v _ q => q) (fun c q => by rw [upd_ne (neH c _ q (fun _ _ z => nomatch z))]; exact q) fun c xs q => by rw [upd_ne (neH c _ q (fun _ _ z => nomatch z))]; exact q
end
def tLock (t : TS) : TS := fun D σ H => ∃ d u, H d = some u ∧ Mut (some u) ∧ ∀ od, t ⟨fun σ' H' => H' d = some (.frz od u) ∧ D.nx σ' (upd H' d u), fun v H' => H' d = some (.frz od u) ∧ D.rt v (upd H' d u), fun σ' H' => H' d = some (.frz od u) ∧ D.bk σ' (upd H' d u), fun σ' H' => H' d = some (.frz od u) ∧ D.ct σ' (upd H' d u)⟩ σ (upd H d (.frz od u))
section
variable {X : Cx}
theorem pi_one {tg : Expr} {pins : List (Addr × Obj)} {σ : St} {H : Hp} {s : Shared} {R : It → Hp → Prop} {J : It} {tn : Nat → Heap → Prop} {tk : Nat} (I : Inv X pins σ H s) (o : Obj)
    (T : Turn X.prog X.w X.K tg J [s.heap.objs.size] s.heap.objs.size tn) (st : tn 0 (s.heap.push o)) (q : R J H) : PIE X pins σ tg R (.ref s.heap.objs.size) { s with heap := s.heap.push o, toks := tk } := by
  refine ⟨s.heap.objs.size, [s.heap.objs.size], tn, J, H, rfl, I.kept fun b ob e => Heap.get?_push_of_some _ e, T, st, fun b hb => ?_, q⟩
  have e : b = s.heap.objs.size := by simpa using hb
  subst e
  exact I.fpOk (Nat.le_refl _) (I.hok.fresh (Nat.le_refl _))
end
def RgC (i j c : Int) (n : Nat) : Prop := c ≠ 0 ∧ c.natAbs < 1073741824 ∧ Builtin.Range.small i j c = true ∧ Builtin.Range.rangeSize i j c = n
theorem RgC.neg {i j : Int} (ha : -(2 ^ 62) ≤ i) (ha' : i < 2 ^ 62) (hb : -(2 ^ 62) ≤ j) (hb' : j < 2 ^ 62) : RgC i j (-1) (i - j).toNat :=
  ⟨by decide, by decide, PySem.W.small_down ha ha' hb hb', PySem.W.rangeSize_downNat i j⟩
def Its (x : Str) : It := ⟨fun i _ => i < x.cps.size, fun i H v H' => H' = H ∧ ∃ c, x.cps[i]? = some c ∧ v = .str ⟨#[c]⟩, fun i _ => x.cps.size ≤ i⟩
theorem turn_str {P : Program} {w : World} {K : PySem.W.Frag} {tg : Expr} (it : Addr) (x : Str) (t : Tok) (ty : String) (hty : ty = "str_ascii_iterator" ∨ ty = "str_iterator") :
    Turn P w K tg (Its x) [it] it (fun i h => h.IsStrIter it ty x t i) where
  mem := by simp
  obj := fun i h st b hb => by
    have e : b = it := by simpa using hb
    subst e
    obtain ⟨o, e, c, d⟩ := st
    exact ⟨o, e, fun v z => by rw [d] at z; cases z⟩
  keep := fun i h h' st k => let ⟨o, ho, r⟩ := st; ⟨o, k it (by simp) o ho, r⟩
  item := by
    intro X hP hw hK hc i pins s σ H E I hf st hg
    subst hP hw hK
    obtain ⟨f0, f1, f2, f3, f4, f5⟩ := hf it (by simp)
    have W : Walks X.prog X.w X.A it [it] [it] x.cps.size (SignAt x) (fun i h => h.IsStrIter it ty x t i) := by
      rcases hty with e | e
      · rw [e]; exact Walks.strAscii (I.ok.hd hc) it x t
      · rw [e]; exact Walks.strWide (I.ok.hd hc) it x t
    have hno : ["enumerate", "zip", "dict_itemiterator", "dict_reverseitemiterator", "odict_iterator", "itertools.zip_longest", "itertools.pairwise"].contains ty = false := by
      rcases hty with e | e
      · rw [e]; decide
      · rw [e]; decide
    refine W.item i s _ _ hg st fun v h' tk hv st' kk => ?_
    obtain ⟨c, u, hcx, rfl⟩ := hv
    have I1 : Inv X pins σ H { s with heap := h', toks := tk } := I.turned (fun b o hb e => kk b o (by simpa using hb) e) f0 f1 f3 f4 f5
    obtain ⟨oi, e, cc, dd⟩ := id st'
    exact ⟨_, rfl, go_of (s := { s with heap := h', toks := tk }) e cc dd hno ⟨.str ⟨#[c]⟩, H, I1, ⟨u, rfl⟩, ⟨rfl, c, hcx, rfl⟩, st', fun b hb => (hf b hb).1⟩⟩
  done := by
    intro X hP hw hK hc i pins s σ H E I hf st hg
    subst hP hw hK
    obtain ⟨f0, f1, f2, f3, f4, f5⟩ := hf it (by simp)
    have hx : x.cps[i]? = none := Array.getElem?_eq_none hg
    rcases hty with e | e
    · rw [e] at st
      exact wpAny_pyNext_ascii_end (I.ok.hd hc) st hx fun h' eb => ⟨rfl, I.turned (t' := s.toks) (fun b o hb e => eb b o hb e) f0 f1 f3 f4 f5⟩
    · rw [e] at st
      exact wpAny_pyNext_wide_end (I.ok.hd hc) st hx fun h' eb => ⟨rfl, I.turned (t' := s.toks) (fun b o hb e => eb b o hb e) f0 f1 f3 f4 f5⟩
  self := fun A i s Q E st h => by
    rcases hty with e | e
    · rw [e] at st; exact wpAny_pyIter_striter_ascii st h
    · rw [e] at st; exact wpAny_pyIter_striter_wide st h
def iStr (te : TE) : TI := fun σ H R => te σ H fun v H1 => ∃ x, v = .str x ∧ R (Its x) H1
theorem pi_str {X : Cx} {tg e : Expr} {te : TE} (he : PE X e te) : PI X tg e (iStr te) := by
  intro pins s σ H R I h
  refine thn (he pins s σ H _ I h) fun v s1 ⟨y, H1, I1, r1, x, ex, q⟩ => ?_
  subst ex
  obtain ⟨t, rfl⟩ := r1
  cases ha : x.cps.all (· < 128)
  · exact wpAny_pyIter_wide ha (pi_one (tk := s1.toks) I1 _ (turn_str _ x t "str_iterator" (.inr rfl)) ⟨_, Heap.get?_push_size _ rfl, rfl, rfl⟩ q)
  · exact wpAny_pyIter_ascii ha (pi_one (tk := s1.toks) I1 _ (turn_str _ x t "str_ascii_iterator" (.inl rfl)) ⟨_, Heap.get?_push_size _ rfl, rfl, rfl⟩ q)
section
variable {prog : Program} {w : World} {A : Around} {E : Value → Shared → Prop} {s : Shared}
theorem iter_keys {d : Addr} {o : Obj} {es : Array DictEntry} {ep : Nat} {Q : Value → Shared → Prop} (hd : (d == sysModules) = false) (ho : s.heap.get? d = some o) (hc : o.ExactDict) (hdat : o.data = .dict es ep)
    (hQ : Q (.ref s.heap.objs.size) { s with heap := s.heap.push { cls := .type "dict_keyiterator", data := .fields #[.ref d, .int 0 0, .int es.size 0, .int ep 0] } }) :
    wpAny (model prog w) A (pyIter (.ref d)) Q E s := by
  have hT : s.TypeIs (.ref d) "dict" := ⟨o, ho, hc.1⟩
  refine wpAny_pyIter_slot hT F.slot_dict_iter (wpAny_call_entry F.slot_dict_iter hT F.entry_dict_iter ?_ (F.args_dict_iter_1 _))
  unfold Builtin.«dict.__iter__»
  refine wpAny_bind ?_
  unfold Builtin.Dict.dictSlotNone
  refine wpAny_bind (wpAny_notOrdered_dict hT ?_)
  show wpAny _ _ (pure (Value.ref d)) _ _ s
  refine wpAny_pure ?_
  show wpAny _ _ (Builtin.Dict.showsAll d >>= _) _ _ s
  unfold Builtin.Dict.showsAll
  rw [if_neg (by rw [hd]; exact Bool.false_ne_true)]
  refine wpAny_bind (wpAny_pure ?_)
  refine wpAny_bind (wpAny_dictEntries ho hdat ?_)
  refine wpAny_bind (wpAny_dictEpoch ho hdat ?_)
  refine wpAny_bind (wpAny_newObj_type (wpAny_pure ⟨_, rfl, "dict_keyiterator", _, ⟨_, Heap.get?_push_size _ rfl, rfl⟩, F.slot_dict_keyiterator_next.lookup, ?_⟩))
  simpa [rawInt] using hQ
theorem next_key_item {it d : Addr} {i n ep : Nat} {od : Obj} {es : Array DictEntry} {en : DictEntry} {Q : Option Value → Shared → Prop} (hit : s.heap.IsKeyIter it d i n ep) (hod : s.heap.get? d = some od) (hdd : od.data = .dict es ep)
    (hsz : es.size = n) (hx : es[i]? = some en) (hQ : ∀ h', h'.IsKeyIter it d (i + 1) n ep → Heap.SameBut it s.heap h' → Q (some en.key) { s with heap := h' }) : wpAny (model prog w) A (pyNext (.ref it)) Q E s := by
  obtain ⟨o, ho, hc, hd⟩ := id hit
  unfold pyNext
  refine wpAny_bind (wpAny_attempt (wpAny_callSpecial?_slot (name := Str.ofString "__next__") hit.typeIs F.slot_dict_keyiterator_next
    (wpAny_call_entry F.slot_dict_keyiterator_next hit.typeIs F.entry_dict_keyiterator_next ?_ (F.args_dict_keyiterator_next_1 _))))
  refine wpAny_bind (wpAny_pure ?_)
  refine wpAny_bind ?_
  refine wpAny_bind ?_
  first | refine wpAny_bind (wpAny_typeNameOfWhole_keyiter hit.typeIs (wpAny_pure ?_)) | refine wpAny_bind (wpAny_typeNameOf_keyiter hit.typeIs (wpAny_pure ?_))
  refine wpAny_bind (wpAny_fieldsOf ho hd ?_)
  have hown : Builtin.Dict_items.ownsTuple "dict_keyiterator" = false := by decide
  simp only [hown, Bool.false_eq_true, if_false]
  show wpAny _ _ (if (Value.ref d == Value.none) = true then _ else _) _ _ s
  rw [if_neg (show ¬ ((Value.ref d == Value.none) = true) from Bool.false_ne_true)]
  refine wpAny_bind (wpAny_pure ?_)
  refine wpAny_bind (wpAny_dictEntries hod hdd ?_)
  rw [if_neg (by rw [hsz]; simp)]
  refine wpAny_bind (wpAny_pure ?_)
  refine wpAny_bind (wpAny_dictEpoch hod hdd ?_)
  rw [if_neg (by simp)]
  refine wpAny_pure ?_
  obtain ⟨hlt', hen⟩ := Array.getElem?_eq_some_iff.mp hx
  simp only [show ¬ ((i : Int) < 0) from by omega, if_false, Int.toNat_natCast, Array.getElem?_eq_getElem hlt']
  refine wpAny_bind ?_
  first | refine wpAny_bind (wpAny_typeNameOfWhole_keyiter hit.typeIs (wpAny_pure ?_)) | refine wpAny_bind (wpAny_typeNameOf_keyiter hit.typeIs (wpAny_pure ?_))
  refine wpAny_bind (wpAny_isOneOf_keyiter hit.typeIs ?_)
  show wpAny _ _ (setField (.ref it) 1 (rawInt ((i : Int) + 1)) >>= _) _ _ s
  refine wpAny_bind (wpAny_setField ho hd (by simp) ?_)
  have hit' : (s.heap.update it (Obj.mapFields (·.setIfInBounds 1 (rawInt ((i : Int) + 1))))).IsKeyIter it d (i + 1) n ep :=
    ⟨_, Heap.get?_update_self _ ho (Obj.isFreed_of_fields (Obj.data_mapFields hd _)), (Obj.cls_mapFields ..).trans hc, by rw [Obj.data_mapFields hd]; simp [rawInt]⟩
  refine wpAny_bind (wpAny_holding ?_)
  refine wpAny_bind (wpAny_isOneOf_keyiter (s := { s with heap := s.heap.update it (Obj.mapFields (·.setIfInBounds 1 (rawInt ((i : Int) + 1)))) }) hit'.typeIs ?_)
  show wpAny _ _ (pure es[i].key) _ _ _
  rw [hen]
  exact wpAny_pure (wpAny_pure ⟨_, rfl, wpAny_pure (hQ _ hit' (Heap.SameBut.update ..))⟩)
theorem next_key_end {it d : Addr} {i n ep : Nat} {od : Obj} {es : Array DictEntry} {Q : Option Value → Shared → Prop} (hh : A.handled = none) (hit : s.heap.IsKeyIter it d i n ep) (hod : s.heap.get? d = some od) (hdd : od.data = .dict es ep)
    (hsz : es.size = n) (hge : n ≤ i) (hQ : ∀ h', Heap.ExtBut it s.heap h' → Q none { s with heap := h' }) : wpAny (model prog w) A (pyNext (.ref it)) Q E s := by
  obtain ⟨o, ho, hc, hd⟩ := id hit
  unfold pyNext
  refine wpAny_bind (wpAny_attempt (wpAny_callSpecial?_slot (name := Str.ofString "__next__") hit.typeIs F.slot_dict_keyiterator_next
    (wpAny_call_entry F.slot_dict_keyiterator_next hit.typeIs F.entry_dict_keyiterator_next ?_ (F.args_dict_keyiterator_next_1 _))))
  refine wpAny_bind (wpAny_pure ?_)
  refine wpAny_bind ?_
  refine wpAny_bind ?_
  first | refine wpAny_bind (wpAny_typeNameOfWhole_keyiter hit.typeIs (wpAny_pure ?_)) | refine wpAny_bind (wpAny_typeNameOf_keyiter hit.typeIs (wpAny_pure ?_))
  refine wpAny_bind (wpAny_fieldsOf ho hd ?_)
  have hown : Builtin.Dict_items.ownsTuple "dict_keyiterator" = false := by decide
  simp only [hown, Bool.false_eq_true, if_false]
  show wpAny _ _ (if (Value.ref d == Value.none) = true then _ else _) _ _ s
  rw [if_neg (show ¬ ((Value.ref d == Value.none) = true) from Bool.false_ne_true)]
  refine wpAny_bind (wpAny_pure ?_)
  refine wpAny_bind (wpAny_dictEntries hod hdd ?_)
  rw [if_neg (by rw [hsz]; simp)]
  refine wpAny_bind (wpAny_pure ?_)
  refine wpAny_bind (wpAny_dictEpoch hod hdd ?_)
  rw [if_neg (by simp)]
  refine wpAny_pure ?_
  have hge' : es.size ≤ i := by rw [hsz]; exact hge
  simp only [show ¬ ((i : Int) < 0) from by omega, if_false, Int.toNat_natCast, Array.getElem?_eq_none hge']
  refine wpAny_bind ?_
  first | refine wpAny_bind (wpAny_typeNameOfWhole_keyiter hit.typeIs (wpAny_pure ?_)) | refine wpAny_bind (wpAny_typeNameOf_keyiter hit.typeIs (wpAny_pure ?_))
  show wpAny _ _ (setField (.ref it) 0 .none >>= _) _ _ s
  refine wpAny_bind (wpAny_setField ho hd (by simp) ?_)
  show wpAny _ _ (newExc (.type "StopIteration") [] >>= _) _ _ _
  refine wpAny_bind ?_
  simp only [newExc, newTuple]
  refine wpAny_bind (wpAny_newObj_type ?_ (by size_fits))
  refine wpAny_bind (m := firstArgMember _ _) (wpAny_of_eq (a := Value.none) (by first | rfl | (simp only [firstArgMember]; rfl)) ?_)
  refine wpAny_newObj_type ?_ (by size_fits)
  simp only [raiseNew]
  refine wpAny_bind (wpAny_handled ?_)
  rw [show A.in1.handled = none from hh]
  refine wpAny_bind (wpAny_pure (wpAny_throw ?_))
  refine wpAny_bind (wpAny_isInstance (T := "StopIteration") (b := true) ⟨_, Heap.get?_push_size _ rfl, rfl⟩ isSubtype_stop ?_)
  exact wpAny_pure (hQ _ (((Heap.SameBut.update ..).extBut.push _).push _))
end
theorem paired_get {α β : Type} {G : α → β → Prop} {l₁ : List α} {l₂ : List β} (h : Paired G l₁ l₂) : ∀ {i : Nat} {a : α}, l₁[i]? = some a → ∃ b, l₂[i]? = some b ∧ G a b := by
  induction h with
  | nil => intro i a e; simp at e
  | @cons a b l₁ l₂ r t ih =>
    intro i a' e
    cases i with
    | zero =>
      simp only [List.getElem?_cons_zero, Option.some.injEq] at e
      subst e
      exact ⟨b, rfl, r⟩
    | succ j =>
      simp only [List.getElem?_cons_succ] at e ⊢
      exact ih e
end L2
section
namespace Bits
open PySem PyProof.Rows
end Bits
end
section
namespace TL
open PySem PySem.Builtin PySem.Builtin.Str PySem.StrLaws
abbrev tl (x : Str) : List Nat := x.cps.toList
def pre (S l : List Nat) : Bool := l.take S.length == S
def par (S : List Nat) : List Nat → List Nat → Option (List Nat × List Nat)
  | _, [] => none
  | acc, c :: r => if pre S (c :: r) = true then some (acc, (c :: r).drop S.length) else par S (acc ++ [c]) r
end TL
end
namespace L2
open PySem PySem.Spec PyProof.Rows
end L2
namespace L2
open PySem PySem.Spec PyProof.Rows
section
variable {X : Cx}
theorem op_in_sign : OpR X (compareOp .In) (fun x y H Q => ∃ (c : Nat) (z : Str), x = .str ⟨#[c]⟩ ∧ y = .str z ∧ Q (.bl (decide (c ∈ z.cps.toList))) H) := by
  intro pins s σ H x y v u Q I rx ry h
  obtain ⟨c, z, rfl, rfl, q⟩ := h
  obtain ⟨t, rfl⟩ := rx
  obtain ⟨t', rfl⟩ := ry
  exact PyProof.Rows.in_str (fin_bl I q (PySem.StrLaws.found_one z c).symm)
theorem op_notIn_sign : OpR X (compareOp .NotIn) (fun x y H Q => ∃ (c : Nat) (z : Str), x = .str ⟨#[c]⟩ ∧ y = .str z ∧ Q (.bl (!decide (c ∈ z.cps.toList))) H) := by
  intro pins s σ H x y v u Q I rx ry h
  obtain ⟨c, z, rfl, rfl, q⟩ := h
  obtain ⟨t, rfl⟩ := rx
  obtain ⟨t', rfl⟩ := ry
  exact PyProof.Rows.notIn_str (fin_bl I q (congrArg Bool.not (PySem.StrLaws.found_one z c).symm))
end
theorem IsPart.raw {v : Value} {o : Option Int} (p : IsPart v o) : ∃ l : Option (Int × Tok), v = partValue l ∧ l.map (·.1) = o := by
  cases p with
  | none => exact ⟨none, rfl, rfl⟩
  | int i t => exact ⟨some (i, t), rfl, rfl⟩
def clipS (n d : Nat) : Option Int → Int
  | none => (d : Int)
  | some i => max 0 (min (if i < 0 then i + (n : Int) else i) (n : Int))
theorem clipS_eq (n d : Nat) (o : Option Int) : clipS n d o = ((HT.sIx n d o : Nat) : Int) := by
  cases o with
  | none => rfl
  | some v =>
    show max (0 : Int) (min (if v < 0 then v + (n : Int) else v) (n : Int)) = (((if v < 0 then (v + (n : Int)).toNat else min v.toNat n) : Nat) : Int)
    by_cases hv : v < 0
    · simp only [if_pos hv]
      omega
    · simp only [if_neg hv]
      omega
theorem sidx_clip (a b : Option Int) (n : Nat) : Builtin.Str.strSliceIndices a b 1 n = sliceRange (clipS n 0 a) (clipS n n b) 1 := by
  have h1 : ((1 : Int) > 0) = True := by simp
  cases a <;> cases b <;> first
    | rfl
    | (simp only [Builtin.Str.strSliceIndices, clipS, h1, if_true]; rfl)
    | simp [Builtin.Str.strSliceIndices, clipS]
theorem sidx (a b : Option Int) (n : Nat) : Builtin.Str.strSliceIndices a b 1 n = (List.range (HT.sIx n n b - HT.sIx n 0 a)).map (fun k => HT.sIx n 0 a + k) := by
  rw [sidx_clip, clipS_eq, clipS_eq]
  generalize HT.sIx n 0 a = p
  generalize HT.sIx n n b = q
  simp only [sliceRange, show ((1 : Int) > 0) = True from by simp, if_true]
  by_cases hlt : (p : Int) < q
  · have e3 : (((q : Int) - p + 1 - 1) / 1).toNat = q - p := by first | omega | (simp; done) | (simp; omega)
    simp only [hlt, if_true, e3]
    refine List.map_congr_left fun k _ => ?_
    omega
  · have : q - p = 0 := by omega
    simp [hlt, this]
def cutS (z : Str) (lo hi : Option Int) : Str :=
  ⟨((z.cps.toList.drop (HT.sIx z.length 0 lo)).take (HT.sIx z.length z.length hi - HT.sIx z.length 0 lo)).toArray⟩
theorem sliceText_cut (z : Str) (lo hi : Option Int) : PySem.StrLaws.sliceText z lo hi = cutS z lo hi := by
  have h1 : HT.sIx z.length 0 lo ≤ z.length := HT.sIx_le _ _ (Nat.zero_le _) _
  have h2 : HT.sIx z.length z.length hi ≤ z.length := HT.sIx_le _ _ (Nat.le_refl _) _
  have hp : HT.sIx z.length 0 lo ≤ max (HT.sIx z.length 0 lo) (HT.sIx z.length z.length hi) := Nat.le_max_left _ _
  have hq : max (HT.sIx z.length 0 lo) (HT.sIx z.length z.length hi) ≤ z.length := Nat.max_le.mpr ⟨h1, h2⟩
  have hd : max (HT.sIx z.length 0 lo) (HT.sIx z.length z.length hi) - HT.sIx z.length 0 lo = HT.sIx z.length z.length hi - HT.sIx z.length 0 lo := by omega
  have e : Builtin.Str.strSliceIndices lo hi 1 z.length =
      Builtin.Str.strSliceIndices (some ((HT.sIx z.length 0 lo : Nat) : Int)) (some ((max (HT.sIx z.length 0 lo) (HT.sIx z.length z.length hi) : Nat) : Int)) 1 z.length := by
    rw [PySem.StrLaws.strSliceIndices_plain hp hq, hd, sidx]
  have e2 : PySem.StrLaws.sliceText z lo hi =
      PySem.StrLaws.sliceText z (some ((HT.sIx z.length 0 lo : Nat) : Int)) (some ((max (HT.sIx z.length 0 lo) (HT.sIx z.length z.length hi) : Nat) : Int)) := by
    unfold PySem.StrLaws.sliceText
    rw [e]
  rw [e2, PySem.StrLaws.sliceText_nat z hp hq, hd]
  rfl
theorem cutS_length (z : Str) (lo hi : Option Int) : (cutS z lo hi).length ≤ z.length := by
  show (((z.cps.toList.drop (HT.sIx z.length 0 lo)).take (HT.sIx z.length z.length hi - HT.sIx z.length 0 lo)).toArray).size ≤ z.cps.size
  rw [List.size_toArray, List.length_take, List.length_drop, Array.length_toList]
  omega
def rSlS : V → Option Int → Option Int → Hp → VK → Prop := fun x lo hi H Q => ∃ z, x = .str z ∧ z.length ≤ sizeLine ∧ Q (.str (cutS z lo hi)) H
theorem sl_str {X : Cx} : SlR X rSlS := by
  intro pins s σ H x v vl vu lo hi sl Q I rx hs pl pu h
  obtain ⟨z, rfl, hz, q⟩ := h
  obtain ⟨t, rfl⟩ := rx
  obtain ⟨os, hos, hcs, hds⟩ := hs
  obtain ⟨l, rfl, rfl⟩ := IsPart.raw pl
  obtain ⟨u, rfl, rfl⟩ := IsPart.raw pu
  refine ⟨"str", _, F.slot_str_getitem.lookup, typeIs_str _ _ _, ?_⟩
  refine wpAny_getItem_str_slice (l := l) (u := u) (st := none) ⟨os, hos, hcs, hds⟩ rfl ?_
  have hl : (PySem.StrLaws.sliceText z (l.map (·.1)) (u.map (·.1))).length ≤ sizeLine := by
    rw [sliceText_cut]
    exact Nat.le_trans (cutS_length z _ _) hz
  rw [← sliceText_cut] at q
  unfold PySem.StrLaws.sliceText at q hl
  show Made.post (if ((1 : Int) == 1 && (Builtin.Str.strSliceIndices (l.map (·.1)) (u.map (·.1)) 1 z.length).length == z.length) = true then Made.val (.str z t)
    else Made.str ⟨((Builtin.Str.strSliceIndices (l.map (·.1)) (u.map (·.1)) 1 z.length).filterMap (z.cps[·]?)).toArray⟩) (EP X pins σ Q) s
  by_cases c : ((1 : Int) == 1 && (Builtin.Str.strSliceIndices (l.map (·.1)) (u.map (·.1)) 1 z.length).length == z.length) = true
  · rw [if_pos c] at q ⊢
    exact ⟨.str z, H, I, ⟨t, rfl⟩, q⟩
  · rw [if_neg c] at q hl ⊢
    exact ⟨hl, .str _, H, I.tok _, ⟨_, rfl⟩, q⟩
end L2
namespace Att
open PySem PySem.W PySem.Calls PyProof.Rows
theorem ints_of_wellAll {P : Params} {h : Heap} : ∀ (ns : List Int) (vs : List Value), WellAll P h vs (ns.map WData.int) → IntsAre vs ns := by
  intro ns
  induction ns with
  | nil =>
    intro vs w
    rw [List.map_nil] at w
    cases w
    exact .nil
  | cons n ns ih =>
    intro vs w
    rw [List.map_cons] at w
    cases w with
    | cons a b =>
      cases a
      exact .cons _ _ (ih _ b)
theorem script_of {l : OpenLaw} {n : Nat} (hn : l.most = some n) {P : Params} {h : Heap} {args : List WData} {vals : List Value}
    (hpre : l.row.toRowW.claim.pre args = true) (hwl : WellAll P h vals args) :
    ∃ a vs ns, vals = [Value.ref a] ∧ args = [WData.list (ns.map WData.int)] ∧ h.get? a = some { cls := .type "list", data := .seq vs.toArray } ∧ IntsAre vs ns ∧ ns.length ≤ n := by
  have hsh : WShape.hasAll [] args [.list .int] = true := (pre_splitW hpre).1
  have hc : l.pre.holds [] { args := args } = true := (pre_splitW hpre).2
  obtain ⟨d, r, rfl, h1, h2⟩ := hasAllW_cons hsh
  obtain rfl := hasAllW_nil h2
  obtain ⟨xs, rfl, h3⟩ := hasW_list h1
  obtain ⟨ns, rfl⟩ := items_int h3
  have hlen : ns.length ≤ n := by
    unfold OpenLaw.pre at hc
    have h4 : (WTm.not (.lt (.lit (.int (n : Int))) (.len (.arg 0)))).holds [] { args := [.list (ns.map .int)] } = true := by
      have h4 := (holds_andW hc).1
      rw [hn] at h4
      exact h4
    have h5 := condW_of h4 (w_not (w_lt w_lit (w_len_list (w_arg rfl))))
    rw [List.length_map] at h5
    refine Nat.le_of_not_lt fun q => ?_
    have q' : (n : Int) < ((ns.length : Nat) : Int) := by omega
    first
      | (rw [decide_eq_true q'] at h5; exact absurd h5 (by decide))
      | (simp at h5; omega)
  cases hwl with
  | cons w1 w2 =>
    cases w2
    cases w1 with
    | list ho hall => exact ⟨_, _, ns, rfl, rfl, ho, ints_of_wellAll ns _ hall, hlen⟩
theorem post_true (l : OpenLaw) (args : List WData) : l.row.toRowW.claim.post args (.bool true) args = true :=
  postW_of (r := l.row.toRowW) (X := (true == true))
    (show WShape.has [] (.bool true) .bool = true by first | rfl | decide | simp [WShape.has, WShape.arms, WShape.armsAll])
    (show (WTm.eq .res (.lit (.bool true))).value [] { args := args, res := some (.bool true), after := args } = some (.bool (true == true)) from w_eq_bool (w_res rfl) w_lit) rfl
theorem attach_call {l : OpenLaw} {n : Nat} {q : Program} {loose : List Str} {XP : (Str → Option Value) → Heap → Prop} {YP : World → Heap → Prop} {d : DefRec}
    (hn : l.most = some n) (hdf : d.params.defaults = [])
    (call : ∀ (w : World) (s₀ s₁ : Shared) (mg mb : Str → Option Value) (fa : Addr) (o : Obj) (pm cd doc : Value) (a : Addr) (vs : List Value) (ns : List Int),
      Ground q loose [] XP w s₀ mg mb s₁.heap → YP w s₁.heap →
      s₁.heap.get? fa = some o → o.data = .func (docDef d.name d.params d.body d.scope pm cd doc) → s₁.heap.CodeRec cd d.name → mg d.name = some (.ref fa) →
      s₁.heap.get? a = some { cls := .type "list", data := .seq vs.toArray } → IntsAre vs ns → ns.length ≤ n → s₁.gens = #[] →
      codeAny (model l.prog w) callerA (.call (.ref fa) ⟨[.ref a], []⟩) (fun r s' => r = .ok (.ret (.bool true)) ∧ OldK s₁.heap s'.heap ∧ s'.os = s₁.os ∧ AllBare s'.gens) s₁) :
    WalkO q loose XP YP l.row.toRowW d [] (fun f vs => PySem.call f vs) := by
  intro w s₀ s₁ mg mb G Y fa o pm cd doc dV kV ho hd hcd hD hmg hg args vals as hpre hlay hrd hwl hlo
  obtain rfl : dV = .none := Dflts.none hD hdf
  obtain rfl : kV = .none := Dflts.noKw hD
  obtain ⟨a, vs, ns, rfl, rfl, hobj, hints, hlen⟩ := script_of hn hpre hwl
  refine enter_call (codeAny_mono (call w s₀ s₁ mg mb fa o pm cd doc a vs ns G Y ho (fd_plain hd) hcd hmg hobj hints hlen hg) fun r s' hq => ?_)
  obtain ⟨rfl, h2, h3, h4⟩ := hq
  exact ⟨.inl ⟨.bool true, .bool true, [], rfl, fun _ => rfl, .bool true, post_true l _, fun _ => ⟨List.Pairwise.nil, fun _ hm => (nomatch hm)⟩⟩, h2, h3, h4⟩
end Att
namespace L2
open PySem PySem.Spec PyProof.Rows
theorem vals_ints : ∀ {vs : List Value} {ns : List Int}, IntsAre vs ns → Vals (ns.map V.int) vs
  | _, _, .nil => .nil
  | _, _, .cons n t h => .cons ⟨t, rfl⟩ (vals_ints h)
def Only (H : Hp) : Prop := ∀ b, H b = none ∨ ∃ o xs, H b = some (.frz o (.lst xs))
theorem law_call {P : Program} {w : World} {K : PySem.W.Frag} {mg mb : Str → Option Value} {CX : CXT} {k : Nat} {fa a : Addr} {fd : FuncData} {x : Str} {sp : Sp} {s₁ : Shared} {vs : List Value} {ns : List Int}
    (KX : K.In s₁.heap) (hns : s₁.heap.Ns mainGlobals mg) (hb : s₁.heap.Ns builtinsNs mb) (hbb : ∀ x : Str, x ≠ "__name__" → mb x = bootBuiltins x) (hlim : s₁.heap.NoLimit) (hg : s₁.gens = #[])
    (ha : s₁.heap.get? a = some { cls := .type "list", data := .seq vs.toArray }) (hi : IntsAre vs ns) (hl : ns.length ≤ sizeLine) (hr : Room k callerA)
    (F : ∀ base : Heap, K.In base → base.Ns mainGlobals mg → FnOk P w K mg base CX k fa fd [x] sp) (hbind : ∀ (s : Shared) (u : Value), BindsTo s fd ⟨[u], []⟩ [(x, u)])
    (hsp : ∀ H : Hp, Only H → SqL K H a (ns.map V.int) → sp [.ref a] H (fun v _ => v = .bl true) fun _ _ _ => False)
    (hCX : ∀ H e s', CX [] H s₁ (fun _ _ _ => False) e s' → False) :
    codeAny (model P w) callerA (.call (.ref fa) ⟨[.ref a], []⟩) (fun r s' => r = .ok (.ret (.bool true)) ∧ OldK s₁.heap s'.heap ∧ s'.os = s₁.os ∧ AllBare s'.gens) s₁ := by
  have rv := vals_ints hi
  have lenV := hi.length
  have core : ∀ H : Hp, Only H → SqL K H a (ns.map V.int) → HOk P w H s₁.heap → (∀ b, H b ≠ none → b = a) → (H a ≠ none → K.lookup a = none) →
      codeAny (model P w) callerA (.call (.ref fa) ⟨[.ref a], []⟩) (fun r s' => r = .ok (.ret (.bool true)) ∧ OldK s₁.heap s'.heap ∧ s'.os = s₁.os ∧ AllBare s'.gens) s₁ := by
    intro H hO hS hok hA hK
    have base_of : ∀ {b : Addr} {o : Obj}, s₁.heap.get? b = some o → H b = none → (hidT s₁.heap H).get? b = some o := fun e n => hidT_get e n
    have noA : ∀ {b : Addr} {o : Obj} {es : Array DictEntry} {ep : Nat}, s₁.heap.get? b = some o → o.data = .dict es ep → H b = none := fun {b o es ep} e d => by
      cases q : H b with
      | none => rfl
      | some u =>
        have e' : b = a := hA b (by rw [q]; simp)
        subst e'
        rw [ha] at e; cases e
        have d' : Data.seq vs.toArray _ = Data.dict es ep := d
        cases d'
    have nsK : ∀ {b : Addr} {m : Str → Option Value}, s₁.heap.Ns b m → (hidT s₁.heap H).Ns b m := fun {b m} ⟨o, es, ep, e, d, r⟩ => ⟨o, es, ep, base_of e (noA e d), d, r⟩
    have hKb : K.In (hidT s₁.heap H) := fun b o e => base_of (KX b o e) (by
      cases q : H b with
      | none => rfl
      | some u =>
        have e' : b = a := hA b (by rw [q]; simp)
        subst e'
        rw [hK (by rw [q]; simp)] at e; cases e)
    have hM : Mod K mg (hidT s₁.heap H) := ⟨hKb, nsK hns, ⟨mb, nsK hb, hbb⟩, let ⟨mc, h1, h2⟩ := hlim; ⟨mc, nsK h1, h2⟩⟩
    have e0 : Env0 P w K mg (hidT s₁.heap H) callerA [] s₁ H := ⟨rfl, hM, fun b o e => of_hidT e, Nat.le_of_eq (hidT_size _ _), trivial, fun b hb => absurd (show b ∈ ([] : List Addr) from hb) (by simp), hok, .of_eq hg⟩
    refine codeAny_mono ((F _ hKb (nsK hns)).run callerA [] s₁ H ⟨[.ref a], []⟩ [.ref a] [.ref a] _ _ hr e0 (hbind s₁ (.ref a)) (.cons rfl .nil) (hsp H hO hS)) fun r s' h => ?_
    cases r with
    | error e => exact (hCX H e s' h).elim
    | ok fl =>
      cases fl with
      | next => exact False.elim h
      | brk => exact False.elim h
      | cont => exact False.elim h
      | ret u =>
        obtain ⟨v, H', os, bare, un, hok', r', q⟩ := h
        have q' : v = .bl true := q
        subst q'
        obtain rfl : u = Value.bool true := r'
        refine ⟨rfl, OldK.of_keep fun b o e => ?_, os, bare⟩
        cases q : H b with
        | none => exact un.keep b o e q (by intro z; exact absurd (show b ∈ ([] : List Addr) from z) (by simp)) (by simp)
        | some u =>
          rcases hO b with z | ⟨ob, xs, z⟩
          · rw [q] at z; cases z
          · have z2 := un.frzs b ob _ z
            obtain ⟨e1, _⟩ := hok b _ z
            obtain ⟨e2, _⟩ := hok' b _ z2
            rw [e] at e1; cases e1
            exact e2
  cases hk : K.lookup a with
  | some o =>
    have e := KX a o hk
    rw [ha] at e
    cases e
    refine core (fun _ => none) (fun _ => .inl rfl) (.inr ⟨_, vs.toArray, _, hk, rfl, rfl, rfl, by rw [List.size_toArray, lenV]; exact hl, by simpa using rv⟩) (fun b u z => by have z' : (none : Option HO) = some u := z; cases z') (fun b z => absurd rfl z) fun z => absurd rfl z
  | none =>
    refine core (fun b => if b = a then some (.frz { cls := .type "list", data := .seq vs.toArray } (.lst (ns.map V.int))) else none) (fun b => ?_) (.inl (.inr ⟨{ cls := .type "list", data := .seq vs.toArray }, if_pos rfl⟩)) (fun b u z => ?_) (fun b z => ?_) fun _ => hk
    · by_cases hb : b = a
      · exact .inr ⟨_, _, if_pos hb⟩
      · exact .inl (if_neg hb)
    · by_cases hb : b = a
      · have z' := (if_pos hb).symm.trans z
        cases z'
        subst hb
        exact ⟨ha, by rw [List.length_map]; exact hl, vs, _, rv, ha⟩
      · have z' := (if_neg hb).symm.trans z
        cases z'
    · by_cases hb : b = a
      · exact hb
      · exact absurd (if_neg hb) z
end L2
namespace L2
open PySem PySem.Spec PyProof.Rows
theorem walk_of {l : PySem.W.OpenLaw} {n k : Nat} {q : Program} {loose : List Str} {XP : (Str → Option Value) → Heap → Prop} {YP : World → Heap → Prop} {d : DefRec} {K : Params → PySem.W.Frag} {CX : World → CXT} {sp : World → Sp} {x : Str}
    (hn : l.most = some n) (hn2 : n ≤ sizeLine) (hdf : d.params.defaults = []) (hr : Room k callerA)
    (hY : ∀ (w : World) (h : Heap), YP w h → (K w.params).In h)
    (F : ∀ (w : World) (mg : Str → Option Value) (fa : Addr) (h : Heap), (K w.params).In h → h.Ns mainGlobals mg → mg d.name = some (.ref fa) →
      ∃ fd : FuncData, (∀ (s : Shared) (u : Value), BindsTo s fd ⟨[u], []⟩ [(x, u)]) ∧
        ∀ base : Heap, (K w.params).In base → base.Ns mainGlobals mg → FnOk l.prog w (K w.params) mg base (CX w) k fa fd [x] (sp w))
    (hsp : ∀ (w : World) (H : Hp) (a : Addr) (ns : List Int), ns.length ≤ n → Only H → SqL (K w.params) H a (ns.map V.int) → sp w [.ref a] H (fun v _ => v = .bl true) fun _ _ _ => False)
    (hCX : ∀ (w : World) (H : Hp) (s : Shared) (e : Value) (s' : Shared), CX w [] H s (fun _ _ _ => False) e s' → False) :
    PySem.W.WalkO q loose XP YP l.row.toRowW d [] (fun f vs => PySem.call f vs) := by
  refine Att.attach_call hn hdf fun w s₀ s₁ mg mb fa o pm cd doc a vs ns G Y ho hd hcd hmg hobj hints hlen hg => ?_
  have KX := hY w _ Y
  obtain ⟨fd, hb, hF⟩ := F w mg fa _ KX G.T.g hmg
  exact law_call KX G.T.g G.T.b G.T.builtins G.T.nolimit hg hobj hints (Nat.le_trans hlen hn2) hr hF hb (fun H hO hS => hsp w H a ns hlen hO hS) fun H e s' => hCX w H s₁ e s'
end L2
namespace L2
open PySem PySem.Spec PyProof.Rows
def inClass (s : Stmt) (j : Nat) : Stmt := match s with
  | .ClassDef _ _ _ body _ _ _ _ _ _ _ => body.getD j (.Pass ⟨0, 0, 0, 0⟩)
  | _ => .Pass ⟨0, 0, 0, 0⟩
def defArgs (s : Stmt) : Arguments := match s with
  | .FunctionDef _ a _ _ _ _ _ _ _ _ => a
  | _ => { posonlyargs := [], args := [], vararg := none, kwonlyargs := [], kw_defaults := [], kwarg := none, defaults := [] }
def defBody (s : Stmt) : List Stmt := match s with
  | .FunctionDef _ _ b _ _ _ _ _ _ _ => b
  | _ => []
def defScope (s : Stmt) : Scope := match s with
  | .FunctionDef _ _ _ _ _ _ sc _ _ _ => sc
  | _ => { kind := .function, names := [], isGenerator := false, isCoroutine := false }
abbrev CX0 : CXT := fun _ _ _ _ _ _ => False
abbrev E0 : XK := fun _ _ _ => False
theorem pass0 {X : Cx} : Passes CX0 X E0 := fun _ _ _ _ _ _ _ h => h.elim
structure Fun (K : PySem.W.Frag) (x qual : Str) (st : Stmt) (f : Addr) (fd : FuncData) : Prop where
  ex : ∃ (oc : Value) (od : Option Addr) (kV doc pm : Value) (an : Option Addr) (cdv ct : Value) (osl : Array (Option Value)),
    fd = PySem.W.fnOf x qual (defArgs st) (defBody st) (defScope st) .none kV doc pm an cdv ct ∧ K.lookup f = some ⟨oc, od, .func fd, osl⟩ ∧ PySem.W.codeIn K cdv qual = true
  kp : PySem.W.keepIn K (.ref f) = true
section
variable {P : Program} {w : World} {K : PySem.W.Frag} {mg : Str → Option Value} {base : Heap}
theorem Fun.ok {x qual : Str} {st : Stmt} {f : Addr} {fd : FuncData} {N ps : List Str} {k : Nat} {sp : Sp} (F : Fun K x qual st f fd) (S : FnScope N ps (defScope st)) (len : ∀ vs H Q E, sp vs H Q E → vs.length = ps.length)
    (hbody : ∀ (cdv : Value) (A : Around) (outer : List Env) (s : Shared) (H : Hp) (vs : List V) (Q : VK) (E : XK), Room k (A.deeper (envOfC qual (defScope st) s.heap.objs.size f cdv)) → sp vs H Q E →
      ∃ t, PSs (cxOf CX0 P w K mg base N qual (defScope st) f cdv A outer s H E).nox (defBody st) t ∧ t { nx := fun _ H' => Q .non H', rt := Q } (start N vs) H) : FnOk P w K mg base CX0 (k + 1) f fd ps sp := by
  obtain ⟨oc, od, kV, doc, pm, an, cdv, ct, osl, rfl, lk, hcd⟩ := F.ex
  refine fn_of lk hcd S len fun A outer s H vs Q E hr hsp => ?_
  obtain ⟨t, h, q⟩ := hbody cdv A outer s H vs Q E hr hsp
  exact ⟨t, h.nox, q⟩
theorem Fun.binds {x qual : Str} {st : Stmt} {f : Addr} {fd : FuncData} {ps : List Str} (F : Fun K x qual st f fd)
    (h : ∀ (kV doc pm : Value) (an : Option Addr) (cdv ct : Value) (us : List Value), us.length = ps.length → bindArgs (PySem.W.fnOf x qual (defArgs st) (defBody st) (defScope st) .none kV doc pm an cdv ct) ⟨us, []⟩ = pure (ps.zip us)) : Binds K fd ps [] := by
  obtain ⟨oc, od, kV, doc, pm, an, cdv, ct, osl, rfl, lk, hcd⟩ := F.ex
  exact .all (h kV doc pm an cdv ct)
theorem fun_mk {x qual : Str} {st : Stmt} {f : Addr} {oc : Value} {od an : Option Addr} {osl : Array (Option Value)} {kV doc pm cdv ct : Value} (l : K.lookup f = some ⟨oc, od, .func (PySem.W.fnOf x qual (defArgs st) (defBody st) (defScope st) .none kV doc pm an cdv ct), osl⟩)
    (c : PySem.W.codeIn K cdv qual = true) (k : PySem.W.keepIn K (.ref f) = true) : Fun K x qual st f (PySem.W.fnOf x qual (defArgs st) (defBody st) (defScope st) .none kV doc pm an cdv ct) := ⟨⟨oc, od, kV, doc, pm, an, cdv, ct, osl, rfl, l, c⟩, k⟩
end
theorem hu_of {A : Around} {k : Nat} (hr : Room k A) : A.units + 1 < cLine := Nat.lt_of_le_of_lt (Nat.add_le_add_left (by decide : 1 ≤ 64) _) hr.units
theorem small1000 {n : Nat} (h : n ≤ 1000) : n < sizeLine := Nat.lt_of_le_of_lt h (by decide)
section
variable {X : Cx}
theorem pv (i : Nat) {x : Str} {pos : Pos} (hN : X.N[i]? = some x := by rfl) (hv : Vis X.env.scope x := by first | exact Or.inl rfl | exact Or.inr (Or.inl rfl) | exact Or.inr (Or.inr rfl)) (hd : (x == ("__debug__" : Str)) = false := by decide)
    (hcd : (x == ("__classdict__" : Str)) = false := by decide) : PE X (.Name x pos) (tVar i) := pe_var hN hv hd hcd
end
theorem iteF {A B : Prop} (h : B) : if false = true then A else B := by
  rw [if_neg Bool.false_ne_true]
  exact h
theorem iteT {A B : Prop} (h : A) : if true = true then A else B := by
  rw [if_pos rfl]
  exact h
theorem ite2 {c A B : Prop} [Decidable c] (h1 : c → A) (h2 : ¬ c → B) : if c then A else B := by
  by_cases h : c
  · rw [if_pos h]
    exact h1 h
  · rw [if_neg h]
    exact h2 h
def Same (H H' : Hp) : Prop := ∀ b o, H b = some o → H' b = some o
theorem Same.refl (H : Hp) : Same H H := fun _ _ h => h
theorem Same.trans {H H1 H2 : Hp} (a : Same H H1) (b : Same H1 H2) : Same H H2 := fun c o h => b c o (a c o h)
theorem Same.free {H H' : Hp} (e : Same H H') {l : Addr} (h : H' l = Option.none) : H l = Option.none := by
  cases q : H l with
  | none => rfl
  | some o =>
    rw [e l o q] at h
    cases h
theorem Same.seq {K : PySem.W.Frag} {H H' : Hp} {a : Addr} {xs : List V} (e : Same H H') (h : SqL K H a xs) : SqL K H' a xs := by
  rcases h with (h | ⟨o, h⟩) | h
  · exact .inl (.inl (e _ _ h))
  · exact .inl (.inr ⟨o, e _ _ h⟩)
  · exact .inr h
section
variable {κ : Type} [DecidableEq κ]
theorem valV_in {kvs : List (κ × V)} {k : κ} {v : V} (h : valV kvs k = some v) : k ∈ kvs.map (·.1) := by
  have q : (kvs.any fun kv => decide (kv.1 = k)) = true := by
    rw [valV_any, h]
    all_goals rfl
  obtain ⟨p, hp, e⟩ := List.any_eq_true.mp q
  exact List.mem_map.mpr ⟨p, hp, of_decide_eq_true e⟩
end
theorem at_of {xs : List V} {z : Int} {j : Nat} {v : V} (e : z = (j : Int)) (h : xs[j]? = some v) : atI xs z = some v := by
  rw [e]
  exact atI_nat h
theorem Same.made {H H1 : Hp} {x dx C : Addr} (nx : H x = Option.none) (nd : H dx = Option.none) (k : ∀ b o, (upd (upd H dx (.own x)) x (.ins C dx [])) b = some o → b ≠ x → H1 b = some o) : Same H H1 := fun b o e =>
  k b o (by rw [upd_ne (ne_of_none e nx), upd_ne (ne_of_none e nd)]; exact e) (ne_of_none e nx)
end L2
set_option Elab.async false
set_option linter.all false
set_option maxRecDepth 100000
set_option maxHeartbeats 4000000
namespace L2
open PySem PySem.Spec PyProof.Rows
structure QE (X : Cx) (e : Expr) (t : TE) : Prop where
  h : PE X e t
structure QT (X : Cx) (e : Expr) (t : TT) : Prop where
  h : PT X e t
structure QW (X : Cx) (e : Expr) (t : TT) : Prop where
  h : PW X e t
structure QA (X : Cx) (e : List Expr) (t : TA) : Prop where
  h : PA X e t
structure QS (X : Cx) (e : Stmt) (t : TS) : Prop where
  h : PS X e t
structure QSs (X : Cx) (e : List Stmt) (t : TS) : Prop where
  h : PSs X e t
structure QG (X : Cx) (e : Expr) (t : TG) : Prop where
  h : PG X e t
structure QGs (X : Cx) (e : List Expr) (t : TGs) : Prop where
  h : PGs X e t
structure QI (X : Cx) (g e : Expr) (t : TI) : Prop where
  h : PI X g e t
structure QO (X : Cx) (e : Option Expr) (t : TO) : Prop where
  h : PO X e t
structure QTs (X : Cx) (e : List Expr) (t : TT) : Prop where
  h : PTs X e t
theorem QW.pt {X : Cx} {e : Expr} {t : TT} (x : QW X e t) : QT X e t := ⟨x.h.pt⟩
section
variable {X : Cx}
theorem q_pe_int {i j pos} : QE X (.Constant (.int i) j pos) (tC (.int i)) := ⟨pe_int ⟩
end
section
variable {X : Cx}
theorem q_pe_bl {b j pos} : QE X (.Constant (.bool b) j pos) (tC (.bl b)) := ⟨pe_bl ⟩
end
section
variable {X : Cx}
theorem q_pe_non {j pos} : QE X (.Constant .none j pos) (tC .non) := ⟨pe_non ⟩
end
section
variable {X : Cx}
theorem q_pe_str {x j pos} : QE X (.Constant (.str x) j pos) (tC (.str x)) := ⟨pe_str ⟩
end
section
variable {X : Cx}
theorem q_pe_glob {x : Str} {v : V} {u : Value} {pos : Pos} (hg : Gl X x) (hm : X.mg x = some u) (r : RelV v u) (hd : (x == ("__debug__" : Str)) = false := by decide) : QE X (.Name x pos) (tC v) := ⟨pe_glob (hg := hg) (hm := hm) (r := r) (hd := hd)⟩
end
section
variable {X : Cx}
theorem q_pe_bltn {x : Str} {v : V} {u : Value} {pos : Pos} (hg : Gl X x) (hm : X.mg x = none) (hv : bootBuiltins x = some u) (r : RelV v u) (hn : x ≠ "__name__" := by decide) (hd : (x == ("__debug__" : Str)) = false := by decide) : QE X (.Name x pos) (tC v) := ⟨pe_bltn (hg := hg) (hm := hm) (hv := hv) (r := r) (hn := hn) (hd := hd)⟩
end
section
variable {X : Cx}
variable {a b : Expr} {ta tb : TE} {pos : Pos}
theorem q_pt_val {e : Expr} {t : TE} (h : QE X e t) (he : ∀ whole, isTrue e X.env whole = (do let v ← whole; standAt e.pos; holding [v] (truthy v)) := by intro _; rfl) : QT X e (tB t) := ⟨pt_val (h := h.h) (he := he)⟩
end
section
variable {X : Cx}
variable {a b : Expr} {ta tb : TE} {pos : Pos}
variable {tA tB' : TT} {rest : List Expr}
theorem q_pw_or1 (ha : QT X a tA) : QW X (.BoolOp .Or [a] pos) tA := ⟨pw_or1 (ha := ha.h)⟩
end
section
variable {X : Cx}
variable {a b : Expr} {ta tb : TE} {pos : Pos}
variable {tA tB' : TT} {rest : List Expr}
theorem q_pw_or (ha : QT X a tA) (hb : QW X (.BoolOp .Or (b :: rest) pos) tB') : QW X (.BoolOp .Or (a :: b :: rest) pos) (tOr tA tB') := ⟨pw_or (ha := ha.h) (hb := hb.h)⟩
end
section
variable {X : Cx}
variable {a b : Expr} {ta tb : TE} {pos : Pos}
variable {tA tB' : TT} {rest : List Expr}
theorem q_pt_not (ha : QT X a tA) : QT X (.UnaryOp .Not a pos) (tNot tA) := ⟨pt_not (ha := ha.h)⟩
end
section
variable {X : Cx}
variable {a b : Expr} {ta tb : TE} {pos : Pos}
variable {tA tB' : TT} {rest : List Expr}
theorem q_pe_one {op} {t : TE} (h : QE X a t) : QE X (.BoolOp op [a] pos) t := ⟨pe_one (h := h.h)⟩
end
section
variable {X : Cx}
variable {a b : Expr} {ta tb : TE} {pos : Pos}
variable {tA tB' : TT} {rest : List Expr}
theorem q_pe_and (ha : QE X a ta) (hb : QE X (.BoolOp .And (b :: rest) pos) tb) : QE X (.BoolOp .And (a :: b :: rest) pos) (tAndV ta tb) := ⟨pe_and (ha := ha.h) (hb := hb.h)⟩
end
section
variable {X : Cx}
variable {a b : Expr} {ta tb : TE} {pos : Pos}
variable {tA tB' : TT} {rest : List Expr}
theorem q_pe_not (ha : QE X a ta) : QE X (.UnaryOp .Not a pos) (tNotV ta) := ⟨pe_not (ha := ha.h)⟩
end
section
variable {X : Cx} {st : Stmt} {rest : List Stmt} {t u : TS} {e : Expr} {te : TE} {pos : Pos}
theorem q_pss_nil  : QSs X [] tNext := ⟨pss_nil ⟩
end
section
variable {X : Cx} {st : Stmt} {rest : List Stmt} {t u : TS} {e : Expr} {te : TE} {pos : Pos}
theorem q_pss_cons (h1 : QS X st t) (h2 : QSs X rest u) : QSs X (st :: rest) (tSeq t u) := ⟨pss_cons (h1 := h1.h) (h2 := h2.h)⟩
end
section
variable {X : Cx} {st : Stmt} {rest : List Stmt} {t u : TS} {e : Expr} {te : TE} {pos : Pos}
theorem q_pss_one (h1 : QS X st t) : QSs X [st] t := ⟨pss_one (h1 := h1.h)⟩
end
section
variable {X : Cx} {st : Stmt} {rest : List Stmt} {t u : TS} {e : Expr} {te : TE} {pos : Pos}
theorem q_ps_expr (he : QE X e te) (hs : swapsWith e none pos.line X.env = pure false := by rfl) : QS X (.Expr e pos) (tDrop te) := ⟨ps_expr (he := he.h) (hs := hs)⟩
end
section
variable {X : Cx} {st : Stmt} {rest : List Stmt} {t u : TS} {e : Expr} {te : TE} {pos : Pos}
theorem q_ps_ret (he : QE X e te) : QS X (.Return (some e) pos) (tRet te) := ⟨ps_ret (he := he.h)⟩
end
section
variable {X : Cx} {st : Stmt} {rest : List Stmt} {t u : TS} {e : Expr} {te : TE} {pos : Pos}
theorem q_ps_if {c : Expr} {a b : List Stmt} {tc : TT} (hc : QT X c tc) (ha : QSs X a t) (hb : QSs X b u) : QS X (.If c a b pos) (tIfS tc t u) := ⟨ps_if (hc := hc.h) (ha := ha.h) (hb := hb.h)⟩
end
section
variable {X : Cx} {pos : Pos}
theorem q_pg_name {i : Nat} {x : Str} (hN : X.N.Nodup) (hi : X.N[i]? = some x) (hx : Loc X.env.scope x) (hf : X.fn x = true ∨ X.env.scope.names.lookup x = some .local := by first | exact .inl rfl | exact .inr rfl | assumption) : QG X (.Name x pos) (gName i) := ⟨pg_name (hN := hN) (hi := hi) (hx := hx) (hf := hf)⟩
end
section
variable {X : Cx} {pos : Pos}
theorem q_pgs_nil  : QGs X [] gNil := ⟨pgs_nil ⟩
end
section
variable {X : Cx} {pos : Pos}
theorem q_pgs_cons {e : Expr} {es : List Expr} {t : TG} {u : TGs} (h1 : QG X e t) (h2 : QGs X es u) (hs : (assignEach (e :: es) X.env).map (·.2) = assign e X.env :: (assignEach es X.env).map (·.2) := by rfl) : QGs X (e :: es) (gCons t u) := ⟨pgs_cons (h1 := h1.h) (h2 := h2.h) (hs := hs)⟩
end
section
variable {X : Cx} {pos : Pos}
theorem q_pg_tup {es : List Expr} {k : Nat} {t : TGs} {n : Nat} (hc : X.calm = true) (h : QGs X es t) (hn : (assignEach es X.env).length = n := by rfl) (hst : (assignEach es X.env).findIdx? (·.1) = none := by rfl) : QG X (.Tuple es k pos) (gTup X.K n t) := ⟨pg_tup (hc := hc) (h := h.h) (hn := hn) (hst := hst)⟩
end
section
variable {X : Cx} {pos : Pos}
theorem q_pg_sub {o i : Expr} {to ti : TE} {t : TSet} (ho : QE X o to) (hi : QE X i ti) (hs : PSet X t) (ha : ∀ v, assign (.Subscript o i pos) X.env v = (do
      let ov ← holding [v] (eval o X.env)
      let iv ← holding [v, ov] (eval i X.env)
      standAt pos
      holding [v, ov, iv] (setItem ov iv v)
      release [v, ov, iv] []) := by intro _; rfl) : QG X (.Subscript o i pos) (gSub to ti t) := ⟨pg_sub (ho := ho.h) (hi := hi.h) (hs := hs) (ha := ha)⟩
end
section
variable {X : Cx} {pos : Pos}
theorem q_ps_asg {tg e : Expr} {te : TE} {g : TG} (he : QE X e te) (hg : QG X tg g) (hs : swapsWithSole [tg] e pos.line X.env = pure false := by rfl) (hw : swappedStores [tg] e X.env = pure none := by rfl) (h1 : (assignEach [tg] X.env).map (·.2) = [assign tg X.env] := by rfl) : QS X (.Assign [tg] e pos) (tAsg te g) := ⟨ps_asg (he := he.h) (hg := hg.h) (hs := hs) (hw := hw) (h1 := h1)⟩
end
section
variable {X : Cx} {pos : Pos}
theorem q_ps_set {i : Nat} {x : Str} {e : Expr} {te : TE} {pos' : Pos} (hN : X.N.Nodup) (hi : X.N[i]? = some x) (hx : Loc X.env.scope x) (he : QE X e te) (hs : swapsWith e (some (.Name x pos')) pos.line X.env = pure false := by rfl) (hf : X.fn x = true ∨ X.env.scope.names.lookup x = some .local := by first | exact .inl rfl | exact .inr rfl | assumption) : QS X (.Assign [.Name x pos'] e pos) (tAsg te (gName i)) := ⟨ps_set (hN := hN) (hi := hi) (hx := hx) (he := he.h) (hs := hs) (hf := hf)⟩
end
section
variable {X : Cx} {tg : Expr}
theorem q_pi_list {l : Expr} {tl : TE} (hl : QE X l tl) : QI X tg l (iList X.K tl) := ⟨pi_list (hl := hl.h)⟩
end
section
variable {X : Cx} {tg : Expr}
theorem q_pi_tup {l : Expr} {tl : TE} (hl : QE X l tl) : QI X tg l (iTup X.K tl) := ⟨pi_tup (hl := hl.h)⟩
end
section
variable {X : Cx} {tg : Expr}
theorem q_pi_range1 {a : Expr} {ta : TA} {p pos : Pos} (hg : Gl X "range") (hm : X.mg "range" = none) (ha : QA X [a] ta) (hs : starEach [a] X.env = [(false, eval a X.env)] := by rfl) : QI X tg (.Call (.Name "range" p) [a] [] pos) (iRng1 ta) := ⟨pi_range1 (hg := hg) (hm := hm) (ha := ha.h) (hs := hs)⟩
end
section
variable {X : Cx} {tg : Expr}
theorem q_pi_range2 {a b : Expr} {ta : TA} {p pos : Pos} (hg : Gl X "range") (hm : X.mg "range" = none) (ha : QA X [a, b] ta) (hs : starEach [a, b] X.env = [(false, eval a X.env), (false, eval b X.env)] := by rfl) (hs2 : starEach [b] X.env = [(false, eval b X.env)] := by rfl) : QI X tg (.Call (.Name "range" p) [a, b] [] pos) (iRng2 ta) := ⟨pi_range2 (hg := hg) (hm := hm) (ha := ha.h) (hs := hs) (hs2 := hs2)⟩
end
section
variable {X : Cx} {tg : Expr}
theorem q_ps_for {iter : Expr} {body : List Stmt} {wi : TI} {g : TG} {tb : TS} {pos : Pos} (hp : PassesOwn (model X.prog X.w) X.A X.env X.xe) (hc : X.calm = true) (hi : QI X tg iter wi) (hg : QG X tg g) (hb : QSs X body tb) (hs : ∀ x, foldedSetIterable iter X.env x = pure x := by intro _; rfl) : QS X (.For tg iter body [] pos) (tFor wi g tb) := ⟨ps_for (hp := hp) (hc := hc) (hi := hi.h) (hg := hg.h) (hb := hb.h) (hs := hs)⟩
end
section
variable {X : Cx} {a b c : Expr} {ta tb tc : TE} {pos : Pos}
theorem q_pe_op {op : Operator} {r : R2} (ho : OpR X (binaryOp op) r) (ha : QE X a ta) (hb : QE X b tb) : QE X (.BinOp a op b pos) (tOp r ta tb) := ⟨pe_op (ho := ho) (ha := ha.h) (hb := hb.h)⟩
end
section
variable {X : Cx} {a b c : Expr} {ta tb tc : TE} {pos : Pos}
theorem q_pe_un {op : UnaryOp} {r : V → Hp → VK → Prop} (ho : UnR X (unaryOp op) r) (ha : QE X a ta) : QE X (.UnaryOp op a pos) (tUn r ta) := ⟨pe_un (ho := ho) (ha := ha.h)⟩
end
section
variable {X : Cx} {a b c : Expr} {ta tb tc : TE} {pos : Pos}
theorem q_pe_cmpR {op : CmpOp} {r : R2} (ho : OpR X (compareOp op) r) (ha : QE X a ta) (hb : QE X b tb) (hm : behindInMarks op b = false) : QE X (.Compare a [op] [b] pos) (tOp r ta tb) := ⟨pe_cmpR (ho := ho) (ha := ha.h) (hb := hb.h) (hm := hm)⟩
end
section
variable {X : Cx} {a b c : Expr} {ta tb tc : TE} {pos : Pos}
theorem q_pt_cmpR {op : CmpOp} {r : R2} (ho : OpR X (compareOp op) r) (ha : QE X a ta) (hb : QE X b tb) (hm : behindInMarks op b = false) : QT X (.Compare a [op] [b] pos) (tTest (tOp r ta tb)) := ⟨pt_cmpR (ho := ho) (ha := ha.h) (hb := hb.h) (hm := hm)⟩
end
section
variable {X : Cx} {a b c : Expr} {ta tb tc : TE} {pos : Pos}
theorem q_pe_chain {op op' : CmpOp} {r r' : R2} (ho : OpR X (compareOp op) r) (ho' : OpR X (compareOp op') r') (ha : QE X a ta) (hb : QE X b tb) (hc : QE X c tc) (hm : lastMarks [op, op'] [b, c] = false := by with_unfolding_all rfl) : QE X (.Compare a [op, op'] [b, c] pos) (tChain r r' ta tb tc) := ⟨pe_chain (ho := ho) (ho' := ho') (ha := ha.h) (hb := hb.h) (hc := hc.h) (hm := hm)⟩
end
section
variable {X : Cx} {a b c : Expr} {ta tb tc : TE} {pos : Pos}
theorem q_pt_chain {op op' : CmpOp} {r r' : R2} (ho : OpR X (compareOp op) r) (ho' : OpR X (compareOp op') r') (ha : QE X a ta) (hb : QE X b tb) (hc : QE X c tc) (hm : lastMarks [op, op'] [b, c] = false := by with_unfolding_all rfl) : QT X (.Compare a [op, op'] [b, c] pos) (tTest (tChain r r' ta tb tc)) := ⟨pt_chain (ho := ho) (ho' := ho') (ha := ha.h) (hb := hb.h) (hc := hc.h) (hm := hm)⟩
end
section
variable {X : Cx} {o e value : Expr} {f : Str} {pos pos' tpos : Pos} {ta tv : TE}
theorem q_pe_fld (he : QE X e ta) (hb : attributeBase e f X.env (eval e X.env) = eval e X.env) : QE X (.Attribute e f pos) (tFld X.K ta f) := ⟨pe_fld (he := he.h) (hb := hb)⟩
end
section
variable {X : Cx} {o e value : Expr} {f : Str} {pos pos' tpos : Pos} {ta tv : TE}
theorem q_ps_fld (ha : QE X o ta) (hv : QE X value tv) (hs : swapsWith value (some (.Attribute o f pos')) pos.line X.env = pure false) : QS X (.Assign [.Attribute o f pos'] value pos) (sFld X.K ta tv f) := ⟨ps_fld (ha := ha.h) (hv := hv.h) (hs := hs)⟩
end
section
variable {X : Cx} {e : Expr} {es : List Expr} {te : TE} {t : TA} {pos : Pos}
theorem q_pa_nil  : QA X [] tNil := ⟨pa_nil ⟩
end
section
variable {X : Cx} {e : Expr} {es : List Expr} {te : TE} {t : TA} {pos : Pos}
theorem q_pa_cons (ha : QE X e te) (hr : QA X es t) (hs : starEach (e :: es) X.env = (false, eval e X.env) :: starEach es X.env := by rfl) : QA X (e :: es) (tCons te t) := ⟨pa_cons (ha := ha.h) (hr := hr.h) (hs := hs)⟩
end
section
variable {X : Cx} {e : Expr} {es : List Expr} {te : TE} {t : TA} {pos : Pos}
theorem q_pe_tup {x1} (h : QA X es t) : QE X (.Tuple es x1 pos) (tTup t) := ⟨pe_tup (h := h.h)⟩
end
section
variable {X : Cx} {e : Expr} {es : List Expr} {te : TE} {t : TA} {pos : Pos}
theorem q_pe_lst (h : QA X es t) : QE X (.List es pos) (tLst t) := ⟨pe_lst (h := h.h)⟩
end
section
variable {X : Cx} {CX : CXT} {k : Nat} {f C : Addr} {fd : FuncData} {ps : List Str} {sp : Sp} {dvs : List V} {ds : List Value} {E : XK} {x m : Str} {p pos apos : Pos} {e o : Expr} {es : List Expr} {ta : TE} {t : TA}
theorem q_pe_call (F : FnOk X.prog X.w X.K X.mg X.base CX k f fd ps sp) (hr : Room k X.A) (hg : Gl X x) (hm : X.mg x = some (.ref f)) (hk : PySem.W.keepIn X.K (.ref f) = true) (hb : Binds X.K fd ps ds) (hd : Vals dvs ds) (hx : Passes CX X E) (ha : QA X (e :: es) t) (hdb : (x == ("__debug__" : Str)) = false := by decide) (he : starEach (e :: es) X.env = (false, eval e X.env) :: starEach es X.env := by rfl) (hpl : (backTo pos (starEach es X.env)).any (·.1) = false := by rfl) : QE X (.Call (.Name x p) (e :: es) [] pos) (tCall sp dvs E t) := ⟨pe_call (F := F) (hr := hr) (hg := hg) (hm := hm) (hk := hk) (hb := hb) (hd := hd) (hx := hx) (ha := ha.h) (hdb := hdb) (he := he) (hpl := hpl)⟩
end
section
variable {X : Cx} {CX : CXT} {k : Nat} {f C : Addr} {fd : FuncData} {ps : List Str} {sp : Sp} {dvs : List V} {ds : List Value} {E : XK} {x m : Str} {p pos apos : Pos} {e o : Expr} {es : List Expr} {ta : TE} {t : TA}
theorem q_pe_meth0 {pl : Sem Bool} (he : QE X o ta) (c : Cls X.K C) (hm : Meth X.K C m f) (F : FnOk X.prog X.w X.K X.mg X.base CX k f fd ps sp) (hr : Room k X.A) (hb : Binds X.K fd ps ds) (hd : Vals dvs ds) (hx : Passes CX X E) (ht : eval (.Call (.Attribute o m apos) [] [] pos) X.env = (do
      let ov ← eval o X.env
      standAt apos.atName
      let (f, first) ← holding [ov] (getMethod ov m pl)
      callWith pos f first (backTo pos (starEach [] X.env)) (backToKw pos (keywordEach [] X.env))) := by rfl) : QE X (.Call (.Attribute o m apos) [] [] pos) (tMeth C m sp dvs E ta tNil) := ⟨pe_meth0 (he := he.h) (c := c) (hm := hm) (F := F) (hr := hr) (hb := hb) (hd := hd) (hx := hx) (ht := ht)⟩
end
section
variable {X : Cx} {CX : CXT} {k : Nat} {f C : Addr} {fd : FuncData} {ps : List Str} {sp : Sp} {dvs : List V} {ds : List Value} {E : XK} {x m : Str} {p pos apos : Pos} {e o : Expr} {es : List Expr} {ta : TE} {t : TA}
theorem q_pe_make (M : Mk X.K C f) (F : FnOk X.prog X.w X.K X.mg X.base CX k f fd ps sp) (hr : Room (k + 1) X.A) (hg : Gl X x) (hm : X.mg x = some (.ref C)) (hb : Binds X.K fd ps ds) (hd : Vals dvs ds) (hx : Passes CX X E) (ha : QA X (e :: es) t) (hdb : (x == ("__debug__" : Str)) = false := by decide) (he : starEach (e :: es) X.env = (false, eval e X.env) :: starEach es X.env := by rfl) (hpl : (backTo pos (starEach es X.env)).any (·.1) = false := by rfl) : QE X (.Call (.Name x p) (e :: es) [] pos) (tMake C sp dvs E t) := ⟨pe_make (M := M) (F := F) (hr := hr) (hg := hg) (hm := hm) (hb := hb) (hd := hd) (hx := hx) (ha := ha.h) (hdb := hdb) (he := he) (hpl := hpl)⟩
end
section
variable {X : Cx} {x : Str} {p pos : Pos} {e : Expr} {es : List Expr} {t : TA} {id T : String} {r : List V → Hp → VK → Prop}
theorem q_pe_callB (hc : CallR X (.builtin id) r) (hg : Gl X x) (hm : X.mg x = none) (hv : bootBuiltins x = some (.builtin id)) (ha : QA X (e :: es) t) (hn : x ≠ "__name__" := by decide) (hdb : (x == ("__debug__" : Str)) = false := by decide) (he : starEach (e :: es) X.env = (false, eval e X.env) :: starEach es X.env := by rfl) (hpl : (backTo pos (starEach es X.env)).any (·.1) = false := by rfl) : QE X (.Call (.Name x p) (e :: es) [] pos) (tCB r t) := ⟨pe_callB (hc := hc) (hg := hg) (hm := hm) (hv := hv) (ha := ha.h) (hn := hn) (hdb := hdb) (he := he) (hpl := hpl)⟩
end
section
variable {X : Cx} {x : Str} {p pos : Pos} {e : Expr} {es : List Expr} {t : TA} {id T : String} {r : List V → Hp → VK → Prop}
theorem q_pe_callTy (hc : CallR X (.type T) r) (hg : Gl X x) (hm : X.mg x = none) (hv : bootBuiltins x = some (.type T)) (ha : QA X (e :: es) t) (hn : x ≠ "__name__" := by decide) (hdb : (x == ("__debug__" : Str)) = false := by decide) (he : starEach (e :: es) X.env = (false, eval e X.env) :: starEach es X.env := by rfl) (hpl : (backTo pos (starEach es X.env)).any (·.1) = false := by rfl) : QE X (.Call (.Name x p) (e :: es) [] pos) (tCB r t) := ⟨pe_callTy (hc := hc) (hg := hg) (hm := hm) (hv := hv) (ha := ha.h) (hn := hn) (hdb := hdb) (he := he) (hpl := hpl)⟩
end
section
variable {X : Cx} {e : Expr} {te : TE} {lo hi : Option Expr} {tl th : TO} {pos p2 : Pos}
theorem q_po_none  : QO X none tNoPart := ⟨po_none ⟩
end
section
variable {X : Cx} {e : Expr} {te : TE} {lo hi : Option Expr} {tl th : TO} {pos p2 : Pos}
theorem q_po_some (h : QE X e te) : QO X (some e) (tPart te) := ⟨po_some (h := h.h)⟩
end
section
variable {X : Cx} {e : Expr} {te : TE} {lo hi : Option Expr} {tl th : TO} {pos p2 : Pos}
theorem q_pe_slice {r : V → Option Int → Option Int → Hp → VK → Prop} (hr : SlR X r) (he : QE X e te) (hl : QO X lo tl) (hu : QO X hi th) : QE X (.Subscript e (.Slice lo hi none p2) pos) (tSl r te tl th) := ⟨pe_slice (hr := hr) (he := he.h) (hl := hl.h) (hu := hu.h)⟩
end
section
variable {X : Cx} {a b : Expr} {ta tb : TE} {pos : Pos}
theorem q_pe_ix {r : R2} (hr : IxR X r) (ha : QE X a ta) (hb : QE X b tb) (hs : PlainIx b) : QE X (.Subscript a b pos) (tOp r ta tb) := ⟨pe_ix (hr := hr) (ha := ha.h) (hb := hb.h) (hs := hs)⟩
end
section
variable {X : Cx} {a b : Expr} {ta tb : TE} {pos : Pos}
variable {o e : Expr} {es : List Expr} {to : TE} {t : TA} {name : Str} {apos cpos : Pos} {T id : String} {r : V → List V → Hp → VK → Prop}
theorem q_pe_bm (pa : PlainAttrs T) (slot : Slot T name id) (hty : typeOf (.builtin id) = pure (.type "method_descriptor")) (hm : MtR X id r) (ho : QE X o to) (ha : QA X (e :: es) t) (hbase : attributeBase o name X.env (eval o X.env) = eval o X.env := by rfl) (hfew : ((backTo cpos (starEach (e :: es) X.env)).all (fun x => !x.1) && (backToKw cpos (keywordEach [] X.env)).all (fun x => x.1.isSome)
      && decide ((e :: es).length + ([] : List Keyword).length + (if ([] : List Keyword).isEmpty then 0 else 1) < 30)) = true := by rfl) (hline : (apos.endLine == cpos.line) = true := by rfl) (hs : starEach (e :: es) X.env = (false, eval e X.env) :: starEach es X.env := by rfl) (hplain : (backTo cpos (starEach es X.env)).any (·.1) = false := by rfl) : QE X (.Call (.Attribute o name apos) (e :: es) [] cpos) (tBM X.K T r to t) := ⟨pe_bm (pa := pa) (slot := slot) (hty := hty) (hm := hm) (ho := ho.h) (ha := ha.h) (hbase := hbase) (hfew := hfew) (hline := hline) (hs := hs) (hplain := hplain)⟩
end
section
variable {X : Cx} {pins : List (Addr × Obj)} {σ : St} {H : Hp} {s : Shared}
theorem q_pts_nil  : QTs X [] tYes := ⟨pts_nil ⟩
end
section
variable {X : Cx} {pins : List (Addr × Obj)} {σ : St} {H : Hp} {s : Shared}
theorem q_pts_one {c : Expr} {t : TT} (h : QT X c t) : QTs X [c] t := ⟨pts_one (h := h.h)⟩
end
section
variable {X : Cx}
theorem q_pe_lc {elt tg iter : Expr} {ifs : List Expr} {scope : Scope} {own : List (Str × Nat)} {pos : Pos} {wi : TI} {g : TG} {tt : TT} {te : TE} (hc : X.calm = true) (hN : X.N.Nodup) (hi : QI X tg iter wi) (ok : BlkOk X.N X.env.scope scope own) (hg : ∀ (s : Shared) (H : Hp) (C : Addr) (cl : List (Str × Addr)) (fp : List Addr), QG (X.blk s H scope (compEnvC scope cl C X.env) fp) tg g) (ht : ∀ (s : Shared) (H : Hp) (C : Addr) (cl : List (Str × Addr)) (fp : List Addr), QTs (X.blk s H scope (compEnvC scope cl C X.env) fp) ifs tt) (he : ∀ (s : Shared) (H : Hp) (C : Addr) (cl : List (Str × Addr)) (fp : List Addr), QE (X.blk s H scope (compEnvC scope cl C X.env) fp) elt te) (hs : ∀ x, foldedSetIterable iter X.env x = pure x := by intro _; rfl) : QE X (.ListComp elt [⟨tg, iter, ifs, 0⟩] scope pos) (tLc wi g tt te (own.map (·.2))) := ⟨pe_lc (hc := hc) (hN := hN) (hi := hi.h) (ok := ok) (hg := fun _ _ _ _ _ => (hg _ _ _ _ _).h) (ht := fun _ _ _ _ _ => (ht _ _ _ _ _).h) (he := fun _ _ _ _ _ => (he _ _ _ _ _).h) (hs := hs)⟩
end
section
variable {X : Cx}
theorem q_ps_setLc {i : Nat} {y : Str} {py : Pos} {elt tg iter : Expr} {ifs : List Expr} {scope : Scope} {own : List (Str × Nat)} {pos spos : Pos} {wi : TI} {g : TG} {tt : TT} {te : TE} (hc : X.calm = true) (hN : X.N.Nodup) (hy : X.N[i]? = some y) (hyl : X.env.scope.names.lookup y = some .local) (hsw : swapsWith (.ListComp elt [⟨tg, iter, ifs, 0⟩] scope pos) (some (.Name y py)) spos.line X.env = pure true) (hi : QI X tg iter wi) (ok : BlkOk X.N X.env.scope scope own) (hg : ∀ (s : Shared) (H : Hp) (C : Addr) (cl : List (Str × Addr)) (fp : List Addr), QG (X.blk s H scope (compEnvC scope cl C X.env) fp) tg g) (ht : ∀ (s : Shared) (H : Hp) (C : Addr) (cl : List (Str × Addr)) (fp : List Addr), QTs (X.blk s H scope (compEnvC scope cl C X.env) fp) ifs tt) (he : ∀ (s : Shared) (H : Hp) (C : Addr) (cl : List (Str × Addr)) (fp : List Addr), QE (X.blk s H scope (compEnvC scope cl C X.env) fp) elt te) (hs : ∀ x, foldedSetIterable iter X.env x = pure x := by intro _; rfl) : QS X (.Assign [.Name y py] (.ListComp elt [⟨tg, iter, ifs, 0⟩] scope pos) spos) (tAsg (tLc wi g tt te (own.map (·.2))) (gName i)) := ⟨ps_setLc (hc := hc) (hN := hN) (hy := hy) (hyl := hyl) (hsw := hsw) (hi := hi.h) (ok := ok) (hg := fun _ _ _ _ _ => (hg _ _ _ _ _).h) (ht := fun _ _ _ _ _ => (ht _ _ _ _ _).h) (he := fun _ _ _ _ _ => (he _ _ _ _ _).h) (hs := hs)⟩
end
section
variable {X : Cx} {o i e value : Expr} {pos pos' tpos : Pos} {td ty tv : TE}
theorem q_ps_dput (hu : X.A.units + 1 < cLine) (ho : QE X o td) (hi : QE X i ty) (hv : QE X value tv) (hs : swapsWith value (some (.Subscript o i pos')) pos.line X.env = pure false) : QS X (.Assign [.Subscript o i pos'] value pos) (sDPut td ty tv) := ⟨ps_dput (hu := hu) (ho := ho.h) (hi := hi.h) (hv := hv.h) (hs := hs)⟩
end
section
theorem q_pi_str {X : Cx} {tg e : Expr} {te : TE} (he : QE X e te) : QI X tg e (iStr te) := ⟨pi_str (he := he.h)⟩
end
section
variable {X : Cx}
theorem q_pv (i : Nat) {x : Str} {pos : Pos} (hN : X.N[i]? = some x := by rfl) (hv : Vis X.env.scope x := by first | exact Or.inl rfl | exact Or.inr (Or.inl rfl) | exact Or.inr (Or.inr rfl)) (hd : (x == ("__debug__" : Str)) = false := by decide) (hcd : (x == ("__classdict__" : Str)) = false := by decide) : QE X (.Name x pos) (tVar i) := ⟨pv (i := i) (hN := hN) (hv := hv) (hd := hd) (hcd := hcd)⟩
end
section
variable {P : Program} {w : World} {K : PySem.W.Frag} {mg : Str → Option Value} {base : Heap}
theorem Fun.okQ {x qual : Str} {st : Stmt} {f : Addr} {fd : FuncData} {N ps : List Str} {k : Nat} {sp : Sp} (F : Fun K x qual st f fd) (S : FnScope N ps (defScope st)) (len : ∀ vs H Q E, sp vs H Q E → vs.length = ps.length)
    (hbody : ∀ (cdv : Value) (A : Around) (outer : List Env) (s : Shared) (H : Hp) (vs : List V) (Q : VK) (E : XK), Room k (A.deeper (envOfC qual (defScope st) s.heap.objs.size f cdv)) → sp vs H Q E →
      ∃ t, QSs (cxOf CX0 P w K mg base N qual (defScope st) f cdv A outer s H E).nox (defBody st) t ∧ t { nx := fun _ H' => Q .non H', rt := Q } (start N vs) H) : FnOk P w K mg base CX0 (k + 1) f fd ps sp :=
  F.ok S len fun cdv A outer s H vs Q E hr h => let ⟨t, q, r⟩ := hbody cdv A outer s H vs Q E hr h; ⟨t, q.h, r⟩
end
end L2
set_option Elab.async false
set_option linter.all false
set_option maxRecDepth 100000
set_option maxHeartbeats 4000000
namespace Ck
open PySem L2
theorem star_Constant {c k p es env} : starEach (.Constant c k p :: es) env = (false, eval (.Constant c k p) env) :: starEach es env := by rfl
theorem star_Name {c p es env} : starEach (.Name c p :: es) env = (false, eval (.Name c p) env) :: starEach es env := by rfl
theorem star_Call {c k z p es env} : starEach (.Call c k z p :: es) env = (false, eval (.Call c k z p) env) :: starEach es env := by rfl
theorem star_BinOp {a o b p es env} : starEach (.BinOp a o b p :: es) env = (false, eval (.BinOp a o b p) env) :: starEach es env := by rfl
theorem star_Compare {a o b p es env} : starEach (.Compare a o b p :: es) env = (false, eval (.Compare a o b p) env) :: starEach es env := by rfl
theorem star_UnaryOp {o v p es env} : starEach (.UnaryOp o v p :: es) env = (false, eval (.UnaryOp o v p) env) :: starEach es env := by rfl
theorem star_Subscript {a b p es env} : starEach (.Subscript a b p :: es) env = (false, eval (.Subscript a b p) env) :: starEach es env := by rfl
theorem star_Attribute {a b p es env} : starEach (.Attribute a b p :: es) env = (false, eval (.Attribute a b p) env) :: starEach es env := by rfl
theorem star_List {a p es env} : starEach (.List a p :: es) env = (false, eval (.List a p) env) :: starEach es env := by rfl
theorem star_Tuple {a k p es env} : starEach (.Tuple a k p :: es) env = (false, eval (.Tuple a k p) env) :: starEach es env := by rfl
theorem star_ListComp {a b sc p es env} : starEach (.ListComp a b sc p :: es) env = (false, eval (.ListComp a b sc p) env) :: starEach es env := by rfl
section
variable {X : Cx}
def CDivL (i j : Int) : Prop := 0 < j ∧ j.natAbs.log2 < 9000
theorem op_fdivL : OpR X (binaryOp .FloorDiv) (rI CDivL fun i j => .int (i / j)) := opI fun i j _ _ _ _ _ hc q => by
  have h1 : (0 : Int) < j := hc.1
  exact PyProof.Rows.floordiv_int (by omega) (by rw [Int.fdiv_eq_ediv_of_nonneg i (by omega)]; exact q) (.inl (PyProof.noPylong_of_log2 hc.2))
theorem call_isinst : CallR X (.builtin "isinstance") (fun xs H Q => ∃ x n t b, xs = [x, .ty n] ∧ TyOf X.K H x t ∧ PySem.W.kitOne X.K t (.type n) = some b ∧ Q (.bl b) H) := by
  intro pins s σ H xs us Q I r h
  obtain ⟨x, n, t, b, rfl, ty, e, q⟩ := h
  obtain ⟨u, u', rfl, ru, ru'⟩ := vals2 r
  cases ru'
  exact isinst_ok I ru ty e fun tk => ⟨.bl b, H, I.tok _, rfl, q⟩
theorem kit_same {K : PySem.W.Frag} {n : String} : PySem.W.kitOne K (.type n) (.type n) = some true := by
  unfold PySem.W.kitOne
  rw [if_pos (by simp)]
end
theorem lc_str {x : Str} {g : TG} {tt : TT} {te : TE} {vs : List Nat} {σ : St} {H1 : Hp} {D : Addr} {Qd : Hp → Prop} (Pv : Nat → Hp → Prop) (h0 : Pv 0 (upd H1 D (.lst [])))
    (hs : ∀ i c H, x.cps.toList[i]? = some c → Pv i H → g (.str ⟨#[c]⟩) (wipe σ vs) H fun σ2 H2 => wipe σ2 vs = wipe σ vs ∧ tt σ2 H2 fun b H3 =>
      if b = true then te σ2 H3 fun y H4 => ∃ acc, H4 D = some (.lst acc) ∧ acc.length < sizeLine ∧ Pv (i + 1) (upd H4 D (.lst (acc ++ [y]))) else Pv (i + 1) H3) (hd : ∀ H, Pv x.cps.toList.length H → Qd H) :
    ∃ W : Nat → Nat → Hp → Prop, (∃ m, W 0 m (upd H1 D (.lst []))) ∧ ∀ i m H, W i m H →
      ((Its x).stop i H ∧ Qd H) ∨ ((Its x).go i H ∧ ∃ Nx : Hp → Prop, (∀ H', Nx H' → ∃ m', m' < m ∧ W (i + 1) m' H') ∧ ∀ y H', (Its x).yld i H y H' → g y (wipe σ vs) H' fun σ2 H2 => wipe σ2 vs = wipe σ vs ∧ tt σ2 H2 fun b H3 =>
        if b = true then te σ2 H3 fun y H4 => ∃ acc, H4 D = some (.lst acc) ∧ acc.length < sizeLine ∧ Nx (upd H4 D (.lst (acc ++ [y]))) else Nx H3) := by
  refine ⟨fun i m H => m = x.cps.toList.length - i ∧ i ≤ x.cps.toList.length ∧ Pv i H, ⟨x.cps.toList.length, by simp, Nat.zero_le _, h0⟩, ?_⟩
  rintro i m H ⟨rfl, hi, p⟩
  by_cases hlt : i < x.cps.toList.length
  · refine .inr ⟨(show i < x.cps.size by simpa using hlt), Pv (i + 1), fun H' p' => ⟨x.cps.toList.length - (i + 1), by omega, rfl, hlt, p'⟩, fun y H' z => ?_⟩
    obtain ⟨e, c, hc, rfl⟩ := z
    subst e
    exact hs i c _ (by simpa using hc) p
  · have e : i = x.cps.toList.length := by omega
    subst e
    exact .inl ⟨by simp [Its], hd H p⟩
def Keep (d : Addr) (H H' : Hp) : Prop := ∀ b o, H b = some o → b ≠ d → H' b = some o
theorem Keep.refl (d : Addr) (H : Hp) : Keep d H H := fun _ _ h _ => h
theorem Keep.trans {d : Addr} {H H1 H2 : Hp} (a : Keep d H H1) (b : Keep d H1 H2) : Keep d H H2 := fun c o h n => b c o (a c o h n) n
theorem Keep.of {d : Addr} {H H' : Hp} (s : Same H H') : Keep d H H' := fun b o h _ => s b o h
def Scr (K : PySem.W.Frag) (H : Hp) (a : Addr) (ns : List Int) : Prop :=
  (∃ o, H a = some (.frz o (.lst (ns.map V.int)))) ∨ ∃ (o : Obj) (its : Array Value) (n : Nat), K.lookup a = some o ∧ o.cls = .type "list" ∧ o.dict = none ∧ o.data = .seq its n ∧ its.size ≤ sizeLine ∧ Vals (ns.map V.int) its.toList
theorem Scr.sq {K : PySem.W.Frag} {H : Hp} {a : Addr} {ns : List Int} (h : Scr K H a ns) : SqL K H a (ns.map V.int) := h.elim (fun z => .inl (.inr z)) .inr
theorem Scr.of {K : PySem.W.Frag} {H : Hp} {a : Addr} {ns : List Int} (h : SqL K H a (ns.map V.int)) (o : Only H) : Scr K H a ns := by
  rcases h with (h | h) | h
  · rcases o a with z | ⟨u, xs, z⟩
    · rw [h] at z; cases z
    · rw [h] at z; cases z
  · exact .inl h
  · exact .inr h
theorem Scr.keep {K : PySem.W.Frag} {H H' : Hp} {a d : Addr} {ns : List Int} (h : Scr K H a ns) (k : Keep d H H') (hd : ∀ o u, H d ≠ some (.frz o u)) : Scr K H' a ns := by
  rcases h with ⟨o, h⟩ | h
  · refine .inl ⟨o, k _ _ h ?_⟩
    rintro rfl
    exact hd _ _ h
  · exact .inr h
structure DrawAt (K : PySem.W.Frag) (H : Hp) (d a : Addr) (ns : List Int) : Prop where
  ex : ∃ z : Int, 0 ≤ z ∧ H d = some (.lst [.ref a, .int z])
  sc : Scr K H a ns
  len : ns.length ≤ 63
theorem DrawAt.sq {K : PySem.W.Frag} {H : Hp} {d a : Addr} {ns : List Int} (D : DrawAt K H d a ns) : SqL K H a (ns.map V.int) := D.sc.sq
theorem Scr.same {K : PySem.W.Frag} {H H' : Hp} {a : Addr} {ns : List Int} (h : Scr K H a ns) (s : Same H H') : Scr K H' a ns :=
  h.elim (fun ⟨o, z⟩ => .inl ⟨o, s _ _ z⟩) .inr
theorem DrawAt.same {K : PySem.W.Frag} {H H' : Hp} {d a : Addr} {ns : List Int} (D : DrawAt K H d a ns) (s : Same H H') : DrawAt K H' d a ns :=
  ⟨let ⟨z, h0, h⟩ := D.ex; ⟨z, h0, s _ _ h⟩, D.sc.same s, D.len⟩
theorem DrawAt.ne {K : PySem.W.Frag} {H : Hp} {d a p : Addr} {ns : List Int} (D : DrawAt K H d a ns) (h : H p = none) : p ≠ d := by
  obtain ⟨z, _, e⟩ := D.ex
  exact (ne_of_none e h).symm
theorem DrawAt.upd {K : PySem.W.Frag} {H : Hp} {d a p : Addr} {ns : List Int} {o : HO} (D : DrawAt K H d a ns) (np : p ≠ d) (hp : ∀ o u, H p ≠ some (.frz o u)) : DrawAt K (upd H p o) d a ns :=
  ⟨let ⟨z, h0, h⟩ := D.ex; ⟨z, h0, by rw [upd_ne np.symm]; exact h⟩, D.sc.keep (d := p) (fun b u e nb => by rw [upd_ne nb]; exact e) hp, D.len⟩
theorem nofrz {H : Hp} {p : Addr} {xs : List V} (h : H p = some (.lst xs)) : ∀ o u, H p ≠ some (.frz o u) := fun o u z => by rw [h] at z; cases z
theorem Keep.updNew {d L : Addr} {H H' : Hp} {o : HO} (k : Keep d H H') (hL : H L = none) : Keep d H (upd H' L o) := fun b u e nb => by
  rw [upd_ne (ne_of_none e hL)]
  exact k b u e nb
theorem same_new {H : Hp} {p : Addr} {o : HO} (h : H p = none) : Same H (upd H p o) := fun b u e => by
  rw [upd_ne (ne_of_none e h)]
  exact e
theorem dp_ints {K : PySem.W.Frag} {H : Hp} : ∀ ns : List Int, DpAll K H (ns.map V.int) (ns.map PyData.int)
  | [] => .nil
  | n :: r => .cons (.int n) (dp_ints r)
theorem dp_strs {K : PySem.W.Frag} {H : Hp} : ∀ ns : List Str, DpAll K H (ns.map V.str) (ns.map PyData.str)
  | [] => .nil
  | n :: r => .cons (.str n) (dp_strs r)
theorem lay_ints : ∀ ns : List Int, PyData.canLayAll0 (ns.map PyData.int) = true
  | [] => rfl
  | n :: r => by
    show PyData.canLayAll0 (PyData.int n :: r.map PyData.int) = true
    simp [PyData.canLayAll0, PyData.canLay0, lay_ints r]
def Okt (x : Str) : Prop := ∀ c ∈ x.cps.toList, c < 1114112
theorem Okt.ok {x : Str} (h : Okt x) : PyData.strOk x = true := by
  unfold PyData.strOk
  rw [← Array.all_toList, List.all_eq_true]
  intro c hc
  exact decide_eq_true (h c hc)
theorem lay_strs : ∀ ns : List Str, (∀ x ∈ ns, Okt x) → PyData.canLayAll0 (ns.map PyData.str) = true
  | [], _ => rfl
  | n :: r, h => by
    show PyData.canLayAll0 (PyData.str n :: r.map PyData.str) = true
    simp [PyData.canLayAll0, PyData.canLay0, lay_strs r fun x hx => h x (List.mem_cons_of_mem _ hx), (h n List.mem_cons_self).ok]
theorem shaped_ints (ns : List Int) : SeqAt.shaped (.list (ns.map PyData.int)) = true := by
  unfold SeqAt.shaped
  rw [Bool.and_eq_true_iff]
  refine ⟨by simp [PyData.canLay0, lay_ints ns], ?_⟩
  simp [PyData.depth, PyProof.Rows.depthAll_ints]
theorem shaped_strs (ns : List Str) (h : ∀ x ∈ ns, Okt x) : SeqAt.shaped (.list (ns.map PyData.str)) = true := by
  unfold SeqAt.shaped
  rw [Bool.and_eq_true_iff]
  refine ⟨by simp [PyData.canLay0, lay_strs ns h], ?_⟩
  simp [PyData.depth, PyProof.Rows.depthAll_strs']
theorem eqv_nil (xs : List PyData) : PyData.eqv (.list xs) (.list []) = xs.isEmpty := by
  cases xs <;> simp [PyData.eqv, PyData.eqvAll]
theorem Okt.append {x y : Str} (h : Okt x) (h' : Okt y) : Okt (x ++ y) := by
  intro c hc
  have e : (x ++ y).cps.toList = x.cps.toList ++ y.cps.toList := by
    show (x.cps ++ y.cps).toList = _
    simp
  rw [e] at hc
  exact (List.mem_append.mp hc).elim (h c) (h' c)
theorem len_app (x y : Str) : (x ++ y).length = x.length + y.length := by
  show (x.cps ++ y.cps).size = x.cps.size + y.cps.size
  simp
theorem len_cut (z : Str) (lo hi : Option Int) : (cutS z lo hi).length ≤ z.length := by
  show (cutS z lo hi).cps.size ≤ z.cps.size
  unfold cutS
  simp only [List.size_toArray, List.length_take, List.length_drop, Array.length_toList]
  omega
theorem Okt.cut {z : Str} (h : Okt z) (lo hi : Option Int) : Okt (cutS z lo hi) := by
  intro c hc
  unfold cutS at hc
  exact h c (List.mem_of_mem_drop (List.mem_of_mem_take hc))
theorem Okt.sign {z : Str} (h : Okt z) {c : Nat} (hc : c ∈ z.cps.toList) : Okt ⟨#[c]⟩ := by
  intro b hb
  have e : b = c := by simpa using hb
  rw [e]; exact h c hc
abbrev sgn (c : Nat) : Str := ⟨#[c]⟩
theorem at_bound {α : Type} {xs : List α} {r : Int} (h0 : 0 ≤ r) (h1 : r < xs.length) : ∃ v, atI xs r = some v ∧ v ∈ xs := by
  have hj : r.toNat < xs.length := by omega
  refine ⟨xs[r.toNat], ?_, List.getElem_mem hj⟩
  have e : ((r.toNat : Nat) : Int) = r := by omega
  exact (congrArg (atI xs) e).symm.trans (atI_nat (List.getElem?_eq_getElem hj))
theorem str_len (x : Str) : x.length = x.cps.toList.length := by
  show x.cps.size = _
  simp
theorem yes_i {σ : St} {H : Hp} {A B : Hp → Prop} (h : A H) : tYes σ H (fun b H3 => if b = true then A H3 else B H3) := by
  show (if true = true then A H else B H)
  rw [if_pos rfl]
  exact h
end Ck
set_option Elab.async false
set_option linter.all false
set_option maxRecDepth 100000
set_option maxHeartbeats 4000000
namespace L2
open PySem PySem.Spec PyProof.Rows
def CX1 (P : Program) (w : World) : CXT := fun outer H s E e s' => ∃ (ea C : Addr) (a0 : Value) (B : Heap) (H' : Hp), e = .ref ea ∧ s'.os = s.os ∧ AllBare s'.gens ∧ Un (frs outer) [] H H' s.heap s'.heap ∧ HOk P w H' B ∧
  Heap.FlyingW B outer ea (.ref C) a0 s'.heap ∧ (∀ b o, s.heap.get? b = some o → H b = none → b ∉ frs outer → B.get? b = some o) ∧ (∀ b o, s.heap.get? b = some o → b ∉ frs outer → ∃ o', B.get? b = some o') ∧ E (.ref C) none H'
section
variable {X : Cx} {pins : List (Addr × Obj)} {σ : St} {H : Hp} {s : Shared}
theorem Inv.notFrame (I : Inv X pins σ H s) (hst : X.stack = X.env :: X.outer) (hf : X.env.frame = some X.env.locals) {b : Addr} {o : Obj} (e : X.s_0.heap.get? b = some o) (n : b ∉ X.fs) : b ∉ frs X.stack := fun hm => by
  rw [hst] at hm
  unfold frs at hm
  rw [List.filterMap_cons, hf] at hm
  rcases List.mem_cons.mp hm with z | z
  · exact absurd (Nat.lt_of_lt_of_le (Heap.lt_size e) (by rw [z]; exact I.ok.above)) (Nat.lt_irrefl _)
  · exact n z
theorem frame_data {h base : Heap} {l : List Env} (F : h.FunFrames base l) {b : Addr} {o : Obj} (hb : b ∈ frs l) (e : h.get? b = some o) : ∀ vs, o.data ≠ .fields vs := by
  obtain ⟨_, o', e', d⟩ := F.mem hb
  rw [e] at e'
  cases e'
  exact d
theorem HOk.hidden {P : Program} {w : World} {h : Heap} {H : Hp} {fs : List Addr} (x : HOk P w H h) (n : ∀ b ∈ fs, H b = none) : HOk P w H (PySem.W.hideAll h fs) := fun a o e =>
  (x a o e).stay (fun b u hb q => PySem.W.hideAll_get _ q fun hm => by
    have z := n b hm
    rcases hb with rfl | hb
    · rw [z] at e; cases e
    · rw [z] at hb; cases hb) (fun _ q => q) fun _ _ q => q
theorem raise_leaves {E : XK} {ea C : Addr} {vs : List Value} {h' : Heap} {A : Around} {E' : Value → Shared → Prop} (I : Inv X pins σ H s) (hex : X.ex = []) (hst : X.stack = X.env :: X.outer) (hf : X.env.frame = some X.env.locals)
    (hx : Heap.MadeExcOf s.heap h' ea (.ref C) vs) (q : E (.ref C) none H) (hA : A.frames = some X.stack) :
    wpAny (model X.prog X.w) A (leaving X.env (.ref ea)) (fun _ s'' => CX1 X.prog X.w X.outer X.H_0 X.s_0 E (.ref ea) s'') E' { s with heap := h' } := by
  have hin : ∀ env ∈ X.stack, ∀ b, env.frame = some b → b ∈ frs X.stack := fun env he b hb => List.mem_filterMap.mpr ⟨env, he, hb⟩
  have F := I.stack
  have F2 : s.heap.FunFrames (PySem.W.hideAll s.heap (frs X.stack)) X.stack := PySem.W.funFrames_hide F hin
  have st : (PySem.W.hideAll s.heap (frs X.stack)).StaysIn s.heap := fun b o e => PySem.W.of_hideAll _ e
  have nex : ∀ b : Addr, b ∉ X.ex := fun b z => by rw [hex] at z; cases z
  have inB : ∀ b o, X.s_0.heap.get? b = some o → X.H_0 b = none → b ∉ X.fs → (PySem.W.hideAll s.heap (frs X.stack)).get? b = some o := fun b o e n nf =>
    PySem.W.hideAll_get _ (I.base.keep b o e n nf (nex b)) (I.notFrame hst hf e nf)
  have thB : ∀ b o, X.s_0.heap.get? b = some o → b ∉ X.fs → ∃ o', (PySem.W.hideAll s.heap (frs X.stack)).get? b = some o' := fun b o e nf => by
    obtain ⟨o', e'⟩ := I.base.there b o e (nex b)
    exact ⟨o', PySem.W.hideAll_get _ e' (I.notFrame hst hf e nf)⟩
  have F3 : s.heap.FunFrames (PySem.W.hideAll s.heap (frs X.stack)) (X.env :: X.outer) := by
    have z := F2
    generalize PySem.W.hideAll s.heap (frs X.stack) = BB at z ⊢
    rw [hst] at z
    exact z
  rw [hst] at hA
  refine wpAny_leaves_madeW (s := { s with heap := h' }) hA hf st F3 hx fun h'' t fl _ _ up => ?_
  have slot : ∀ b o, X.s_0.heap.get? b = some o → X.H_0 b = none → b ∈ X.fs → ∃ sl, h''.get? b = some { o with slots := sl } := fun b o e n hb => by
    obtain ⟨sl, e1⟩ := I.base.slot b o e n hb (nex b)
    have hb' : b ∈ frs X.stack := by rw [hst]; unfold frs; rw [List.filterMap_cons, hf]; exact List.mem_cons_of_mem _ hb
    obtain ⟨sl', e2⟩ := up b _ (hx.keeps _ _ e1) (frame_data F hb' e1)
    exact ⟨sl', e2⟩
  refine ⟨ea, C, _, _, H, rfl, I.os, I.bare, ⟨fun b o e n nf _ => fl.1 b o (inB b o e n nf), fun b o e n hb _ => slot b o e n hb, fun b o e n _ => I.base.free b o e n (nex b), fun b o e _ => ?_, I.base.tups, I.base.frzs, I.base.tbls⟩, I.hok.hidden I.stkFree, fl, inB, thB, q⟩
  by_cases hb : b ∈ X.fs
  · have n := I.ok.frf b hb
    obtain ⟨sl, e2⟩ := slot b o e n hb
    exact ⟨_, e2⟩
  · obtain ⟨o', e'⟩ := thB b o e hb
    exact ⟨o', fl.1 b o' e'⟩
theorem flight_leaves {E E0 : XK} {e : Value} {s' : Shared} {A : Around} {E' : Value → Shared → Prop} (I : Inv X pins σ H s) (hex : X.ex = []) (hst : X.stack = X.env :: X.outer) (hf : X.env.frame = some X.env.locals)
    (h : CX1 X.prog X.w X.stack H s E e s') (hE : ∀ c d H', E c d H' → E0 c d H') (hA : A.frames = some X.stack) :
    wpAny (model X.prog X.w) A (leaving X.env e) (fun _ s'' => CX1 X.prog X.w X.outer X.H_0 X.s_0 E0 e s'') E' s' := by
  obtain ⟨ea, C, a0, B, H', rfl, os, bare, un, okB, fl, keepB, thB, q⟩ := h
  have nex : ∀ b : Addr, b ∉ X.ex := fun b z => by rw [hex] at z; cases z
  have F := fl.2.2.1
  rw [hst] at hA fl
  refine wpAny_leaves_onW hA hf fl fun h'' fl' up => ?_
  have nfr : ∀ b o, X.s_0.heap.get? b = some o → b ∉ X.fs → b ∉ frs X.stack := fun b o e nf => I.notFrame hst hf e nf
  have inB : ∀ b o, X.s_0.heap.get? b = some o → X.H_0 b = none → b ∉ X.fs → B.get? b = some o := fun b o e n nf =>
    keepB b o (I.base.keep b o e n nf (nex b)) (I.base.free b o e n (nex b)) (nfr b o e nf)
  have thB' : ∀ b o, X.s_0.heap.get? b = some o → b ∉ X.fs → ∃ o', B.get? b = some o' := fun b o e nf => by
    obtain ⟨o1, e1⟩ := I.base.there b o e (nex b)
    exact thB b o1 e1 (nfr b o e nf)
  have slot : ∀ b o, X.s_0.heap.get? b = some o → X.H_0 b = none → b ∈ X.fs → ∃ sl, h''.get? b = some { o with slots := sl } := fun b o e n hb => by
    have hb' : b ∈ frs X.stack := by rw [hst]; unfold frs; rw [List.filterMap_cons, hf]; exact List.mem_cons_of_mem _ hb
    obtain ⟨sl, e1⟩ := I.base.slot b o e n hb (nex b)
    obtain ⟨sl1, e2⟩ := un.slot b _ e1 (I.base.free b o e n (nex b)) hb' (by simp)
    obtain ⟨sl2, e3⟩ := up b _ e2 (frame_data F hb' e2)
    exact ⟨sl2, e3⟩
  refine ⟨ea, C, a0, B, H', rfl, os.trans I.os, bare, ⟨fun b o e n nf _ => fl'.1 b o (inB b o e n nf), fun b o e n hb _ => slot b o e n hb, fun b o e n _ => ?_, fun b o e _ => ?_, fun b xs e => un.tups b xs (I.base.tups b xs e), fun b o u e => un.frzs b o u (I.base.frzs b o u e), fun b ps e => ?_⟩, okB, fl', inB, thB', hE _ _ _ q⟩
  · obtain ⟨o1, e1⟩ := I.base.there b o e (nex b)
    exact un.free b o1 e1 (I.base.free b o e n (nex b)) (by simp)
  · by_cases hb : b ∈ X.fs
    · obtain ⟨sl, e2⟩ := slot b o e (I.ok.frf b hb) hb
      exact ⟨_, e2⟩
    · obtain ⟨o', e'⟩ := thB' b o e hb
      exact ⟨o', fl'.1 b o' e'⟩
  · obtain ⟨m1, e1⟩ := I.base.tbls b ps e
    obtain ⟨m2, e2⟩ := un.tbls b _ e1
    exact ⟨m1 ++ m2, by rw [e2, Array.append_assoc]⟩
end
structure XOk (X : Cx) (E : XK) : Prop where
  ex : X.ex = []
  st : X.stack = X.env :: X.outer
  fr : X.env.frame = some X.env.locals
  calm : X.calm = true
  xe : X.xe = fun e s' => wpAny (model X.prog X.w) X.A (leaving X.env e) (fun _ s'' => CX1 X.prog X.w X.outer X.H_0 X.s_0 E e s'') (fun e' s'' => CX1 X.prog X.w X.outer X.H_0 X.s_0 E e' s'') s'
theorem passX {X : Cx} {E E0 : XK} (O : XOk X E0) (hE : ∀ c d H', E c d H' → E0 c d H') : Passes (CX1 X.prog X.w) X E := fun pins σ H s e s' I h => by
  rw [O.xe]
  exact flight_leaves I O.ex O.st O.fr h hE I.ok.frames
structure ExcCls (K : PySem.W.Frag) (C : Addr) : Prop where
  ex : PySem.W.excIn K C [.type "ValueError", .type "Exception", .type "BaseException", .type "object"] "ValueError.__new__" = true
def tRaise (E : XK) (C : Addr) (ta : TA) : TS := fun _ σ H => ta σ H fun vs H1 => vs.length ≤ sizeLine ∧ E (.ref C) none H1
theorem exc_obj {K : PySem.W.Frag} {h : Heap} {C : Addr} {bmB : List Value} {newId : String} (X : K.In h) (q : PySem.W.excIn K C bmB newId = true) :
    ∃ bm N nm q bs hdct sn sub ab col dd k0 k1 k2 k3 k5 mN, h.get? C = some (excClassObj nm q C N bs bm hdct sn sub ab col dd k0 k1 k2 k3 k5 newId) ∧ h.Ns N mN ∧ mN "__init__" = none ∧ OwnTail h bmB bm := by
  unfold PySem.W.excIn at q
  split at q
  · rename_i dd cd sl ho
    split at q
    · rename_i C' bm k0 k1 k2 k3 n k5 hm hs
      simp only [Bool.and_eq_true, beq_iff_eq, Bool.not_eq_true'] at q
      obtain ⟨⟨⟨⟨⟨rfl, rfl⟩, hdel⟩, ht⟩, hok⟩, hni⟩ := q
      obtain ⟨nm, bs, mro, ns, qn, hd, sn, sub, ab, col, del⟩ := cd
      dsimp only at hm hdel hok hni
      subst hm hdel
      have hsl : sl = #[k0, k1, k2, k3, some (.builtin n), k5] := by
        obtain ⟨l⟩ := sl
        simp only at hs
        rw [hs]
      subst hsl
      exact ⟨bm, ns, nm, qn, bs, hd, sn, sub, ab, col, dd, k0, k1, k2, k3, k5, _, X _ _ ho, .of_isNs (PySem.W.isNs_of_in X hok), PySem.W.nsMap_none_of_in X hok hni, PySem.W.tail_of_in X ht⟩
    · cases q
  · cases q
theorem ps_raise {X : Cx} {E : XK} {C : Addr} {x : Str} {np cpos pos : Pos} {e : Expr} {es : List Expr} {ta : TA} (O : XOk X E) (c : ExcCls X.K C) (hg : Gl X x) (hm : X.mg x = some (.ref C)) (ha : PA X (e :: es) ta)
    (hdb : (x == ("__debug__" : Str)) = false := by decide) (he : starEach (e :: es) X.env = (false, eval e X.env) :: starEach es X.env := by rfl) (hpl : (backTo cpos (starEach es X.env)).any (·.1) = false := by rfl) :
    PS X (.Raise (some (.Call (.Name x np) (e :: es) [] cpos)) none pos) (tRaise E C ta) := by
  intro pins s σ H D I h
  obtain ⟨tl, N, nm, q, bs, hdct, sn, sub, ab, col, dd, k0, k1, k2, k3, k5, mN, hC, hN, hni, T⟩ := exc_obj I.ok.mod.kin c.ex
  refine wpAny_Raise_call_subT (C := C) (nm := nm) (q := q) (N := N) (bs := bs) (bm := tl) (hdct := hdct) (sn := sn) (sub := sub) (ab := ab) (col := col) (dd := dd) (k0 := k0) (k1 := k1) (k2 := k2) (k3 := k3) (k5 := k5)
    F.excBase_ValueError (mN := mN) (T.hasType F.excBase_ValueError.hasBase) (I.ok.hd O.calm) (by rw [he]; show (false || (backTo cpos (starEach es X.env)).any (·.1)) = false; rw [hpl]; rfl) hni (ld_glob I hg hm ⟨rfl, ?_⟩ hdb)
  have h2 := ha cpos pins s σ H _ I h
  rw [he] at h2 ⊢
  refine Calls.evalArgs_plain (thn h2 fun us s2 ⟨vs, H1, I1, r, hl, q⟩ => ?_)
  refine ⟨rfl, by rw [← r.length]; exact hl, I1.bk _ _ hC, hN.keeps I1.bk, T.keeps I1.bk, fun h' ea hx => ?_⟩
  rw [O.xe]
  exact raise_leaves I1 O.ex O.st O.fr hx q I1.ok.frames
structure QX (X : Cx) (e : Stmt) (t : TS) : Prop where
  h : PS X e t
theorem q_ps_raise {X : Cx} {E : XK} {C : Addr} {x : Str} {np cpos pos : Pos} {e : Expr} {es : List Expr} {ta : TA} (O : XOk X E) (c : ExcCls X.K C) (hg : Gl X x) (hm : X.mg x = some (.ref C)) (ha : QA X (e :: es) ta)
    (hdb : (x == ("__debug__" : Str)) = false := by decide) (he : starEach (e :: es) X.env = (false, eval e X.env) :: starEach es X.env := by rfl) (hpl : (backTo cpos (starEach es X.env)).any (·.1) = false := by rfl) :
    QS X (.Raise (some (.Call (.Name x np) (e :: es) [] cpos)) none pos) (tRaise E C ta) := ⟨ps_raise O c hg hm ha.h hdb he hpl⟩
theorem pass1 {P : Program} {w : World} {X : Cx} : Passes (CX1 P w) X E0 := fun _ _ _ _ _ _ _ h => by
  obtain ⟨_, _, _, _, _, _, _, _, _, _, _, _, _, q⟩ := h
  exact q.elim
section
variable {P : Program} {w : World} {K : PySem.W.Frag} {mg : Str → Option Value} {base : Heap}
theorem Fun.okX {x qual : Str} {st : Stmt} {f : Addr} {fd : FuncData} {N ps : List Str} {k : Nat} {sp : Sp} (F : Fun K x qual st f fd) (S : FnScope N ps (defScope st)) (len : ∀ vs H Q E, sp vs H Q E → vs.length = ps.length)
    (hbody : ∀ (cdv : Value) (A : Around) (outer : List Env) (s : Shared) (H : Hp) (vs : List V) (Q : VK) (E : XK), Room k (A.deeper (envOfC qual (defScope st) s.heap.objs.size f cdv)) → sp vs H Q E →
      XOk (cxOf (CX1 P w) P w K mg base N qual (defScope st) f cdv A outer s H E) E →
      ∃ t, QSs (cxOf (CX1 P w) P w K mg base N qual (defScope st) f cdv A outer s H E) (defBody st) t ∧ t { nx := fun _ H' => Q .non H', rt := Q } (start N vs) H) : FnOk P w K mg base (CX1 P w) (k + 1) f fd ps sp := by
  obtain ⟨oc, od, kV, doc, pm, an, cdv, ct, osl, rfl, lk, hcd⟩ := F.ex
  refine fn_of lk hcd S len fun A outer s H vs Q E hr hsp => ?_
  obtain ⟨t, h, q⟩ := hbody cdv A outer s H vs Q E hr hsp ⟨rfl, rfl, rfl, rfl, rfl⟩
  exact ⟨t, h.h, q⟩
end
abbrev XC := Addr → St → Hp → Prop
def XS (X : Cx) (pins : List (Addr × Obj)) (EX : XC) (ex : Value) (s' : Shared) : Prop := ∃ σ H1 s1, Inv X pins σ H1 s1 ∧ CX1 X.prog X.w X.stack H1 s1 (fun c _ H' => ∃ C, c = .ref C ∧ EX C σ H') ex s'
abbrev TX := St → Hp → VK → XK → Prop
abbrev TSX := Ends → XC → St → Hp → Prop
structure QEX (X : Cx) (e : Expr) (t : TX) : Prop where
  h : ∀ (pins : List (Addr × Obj)) (s : Shared) (σ : St) (H : Hp) (Q : VK) (EX : XC), Inv X pins σ H s → t σ H Q (fun c _ H' => ∃ C, c = .ref C ∧ EX C σ H') →
    wpAny (model X.prog X.w) X.A (eval e X.env) (EP X pins σ Q) (XS X pins EX) s
structure QSX (X : Cx) (sts : List Stmt) (t : TSX) : Prop where
  h : ∀ (pins : List (Addr × Obj)) (s : Shared) (σ : St) (H : Hp) (D : Ends) (EX : XC), Inv X pins σ H s → t D EX σ H → wpAny (model X.prog X.w) X.A (execs sts X.env) (SP X pins D) (XS X pins EX) s
theorem thnX {α : Type} {t : Sem α} {Q Q' : α → Shared → Prop} {M : Model} {A : Around} {E : Value → Shared → Prop} {s : Shared} (h : wpAny M A t Q (fun _ _ => False) s) (hQ : ∀ a s, Q a s → Q' a s) : wpAny M A t Q' E s := wpAny_mono h hQ fun _ _ z => False.elim z
section
variable {X : Cx} {k : Nat} {f C : Addr} {fd : FuncData} {ps : List Str} {sp : Sp} {dvs : List V} {ds : List Value} {x m : Str} {p pos apos : Pos} {e o : Expr} {es : List Expr} {ta : TE} {t : TA}
theorem run_makeX {pins : List (Addr × Obj)} {σ : St} {H : Hp} {s : Shared} {Q : VK} {EX : XC} {us : List Value} {vs : List V} (M : Mk X.K C f) (F : FnOk X.prog X.w X.K X.mg X.base (CX1 X.prog X.w) k f fd ps sp) (hr : Room (k + 1) X.A) (hb : Binds X.K fd ps ds) (hd : Vals dvs ds)
    (I : Inv X pins σ H s) (r : Vals vs us)
    (h : ∀ x dx, H x = none → H dx = none → dx ≠ x → sp (.ref x :: (vs ++ dvs)) (upd (upd H dx (.own x)) x (.ins C dx [])) (fun v H2 => v = .non ∧ Q (.ref x) H2) (fun c _ H' => ∃ C, c = .ref C ∧ EX C σ H')) :
    wpAny (model X.prog X.w) X.A (call (.ref C) us) (EP X pins σ Q) (XS X pins EX) s := by
  have hq := h (s.heap.objs.size + 1) s.heap.objs.size (I.hok.fresh (Nat.le_succ _)) (I.hok.fresh (Nat.le_refl _)) (Nat.ne_of_lt (Nat.lt_succ_self _))
  have I2 := Inv.made (C := C) I
  have r2 : Vals (V.ref (s.heap.objs.size + 1) :: (vs ++ dvs)) (Value.ref (s.heap.objs.size + 1) :: (us ++ ds)) := .cons rfl (r.append hd)
  have hl : (Value.ref (s.heap.objs.size + 1) :: us ++ ds).length = ps.length := by
    have e := r2.length
    rw [F.len _ _ _ _ hq] at e
    exact e.symm
  refine wpAny_call (make_map (f := f) I.kIn M.makes M.init (beq_iff_eq.mp M.fn) (codeAny_mono (F.run _ X.stack _ _ ⟨Value.ref (s.heap.objs.size + 1) :: us, []⟩ (Value.ref (s.heap.objs.size + 1) :: (us ++ ds)) _ _ _ (hr.make C us [])
    (I2.env0.make C us []) (hb _ (Value.ref (s.heap.objs.size + 1) :: us) I2.kIn hl) r2 hq) fun r s' hq' => ?_))
  cases r with
  | error e => exact ⟨σ, _, _, I2, hq'⟩
  | ok fl =>
    cases fl with
    | ret u =>
      obtain ⟨v, H', I3, rv, ev, q3⟩ := I2.after hq'
      subst ev
      exact ⟨rv, ⟨V.ref (s.heap.objs.size + 1), H', I3, rfl, q3⟩⟩
    | next => exact False.elim hq'
    | brk => exact False.elim hq'
    | cont => exact False.elim hq'
def xMake (C : Addr) (sp : Sp) (dvs : List V) (t : TA) : TX := fun σ H Q E => t σ H fun vs H1 => ∀ x dx, H1 x = none → H1 dx = none → dx ≠ x →
  sp (.ref x :: (vs ++ dvs)) (upd (upd H1 dx (.own x)) x (.ins C dx [])) (fun v H2 => v = .non ∧ Q (.ref x) H2) E
theorem qx_make (M : Mk X.K C f) (F : FnOk X.prog X.w X.K X.mg X.base (CX1 X.prog X.w) k f fd ps sp) (hr : Room (k + 1) X.A) (hg : Gl X x) (hm : X.mg x = some (.ref C)) (hb : Binds X.K fd ps ds) (hd : Vals dvs ds)
    (ha : QA X.nox (e :: es) t) (hdb : (x == ("__debug__" : Str)) = false := by decide) (he : starEach (e :: es) X.env = (false, eval e X.env) :: starEach es X.env := by rfl) (hpl : (backTo pos (starEach es X.env)).any (·.1) = false := by rfl) :
    QEX X (.Call (.Name x p) (e :: es) [] pos) (xMake C sp dvs t) := by
  refine ⟨fun pins s σ H Q EX I h => ?_⟩
  refine wpAny_Call_Name_kw (ld_glob I hg hm ?_ hdb)
  refine PySem.W.callWith_K (h₀ := X.base) I.ok.mod.kin M.kp (thnX (ha.h pos pins s σ H _ (I.wish _) h) fun us s1 ⟨vs, H1, I1, r, q⟩ => ⟨I1.kIn, ?_⟩) he hpl
  exact run_makeX M F hr hb hd I1.unwish r q
end
section
variable {X : Cx} {e : Expr} {tx : TX} {pos : Pos}
theorem one_x {pins : List (Addr × Obj)} {D : Ends} {E : Value → Shared → Prop} {s : Shared} {st : Stmt} (h : wpAny (model X.prog X.w) X.A (exec st X.env) (SP X pins D) E s) : wpAny (model X.prog X.w) X.A (execs [st] X.env) (SP X pins D) E s := by
  refine wpAny_execs_cons (thn h fun f s1 q => ?_)
  cases f with
  | next => exact wpAny_execs_nil q
  | ret v => exact q
  | brk => exact q
  | cont => exact q
theorem qsx_set {i : Nat} {x : Str} {pos' : Pos} (hN : X.N.Nodup) (hi : X.N[i]? = some x) (hx : Loc X.env.scope x) (he : QEX X e tx) (hs : swapsWith e (some (.Name x pos')) pos.line X.env = pure false := by rfl) (hf : X.fn x = true ∨ X.env.scope.names.lookup x = some .local := by first | exact .inl rfl | exact .inr rfl | assumption) :
    QSX X [.Assign [.Name x pos'] e pos] (fun D EX σ H => tx σ H (fun v H1 => D.nx (σ.set i (some v)) H1) (fun c _ H' => ∃ C, c = .ref C ∧ EX C σ H')) :=
  ⟨fun pins s σ H D EX I h => one_x (wpAny_Assign_Name (thn (he.h pins s σ H _ EX I h) fun v s1 ⟨y, H1, I1, r1, q1⟩ => store_ok I1 hN hi hx r1 (fun s2 I2 => ⟨_, H1, I2, q1⟩) hf) hs)⟩
end
section
variable {X : Cx} {pins : List (Addr × Obj)} {σ : St} {H : Hp} {s : Shared}
def excAt (ea C : Addr) (h : Heap) : Prop := ∃ o vs, h.get? ea = some o ∧ o.cls = .ref C ∧ o.data = .fields vs
theorem landed {s0 s1 : Shared} {H1 H' : Hp} {B h5 : Heap} {ea C : Addr} {a0 : Value} (I0 : Inv X pins σ H1 s0) (os : s1.os = s0.os) (bare : AllBare s1.gens) (un : Un (frs X.stack) [] H1 H' s0.heap s1.heap) (okB : HOk X.prog X.w H' B)
    (keepB : ∀ b o, s0.heap.get? b = some o → H1 b = none → b ∉ frs X.stack → B.get? b = some o) (thB : ∀ b o, s0.heap.get? b = some o → b ∉ frs X.stack → ∃ o', B.get? b = some o')
    (F1 : s1.heap.FunFrames B X.stack) (fl : Heap.FlyingW B X.stack ea (.ref C) a0 h5) (up : s1.heap.UpToSlots h5) : Inv X pins σ H' { s1 with heap := h5 } := by
  have slot : ∀ b o, s0.heap.get? b = some o → H1 b = none → b ∈ frs X.stack → ∃ sl, h5.get? b = some { o with slots := sl } := fun b o e n hb => by
    obtain ⟨sl1, e2⟩ := un.slot b _ e n hb (by simp)
    obtain ⟨sl2, e3⟩ := up b _ e2 (frame_data F1 hb e2)
    exact ⟨sl2, e3⟩
  refine I0.call' (ch := []) os ⟨fun b o e n nf _ => fl.1 b o (keepB b o e n nf), fun b o e n hb _ => slot b o e n hb, un.free, fun b o e _ => ?_, un.tups, un.frzs, un.tbls⟩ (okB.kept fl.1) bare (fun _ z => nomatch z)
  by_cases hb : b ∈ frs X.stack
  · obtain ⟨sl, e2⟩ := slot b o e (I0.stkFree b hb) hb
    exact ⟨_, e2⟩
  · obtain ⟨o', e'⟩ := thB b o e hb
    exact ⟨o', fl.1 b o' e'⟩
theorem Inv.trackExc {ea C : Addr} (I : Inv X pins σ H s) (hex : X.ex = []) (n0 : X.s_0.heap.get? ea = none) (np : ∀ p ∈ X.pn ++ pins, p.1 ≠ ea) (nH : H ea = none) (x : excAt ea C s.heap) : Inv X pins σ (upd H ea (.ext (excAt ea C))) s := by
  have nex : ∀ b : Addr, b ∉ X.ex := fun b z => by rw [hex] at z; cases z
  obtain ⟨oe, vs, he, hc, hd⟩ := id x
  have nL : X.env.locals ≠ ea := fun z => by
    obtain ⟨m, ⟨o, es, ep, ho, hdd, _⟩, _⟩ := I.loc
    rw [z, he] at ho; cases ho; rw [hd] at hdd; cases hdd
  have old : ∀ b o, H b = some o → b ≠ ea := fun b o e => ne_of_none e nH
  refine ⟨I.ok, I.os, I.bare, ⟨I.base.keep, I.base.slot, fun b o e n hx => ?_, I.base.there, fun b xs e => ?_, fun b o u e => ?_, fun b ps e => ?_⟩, I.loc, I.cell, ?_, fun y c e => ?_, fun p hp => ?_, fun b o e => ?_, I.len⟩
  · rw [upd_ne (fun z => by rw [z, n0] at e; cases e)]
    exact I.base.free b o e n hx
  · have z := I.base.tups b xs e
    rw [upd_ne (old _ _ z)]; exact z
  · have z := I.base.frzs b o u e
    rw [upd_ne (old _ _ z)]; exact z
  · obtain ⟨more, z⟩ := I.base.tbls b ps e
    exact ⟨more, by rw [upd_ne (old _ _ z)]; exact z⟩
  · rw [upd_ne nL]; exact I.free
  · obtain ⟨v, o, ho, hdd⟩ := I.cell y c e
    rw [upd_ne (fun z => by rw [z, he] at ho; cases ho; rw [hd] at hdd; cases hdd)]
    exact I.freeC y c e
  · obtain ⟨e1, n, ne, nf, dd⟩ := I.pin p hp
    exact ⟨e1, by rw [upd_ne (np p hp)]; exact n, ne, nf, dd⟩
  · by_cases hb : b = ea
    · subst hb
      rw [upd_same] at e
      cases e
      refine ⟨x, ⟨oe, he⟩, fun h1 h2 ⟨o, vs, e1, c1, d1⟩ k => ⟨o, vs, k o e1, c1, d1⟩⟩
    · rw [upd_ne hb] at e
      exact (I.hok b o e).stay (fun _ _ _ q => q) (fun c q => by rw [upd_ne (old _ _ q)]; exact q) fun c xs q => by rw [upd_ne (old _ _ q)]; exact q
theorem del_ok {M : Model} {A : Around} {E : Value → Shared → Prop} {i : Nat} {x : Str} {v : V} {Q : Unit → Shared → Prop} (I : Inv X pins σ H s) (hN : X.N.Nodup) (hi : X.N[i]? = some x) (hx : X.env.scope.names.lookup x = some .local) (hv : σ[i]? = some (some v))
    (h : ∀ s', Inv X pins (σ.set i none) H s' → Q () s') : wpAny M A (unbindName X.env x) Q E s := by
  obtain ⟨m, hn, hl⟩ := id I.loc
  have hcls : (X.env.scope.kind == .class || (X.env.scope.kind == .module && X.env.locals != X.env.globals)) = false := by rw [I.ok.kind]; rfl
  have hiσ : i < σ.length := by rw [I.len]; exact (List.getElem?_eq_some_iff.mp hi).1
  have cne := I.cne
  obtain ⟨u, r, l⟩ := hl i x v hi hv (.inl hx)
  have e : m x = some u := by
    rcases l with ⟨_, e⟩ | ⟨k, _⟩
    · exact e
    · rcases k with k | k <;> rw [show X.env.kindOf x = some .local from hx] at k <;> cases k
  refine wpAny_unbindName_local hx hn e hcls fun h' u' hn' hs => ?_
  obtain ⟨oL, _, _, hoL, _⟩ := id hn
  have tracked : HOk X.prog X.w H h' := fun b ob e => by
    refine (I.hok b ob e).stay (fun c w' hc q => (hs.2 c ?_).trans q) (fun _ q => q) fun _ _ q => q
    intro z
    rw [z] at hc
    rcases hc with rfl | hc
    · rw [I.free] at e; cases e
    · rw [I.free] at hc; cases hc
  refine h _ ⟨I.ok, I.os, I.bare, ⟨fun b o e n hb hx => ?_, fun b o e n hb hx => ?_, I.base.free, fun b o e hx => ?_, I.base.tups, I.base.frzs, I.base.tbls⟩, ⟨_, hn', fun j y v' e1 e2 e3 => ?_⟩, fun y c e => ?_, I.free, I.freeC, fun p hp => ?_, tracked, by simpa using I.len⟩
  · exact (hs.2 b (Nat.ne_of_lt (Nat.lt_of_lt_of_le (Heap.lt_size e) I.ok.above))).trans (I.base.keep b o e n hb hx)
  · obtain ⟨sl, e1⟩ := I.base.slot b o e n hb hx
    exact ⟨sl, (hs.2 b (Nat.ne_of_lt (Nat.lt_of_lt_of_le (Heap.lt_size e) I.ok.above))).trans e1⟩
  · obtain ⟨o', e1⟩ := I.base.there b o e hx
    exact ⟨o', (hs.2 b (Nat.ne_of_lt (Nat.lt_of_lt_of_le (Heap.lt_size e) I.ok.above))).trans e1⟩
  · by_cases hj : j = i
    · subst hj
      rw [List.getElem?_set_self hiσ] at e2
      cases e2
    · rw [List.getElem?_set_ne (Ne.symm hj)] at e2
      obtain ⟨u', r', q⟩ := hl j y v' e1 e2 e3
      refine ⟨u', r', ?_⟩
      rcases q with ⟨k, e⟩ | ⟨k, c, e, z⟩
      · refine .inl ⟨k, ?_⟩
        have : y ≠ x := fun e => hj (nodup_ix hN e1 (e ▸ hi))
        simp [this, e]
      · exact .inr ⟨k, c, e, z.sameBut hs (cne y c e)⟩
  · obtain ⟨w', z⟩ := I.cell y c e
    exact ⟨w', z.sameBut hs (cne y c e)⟩
  · obtain ⟨e, n, ne, nf, d⟩ := I.pin p hp
    exact ⟨(hs.2 p.1 ne).trans e, n, ne, nf, d⟩
end
section
theorem ObjOk.thereO {P : Program} {w : World} {H : Hp} {h : Heap} {a : Addr} {o : HO} (x : ObjOk P w H h a o) : ∃ ob, h.get? a = some ob := by
  cases o with
  | lst xs => obtain ⟨_, _, _, _, e⟩ := x; exact ⟨_, e⟩
  | tup xs => obtain ⟨_, _, _, p⟩ := x; obtain ⟨ob, e, _⟩ := p; exact ⟨_, e⟩
  | dK kvs => obtain ⟨_, _, _, _, o, _, _, e, _⟩ := x; exact ⟨_, e⟩
  | dT kvs => obtain ⟨_, _, _, _, o, _, _, e, _⟩ := x; exact ⟨_, e⟩
  | set S n => obtain ⟨o, _, _, _, e, _⟩ := x; exact ⟨_, e⟩
  | ins C dx fs => obtain ⟨_, _, _, e, _⟩ := x; exact ⟨_, e⟩
  | own y => exact x
  | xd fs => obtain ⟨_, ⟨_, _, _, e, _⟩, _⟩ := x; exact ⟨_, e⟩
  | rng lo hi => obtain ⟨_, _, _, e⟩ := x; exact ⟨_, e⟩
  | frz ob u => obtain ⟨e, _⟩ := x; exact ⟨_, e⟩
  | tbl ps => exact ⟨_, x⟩
  | met f y => exact ⟨_, x⟩
  | ext φ => obtain ⟨_, e, _⟩ := x; exact e
abbrev Cx.hnd (X : Cx) (ea : Addr) : Cx := { X with A := X.A.mark (some (.ref ea)), calm := false, xe := fun _ _ => False }
variable {X : Cx} {pins : List (Addr × Obj)} {σ : St} {H : Hp} {s : Shared}
theorem Inv.hnd (I : Inv X pins σ H s) (ea : Addr) : Inv (X.hnd ea) pins σ H s :=
  ⟨⟨I.ok.mod, I.ok.kind, I.ok.glob, I.ok.blt, I.ok.above, I.ok.inj, I.ok.has, I.ok.cab, fun z => (by cases z), I.ok.frames, I.ok.stk, I.ok.exf, I.ok.bs, I.ok.bsz, I.ok.noex, I.ok.exfs, I.ok.funs, I.ok.frf⟩, I.os, I.bare, I.base, I.loc, I.cell, I.free, I.freeC, I.pin, I.hok, I.len⟩
theorem Inv.unhnd {ea : Addr} (I : Inv (X.hnd ea) pins σ H s) (ok : X.Ok) : Inv X pins σ H s := ⟨ok, I.os, I.bare, I.base, I.loc, I.cell, I.free, I.freeC, I.pin, I.hok, I.len⟩
def tTryAs (K : PySem.W.Frag) (Cb : Addr) (i : Nat) (tb : TSX) (th : TS) : TS := fun D σ H => tb D (fun C σ' H' => PySem.W.exmOne K (.ref C) (.ref Cb) = some true ∧
  ∀ ea, H' ea = none → th { nx := fun σ2 H2 => D.nx (σ2.set i none) H2, rt := D.rt, bk := fun σ2 H2 => D.bk (σ2.set i none) H2, ct := fun σ2 H2 => D.ct (σ2.set i none) H2 } (σ'.set i (some (.ref ea))) (upd H' ea (.ext (excAt ea C)))) σ H
theorem q_ps_tryAs {x n : Str} {Cb : Addr} {i : Nat} {body : List Stmt} {b0 : Stmt} {suite : List Stmt} {np hpos tpos : Pos} {tb : TSX} {th : TS} (hN : X.N.Nodup) (hi : X.N[i]? = some n) (hl : X.env.scope.names.lookup n = some .local)
    (hg : Gl X x) (hm : X.mg x = some (.ref Cb)) (hb : QSX X body tb) (hs : ∀ ea, QSs (X.hnd ea) (b0 :: suite) th) (hdb : (x == ("__debug__" : Str)) = false := by decide)
    (hex : X.ex = [] := by rfl) (hst : X.stack = X.env :: X.outer := by rfl) (hf : X.env.frame = some X.env.locals := by rfl) :
    QS X (.Try body [.ExceptHandler (some (.Name x np)) (some n) (b0 :: suite) hpos] [] [] tpos) (tTryAs X.K Cb i tb th) := by
  refine ⟨fun pins s σ H D I h => ?_⟩
  refine wpAny_Try_except (wpAny_mono (hb.h pins s σ H D _ I h) (fun f s1 q => ?_) fun e s1 hx => ?_)
  · cases f with
    | next => exact wpAny_execs_nil q
    | ret v => exact q
    | brk => exact q
    | cont => exact q
  obtain ⟨σ', H1, s0, I0, ea, C, a0, B, H', rfl, os, bare, un, okB, fl, keepB, thB, C', eC, hm1, hq⟩ := hx
  cases eC
  have F1 := fl.2.2.1
  have hA : X.A.frames = some (X.env :: X.outer) := by rw [← hst]; exact I.ok.frames
  have fl' : Heap.FlyingW B (X.env :: X.outer) ea (.ref C) a0 s1.heap := by rw [← hst]; exact fl
  refine wpAny_looks_onW hA hf fl' fun h4 held up4 => ?_
  refine wpAny_landsW held fun h5 fl5' up5 => ?_
  have fl5 : Heap.FlyingW B X.stack ea (.ref C) a0 h5 := by rw [hst]; exact fl5'
  have I5 : Inv X pins σ' H' { s1 with heap := h5 } := landed I0 os bare un okB keepB thB F1 fl5 (up4.trans up5)
  refine wpAny_handleBy_cons (codeAny_handlers_test (ld_glob (X := X.hnd ea) (I5.hnd ea) hg hm ?_ hdb)) (by intro q; cases q)
  have LT : PySem.W.Looks (model X.prog X.w) h5 (typeOf (.ref ea)) (.ref C) := by
    obtain ⟨ob, e1, e2⟩ := fl5.there
    exact e2 ▸ (PySem.W.Looks.ld e1).andThen .now
  refine PySem.W.exm_one I5.kIn LT hm1 _ _ _ _ (fun _ _ q => q) ?_
  refine codeAny_handlers_suite_as ?_
  refine lands_againW fl5 fun h6 fl6 up6 => ?_
  have I6 : Inv X pins σ' H' { s1 with heap := h6 } := landed I0 os bare un okB keepB thB F1 fl6 ((up4.trans up5).trans up6)
  have x6 : excAt ea C h6 := by
    obtain ⟨oe, vs, T, oT, ts, he, ⟨hc, _⟩, hd, _⟩ := fl6.2.2.2
    exact ⟨oe, vs, he, hc, hd⟩
  have nH : H' ea = none := by
    cases q : H' ea with
    | none => rfl
    | some o =>
      obtain ⟨ob, e⟩ := (okB ea o q).thereO
      rw [fl.2.1] at e; cases e
  have n0 : X.s_0.heap.get? ea = none := by
    cases q : X.s_0.heap.get? ea with
    | none => rfl
    | some o =>
      by_cases hfr : ea ∈ X.fs
      · have hfr' : ea ∈ frs X.stack := by rw [hst]; unfold frs; rw [List.filterMap_cons, hf]; exact List.mem_cons_of_mem _ hfr
        obtain ⟨oe, vs, he, hc, hd⟩ := x6
        exact absurd hd (frame_data fl6.2.2.1 hfr' he vs)
      · obtain ⟨o1, e1⟩ := I0.base.there ea o q (by rw [hex]; simp)
        obtain ⟨o2, e2⟩ := thB ea o1 e1 (I0.notFrame hst hf q hfr)
        rw [fl.2.1] at e2; cases e2
  have np : ∀ p ∈ X.pn ++ pins, p.1 ≠ ea := fun p hp z => by
    obtain ⟨e1, n1, nL, nf, _⟩ := I0.pin p hp
    have nst : p.1 ∉ frs X.stack := fun hm => by
      rcases List.mem_cons.mp (I0.stkSub _ hm) with y | y
      · exact nL y
      · exact nf y
    have e2 := keepB _ _ e1 n1 nst
    rw [z, fl.2.1] at e2; cases e2
  have I7 := I6.trackExc hex n0 np nH x6
  refine store_ok (v := V.ref ea) I7 hN hi (.inl hl) rfl (fun s8 I8 => ?_) (.inr hl)
  refine thnX ((hs ea).h pins s8 _ _ _ (I8.hnd ea) (hq ea nH)) fun f s9 q9 => ?_
  have fin : ∃ σ9 H9, Inv X pins σ9 H9 s9 ∧ ∀ s', Inv X pins (σ9.set i none) H9 s' → SP X pins D f s' := by
    cases f with
    | next => obtain ⟨σ9, H9, I9, q⟩ := q9; exact ⟨σ9, H9, I9.unhnd I.ok, fun s' I' => ⟨_, H9, I', q⟩⟩
    | brk => obtain ⟨σ9, H9, I9, q⟩ := q9; exact ⟨σ9, H9, I9.unhnd I.ok, fun s' I' => ⟨_, H9, I', q⟩⟩
    | cont => obtain ⟨σ9, H9, I9, q⟩ := q9; exact ⟨σ9, H9, I9.unhnd I.ok, fun s' I' => ⟨_, H9, I', q⟩⟩
    | ret u => obtain ⟨v, σ9, H9, I9, r, q⟩ := q9; exact ⟨σ9, H9, I9.unhnd I.ok, fun s' I' => ⟨v, _, H9, I', r, q⟩⟩
  obtain ⟨σ9, H9, I9, k9⟩ := fin
  have hiσ : i < σ9.length := by rw [I9.len]; exact (List.getElem?_eq_some_iff.mp hi).1
  refine wpAny_bind (wpAny_bindName (store_ok (v := V.non) I9 hN hi (.inl hl) rfl (fun s10 I10 => ?_) (.inr hl)))
  unfold unbindBehindTheSuite
  refine wpAny_onRaise (del_ok (v := V.non) I10 hN hi hl (List.getElem?_set_self hiσ) fun s11 I11 => k9 s11 ?_)
  rw [List.set_set] at I11
  exact I11
end
end L2
set_option Elab.async false
set_option linter.all false
set_option maxRecDepth 100000
set_option maxHeartbeats 4000000
namespace PySem
open Sem (wp)
section
variable {prog : Program} {w : World} {A : Around} {E : Value → Shared → Prop} {h : Heap} {g : Array GenState} {d : Drawn} {t : Nat} {os : OsState} {a : Addr} {o : Obj}
  {nm q : Str} {C N : Addr} {bs bm : List Value} {hdct : Bool} {sn : List Str} {sub : List Value} {ab : Bool} {col : Option Bool} {dd : Option Addr} {k0 k1 k2 k3 k5 : Option Value} {newId : String}
theorem ck_get {R : Result → Shared → Prop} (hC : h.get? C = some (excClassObj nm q C N bs bm hdct sn sub ab col dd k0 k1 k2 k3 k5 newId)) (hobj : bm.contains (.type "object") = true)
    (hx : h.get? a = some o) (hc : o.cls = .ref C) (hq : R (.ok (.ret (.ref C))) ⟨h, g, d, t, os⟩) :
    codeAny (model prog w) A (.call (.builtin "getset_descriptor.__get__") ⟨[.builtin "object.__class__", .ref a, .ref C], []⟩) R ⟨h, g, d, t, os⟩ := by
  have hT5 : (⟨h, g, d, t, os⟩ : Shared).TypeIs (.builtin "object.__class__") "getset_descriptor" := F.typeOf_object_class
  have hcB : (Value.ref C :: bm).contains (.type (".".intercalate ("object.__class__".cutAt '.').dropLast)) = true := by
    rw [F.owner_object_class, List.contains_cons, hobj]; rfl
  refine codeAny_call_builtin F.slot_gs_get.plain F.entry_gs_get (F.slot_gs_get.check _ _ _ _ _ _ _ _ hT5 (F.args_gs_get _ _ _) ?_)
  repeat (any_goals (first | assumption | (with_reducible refine wpAny_loadPart_at hx ?_; rw [hc]) | (with_reducible refine wpAny_isSubtype_exc hC ?_; rw [hcB]) | wp_step))
  refine ⟨Code.quiet_builtin _ (by decide +kernel), codeAny_builtin F.entry_object_class ?_⟩
  repeat (any_goals (first | assumption | (with_reducible refine wpAny_loadPart_at hx ?_; rw [hc]) | wp_step))
theorem ck_entry {tk : Tok} {Q : Fin → Shared → Prop} (hC : h.get? C = some (excClassObj nm q C N bs bm hdct sn sub ab col dd k0 k1 k2 k3 k5 newId)) (hobj : bm.contains (.type "object") = true)
    (L : PySem.W.Looks (model prog w) h (typeLookup (.ref C) "__class__") (some (.builtin "object.__class__"))) (hx : h.get? a = some o) (hc : o.cls = .ref C) (hq : Q (.done (.ret (.ref C))) ⟨h, g, d, t, os⟩) :
    wpAny (model prog w) A (Builtin.«object.__getattribute__» ⟨[.ref a, .str "__class__" tk], []⟩) Q E ⟨h, g, d, t, os⟩ := by
  have L' : ∀ (A : Around) (Q : Option Value → Shared → Prop) (E : Value → Shared → Prop) (g : Array GenState) (d : Drawn) (t : Nat) (os : OsState), Q (some (.builtin "object.__class__")) ⟨h, g, d, t, os⟩ → wpAny (model prog w) A (typeLookup (.ref C) "__class__") Q E ⟨h, g, d, t, os⟩ := fun A Q E g d t os hq => L A Q E ⟨h, g, d, t, os⟩ (fun _ _ e => e) hq
  have hT5 : (⟨h, g, d, t, os⟩ : Shared).TypeIs (.builtin "object.__class__") "getset_descriptor" := F.typeOf_object_class
  have f5 := F.typeOf_object_class
  have f6 := F.slot_gs_get.lookup
  have f7 := F.slot_gs_set.lookup
  repeat (any_goals (first | assumption | (with_reducible refine wpAny_loadPart_at hx ?_; rw [hc]) | with_reducible refine L' _ _ _ _ _ _ _ ?_ | wp_step))
  refine ck_get hC hobj hx hc ?_
  repeat (any_goals (first | assumption | wp_step))
theorem ck_check {M : Model} {nameV : Value} {Q : Unit → Shared → Prop} (hC : h.get? C = some (excClassObj nm q C N bs bm hdct sn sub ab col dd k0 k1 k2 k3 k5 newId)) (hbe : bm.contains (.type "BaseException") = true)
    (hx : h.get? a = some o) (hc : o.cls = .ref C) (hq : Q () ⟨h, g, d, t, os⟩) : wpAny M A (checkBuiltinCall "BaseException.__getattribute__" ⟨[.ref a, nameV], []⟩) Q E ⟨h, g, d, t, os⟩ := by
  have hk : builtinKind "BaseException.__getattribute__" = some .slot := by decide +kernel
  have hsplit : splitId "BaseException.__getattribute__" = some ("BaseException", "__getattribute__") := by decide +kernel
  have hcB : (Value.ref C :: bm).contains (.type "BaseException") = true := by rw [List.contains_cons, hbe]; rfl
  have ha := F.args_bexc_ga (.ref a) nameV
  simp only [checkBuiltinCall, hk, hsplit]
  refine wpAny_bind ?_
  · unfold isInstance
    repeat (first | (with_reducible refine wpAny_loadPart_at hx ?_; rw [hc]) | (with_reducible refine wpAny_isSubtype_exc hC ?_; rw [hcB]) | wp_step)
    exact hq
theorem ck_call {tk : Tok} {R : Result → Shared → Prop} (hC : h.get? C = some (excClassObj nm q C N bs bm hdct sn sub ab col dd k0 k1 k2 k3 k5 newId)) (hobj : bm.contains (.type "object") = true) (hbe : bm.contains (.type "BaseException") = true)
    (L : PySem.W.Looks (model prog w) h (typeLookup (.ref C) "__class__") (some (.builtin "object.__class__"))) (hx : h.get? a = some o) (hc : o.cls = .ref C) (hq : R (.ok (.ret (.ref C))) ⟨h, g, d, t, os⟩) :
    codeAny (model prog w) A (.call (.builtin "BaseException.__getattribute__") ⟨[.ref a, .str "__class__" tk], []⟩) R ⟨h, g, d, t, os⟩ :=
  codeAny_call_builtin F.attr_ValueError.ga.plain F.entry_bexc_ga (ck_check hC hbe hx hc (ck_entry hC hobj L hx hc hq))
theorem ck_by {tk : Tok} {Q : Value → Shared → Prop} (hC : h.get? C = some (excClassObj nm q C N bs bm hdct sn sub ab col dd k0 k1 k2 k3 k5 newId)) (hobj : bm.contains (.type "object") = true) (hbe : bm.contains (.type "BaseException") = true)
    (L : PySem.W.Looks (model prog w) h (typeLookup (.ref C) "__class__") (some (.builtin "object.__class__"))) (L1 : PySem.W.Looks (model prog w) h (typeLookup (.ref C) "__getattribute__") (some (.builtin "BaseException.__getattribute__")))
    (L2 : PySem.W.Looks (model prog w) h (typeLookup (.ref C) "__getattr__") none) (hx : h.get? a = some o) (hc : o.cls = .ref C) (hq : Q (.ref C) ⟨h, g, d, t, os⟩) :
    wpAny (model prog w) A (getAttrBy (.ref a) (.str "__class__" tk) false) Q E ⟨h, g, d, t, os⟩ := by
  have L1' : ∀ (A : Around) (Q : Option Value → Shared → Prop) (E : Value → Shared → Prop) (g : Array GenState) (d : Drawn) (t : Nat) (os : OsState), Q (some (.builtin "BaseException.__getattribute__")) ⟨h, g, d, t, os⟩ → wpAny (model prog w) A (typeLookup (.ref C) "__getattribute__") Q E ⟨h, g, d, t, os⟩ := fun A Q E g d t os hq => L1 A Q E ⟨h, g, d, t, os⟩ (fun _ _ e => e) hq
  have L2' : ∀ (A : Around) (Q : Option Value → Shared → Prop) (E : Value → Shared → Prop) (g : Array GenState) (d : Drawn) (t : Nat) (os : OsState), Q none ⟨h, g, d, t, os⟩ → wpAny (model prog w) A (typeLookup (.ref C) "__getattr__") Q E ⟨h, g, d, t, os⟩ := fun A Q E g d t os hq => L2 A Q E ⟨h, g, d, t, os⟩ (fun _ _ e => e) hq
  have f3 := F.attr_ValueError.ga.bind (.ref a)
  have hx2 : (Value.builtin "BaseException.__getattribute__" == Value.builtin "object.__getattribute__") = false := by decide +kernel
  have hx1 : (onTheHeap (Value.ref C) && Value.builtin "BaseException.__getattribute__" == Value.builtin "object.__getattribute__") = false := by rw [hx2]; rfl
  repeat (any_goals (first | assumption | (with_reducible refine wpAny_loadPart_at hx ?_; rw [hc]) | with_reducible refine L1' _ _ _ _ _ _ _ ?_ | with_reducible refine L2' _ _ _ _ _ _ _ ?_ | wp_step))
  refine ck_call hC hobj hbe L hx hc ?_
  repeat (any_goals (first | assumption | wp_step))
theorem ck_attr {Q : Option Value → Shared → Prop} (hC : h.get? C = some (excClassObj nm q C N bs bm hdct sn sub ab col dd k0 k1 k2 k3 k5 newId)) (hobj : bm.contains (.type "object") = true) (hbe : bm.contains (.type "BaseException") = true)
    (L : PySem.W.Looks (model prog w) h (typeLookup (.ref C) "__class__") (some (.builtin "object.__class__"))) (L1 : PySem.W.Looks (model prog w) h (typeLookup (.ref C) "__getattribute__") (some (.builtin "BaseException.__getattribute__")))
    (L2 : PySem.W.Looks (model prog w) h (typeLookup (.ref C) "__getattr__") none) (hx : h.get? a = some o) (hc : o.cls = .ref C) (hq : Q (some (.ref C)) ⟨h, g, d, t + 1, os⟩) :
    wpAny (model prog w) A (getAttr? (.ref a) "__class__") Q E ⟨h, g, d, t, os⟩ := by
  unfold getAttr? getAttrBy?
  repeat (any_goals (first | assumption | with_reducible apply ck_by hC hobj hbe L L1 L2 hx hc | wp_step))
end
end PySem
namespace L2
open PySem PySem.Spec PyProof.Rows
structure ExcI (K : PySem.W.Frag) (C : Addr) : Prop extends ExcCls K C where
  cl : PySem.W.findIn K (.ref C) "__class__" = some (some (.builtin "object.__class__"))
  ga : PySem.W.findIn K (.ref C) "__getattribute__" = some (some (.builtin "BaseException.__getattribute__"))
  gt : PySem.W.findIn K (.ref C) "__getattr__" = some none
theorem ExcCls.look {K : PySem.W.Frag} {C : Addr} (c : ExcCls K C) : ∃ o d cd sl, K.lookup C = some ⟨o, d, .cls cd, sl⟩ := by
  have q := c.ex
  unfold PySem.W.excIn at q
  split at q
  · rename_i dd cd sl ho
    exact ⟨_, _, _, _, ho⟩
  · cases q
theorem kitx_exc {K : PySem.W.Frag} {ea C : Addr} (c : ExcI K C) : PySem.W.KitX K (.ref ea) (.ref C) (excAt ea C) where
  ty := fun M h _ ⟨o, vs, e, hc, _⟩ => hc ▸ (PySem.W.Looks.ld e).andThen .now
  it := fun M h X _ => by
    obtain ⟨o, d, cd, sl, ho⟩ := c.toExcCls.look
    intro A' Q' E' s' k q
    unfold isType loadHead
    exact wpAny_bind (wpAny_loadPart (k _ _ (X _ _ ho)) (wpAny_pure q))
  ne := fun h tp dd its n sl X htp => by
    obtain ⟨o, d, cd, sl', ho⟩ := c.toExcCls.look
    refine Bool.eq_false_iff.mpr fun q => ?_
    have e : C = tp := Value.ref.inj (beq_iff_eq.mp q)
    subst e
    have z := (X _ _ ho).symm.trans htp
    cases z
  ca := fun {prog w A E Q s} X p k => by
    obtain ⟨o, vs, e, hc, _⟩ := p
    obtain ⟨tl, N, nm, q, bs, hdct, sn, sub, ab, col, dd, k0, k1, k2, k3, k5, mN, hC, hN, hni, T⟩ := exc_obj X c.ex
    obtain ⟨hh, g, d, tt, os⟩ := s
    exact ck_attr hC (T.hasType (by decide)) (T.hasType (by decide)) (PySem.W.looks_findIn X c.cl) (PySem.W.looks_findIn X c.ga) (PySem.W.looks_findIn X c.gt) e hc k
inductive TyX (K : PySem.W.Frag) (H : Hp) : V → Value → Prop where
  | of {v : V} {t : Value} : TyOf K H v t → TyX K H v t
  | exc {ea C : Addr} (e : H ea = some (.ext (excAt ea C))) (c : ExcI K C) : TyX K H (.ref ea) (.ref C)
def clsV : V → Option Value
  | .ty n => some (.type n)
  | .ref C => some (.ref C)
  | _ => none
section
variable {X : Cx}
theorem call_isinstG : CallR X (.builtin "isinstance") (fun xs H Q => ∃ x c cv t b, xs = [x, c] ∧ clsV c = some cv ∧ TyX X.K H x t ∧ PySem.W.kitOne X.K t cv = some b ∧ Q (.bl b) H) := by
  intro pins s σ H xs us Q I r h
  obtain ⟨x, c, cv, t, b, rfl, hcv, ty, e, q⟩ := h
  obtain ⟨u, u', rfl, ru, ru'⟩ := vals2 r
  have eu : u' = cv := by
    cases c with
    | ty n => cases hcv; exact ru'
    | ref C => cases hcv; exact ru'
    | _ => cases hcv
  rw [eu]
  cases ty with
  | of ty => exact isinst_ok I ru ty e fun tk => ⟨.bl b, H, I.tok _, rfl, q⟩
  | @exc ea C eH c =>
    cases (show u = Value.ref ea from ru)
    obtain ⟨hp, _, _⟩ := (show ObjOk X.prog X.w H s.heap ea (.ext (excAt ea C)) from I.hok ea _ eH)
    exact PySem.W.kia_one (kitx_exc c) I.kIn hp e (fun z => nomatch z) fun tk => ⟨.bl b, H, I.tok _, rfl, q⟩
end
end L2
set_option Elab.async false
set_option linter.all false
set_option maxRecDepth 100000
set_option maxHeartbeats 4000000
namespace PySem
namespace F
end F
section
variable {prog : Program} {w : World} {A : Around} {E : Value → Shared → Prop} {s : Shared}
def Heap.IsRvd (h : Heap) (a l : Addr) (i : Int) : Prop := ∃ o, h.get? a = some o ∧ o.cls = .type "reversed" ∧ o.data = .fields #[.ref l, rawInt i]
theorem Heap.IsRvd.typeIs {a l : Addr} {i : Int} (x : s.heap.IsRvd a l i) : s.TypeIs (.ref a) "reversed" := let ⟨o, ho, hc, _⟩ := x; ⟨o, ho, hc⟩
theorem Heap.IsRvd.at {h h' : Heap} {a l : Addr} {i : Int} (x : h.IsRvd a l i) (e : ∀ o, h.get? a = some o → h'.get? a = some o) : h'.IsRvd a l i := let ⟨o, ho, r⟩ := x; ⟨o, e _ ho, r⟩
end
end PySem
namespace L2
open PySem PySem.Spec PyProof.Rows
end L2
set_option Elab.async false
set_option linter.all false
set_option maxRecDepth 100000
set_option maxHeartbeats 4000000
namespace PySem
namespace F
end F
end PySem
namespace L2
open PySem PySem.Spec PyProof.Rows
end L2
set_option Elab.async false
set_option linter.all false
set_option maxRecDepth 100000
set_option maxHeartbeats 4000000
namespace L2
open PySem PySem.Spec PyProof.Rows
end L2
set_option Elab.async false
set_option linter.all false
set_option maxRecDepth 100000
set_option maxHeartbeats 4000000
namespace PySem
section
variable {prog : Program} {w : World} {A : Around} {E : Value → Shared → Prop} {s : Shared}
theorem nextOf_tup_item {it t : Addr} {i : Nat} {items : Array Value} {x : Value} {Q : Value → Shared → Prop} (hit : s.heap.IsTupleIter it t i) (ht : s.heap.IsTuple t items) (hx : items[i]? = some x)
    (hQ : ∀ h', h'.IsTupleIter it t (i + 1) → Heap.SameBut it s.heap h' → Q x { s with heap := h' }) : wpAny (model prog w) A (Builtin.SmallTypes.nextOf (.ref it)) Q E s := by
  obtain ⟨o, ho, hc, hd⟩ := id hit
  obtain ⟨ol, hol, _, nl, hdl⟩ := ht
  unfold Builtin.SmallTypes.nextOf
  refine wpAny_bind (wpAny_callSpecial?_slot (name := Str.ofString "__next__") hit.typeIs F.slot_tuple_iterator_next
    (wpAny_call_entry F.slot_tuple_iterator_next hit.typeIs F.entry_tuple_iterator_next ?_ (F.args_tuple_iterator_next_1 _)))
  show wpAny _ _ (field (.ref it) 0 >>= _) _ _ s
  refine wpAny_bind (wpAny_field ho hd (x := .ref t) rfl ?_)
  show wpAny _ _ (if (Value.ref t == Value.none) = true then _ else _) _ _ s
  rw [if_neg (show ¬ ((Value.ref t == Value.none) = true) from Bool.false_ne_true)]
  show wpAny _ _ (field (.ref it) 1 >>= _) _ _ s
  refine wpAny_bind (wpAny_field ho hd (x := .int i 0) rfl ?_)
  show wpAny _ _ (seqItems? (.ref t) >>= _) _ _ s
  refine wpAny_bind (wpAny_seqItems hol hdl ?_)
  simp only [Int.toNat_natCast, hx]
  refine wpAny_bind (wpAny_setField ho hd (by simp) (wpAny_pure ⟨x, rfl, wpAny_pure (hQ _ ?_ (Heap.SameBut.update ..))⟩))
  exact ⟨_, Heap.get?_update_self _ ho (Obj.isFreed_of_fields (Obj.data_mapFields hd _)), (Obj.cls_mapFields ..).trans hc, by
    rw [Obj.data_mapFields hd]; simp [rawInt]⟩
theorem nextOf_tup_end {it t : Addr} {i : Nat} {items : Array Value} {Q : Value → Shared → Prop} (hh : A.handled = none) (hit : s.heap.IsTupleIter it t i) (ht : s.heap.IsTuple t items) (hx : items[i]? = none)
    (hE : ∀ h' e, Heap.ExtBut it s.heap h' → (∃ o, h'.get? e = some o ∧ o.cls = .type "StopIteration") → E (.ref e) { s with heap := h' }) : wpAny (model prog w) A (Builtin.SmallTypes.nextOf (.ref it)) Q E s := by
  obtain ⟨o, ho, hc, hd⟩ := id hit
  obtain ⟨ol, hol, _, nl, hdl⟩ := ht
  unfold Builtin.SmallTypes.nextOf
  refine wpAny_bind (wpAny_callSpecial?_slot (name := Str.ofString "__next__") hit.typeIs F.slot_tuple_iterator_next
    (wpAny_call_entry F.slot_tuple_iterator_next hit.typeIs F.entry_tuple_iterator_next ?_ (F.args_tuple_iterator_next_1 _)))
  show wpAny _ _ (field (.ref it) 0 >>= _) _ _ s
  refine wpAny_bind (wpAny_field ho hd (x := .ref t) rfl ?_)
  show wpAny _ _ (if (Value.ref t == Value.none) = true then _ else _) _ _ s
  rw [if_neg (show ¬ ((Value.ref t == Value.none) = true) from Bool.false_ne_true)]
  show wpAny _ _ (field (.ref it) 1 >>= _) _ _ s
  refine wpAny_bind (wpAny_field ho hd (x := .int i 0) rfl ?_)
  show wpAny _ _ (seqItems? (.ref t) >>= _) _ _ s
  refine wpAny_bind (wpAny_seqItems hol hdl ?_)
  simp only [Int.toNat_natCast, hx]
  refine wpAny_bind (wpAny_rule (wpAny_bind (wpAny_setField ho hd (by simp) ?_)))
  show wpAny _ _ (newExc (.type "StopIteration") [] >>= _) _ _ _
  refine wpAny_bind ?_
  simp only [newExc, newTuple]
  refine wpAny_bind (wpAny_newObj_type ?_ (by size_fits))
  refine wpAny_bind (m := firstArgMember _ _) (wpAny_of_eq (a := Value.none) (by first | rfl | (simp only [firstArgMember]; rfl)) ?_)
  refine wpAny_newObj_type ?_ (by size_fits)
  simp only [raiseNew]
  refine wpAny_bind (wpAny_handled ?_)
  first | rw [show A.in1.handled = none from hh] | rw [hh]
  refine wpAny_bind (wpAny_pure (wpAny_throw ?_))
  refine hE _ _ (fun b ob hb e => Heap.get?_push_of_some _ (Heap.get?_push_of_some _ ((Heap.get?_update_other _ _ (Ne.symm hb)).trans e))) ⟨_, Heap.get?_push_size _ rfl, rfl⟩
theorem Draws.tup {A : Around} (hh : A.handled = none) (it l : Addr) (hne : l ≠ it) (items : Array Value) :
    Draws prog w A it [it, l] items.size (fun i v => items[i]? = some v) (fun i h => h.IsTupleIter it l i ∧ h.IsTuple l items) where
  live := fun _ _ st => let ⟨o, ho, _⟩ := st.1; ⟨o, ho⟩
  frame := fun _ _ _ st hk => ⟨st.1.at fun o e => hk it (by simp) o e, let ⟨o, ho, r⟩ := st.2; ⟨o, hk l (by simp) o ho, r⟩⟩
  item := fun i s Q E hi st hQ => by
    refine nextOf_tup_item st.1 st.2 (x := items[i]) (by simp [hi]) fun h' hit' hs' => ?_
    exact hQ _ h' s.toks (by simp [hi]) ⟨hit', let ⟨o, ho, r⟩ := st.2; ⟨o, (hs'.2 l hne).trans ho, r⟩⟩ hs'
  done := fun s Q E st hE => nextOf_tup_end hh st.1 st.2 (by simp) hE
end
end PySem
namespace L2
open PySem PySem.Spec PyProof.Rows
end L2
set_option Elab.async false
set_option linter.all false
set_option maxRecDepth 100000
set_option maxHeartbeats 4000000
namespace PySem
open PyProof.Rows (SetOf_congr setObjOf_fresh)
def Cnt (ss : List Str) (i m : Nat) : Prop := m ≤ i ∧ (m = i ↔ (ss.take i).Nodup)
theorem Cnt.zero (ss : List Str) : Cnt ss 0 0 := ⟨Nat.le_refl _, by simp⟩
theorem take_nodup {ss : List Str} {i : Nat} {x : Str} (hx : ss[i]? = some x) : (ss.take (i + 1)).Nodup ↔ (ss.take i).Nodup ∧ x ∉ ss.take i := by
  rw [List.take_succ, hx]
  show (ss.take i ++ [x]).Nodup ↔ _
  rw [List.nodup_append]
  constructor
  · intro h
    exact ⟨h.1, fun m => h.2.2 x m x (by simp) rfl⟩
  · intro h
    refine ⟨h.1, by simp, fun a ha b hb e => ?_⟩
    have : b = x := by simpa using hb
    exact h.2 (by rw [← this, ← e]; exact ha)
theorem Cnt.next {ss : List Str} {i m : Nat} {x : Str} (h : Cnt ss i m) (hx : ss[i]? = some x) : Cnt ss (i + 1) (if decide (x ∈ ss.take i) = true then m else m + 1) := by
  obtain ⟨h1, h2⟩ := h
  refine ⟨by split <;> omega, ?_⟩
  rw [take_nodup hx]
  by_cases hm : x ∈ ss.take i
  · rw [if_pos (by simpa using hm)]
    constructor
    · intro e; omega
    · intro z; exact absurd hm z.2
  · rw [if_neg (by simpa using hm)]
    constructor
    · intro e; exact ⟨h2.mp (by omega), hm⟩
    · intro z; rw [h2.mpr z.1]
end PySem
namespace L2
open PySem PySem.Spec PyProof.Rows
end L2
set_option Elab.async false
set_option linter.all false
set_option maxRecDepth 100000
set_option maxHeartbeats 4000000
namespace L2
open PySem PySem.Spec PyProof.Rows
theorem Vals.pick {xs : List V} {its : List Value} (r : Vals xs its) : ∀ js : List Nat, Vals (js.filterMap (xs[·]?)) (js.filterMap (its[·]?))
  | [] => .nil
  | j :: js => by
    have ih := Vals.pick r js
    rw [List.filterMap_cons, List.filterMap_cons]
    have hl := r.length
    cases e : its[j]? with
    | none =>
      have e' : xs[j]? = none := by
        rw [List.getElem?_eq_none_iff] at e ⊢; omega
      rw [e']; exact ih
    | some v =>
      have hj : j < xs.length := by
        have := (List.getElem?_eq_some_iff.mp e).1; omega
      rw [List.getElem?_eq_getElem hj]
      obtain ⟨u, eu, ru⟩ := r.get (List.getElem?_eq_getElem hj)
      rw [e] at eu
      cases eu
      exact .cons ru ih
section
variable {X : Cx} {K : PySem.W.Frag}
theorem op_notIn_seqK (e : X.K = K) : OpR X (compareOp .NotIn) (rIn K true) := e ▸ op_notIn_seq
theorem ix_listK (e : X.K = K) : IxR X (rIxL K) := e ▸ ix_list
theorem ix_tupK (e : X.K = K) : IxR X (rIxT K) := e ▸ ix_tup
theorem op_catTK (e : X.K = K) : OpR X (binaryOp .Add) (rCatT K) := e ▸ op_catT
theorem op_eqDK (e : X.K = K) (hu : X.A.units + 64 < cLine) : OpR X (compareOp .Eq) (rEqD K) := e ▸ op_eqD hu
theorem call_len_seqK (e : X.K = K) : CallR X (.builtin "len") (fun xs H Q => ∃ p ys, xs = [.ref p] ∧ (SqL K H p ys ∨ SqT K H p ys) ∧ Q (.int ys.length) H) := by subst e; exact call_len_seq
theorem call_isinstK (e : X.K = K) : CallR X (.builtin "isinstance") (fun xs H Q => ∃ x n t b, xs = [x, .ty n] ∧ TyOf K H x t ∧ PySem.W.kitOne K t (.type n) = some b ∧ Q (.bl b) H) := by subst e; exact Ck.call_isinst
end
end L2
set_option Elab.async false
set_option linter.all false
set_option maxRecDepth 100000
set_option maxHeartbeats 4000000
namespace Ck
open PySem L2
abbrev letters : Str := "abcdefghijklmnopqrstuvwxyz"
def madeOf (x y : Str) : Bool := decide (0 < x.length) && x.cps.toList.all fun c => decide (c ∈ y.cps.toList)
def nameOk (x : Str) : Bool := madeOf x letters && decide (x.length ≤ 8)
theorem tl_app (x y : Str) : (x ++ y).cps.toList = x.cps.toList ++ y.cps.toList := by
  show (x.cps ++ y.cps).toList = _
  simp
theorem nameOk_iff {x : Str} : nameOk x = true ↔ 0 < x.length ∧ x.length ≤ 8 ∧ ∀ c ∈ x.cps.toList, c ∈ letters.cps.toList := by
  unfold nameOk madeOf
  rw [Bool.and_eq_true, Bool.and_eq_true, decide_eq_true_eq, decide_eq_true_eq, List.all_eq_true]
  constructor
  · rintro ⟨⟨a, b⟩, c⟩
    exact ⟨a, c, fun z hz => of_decide_eq_true (b z hz)⟩
  · rintro ⟨a, c, b⟩
    exact ⟨⟨a, fun z hz => decide_eq_true (b z hz)⟩, c⟩
theorem letters_lt : ∀ c ∈ letters.cps.toList, c < 1114112 := by
  have all : letters.cps.toList.all (fun c => decide (c < 1114112)) = true := by decide +kernel
  exact fun c hc => of_decide_eq_true (List.all_eq_true.mp all c hc)
theorem nameOk.okt {x : Str} (h : nameOk x = true) : Okt x := fun c hc => letters_lt c ((nameOk_iff.mp h).2.2 c hc)
theorem inV_strs (x : Str) (ws : List Str) : inV (.str x) (ws.map V.str) = decide (x ∈ ws) := by
  unfold inV
  induction ws with
  | nil => rfl
  | cons y r ih =>
    rw [List.map_cons, List.any_cons, ih, Bool.eq_iff_iff]
    have e : eqV (V.str y) (V.str x) = (y == x) := rfl
    rw [e, Bool.or_eq_true, beq_iff_eq, decide_eq_true_eq, decide_eq_true_eq, List.mem_cons]
    constructor
    · rintro (rfl | z)
      · exact .inl rfl
      · exact .inr z
    · rintro (rfl | z)
      · exact .inl rfl
      · exact .inr z
theorem flat_strs (ws : List Str) : (ws.map V.str).all flatV = true := by
  rw [List.all_map, List.all_eq_true]
  intro x _
  rfl
theorem pigeon {α : Type} [DecidableEq α] : ∀ (l f : List α), l.Nodup → (∀ x ∈ l, x ∈ f) → l.length ≤ f.length
  | [], _, _, _ => Nat.zero_le _
  | x :: l, f, hn, h => by
    have hx := h x List.mem_cons_self
    rw [List.nodup_cons] at hn
    have ih := pigeon l (f.erase x) hn.2 fun y hy => by
      have ne : y ≠ x := fun e => hn.1 (e ▸ hy)
      exact (List.mem_erase_of_ne ne).mpr (h y (List.mem_cons_of_mem _ hy))
    rw [List.length_erase_of_mem hx] at ih
    have := List.length_pos_of_mem hx
    rw [List.length_cons]
    omega
theorem letters_nodup : letters.cps.toList.Nodup := by decide +kernel
theorem letters_len : letters.cps.toList.length = 26 := by decide +kernel
theorem free_sign (y : Str) (ws : List Str) (h : ws.length < 26) : (letters.cps.toList.filter fun c => !decide (y ++ sgn c ∈ ws)) ≠ [] := by
  intro e
  have hall : ∀ c ∈ letters.cps.toList, y ++ sgn c ∈ ws := fun c hc => by
    have z := List.filter_eq_nil_iff.mp e c hc
    simpa using z
  have hn : (letters.cps.toList.map fun c => y ++ sgn c).Nodup := by
    refine List.Pairwise.map _ ?_ letters_nodup
    intro a b ne e
    have e2 := congrArg (fun z : Str => z.cps.toList) e
    simp only [tl_app] at e2
    have e3 := List.append_cancel_left e2
    exact ne (by simpa using e3)
  have := pigeon _ ws hn fun x hx => by
    obtain ⟨c, hc, rfl⟩ := List.mem_map.mp hx
    exact hall c hc
  rw [List.length_map, letters_len] at this
  omega
theorem nameOk_cut {x : Str} {c : Nat} (h : nameOk x = true) (hc : c ∈ letters.cps.toList) : nameOk (cutS x none (some 7) ++ sgn c) = true := by
  obtain ⟨h0, h1, h2⟩ := nameOk_iff.mp h
  have hl : (cutS x none (some 7)).length ≤ 7 := by
    have e : (cutS x none (some 7)).length = (cutS x none (some 7)).cps.toList.length := str_len _
    rw [e]
    unfold cutS
    rw [List.length_take]
    have : HT.sIx x.length x.length (some 7) ≤ 7 := by
      unfold HT.sIx; dsimp only; split <;> omega
    first | omega | (show min (HT.sIx x.length x.length (some 7) - HT.sIx x.length 0 none) _ ≤ 7; omega)
  refine nameOk_iff.mpr ⟨by rw [len_app]; show 0 < _ + 1; omega, by rw [len_app]; show _ + 1 ≤ 8; omega, fun b hb => ?_⟩
  rw [tl_app] at hb
  rcases List.mem_append.mp hb with z | z
  · unfold cutS at z
    exact h2 b (List.mem_of_mem_drop (List.mem_of_mem_take z))
  · rw [show b = c by simpa using z]; exact hc
end Ck
set_option Elab.async false
set_option linter.all false
set_option maxRecDepth 100000
set_option maxHeartbeats 4000000
namespace Ck
open PySem L2
abbrev Un1 := Str × Int
structure UsAt (H : Hp) (rs : List Addr) (us : List Un1) : Prop where
  len : rs.length = us.length
  at_ : ∀ (i : Nat) (r : Addr), rs[i]? = some r → ∃ u, us[i]? = some u ∧ H r = some (.tup [.str u.1, .int u.2])
def Tups (H H' : Hp) : Prop := ∀ b xs, H b = some (.tup xs) → H' b = some (.tup xs)
theorem Tups.refl (H : Hp) : Tups H H := fun _ _ h => h
theorem Tups.trans {H H1 H2 : Hp} (a : Tups H H1) (b : Tups H1 H2) : Tups H H2 := fun c xs h => b c xs (a c xs h)
theorem Tups.same {H H' : Hp} (s : Same H H') : Tups H H' := fun b xs h => s b _ h
theorem Keep.tups {d : Addr} {H H' : Hp} {xs : List V} (k : Keep d H H') (hd : H d = some (.lst xs)) : Tups H H' := fun b ys h => k b _ h fun e => by rw [e, hd] at h; cases h
theorem DrawAt.tups {K : PySem.W.Frag} {H H' : Hp} {d a : Addr} {ns : List Int} (D : DrawAt K H d a ns) (k : Keep d H H') : Tups H H' := by
  obtain ⟨z, _, h⟩ := D.ex
  exact k.tups h
theorem Tups.upd {H : Hp} {p : Addr} {xs : List V} {o : HO} (h : H p = some (.lst xs)) : Tups H (upd H p o) := fun b ys e => by
  rw [upd_ne (fun z => by rw [z, h] at e; cases e)]
  exact e
theorem UsAt.mono {H H' : Hp} {rs : List Addr} {us : List Un1} (u : UsAt H rs us) (t : Tups H H') : UsAt H' rs us :=
  ⟨u.len, fun i r h => let ⟨x, hx, e⟩ := u.at_ i r h; ⟨x, hx, t _ _ e⟩⟩
theorem UsAt.nil (H : Hp) : UsAt H [] [] := ⟨rfl, fun i r h => by simp at h⟩
theorem UsAt.snoc {H : Hp} {rs : List Addr} {us : List Un1} {r : Addr} {n : Str} {m : Int} (u : UsAt H rs us) (h : H r = some (.tup [.str n, .int m])) : UsAt H (rs ++ [r]) (us ++ [(n, m)]) := by
  refine ⟨by rw [List.length_append, List.length_append, u.len]; rfl, fun i q hq => ?_⟩
  rw [List.getElem?_append] at hq ⊢
  by_cases hi : i < rs.length
  · rw [if_pos hi] at hq
    rw [if_pos (by rw [← u.len]; exact hi)]
    exact u.at_ i q hq
  · rw [if_neg hi] at hq
    rw [if_neg (by rw [← u.len]; exact hi), ← u.len]
    have e : i - rs.length = 0 := by
      have := (List.getElem?_eq_some_iff.mp hq).1
      simp at this; omega
    rw [e] at hq ⊢
    cases hq
    exact ⟨_, rfl, h⟩
theorem UsAt.init {H : Hp} {rs : List Addr} {us : List Un1} {r : Addr} {x : Un1} (u : UsAt H (rs ++ [r]) (us ++ [x])) : UsAt H rs us ∧ H r = some (.tup [.str x.1, .int x.2]) := by
  have l : rs.length = us.length := by have := u.len; simp at this; exact this
  refine ⟨⟨l, fun i q hq => ?_⟩, ?_⟩
  · have hi := (List.getElem?_eq_some_iff.mp hq).1
    obtain ⟨v, hv, e⟩ := u.at_ i q (by rw [List.getElem?_append_left hi]; exact hq)
    rw [List.getElem?_append_left (by omega)] at hv
    exact ⟨v, hv, e⟩
  · obtain ⟨v, hv, e⟩ := u.at_ rs.length r (by rw [List.getElem?_append_right (Nat.le_refl _)]; simp)
    rw [l, List.getElem?_append_right (Nat.le_refl _)] at hv
    simp at hv
    rw [← hv] at e; exact e
structure Good (pre : List Un1) (z : Str) : Prop where
  len : pre.length ≤ 5
  nm : ∀ u ∈ pre, nameOk u.1 = true
  nz : nameOk z = true
  many : ∀ u ∈ pre, 2 ≤ u.2 ∧ u.2 ≤ 1000
  nd : (pre.map (·.1) ++ [z]).Nodup
def Units (H : Hp) (p : Addr) (pre : List Un1) (z : Str) : Prop := ∃ (rs : List Addr) (r : Addr), H p = some (.tup (rs.map V.ref ++ [.ref r])) ∧ UsAt H rs pre ∧ H r = some (.tup [.str z, .int 1])
theorem Units.mono {H H' : Hp} {p : Addr} {pre : List Un1} {z : Str} (u : Units H p pre z) (t : Tups H H') : Units H' p pre z :=
  let ⟨rs, r, h, a, e⟩ := u; ⟨rs, r, t _ _ h, a.mono t, t _ _ e⟩
theorem Units.all {H : Hp} {p : Addr} {pre : List Un1} {z : Str} (u : Units H p pre z) : ∃ rs : List Addr, H p = some (.tup (rs.map V.ref)) ∧ UsAt H rs (pre ++ [(z, 1)]) := by
  obtain ⟨rs, r, h, a, e⟩ := u
  refine ⟨rs ++ [r], ?_, a.snoc e⟩
  rw [h, List.map_append]; rfl
theorem ref_at {rs : List Addr} {i : Nat} {x : V} (h : (rs.map V.ref)[i]? = some x) : ∃ r, rs[i]? = some r ∧ x = .ref r := by
  rw [List.getElem?_map] at h
  cases e : rs[i]? with
  | none => rw [e] at h; cases h
  | some r => rw [e] at h; cases h; exact ⟨r, rfl, rfl⟩
theorem str_at {ws : List Str} {i : Nat} {x : V} (h : (ws.map V.str)[i]? = some x) : ∃ r, ws[i]? = some r ∧ x = .str r := by
  rw [List.getElem?_map] at h
  cases e : ws[i]? with
  | none => rw [e] at h; cases h
  | some r => rw [e] at h; cases h; exact ⟨r, rfl, rfl⟩
theorem Good.names {pre : List Un1} {z : Str} (g : Good pre z) : ∀ x ∈ (pre ++ [(z, (1 : Int))]).map (·.1), nameOk x = true := by
  intro x hx
  rw [List.map_append] at hx
  rcases List.mem_append.mp hx with h | h
  · obtain ⟨u, hu, rfl⟩ := List.mem_map.mp h
    exact g.nm u hu
  · rw [show x = z by simpa using h]; exact g.nz
theorem Good.nodup {pre : List Un1} {z : Str} (g : Good pre z) : ((pre ++ [(z, (1 : Int))]).map (·.1)).Nodup := by
  rw [List.map_append]; exact g.nd
end Ck
set_option Elab.async false
set_option linter.all false
set_option maxRecDepth 100000
set_option maxHeartbeats 4000000
namespace Ck
open PySem L2
theorem kit_int_bool {K : PySem.W.Frag} : PySem.W.kitOne K (.type "int") (.type "bool") = some false := by
  unfold PySem.W.kitOne PySem.W.kitCls
  rw [if_neg (by decide)]
  dsimp only
  rw [if_pos (by decide +kernel)]
  rfl
theorem kit_bool_int {K : PySem.W.Frag} : PySem.W.kitOne K (.type "bool") (.type "int") = some true := by
  unfold PySem.W.kitOne PySem.W.kitCls
  rw [if_neg (by decide)]
  dsimp only
  rw [if_pos (by decide +kernel)]
  rfl
theorem iteN {b : Bool} {A B : Prop} (hb : b = true) (h : B) : if (!b) = true then A else B := by subst hb; exact iteF h
def pr : List Int → Int
  | [] => 1
  | m :: r => m * pr r
def sz : List Int → List Int
  | [] => [1]
  | m :: r => m * pr r :: sz r
def rest (a : Int) (ms : List Int) : Nat → Int
  | 0 => a
  | k + 1 => a % pr (ms.drop k)
end Ck
namespace L2
open PySem
end L2
set_option Elab.async false
set_option linter.all false
set_option maxRecDepth 100000
set_option maxHeartbeats 4000000
namespace L2
open PySem PySem.Spec PyProof.Rows
structure QF (X : Cx) (e : Expr) (t : St → Hp → (Str → Hp → Prop) → Prop) : Prop where
  h : ∀ (pins : List (Addr × Obj)) (s : Shared) (σ : St) (H : Hp) (Q : Str → Hp → Prop), Inv X pins σ H s → t σ H Q →
    wpAny (model X.prog X.w) X.A (eval e X.env) (fun u s' => ∃ x H' tk, Inv X pins σ H' s' ∧ u = .str x tk ∧ Q x H') X.xe s
section
variable {X : Cx} {e : Expr} {te : TE} {pos : Pos}
inductive QFs (X : Cx) : List Expr → (St → Hp → Str → (Str → Hp → Prop) → Prop) → Prop
  | nil : QFs X [] (fun _ H out Q => Q out H)
  | cons {e : Expr} {es : List Expr} {t : St → Hp → (Str → Hp → Prop) → Prop} {r : St → Hp → Str → (Str → Hp → Prop) → Prop} : QF X e t → QFs X es r → QFs X (e :: es) (fun σ H out Q => t σ H fun y H1 => (out ++ y).length ≤ sizeLine ∧ r σ H1 (out ++ y) Q)
theorem QFs.run {es : List Expr} {r : St → Hp → Str → (Str → Hp → Prop) → Prop} (h : QFs X es r) : ∀ (pins : List (Addr × Obj)) (s : Shared) (σ : St) (H : Hp) (out : Str) (Q : VK), out.length ≤ sizeLine → Inv X pins σ H s → r σ H out (fun x H' => Q (.str x) H') →
    wpAny (model X.prog X.w) X.A (joinParts out (evalEach es X.env)) (EP X pins σ Q) X.xe s := by
  induction h with
  | nil =>
    intro pins s σ H out Q hz I h
    exact joinParts_nil ⟨.str out, H, I.tok _, ⟨_, rfl⟩, h⟩ hz
  | cons he hr ih =>
    intro pins s σ H out Q hz I h
    refine joinParts_cons (wpAny_mono (he.h pins s σ H _ I h) (fun u s1 ⟨y, H1, tk, I1, eu, hz1, q⟩ => ?_) fun _ _ z => z)
    subst eu
    exact ⟨hz1, ih pins s1 σ H1 _ Q hz1 I1 q⟩
end
end L2
set_option Elab.async false
set_option linter.all false
set_option maxRecDepth 100000
set_option maxHeartbeats 4000000
namespace PySem
open Sem (wp)
def ItG (t : Bool) (h : Heap) (it l : Addr) (k : Nat) : Prop := ∃ o, h.get? it = some o ∧ o.cls = .type (cond t "tuple_iterator" "list_iterator") ∧ o.data = .fields #[.ref l, .int k 0]
def SqG (t : Bool) (h : Heap) (l : Addr) (xs : Array Value) : Prop := ∃ o, h.get? l = some o ∧ o.cls = .type (cond t "tuple" "list") ∧ ∃ n, o.data = .seq xs n
theorem ItG.at_ {t : Bool} {h h' : Heap} {it l : Addr} {k : Nat} (x : ItG t h it l k) (e : ∀ o, h.get? it = some o → h'.get? it = some o) : ItG t h' it l k := let ⟨o, ho, r⟩ := x; ⟨o, e _ ho, r⟩
theorem SqG.at_ {t : Bool} {h h' : Heap} {l : Addr} {xs : Array Value} (x : SqG t h l xs) (e : ∀ o, h.get? l = some o → h'.get? l = some o) : SqG t h' l xs := let ⟨o, ho, r⟩ := x; ⟨o, e _ ho, r⟩
end PySem
set_option Elab.async false
set_option linter.all false
set_option maxRecDepth 100000
set_option maxHeartbeats 4000000
namespace PySem
end PySem
namespace L2
open PySem PySem.Spec PyProof.Rows
end L2
set_option Elab.async false
set_option linter.all false
set_option maxRecDepth 100000
set_option maxHeartbeats 4000000
namespace L2
open PySem PySem.Spec PyProof.Rows
end L2
set_option Elab.async false
set_option linter.all false
set_option maxRecDepth 100000
set_option maxHeartbeats 4000000
namespace Ck
open PySem L2
def dig (i : Int) : Str := toString i
def wd (i : Int) (nm : Str) : Str := (dig i ++ " ") ++ nm
end Ck
set_option Elab.async false
set_option linter.all false
set_option maxRecDepth 100000
set_option maxHeartbeats 4000000
namespace L2
open PySem PySem.Spec PyProof.Rows
structure FunD (K : PySem.W.Frag) (x qual : Str) (st : Stmt) (f : Addr) (fd : FuncData) (ds : List Value) : Prop where
  ex : ∃ (oc : Value) (od : Option Addr) (kV doc pm : Value) (an : Option Addr) (cdv ct : Value) (osl : Array (Option Value)) (T : Addr) (oT : Value) (dT : Option Addr) (nT : Nat) (sT : Array (Option Value)),
    fd = PySem.W.fnOf x qual (defArgs st) (defBody st) (defScope st) (.ref T) kV doc pm an cdv ct ∧ K.lookup f = some ⟨oc, od, .func fd, osl⟩ ∧ PySem.W.codeIn K cdv qual = true ∧ K.lookup T = some ⟨oT, dT, .seq ds.toArray nT, sT⟩
  kp : PySem.W.keepIn K (.ref f) = true
section
variable {P : Program} {w : World} {K : PySem.W.Frag} {mg : Str → Option Value} {base : Heap}
theorem FunD.okQ {x qual : Str} {st : Stmt} {f : Addr} {fd : FuncData} {ds : List Value} {N ps : List Str} {k : Nat} {sp : Sp} (F : FunD K x qual st f fd ds) (S : FnScope N ps (defScope st)) (len : ∀ vs H Q E, sp vs H Q E → vs.length = ps.length)
    (hbody : ∀ (cdv : Value) (A : Around) (outer : List Env) (s : Shared) (H : Hp) (vs : List V) (Q : VK) (E : XK), Room k (A.deeper (envOfC qual (defScope st) s.heap.objs.size f cdv)) → sp vs H Q E →
      ∃ t, QSs (cxOf CX0 P w K mg base N qual (defScope st) f cdv A outer s H E).nox (defBody st) t ∧ t { nx := fun _ H' => Q .non H', rt := Q } (start N vs) H) : FnOk P w K mg base CX0 (k + 1) f fd ps sp := by
  obtain ⟨oc, od, kV, doc, pm, an, cdv, ct, osl, T, oT, dT, nT, sT, rfl, lk, hcd, _⟩ := F.ex
  refine fn_of lk hcd S len fun A outer s H vs Q E hr hsp => ?_
  obtain ⟨t, h, q⟩ := hbody cdv A outer s H vs Q E hr hsp
  exact ⟨t, h.h.nox, q⟩
theorem FunD.okX {x qual : Str} {st : Stmt} {f : Addr} {fd : FuncData} {ds : List Value} {N ps : List Str} {k : Nat} {sp : Sp} (F : FunD K x qual st f fd ds) (S : FnScope N ps (defScope st)) (len : ∀ vs H Q E, sp vs H Q E → vs.length = ps.length)
    (hbody : ∀ (cdv : Value) (A : Around) (outer : List Env) (s : Shared) (H : Hp) (vs : List V) (Q : VK) (E : XK), Room k (A.deeper (envOfC qual (defScope st) s.heap.objs.size f cdv)) → sp vs H Q E →
      XOk (cxOf (CX1 P w) P w K mg base N qual (defScope st) f cdv A outer s H E) E →
      ∃ t, QSs (cxOf (CX1 P w) P w K mg base N qual (defScope st) f cdv A outer s H E) (defBody st) t ∧ t { nx := fun _ H' => Q .non H', rt := Q } (start N vs) H) : FnOk P w K mg base (CX1 P w) (k + 1) f fd ps sp := by
  obtain ⟨oc, od, kV, doc, pm, an, cdv, ct, osl, T, oT, dT, nT, sT, rfl, lk, hcd, _⟩ := F.ex
  refine fn_of lk hcd S len fun A outer s H vs Q E hr hsp => ?_
  obtain ⟨t, h, q⟩ := hbody cdv A outer s H vs Q E hr hsp ⟨rfl, rfl, rfl, rfl, rfl⟩
  exact ⟨t, h.h, q⟩
theorem FunD.binds {x qual : Str} {st : Stmt} {f : Addr} {fd : FuncData} {ds : List Value} {ps : List Str} (F : FunD K x qual st f fd ds)
    (h : ∀ (T : Addr) (kV doc pm : Value) (an : Option Addr) (cdv ct : Value) (us : List Value), us.length = ps.length →
      ∃ k, bindArgs (PySem.W.fnOf x qual (defArgs st) (defBody st) (defScope st) (.ref T) kV doc pm an cdv ct) ⟨us, []⟩ = seqItems? (.ref T) >>= k ∧ k (some ds.toArray) = pure (ps.zip us)) : Binds K fd ps [] := by
  obtain ⟨oc, od, kV, doc, pm, an, cdv, ct, osl, T, oT, dT, nT, sT, rfl, lk, hcd, lT⟩ := F.ex
  intro s us X hl
  rw [List.append_nil] at hl ⊢
  obtain ⟨k, h1, h2⟩ := h T kV doc pm an cdv ct us hl
  exact BindsTo.of_defaults (T := T) rfl (X _ _ lT) rfl h1 h2
end
end L2
set_option Elab.async false
set_option linter.all false
set_option maxRecDepth 100000
set_option maxHeartbeats 4000000
namespace Ck
open PySem L2
theorem cut_take {xs : List V} {m : Int} (h : 0 ≤ m) : cutV xs none (some m) = xs.take m.toNat := by
  unfold cutV
  have e1 : HT.sIx xs.length 0 none = 0 := rfl
  have e2 : HT.sIx xs.length xs.length (some m) = min m.toNat xs.length := by
    unfold HT.sIx
    dsimp only
    rw [if_neg (by omega)]
  rw [e1, e2, Nat.sub_zero, List.drop_zero]
  rw [← List.take_take, List.take_length]
abbrev CRow := Str × Str × Int × Int
def rowVs (r : CRow) : List V := [.str r.1, .str r.2.1, .int r.2.2.1, .int r.2.2.2]
structure RowsAt (H : Hp) (rs : List Addr) (rows : List CRow) : Prop where
  len : rs.length = rows.length
  at_ : ∀ (i : Nat) (r : Addr), rs[i]? = some r → ∃ u, rows[i]? = some u ∧ H r = some (.tup (rowVs u))
theorem RowsAt.mono {H H' : Hp} {rs : List Addr} {rows : List CRow} (u : RowsAt H rs rows) (t : Tups H H') : RowsAt H' rs rows :=
  ⟨u.len, fun i r h => let ⟨x, hx, e⟩ := u.at_ i r h; ⟨x, hx, t _ _ e⟩⟩
theorem RowsAt.nil (H : Hp) : RowsAt H [] [] := ⟨rfl, fun i r h => by simp at h⟩
theorem RowsAt.snoc {H : Hp} {rs : List Addr} {rows : List CRow} {r : Addr} {x : CRow} (u : RowsAt H rs rows) (h : H r = some (.tup (rowVs x))) : RowsAt H (rs ++ [r]) (rows ++ [x]) := by
  refine ⟨by rw [List.length_append, List.length_append, u.len]; rfl, fun i q hq => ?_⟩
  rw [List.getElem?_append] at hq ⊢
  by_cases hi : i < rs.length
  · rw [if_pos hi] at hq
    rw [if_pos (by rw [← u.len]; exact hi)]
    exact u.at_ i q hq
  · rw [if_neg hi] at hq
    rw [if_neg (by rw [← u.len]; exact hi), ← u.len]
    have e : i - rs.length = 0 := by
      have := (List.getElem?_eq_some_iff.mp hq).1
      simp at this; omega
    rw [e] at hq ⊢
    cases hq
    exact ⟨_, rfl, h⟩
theorem RowsAt.take {H : Hp} {rs : List Addr} {rows : List CRow} (u : RowsAt H rs rows) (n : Nat) : RowsAt H (rs.take n) (rows.take n) := by
  refine ⟨by rw [List.length_take, List.length_take, u.len], fun i q hq => ?_⟩
  rw [List.getElem?_take] at hq ⊢
  by_cases hi : i < n
  · rw [if_pos hi] at hq ⊢
    exact u.at_ i q hq
  · rw [if_neg hi] at hq
    cases hq
def lastFor (rows : List CRow) (t k : Str) (d : Int) : Option Int := rows.foldl (fun acc r => if r.1 = t ∧ r.2.1 = k ∧ r.2.2.1 = d then some r.2.2.2 else acc) none
theorem lastFor_snoc (rows : List CRow) (r : CRow) (t k : Str) (d : Int) : lastFor (rows ++ [r]) t k d = if r.1 = t ∧ r.2.1 = k ∧ r.2.2.1 = d then some r.2.2.2 else lastFor rows t k d := by
  unfold lastFor
  rw [List.foldl_append]
  rfl
structure DOf (kvs : List (Key × V)) (rows : List CRow) (t k : Str) : Prop where
  ks : ∀ p ∈ kvs, ∃ d : Int, p.1 = .inl d
  vs : ∀ d : Int, valV kvs (.inl d) = (lastFor rows t k d).map V.int
  len : kvs.length ≤ rows.length
theorem DOf.nil (t k : Str) : DOf [] [] t k := ⟨fun p h => by simp at h, fun d => rfl, Nat.le_refl _⟩
theorem putK_keys {kvs : List (Key × V)} {d : Int} {v : V} (h : ∀ p ∈ kvs, ∃ d : Int, p.1 = .inl d) : ∀ p ∈ putK kvs (.inl d) v, ∃ d : Int, p.1 = .inl d := by
  intro p hp
  unfold putK at hp
  split at hp
  · obtain ⟨q, hq, rfl⟩ := List.mem_map.mp hp
    split
    · exact h q hq
    · exact h q hq
  · rcases List.mem_append.mp hp with z | z
    · exact h p z
    · rw [List.mem_singleton.mp z]; exact ⟨d, rfl⟩
theorem DOf.put {kvs : List (Key × V)} {rows : List CRow} {t k : Str} (D : DOf kvs rows t k) (r : CRow) (h1 : r.1 = t) (h2 : r.2.1 = k) : DOf (putK kvs (.inl r.2.2.1) (.int r.2.2.2)) (rows ++ [r]) t k := by
  refine ⟨putK_keys D.ks, fun d => ?_, ?_⟩
  · rw [valV_put, lastFor_snoc]
    by_cases e : r.2.2.1 = d
    · rw [if_pos (by rw [e]), if_pos ⟨h1, h2, e⟩]; rfl
    · rw [if_neg (fun z => e (by injection z with z; exact z.symm)), if_neg (fun z => e z.2.2)]
      exact D.vs d
  · have := length_putK kvs (.inl r.2.2.1) (.int r.2.2.2)
    have := D.len
    rw [List.length_append]
    simp only [List.length_cons, List.length_nil]
    omega
theorem DOf.skip {kvs : List (Key × V)} {rows : List CRow} {t k : Str} (D : DOf kvs rows t k) (r : CRow) (h : ¬ (r.1 = t ∧ r.2.1 = k)) : DOf kvs (rows ++ [r]) t k := by
  refine ⟨D.ks, fun d => ?_, ?_⟩
  · rw [lastFor_snoc, if_neg (fun z => h ⟨z.1, z.2.1⟩)]
    exact D.vs d
  · have := D.len
    rw [List.length_append]; omega
def IsWorth (rows : List CRow) (t k : Str) (day r : Int) : Prop :=
  (∃ d, d ≤ day ∧ lastFor rows t k d = some r ∧ ∀ d', d' ≤ day → (lastFor rows t k d').isSome = true → d' ≤ d) ∨ (r = 0 ∧ ∀ d', d' ≤ day → lastFor rows t k d' = none)
def dayOf : Key × V → Int
  | (.inl d, _) => d
  | (.inr _, _) => 0
def daysTo (kvs : List (Key × V)) (day : Int) : List Int := (kvs.filter fun p => decide (dayOf p ≤ day)).map dayOf
theorem valV_mem {kvs : List (Key × V)} {k : Key} {v : V} (h : valV kvs k = some v) : ∃ p ∈ kvs, p.1 = k := by
  obtain ⟨p, hp, e⟩ := List.mem_map.mp (valV_in h)
  exact ⟨p, hp, e⟩
theorem mem_valV {kvs : List (Key × V)} {p : Key × V} (h : p ∈ kvs) : (valV kvs p.1).isSome = true := by
  rw [← valV_any]
  exact List.any_eq_true.mpr ⟨p, h, decide_eq_true rfl⟩
theorem DOf.days {kvs : List (Key × V)} {rows : List CRow} {t k : Str} (D : DOf kvs rows t k) (day d : Int) : d ∈ daysTo kvs day ↔ d ≤ day ∧ (lastFor rows t k d).isSome = true := by
  unfold daysTo
  rw [List.mem_map]
  constructor
  · rintro ⟨p, hp, rfl⟩
    rw [List.mem_filter, decide_eq_true_eq] at hp
    obtain ⟨e, he⟩ := D.ks p hp.1
    have z := mem_valV hp.1
    have hd : dayOf p = e := by
      obtain ⟨a, b⟩ := p
      cases he
      rfl
    rw [he, D.vs, Option.isSome_map] at z
    rw [hd] at hp ⊢
    exact ⟨hp.2, z⟩
  · rintro ⟨h1, h2⟩
    have z : (valV kvs (.inl d)).isSome = true := by rw [D.vs, Option.isSome_map]; exact h2
    obtain ⟨v, hv⟩ := Option.isSome_iff_exists.mp z
    obtain ⟨p, hp, e⟩ := valV_mem hv
    have hd : dayOf p = d := by
      obtain ⟨a, b⟩ := p
      cases e
      rfl
    exact ⟨p, List.mem_filter.mpr ⟨hp, decide_eq_true (by rw [hd]; exact h1)⟩, hd⟩
theorem DOf.worth {kvs : List (Key × V)} {rows : List CRow} {t k : Str} (D : DOf kvs rows t k) {day m : Int} (hm : m ∈ daysTo kvs day) (ht : ∀ y ∈ daysTo kvs day, y ≤ m) : ∃ r, valV kvs (.inl m) = some (.int r) ∧ IsWorth rows t k day r := by
  obtain ⟨h1, h2⟩ := (D.days day m).mp hm
  obtain ⟨r, hr⟩ := Option.isSome_iff_exists.mp h2
  refine ⟨r, by rw [D.vs, hr]; rfl, .inl ⟨m, h1, hr, fun d' l s => ht d' ((D.days day d').mpr ⟨l, s⟩)⟩⟩
theorem DOf.none {kvs : List (Key × V)} {rows : List CRow} {t k : Str} (D : DOf kvs rows t k) {day : Int} (h : daysTo kvs day = []) : IsWorth rows t k day 0 := by
  refine .inr ⟨rfl, fun d' l => ?_⟩
  cases e : lastFor rows t k d' with
  | none => rfl
  | some r =>
    have z := (D.days day d').mpr ⟨l, by rw [e]; rfl⟩
    rw [h] at z
    cases z
def CallsAt (C : Addr) (H : Hp) (x L : Addr) (rows : List CRow) : Prop := ∃ (dx : Addr) (rs : List Addr), H x = some (.ins C dx [("rows", .ref L)]) ∧ H L = some (.lst (rs.map V.ref)) ∧ RowsAt H rs rows
theorem CallsAt.same {C : Addr} {H H' : Hp} {x L : Addr} {rows : List CRow} (c : CallsAt C H x L rows) (s : Same H H') : CallsAt C H' x L rows := by
  obtain ⟨dx, rs, h1, h2, h3⟩ := c
  exact ⟨dx, rs, s _ _ h1, s _ _ h2, h3.mono (.same s)⟩
theorem CallsAt.keep {C : Addr} {H H' : Hp} {x L d : Addr} {rows : List CRow} {xs : List V} (c : CallsAt C H x L rows) (k : Keep d H H') (hd : H d = some (.lst xs)) (nL : L ≠ d) : CallsAt C H' x L rows := by
  obtain ⟨dx, rs, h1, h2, h3⟩ := c
  refine ⟨dx, rs, k _ _ h1 fun e => ?_, k _ _ h2 nL, h3.mono (k.tups hd)⟩
  rw [e, hd] at h1; cases h1
end Ck
namespace Ck
open PySem L2
theorem shaped_pair {a b : Str} (ha : Okt a) (hb : Okt b) : SeqAt.shaped (.tuple [.str a, .str b]) = true := by
  unfold SeqAt.shaped
  rw [Bool.and_eq_true_iff]
  refine ⟨by simp [PyData.canLay0, PyData.canLayAll0, ha.ok, hb.ok], ?_⟩
  simp [PyData.depth, PyData.depthAll]
theorem eqv_pair (a b c d : Str) : PyData.eqv (.tuple [.str a, .str b]) (.tuple [.str c, .str d]) = decide (a = c ∧ b = d) := by
  rw [Bool.eq_iff_iff, decide_eq_true_eq]
  simp [PyData.eqv, PyData.eqvAll]
theorem dp_pair {K : PySem.W.Frag} {H : Hp} {p : Addr} {a b : Str} (h : H p = some (.tup [.str a, .str b])) : Dp K H (.ref p) (.tuple [.str a, .str b]) := .tup (SqT.of h) (.cons (.str a) (.cons (.str b) .nil))
end Ck
set_option Elab.async false
set_option linter.all false
set_option maxRecDepth 100000
set_option maxHeartbeats 4000000
namespace Ck
open PySem L2
theorem at_last {xs : List V} {v : V} (h : xs.getLast? = some v) : atI xs (-1) = some v := by
  have ne : xs ≠ [] := by rintro rfl; cases h
  have l0 : 0 < xs.length := List.length_pos_iff.mpr ne
  unfold atI ixN
  rw [if_neg (by omega), if_pos (by omega)]
  show xs[((-1 : Int) + (xs.length : Int)).toNat]? = some v
  have e : ((-1 : Int) + (xs.length : Int)).toNat = xs.length - 1 := by omega
  rw [e, ← List.getLast?_eq_getElem?]
  exact h
theorem snoc_ind {α : Type} {P : List α → Prop} (h0 : P []) (h1 : ∀ l a, P l → P (l ++ [a])) : ∀ l, P l := fun l => by
  have z : ∀ r : List α, P r.reverse := by
    intro r
    induction r with
    | nil => exact h0
    | cons a r ih => rw [List.reverse_cons]; exact h1 _ _ ih
  have := z l.reverse
  rw [List.reverse_reverse] at this
  exact this
theorem filtm_yes {α : Type} {ns : List α} {p : α → Bool} {f : α → V} {i : Nat} {n : α} (h : ns[i]? = some n) (hp : p n = true) : ((ns.take (i + 1)).filter p).map f = ((ns.take i).filter p).map f ++ [f n] := by
  rw [List.take_succ, h, List.filter_append, List.map_append]
  show _ ++ List.map f (List.filter p [n]) = _
  rw [List.filter_cons, if_pos hp]; rfl
theorem filtm_no {α : Type} {ns : List α} {p : α → Bool} {f : α → V} {i : Nat} {n : α} (h : ns[i]? = some n) (hp : ¬ p n = true) : ((ns.take (i + 1)).filter p).map f = ((ns.take i).filter p).map f := by
  rw [List.take_succ, h, List.filter_append, List.map_append]
  show _ ++ List.map f (List.filter p [n]) = _
  rw [List.filter_cons, if_neg hp]; simp
theorem filtm_len {α : Type} {ns : List α} {p : α → Bool} {f : α → V} {i : Nat} : (((ns.take i).filter p).map f).length ≤ ns.length := by
  rw [List.length_map]
  have := List.length_filter_le p (ns.take i)
  have := List.length_take_le' i ns
  omega
theorem new_at {H : Hp} {p : Addr} {o : HO} (h : H p = none) : (upd H p o) p = some o := upd_same
theorem made_same {H H' : Hp} {x dx : Addr} {o1 o2 : HO} (hx : H x = none) (hdx : H dx = none) (k : Keep x (upd (upd H dx o1) x o2) H') : Same H H' := fun b o e => by
  have nx := ne_of_none e hx
  refine k b o ?_ nx
  rw [upd_ne nx, upd_ne (ne_of_none e hdx)]
  exact e
end Ck
set_option Elab.async false
set_option linter.all false
set_option maxRecDepth 100000
set_option maxHeartbeats 4000000
namespace L2
open PySem PySem.Spec PyProof.Rows Builtin
section
variable {X : Cx} {CX : CXT} {k n l : Nat} {f C : Addr} {fd : FuncData} {ps ks : List Str} {sp : Sp} {E : XK} {x m : Str} {p pos apos kpos : Pos} {e o : Expr} {es : List Expr} {kws : List Keyword} {te ta : TE} {t tk : TA} {nm : Option Str}
structure QK (X : Cx) (kws : List Keyword) (t : TA) : Prop where
  h : PK X kws t
end
end L2
namespace Ck
open PySem L2
end Ck
set_option Elab.async false
set_option linter.all false
set_option maxRecDepth 100000
set_option maxHeartbeats 4000000
namespace HT
open PySem PySem.Spec PyProof.Rows
end HT
namespace L2
open PySem PySem.Spec PyProof.Rows
end L2
set_option Elab.async false
set_option linter.all false
set_option maxRecDepth 100000
set_option maxHeartbeats 4000000
namespace L2
open PySem PySem.Spec PyProof.Rows
end L2
set_option Elab.async false
set_option linter.all false
set_option maxRecDepth 100000
set_option maxHeartbeats 4000000
namespace PySem
abbrev Ris (l : List Nat) : Prop := l.Pairwise (· < ·)
theorem belowGo_spec (xs : Array Nat) (j : Nat) (hR : Ris xs.toList) : ∀ (fuel lo hi : Nat), lo ≤ hi → hi ≤ xs.size → hi - lo ≤ fuel →
    (∀ i v, i < lo → xs.toList[i]? = some v → v < j) → (∀ i v, hi ≤ i → xs.toList[i]? = some v → j ≤ v) →
    ∃ r, SetTable.below.go xs j fuel lo hi = r ∧ r ≤ xs.size ∧ (∀ i v, i < r → xs.toList[i]? = some v → v < j) ∧ (∀ i v, r ≤ i → xs.toList[i]? = some v → j ≤ v) := by
  intro fuel
  induction fuel with
  | zero =>
    intro lo hi h1 h2 h3 a b
    have e : lo = hi := by omega
    subst e
    exact ⟨lo, rfl, h2, a, b⟩
  | succ n ih =>
    intro lo hi h1 h2 h3 a b
    unfold SetTable.below.go
    by_cases hl : lo < hi
    · rw [if_pos hl]
      dsimp only
      have hm : (lo + hi) / 2 < xs.size := by omega
      have hm1 : (lo + hi) / 2 < hi := by omega
      have hm0 : lo ≤ (lo + hi) / 2 := by omega
      generalize (lo + hi) / 2 = m at hm hm1 hm0 ⊢
      have hg : xs.toList[m]? = some xs[m] := by rw [Array.getElem?_toList]; exact Array.getElem?_eq_getElem hm
      have hgd : xs.getD m j = xs[m] := by simp [Array.getD, hm]
      rw [hgd]
      have mono : ∀ i k v u, i < k → xs.toList[i]? = some v → xs.toList[k]? = some u → v < u := fun i k v u hik hv hu => by
        obtain ⟨hi', ev⟩ := List.getElem?_eq_some_iff.mp hv
        obtain ⟨hk', eu⟩ := List.getElem?_eq_some_iff.mp hu
        rw [← ev, ← eu]
        exact List.pairwise_iff_getElem.mp hR i k hi' hk' hik
      by_cases hc : xs[m] < j
      · rw [if_pos hc]
        refine ih (m + 1) hi (by omega) h2 (by omega) (fun i v hi' hv => ?_) b
        by_cases e : i = m
        · subst e; rw [hg] at hv; cases hv; exact hc
        · exact Nat.lt_trans (mono i m v _ (by omega) hv hg) hc
      · rw [if_neg hc]
        refine ih lo m hm0 (by omega) (by omega) a (fun i v hi' hv => ?_)
        by_cases e : i = m
        · subst e; rw [hg] at hv; cases hv; omega
        · have := mono m i _ v (by omega) hg hv
          omega
    · rw [if_neg hl]
      have e : lo = hi := by omega
      subst e
      exact ⟨lo, rfl, h2, a, b⟩
theorem below_spec (xs : Array Nat) (j : Nat) (hR : Ris xs.toList) :
    ∃ r, SetTable.below xs j = r ∧ r ≤ xs.size ∧ (∀ i v, i < r → xs.toList[i]? = some v → v < j) ∧ (∀ i v, r ≤ i → xs.toList[i]? = some v → j ≤ v) := by
  refine belowGo_spec xs j hR xs.size 0 xs.size (Nat.zero_le _) (Nat.le_refl _) (by omega) (fun i v h => absurd h (Nat.not_lt_zero _)) (fun i v h hv => ?_)
  have := (List.getElem?_eq_some_iff.mp hv).1
  rw [Array.length_toList] at this
  omega
theorem insertAt_toList {α : Type} (xs : Array α) (p : Nat) (x : α) : (SetTable.insertAt xs p x).toList = xs.toList.take p ++ x :: xs.toList.drop p := by
  unfold SetTable.insertAt
  simp [Array.toList_append, Array.toList_push, Array.toList_extract, List.extract]
  exact List.take_of_length_le (by simp)
theorem ris_insert {xs : Array Nat} {j : Nat} (hR : Ris xs.toList) (hj : j ∉ xs.toList) : Ris (SetTable.insertAt xs (SetTable.below xs j) j).toList := by
  obtain ⟨r, e, hr, a, b⟩ := below_spec xs j hR
  rw [e, insertAt_toList]
  have h1 : ∀ v ∈ xs.toList.take r, v < j := fun v hv => by
    obtain ⟨i, hi, ev⟩ := List.getElem_of_mem hv
    rw [List.length_take] at hi
    rw [List.getElem_take] at ev
    exact a i v (by omega) (by rw [List.getElem?_eq_getElem (by omega), ev])
  have h2 : ∀ v ∈ xs.toList.drop r, j < v := fun v hv => by
    obtain ⟨i, hi, ev⟩ := List.getElem_of_mem hv
    rw [List.length_drop] at hi
    rw [List.getElem_drop] at ev
    have z := b (r + i) v (by omega) (by rw [List.getElem?_eq_getElem (by omega), ev])
    have n : j ≠ v := fun q => hj (by rw [q]; exact List.mem_of_mem_drop hv)
    omega
  refine List.pairwise_append.mpr ⟨hR.sublist (List.take_sublist _ _), List.pairwise_cons.mpr ⟨h2, hR.sublist (List.drop_sublist _ _)⟩, fun v hv u hu => ?_⟩
  rcases List.mem_cons.mp hu with rfl | hu
  · exact h1 v hv
  · exact Nat.lt_trans (h1 v hv) (h2 u hu)
structure TOk (L : Bool) (t : SetTable) : Prop where
  led : t.led = L
  dum : t.dummies = #[]
  ris : Ris t.place.toList
theorem TOk.fresh (f m : Nat) (L : Bool) : TOk L (.fresh f m L) := ⟨rfl, rfl, List.Pairwise.nil⟩
theorem TOk.put {L : Bool} {t : SetTable} (T : TOk L t) {j : Nat} (hj : j ∉ t.place.toList) : TOk L (t.put j).1 := by
  refine ⟨T.led, ?_, ris_insert T.ris hj⟩
  unfold SetTable.put
  dsimp only
  rw [T.dum]
  have e : SetTable.has #[] j = false := by unfold SetTable.has; simp
  rw [e]
  rfl
end PySem
set_option Elab.async false
set_option linter.all false
set_option maxRecDepth 100000
set_option maxHeartbeats 4000000
namespace PySem
open PyProof.Rows (SetOf_congr setObjOf_fresh)
def vInt : Value → Int
  | .int n _ => n
  | _ => 0
section
variable {prog : Program} {w : World} {A : Around} {E : Value → Shared → Prop} {s : Shared}
abbrev ledOf (w : World) : Bool := !(w.params.followText "set-order")
structure SetI (prog : Program) (w : World) (h : Heap) (a : Addr) (o : Obj) (es : Array (Int × Value)) (ep : Nat) (t : SetTable) (ns : List Int) : Prop where
  ho : h.get? a = some o
  hx : o.ExactSet
  hd : o.data = .set es ep t
  el : ElemsOf (intKind prog w) es.toList
  pm : (es.toList.map fun e => vInt e.2).Perm ns
  sz : es.size < scanBound
  ft : t.fits es.size = true
  tk : TOk (ledOf w) t
def HasSet (prog : Program) (w : World) (h : Heap) (a : Addr) (ns : List Int) : Prop := ∃ o es ep t, SetI prog w h a o es ep t ns
theorem HasSet.at {h h' : Heap} {a : Addr} {ns : List Int} (x : HasSet prog w h a ns) (k : ∀ o, h.get? a = some o → h'.get? a = some o) : HasSet prog w h' a ns :=
  let ⟨o, es, ep, t, z⟩ := x; ⟨o, es, ep, t, k _ z.ho, z.hx, z.hd, z.el, z.pm, z.sz, z.ft, z.tk⟩
end
end PySem
set_option Elab.async false
set_option linter.all false
set_option maxRecDepth 100000
set_option maxHeartbeats 4000000
namespace PySem
end PySem
set_option Elab.async false
set_option linter.all false
set_option maxRecDepth 100000
set_option maxHeartbeats 4000000
namespace PySem
theorem erase_perm {α : Type} {l : List α} {i : Nat} (h : i < l.length) : (l[i] :: l.eraseIdx i).Perm l := by
  rw [List.eraseIdx_eq_take_drop_succ]
  refine List.perm_middle.symm.trans ?_
  rw [List.getElem_cons_drop, List.take_append_drop]
namespace Fs
end Fs
def SIt (h : Heap) (I : Addr) (f : Value) (i : Nat) (a : Addr) (n ep : Nat) : Prop := ∃ o, h.get? I = some o ∧ o.cls = .type "set_iterator" ∧ o.data = .fields #[f, .int i 0, .ref a, .int n 0, .int ep 0]
theorem SIt.typeIs {s : Shared} {I : Addr} {f : Value} {i : Nat} {a : Addr} {n ep : Nat} (h : SIt s.heap I f i a n ep) : s.TypeIs (.ref I) "set_iterator" := let ⟨o, ho, hc, _⟩ := h; ⟨o, ho, hc⟩
theorem SIt.at {h h' : Heap} {I : Addr} {f : Value} {i : Nat} {a : Addr} {n ep : Nat} (x : SIt h I f i a n ep) (e : ∀ o, h.get? I = some o → h'.get? I = some o) : SIt h' I f i a n ep := let ⟨o, ho, r⟩ := x; ⟨o, e _ ho, r⟩
end PySem
set_option Elab.async false
set_option linter.all false
set_option maxRecDepth 100000
set_option maxHeartbeats 4000000
namespace PySem
end PySem
set_option Elab.async false
set_option linter.all false
set_option maxRecDepth 100000
set_option maxHeartbeats 4000000
namespace PySem
end PySem
set_option Elab.async false
set_option linter.all false
set_option maxRecDepth 100000
set_option maxHeartbeats 4000000
namespace PySem
open PySem.Calls PyProof.Rows PyProof.V PySem.Spec
structure Lft (s s' : Shared) : Prop where
  os : s'.os = s.os
  gens : s'.gens = s.gens
  keep : ∀ b o, s.heap.get? b = some o → s'.heap.get? b = some o
end PySem
namespace L2
open PySem PySem.Spec PyProof.Rows
end L2
set_option Elab.async false
set_option linter.all false
set_option maxRecDepth 100000
set_option maxHeartbeats 4000000
namespace Ck
open PySem L2
structure TA {α : Type} (f : α → List V) (H : Hp) (rs : List Addr) (xs : List α) : Prop where
  len : rs.length = xs.length
  at_ : ∀ (i : Nat) (r : Addr), rs[i]? = some r → ∃ u, xs[i]? = some u ∧ H r = some (.tup (f u))
section
variable {α : Type} {f : α → List V} {H H' : Hp} {rs : List Addr} {xs : List α}
theorem TA.mono (u : TA f H rs xs) (t : Tups H H') : TA f H' rs xs := ⟨u.len, fun i r h => let ⟨x, hx, e⟩ := u.at_ i r h; ⟨x, hx, t _ _ e⟩⟩
theorem TA.nil (f : α → List V) (H : Hp) : TA f H [] [] := ⟨rfl, fun i r h => by simp at h⟩
theorem TA.snoc {r : Addr} {x : α} (u : TA f H rs xs) (h : H r = some (.tup (f x))) : TA f H (rs ++ [r]) (xs ++ [x]) := by
  refine ⟨by rw [List.length_append, List.length_append, u.len]; rfl, fun i q hq => ?_⟩
  rw [List.getElem?_append] at hq ⊢
  by_cases hi : i < rs.length
  · rw [if_pos hi] at hq
    rw [if_pos (by rw [← u.len]; exact hi)]
    exact u.at_ i q hq
  · rw [if_neg hi] at hq
    rw [if_neg (by rw [← u.len]; exact hi), ← u.len]
    have e : i - rs.length = 0 := by
      have := (List.getElem?_eq_some_iff.mp hq).1
      simp at this; omega
    rw [e] at hq ⊢
    cases hq
    exact ⟨_, rfl, h⟩
theorem TA.dp {K : PySem.W.Frag} {g : α → PyData} (hg : ∀ (x : α) (p : Addr), H p = some (.tup (f x)) → Dp K H (.ref p) (g x)) : ∀ {rs : List Addr} {xs : List α}, TA f H rs xs → DpAll K H (rs.map V.ref) (xs.map g)
  | [], [], _ => .nil
  | [], _ :: _, u => by have := u.len; cases this
  | _ :: _, [], u => by have := u.len; cases this
  | r :: rs, x :: xs, u => by
    obtain ⟨y, hy, e⟩ := u.at_ 0 r rfl
    cases hy
    exact .cons (hg _ _ e) (TA.dp hg ⟨by simpa using u.len, fun i q hq => u.at_ (i + 1) q (by simpa using hq)⟩)
end
abbrev prV (u : Int × Int) : List V := [.int u.1, .int u.2]
def prD (u : Int × Int) : PyData := .tuple [.int u.1, .int u.2]
theorem dp_pr {K : PySem.W.Frag} {H : Hp} (x : Int × Int) (p : Addr) (h : H p = some (.tup (prV x))) : Dp K H (.ref p) (prD x) := .tup (SqT.of h) (.cons (.int _) (.cons (.int _) .nil))
def LPrs (H : Hp) (L : Addr) (ps : List (Int × Int)) : Prop := ∃ rs : List Addr, H L = some (.lst (rs.map V.ref)) ∧ TA prV H rs ps
theorem LPrs.same {H H' : Hp} {L : Addr} {ps : List (Int × Int)} (c : LPrs H L ps) (s : Same H H') : LPrs H' L ps := let ⟨rs, h, r⟩ := c; ⟨rs, s _ _ h, r.mono (.same s)⟩
theorem LPrs.dp {K : PySem.W.Frag} {H : Hp} {L : Addr} {ps : List (Int × Int)} (c : LPrs H L ps) : Dp K H (.ref L) (.list (ps.map prD)) := let ⟨rs, h, r⟩ := c; .lst (SqL.of h) (TA.dp dp_pr r)
theorem LPrs.push {H : Hp} {L p : Addr} {rs : List Addr} {ps : List (Int × Int)} {u : Int × Int} (h : H L = some (.lst (rs.map V.ref))) (ra : TA prV H rs ps) (hp : H p = some (.tup (prV u))) : LPrs (upd H L (.lst (rs.map V.ref ++ [V.ref p]))) L (ps ++ [u]) := by
  have t := Tups.upd (o := .lst (rs.map V.ref ++ [V.ref p])) h
  exact ⟨rs ++ [p], by rw [upd_same, List.map_append]; rfl, (ra.mono t).snoc (t _ _ hp)⟩
abbrev wdOf (rows : List CRow) (t k : Str) (d : Int) : Int := (lastFor rows t k d).getD 0
theorem DOf.at {kvs : List (Key × V)} {rows : List CRow} {t k : Str} (D : DOf kvs rows t k) {x : Int} (h : (lastFor rows t k x).isSome = true) : valV kvs (.inl x) = some (.int (wdOf rows t k x)) := by
  obtain ⟨v, hv⟩ := Option.isSome_iff_exists.mp h
  rw [D.vs, hv]
  unfold wdOf
  rw [hv]; rfl
end Ck
set_option Elab.async false
set_option linter.all false
set_option maxRecDepth 100000
set_option maxHeartbeats 4000000
namespace Ck
open PySem L2
theorem cut_to (z : Str) {n : Int} (h : 0 ≤ n) : (cutS z none (some n)).cps.toList = z.cps.toList.take n.toNat := by
  unfold cutS
  have e1 : HT.sIx z.length 0 none = 0 := rfl
  have e2 : HT.sIx z.length z.length (some n) = min n.toNat z.length := by
    unfold HT.sIx
    dsimp only
    rw [if_neg (by omega)]
  rw [e1, e2, Nat.sub_zero, List.drop_zero]
  show (List.take _ _) = _
  have hl : z.length = z.cps.toList.length := str_len z
  rw [hl, ← List.take_take, List.take_length]
theorem cut_from (z : Str) {n : Int} (h : 0 ≤ n) : (cutS z (some n) none).cps.toList = z.cps.toList.drop n.toNat := by
  unfold cutS
  have e1 : HT.sIx z.length z.length none = z.length := rfl
  have e2 : HT.sIx z.length 0 (some n) = min n.toNat z.length := by
    unfold HT.sIx
    dsimp only
    rw [if_neg (by omega)]
  have hl : z.length = z.cps.toList.length := str_len z
  rw [e1, e2]
  show (List.take _ _) = _
  rw [hl]
  rcases Nat.le_total n.toNat z.cps.toList.length with hh | hh
  · rw [Nat.min_eq_left hh, List.take_of_length_le (by rw [List.length_drop]; exact Nat.le_refl _)]
  · rw [Nat.min_eq_right hh, List.drop_length, List.drop_eq_nil_of_le hh]; simp
def Lts (x : Str) : Prop := ∀ c ∈ x.cps.toList, c ∈ letters.cps.toList
theorem Lts.app {x y : Str} (hx : Lts x) (hy : Lts y) : Lts (x ++ y) := fun c hc => by
  rw [tl_app] at hc
  exact (List.mem_append.mp hc).elim (hx c) (hy c)
theorem Lts.sub {x y : Str} (hx : Lts x) (h : ∀ c ∈ y.cps.toList, c ∈ x.cps.toList) : Lts y := fun c hc => hx c (h c hc)
theorem Lts.cut {x : Str} (hx : Lts x) (lo hi : Option Int) : Lts (cutS x lo hi) := fun c hc => by
  unfold cutS at hc
  exact hx c (List.mem_of_mem_drop (List.mem_of_mem_take hc))
theorem Lts.sgn {c : Nat} (h : c ∈ letters.cps.toList) : Lts (sgn c) := fun b hb => by
  rw [show b = c by simpa using hb]; exact h
theorem len_to (z : Str) {n : Int} (h : 0 ≤ n) : (cutS z none (some n)).length = min n.toNat z.length := by
  rw [str_len, cut_to z h, List.length_take, ← str_len]
theorem len_from (z : Str) {n : Int} (h : 0 ≤ n) : (cutS z (some n) none).length = z.length - n.toNat := by
  rw [str_len, cut_from z h, List.length_drop, ← str_len]
end Ck
set_option Elab.async false
set_option linter.all false
set_option maxRecDepth 100000
set_option maxHeartbeats 4000000
namespace L2
open PySem PySem.Spec PyProof.Rows Builtin
end L2
namespace Ck
open PySem L2
def Keep2 (d e : Addr) (H H' : Hp) : Prop := ∀ b o, H b = some o → b ≠ d → b ≠ e → H' b = some o
theorem Keep2.of {d e : Addr} {H H' : Hp} (k : Keep d H H') : Keep2 d e H H' := fun b o h n _ => k b o h n
theorem Keep2.trans {d e : Addr} {H H1 H2 : Hp} (a : Keep2 d e H H1) (b : Keep2 d e H1 H2) : Keep2 d e H H2 := fun c o h n m => b c o (a c o h n m) n m
theorem Keep2.new {d e : Addr} {H H' : Hp} (k : Keep2 d e H H') (h : H e = none) : Keep d H H' := fun b o hb n => k b o hb n (ne_of_none hb h)
theorem idx_in {i : Int} {n : Nat} (h0 : 0 ≤ i) (h1 : i < n) : PySem.seqIndex? i n = some i.toNat := by
  unfold PySem.seqIndex?
  first
    | (rw [if_neg (by omega)]; first | rw [if_pos (by omega)] | rfl)
    | (simp; omega)
end Ck
set_option Elab.async false
set_option linter.all false
set_option maxRecDepth 100000
set_option maxHeartbeats 4000000
namespace L2
open PySem PySem.Spec PyProof.Rows
theorem Room.units1 {k : Nat} {A : Around} (r : Room k A) : A.units + 65 < cLine := by have := r.un; omega
def rInD (K : PySem.W.Frag) (neg : Bool) : R2 := fun x y H Q => ∃ d xs, Dp K H x d ∧ Dp K H y (.list xs) ∧ SeqAt.shaped d = true ∧ SeqAt.shaped (.list xs) = true ∧ Q (.bl (if neg then !xs.any (fun y => PyData.eqv y d) else xs.any fun y => PyData.eqv y d)) H
section
variable {X : Cx}
theorem op_notInD (hu : X.A.units + 65 < cLine) : OpR X (compareOp .NotIn) (rInD X.K true) := by
  intro pins s σ H x y v u Q I rx ry h
  obtain ⟨d, xs, hd, hc, sd, sc, q⟩ := h
  obtain ⟨bs, r1⟩ := Dp.reads I d x v hd rx
  obtain ⟨as, r2⟩ := Dp.reads I (.list xs) y u hc ry
  exact PySem.SeqAt.notIn_list_reads r2 r1 (PySem.SeqAt.canLay_of_shaped sc) (PySem.SeqAt.canLay_of_shaped sd) (room_in_shaped sd hu) ⟨.bl _, H, I, rfl, q⟩
end
end L2
set_option Elab.async false
set_option linter.all false
set_option maxRecDepth 100000
set_option maxHeartbeats 4000000
namespace Ck
open PySem PySem.Spec PyProof.Rows L2
section
variable {P : Program} {w : World} {K : PySem.W.Frag} {mg : Str → Option Value} {base : Heap} {k : Nat} {f : Addr} {fd : FuncData} {ps : List Str}
theorem or1 {CX : CXT} {sp sp' : Sp} (F : FnOk P w K mg base CX k f fd ps sp) (G : FnOk P w K mg base CX k f fd ps sp') : FnOk P w K mg base CX k f fd ps (fun vs H Q E => sp vs H Q E ∨ sp' vs H Q E) :=
  ⟨fun vs H Q E h => h.elim (F.len vs H Q E) (G.len vs H Q E), fun A outer s H args us vs Q E hr he hb hv hs => hs.elim (F.run A outer s H args us vs Q E hr he hb hv) (G.run A outer s H args us vs Q E hr he hb hv)⟩
end
end Ck
set_option Elab.async false
set_option linter.all false
set_option maxRecDepth 100000
set_option maxHeartbeats 4000000
namespace PySem
open PySem.Spec PyProof.Rows
end PySem
namespace L2
open PySem PySem.Spec PyProof.Rows
end L2
set_option Elab.async false
set_option linter.all false
set_option maxRecDepth 100000
set_option maxHeartbeats 4000000
namespace L2
open PySem PySem.Spec PyProof.Rows
section
variable {X : Cx}
def rCount (K : PySem.W.Frag) : V → List V → Hp → VK → Prop := fun x xs H Q => ∃ (a : Addr) (ys : List V) (y : V), x = V.ref a ∧ xs = [y] ∧ SqL K H a ys ∧ flatV y = true ∧ ys.all flatV = true ∧ Q (.int ((ys.countP fun z => eqV z y : Nat) : Int)) H
theorem countP_eqU {x : V} : ∀ {xs : List V} {us : List Value}, Vals xs us → xs.all flatV = true → us.countP (eqU x) = xs.countP fun y => eqV y x
  | _, _, .nil, _ => rfl
  | _, _, .cons r t, f => by
    rw [List.all_cons, Bool.and_eq_true] at f
    rw [List.countP_cons, List.countP_cons, eqU_of r f.1, countP_eqU t f.2]
theorem mt_count_list : MtR X "list.count" (rCount X.K) := by
  intro pins s σ H x xs v us Q I rx rxs h
  obtain ⟨a, ys, y, rfl, rfl, hs, fy, fys, q⟩ := h
  cases rx
  cases rxs with
  | cons ry rt =>
    rename_i uy ut
    cases rt
    obtain ⟨its, rv, ⟨⟨cls, dd, data, sl⟩, n, ho, hc, hdn, hd⟩, hlen⟩ := I.list hs
    simp only at hc hd
    subst hc hd
    refine call_meets PySem.F.slot_list_count ⟨_, ho, rfl⟩ PySem.F.entry_list_count (PySem.F.args_list_count_2 _ _)
      (SeqAt.list_countAt a its.toArray n dd sl uy (eqU y)) ⟨ho, fun u' hu' => mem_eqAt ry fy rv fys u' (by simpa using hu'), ?_⟩
    refine ⟨.int _, H, I.tok _, ⟨_, rfl⟩, ?_⟩
    rw [show its.toArray.toList = its from rfl, countP_eqU rv fys]
    exact q
theorem pss_lock {st : List Stmt} {t : TS} (h : PSs X st t) : PSs X st (tLock t) := by
  intro pins s σ H D I hw
  obtain ⟨d, u, hd, mu, hw⟩ := hw
  obtain ⟨od, I1⟩ := I.lock hd mu
  refine thn (h pins s σ _ _ I1 (hw od)) fun f s1 q => ?_
  cases f with
  | next => obtain ⟨σ', H', I2, e, q⟩ := q; exact ⟨σ', _, I2.unlock e (I.nofrz hd mu), q⟩
  | brk => obtain ⟨σ', H', I2, e, q⟩ := q; exact ⟨σ', _, I2.unlock e (I.nofrz hd mu), q⟩
  | cont => obtain ⟨σ', H', I2, e, q⟩ := q; exact ⟨σ', _, I2.unlock e (I.nofrz hd mu), q⟩
  | ret v => obtain ⟨x, σ', H', I2, r, e, q⟩ := q; exact ⟨x, σ', _, I2.unlock e (I.nofrz hd mu), r, q⟩
section
variable {o e : Expr} {es : List Expr} {to : TE} {t : TA} {name : Str} {apos cpos : Pos} {T id : String} {r : V → List V → Hp → VK → Prop} {K : PySem.W.Frag}
theorem q_pe_bmK (ek : X.K = K) (pa : PlainAttrs T) (slot : Slot T name id) (hty : typeOf (.builtin id) = pure (.type "method_descriptor")) (hm : MtR X id r) (ho : QE X o to) (ha : QA X (e :: es) t) (hbase : attributeBase o name X.env (eval o X.env) = eval o X.env := by rfl) (hfew : ((backTo cpos (starEach (e :: es) X.env)).all (fun x => !x.1) && (backToKw cpos (keywordEach [] X.env)).all (fun x => x.1.isSome)
      && decide ((e :: es).length + ([] : List Keyword).length + (if ([] : List Keyword).isEmpty then 0 else 1) < 30)) = true := by rfl) (hline : (apos.endLine == cpos.line) = true := by rfl) (hs : starEach (e :: es) X.env = (false, eval e X.env) :: starEach es X.env := by rfl) (hplain : (backTo cpos (starEach es X.env)).any (·.1) = false := by rfl) : QE X (.Call (.Attribute o name apos) (e :: es) [] cpos) (tBM K T r to t) := by
  subst ek
  exact q_pe_bm pa slot hty hm ho ha hbase hfew hline hs hplain
end
theorem q_pss_lock {st : List Stmt} {t : TS} (h : QSs X st t) : QSs X st (tLock t) := ⟨pss_lock h.h⟩
end
end L2
set_option Elab.async false
set_option linter.all false
set_option maxRecDepth 100000
set_option maxHeartbeats 4000000
namespace Ck
open PySem L2
def Lay (n : Nat) (d : PyData) : Prop := PyData.canLay0 d = true ∧ d.depth ≤ n
theorem lays_all {n : Nat} : ∀ {ds : List PyData}, (∀ d ∈ ds, Lay n d) → PyData.canLayAll0 ds = true ∧ PyData.depthAll ds ≤ n
  | [], _ => ⟨rfl, Nat.zero_le _⟩
  | d :: r, h => by
    obtain ⟨a, b⟩ := lays_all (fun x hx => h x (List.mem_cons_of_mem _ hx))
    obtain ⟨c, e⟩ := h d List.mem_cons_self
    simp only [PyData.canLayAll0, PyData.depthAll, a, c, Bool.and_true, true_and]
    omega
theorem Lay.int (i : Int) : Lay 1 (.int i) := ⟨rfl, by simp [PyData.depth]⟩
theorem Lay.bool (i : Bool) : Lay 1 (.bool i) := ⟨rfl, by simp [PyData.depth]⟩
theorem Lay.none : Lay 1 .none := ⟨rfl, by simp [PyData.depth]⟩
theorem Lay.str {x : Str} (h : Okt x) : Lay 1 (.str x) := ⟨by simp only [PyData.canLay0]; exact h.ok, by simp [PyData.depth]⟩
theorem Lay.mono {n m : Nat} {d : PyData} (h : Lay n d) (l : n ≤ m) : Lay m d := ⟨h.1, by have := h.2; omega⟩
theorem Lay.list {n : Nat} {ds : List PyData} (h : ∀ d ∈ ds, Lay n d) : Lay (n + 1) (.list ds) := by
  obtain ⟨a, b⟩ := lays_all h
  refine ⟨by simp only [PyData.canLay0, a], ?_⟩
  simp only [PyData.depth]
  omega
theorem Lay.tuple {n : Nat} {ds : List PyData} (h : ∀ d ∈ ds, Lay n d) : Lay (n + 1) (.tuple ds) := by
  obtain ⟨a, b⟩ := lays_all h
  refine ⟨by simp only [PyData.canLay0, a], ?_⟩
  simp only [PyData.depth]
  omega
theorem Lay.shaped {n : Nat} {d : PyData} (h : Lay n d) (l : n ≤ 64) : SeqAt.shaped d = true := by
  unfold SeqAt.shaped
  rw [Bool.and_eq_true_iff]
  exact ⟨h.1, decide_eq_true (by have := h.2; omega)⟩
theorem Lay.refl {n : Nat} {d : PyData} (h : Lay n d) : PyData.eqv d d = true := PySem.SeqAt.eqv_refl _ h.1
end Ck
set_option Elab.async false
set_option linter.all false
set_option maxRecDepth 100000
set_option maxHeartbeats 4000000
namespace Ck
open PySem L2
theorem erase_map {α β : Type} (f : α → β) : ∀ (l : List α) (i : Nat), (l.map f).eraseIdx i = (l.eraseIdx i).map f
  | [], _ => rfl
  | _ :: _, 0 => rfl
  | x :: r, i + 1 => by
    rw [List.map_cons, List.eraseIdx_cons_succ, List.eraseIdx_cons_succ, List.map_cons, erase_map f r i]
theorem keep_upd {H : Hp} {p : Addr} {o : HO} : Keep p H (upd H p o) := fun b u e nb => by rw [upd_ne nb]; exact e
end Ck
set_option Elab.async false
set_option linter.all false
set_option maxRecDepth 100000
set_option maxHeartbeats 4000000
namespace PySem
open PySem.Spec PyProof.Rows
end PySem
namespace L2
open PySem PySem.Spec PyProof.Rows
end L2
set_option Elab.async false
set_option linter.all false
set_option maxRecDepth 100000
set_option maxHeartbeats 4000000
namespace L2
open PySem PySem.Spec PyProof.Rows
end L2
set_option Elab.async false
set_option linter.all false
set_option maxRecDepth 100000
set_option maxHeartbeats 4000000
namespace PySem
open PySem.Spec PyProof.Rows L2
section
variable {prog : Program} {w : World} {A : Around} {E : Value → Shared → Prop} {s : Shared} {o : Obj} {es : Array DictEntry} {ep : Nat}
theorem walks_raw (hh : A.handled = none) (I d : Addr) (hne : d ≠ I) (hod : o.data = .dict es ep) :
    Walks prog w A I [I, d] [I] es.size (fun i v => ∃ en, es[i]? = some en ∧ v = en.key) (fun i h => h.IsKeyIter I d i es.size ep ∧ h.get? d = some o) where
  sub := fun b hb => by simp at hb; simp [hb]
  frame := fun _ _ _ st hk => ⟨st.1.at fun o e => hk I (by simp) o e, hk d (by simp) _ st.2⟩
  item := fun i s Q E hi st hQ => by
    obtain ⟨en, hx⟩ : ∃ p, es[i]? = some p := ⟨es[i], by simp [hi]⟩
    refine next_key_item st.1 st.2 hod rfl hx fun h' hit' hs' => ?_
    exact hQ en.key h' s.toks ⟨en, hx, rfl⟩ ⟨hit', hs'.extBut d _ hne st.2⟩ fun b o hb e => hs'.extBut b o (fun h => hb (by simp [h])) e
  done := fun s Q E st hQ => next_key_end hh st.1 st.2 hod rfl (Nat.le_refl _) fun h' he' => hQ h' s.toks fun b o hb e => he' b o (fun h => hb (by simp [h])) e
  self := fun i s Q E st h => by
    refine wpAny_pyIter_slot st.1.typeIs F.slot_dict_keyiterator_iter (wpAny_call_entry F.slot_dict_keyiterator_iter st.1.typeIs F.entry_dict_keyiterator_iter ?_ (F.args_dict_keyiterator_iter_1 _))
    show wpAny _ _ (ret (.ref I)) _ _ s
    exact wpAny_pure ⟨_, rfl, "dict_keyiterator", _, st.1.typeIs, F.slot_dict_keyiterator_next.lookup, h⟩
theorem src_raw {d : Addr} (hs : (d == sysModules) = false) (hx : o.ExactDict) (hod : o.data = .dict es ep) :
    PySem.W.KdlSrc prog w "dict" d d es.size (fun i v => ∃ en, es[i]? = some en ∧ v = en.key) (fun h => h.get? d = some o) where
  type := fun _ hm => ⟨_, hm, hx.1⟩
  there := fun _ hm => ⟨Heap.lt_size hm, Heap.lt_size hm⟩
  keep := fun _ _ hm hk => hk d (.inl rfl) _ hm
  notList := by decide
  notTuple := by decide
  hint := fun _ _ _ _ hm hq => PySem.W.kdl_hint_dict ⟨_, hm, hx.1⟩ hq
  iter := fun _ _ hh hm => ⟨_, _, (fun _ _ hq => iter_keys hs hm hx hod hq), walks_raw hh _ d (Nat.ne_of_lt (Heap.lt_size hm)) hod, ⟨⟨_, Heap.get?_push_size _ rfl, rfl, rfl⟩, Heap.get?_push_of_some _ hm⟩⟩
theorem call_tuple_src {T : String} {r d : Addr} {n : Nat} {P : Nat → Value → Prop} {OK : Heap → Prop} {Q : Value → Shared → Prop} (K : PySem.W.KdlSrc prog w T r d n P OK) (hh : A.handled = none) (hok : OK s.heap) (hn : n ≤ sizeLine)
    (hQ : ∀ (h' : Heap) (tk : Nat) (acc : Array Value), (∀ b o, s.heap.get? b = some o → h'.get? b = some o) → ItemsOf P acc n → Q (.ref h'.objs.size) { s with heap := h'.push { cls := .type "tuple", data := .seq acc }, toks := tk }) :
    wpAny (model prog w) A (call (.type "tuple") [.ref r]) Q E s := by
  refine callType_codes (Q₁ := fun obj s₁ => s₁.TypeIs obj "tuple" ∧ Q obj s₁) F.called_tuple (F.typeCall_tuple_1 _) F.entry_object_init ?_ fun obj s₁ h₁ =>
    ⟨h₁.1, F.args_object_init_2 obj _, object_init_meets F.called_tuple.init.lookup F.called_tuple.made (by decide) prog w A.in1 _ s₁ ⟨h₁.1, rfl, h₁.2⟩⟩
  refine codeAny_of_tree ?_
  refine wpAny_bind (wpAny_of_eq (F.newCall_tuple_1 _) (wpAny_pure ⟨plainId_quiet F.plain_tuple_new _, codeAny_builtin F.entry_tuple_new ?_⟩))
  rw [Around.under_plainId F.plain_tuple_new _]
  have hsub := sub_tuple_self
  have hinit := init_tuple_lookup
  have hmh := madeHere_tuple
  have hTI := K.type s hok
  have nt := K.notTuple
  wp_walk using wpAny_typeOf hTI, PySem.W.kdu_collect K (by simpa using hh) hok hn
  intro h' tk acc kp hacc
  show wpAny _ _ (Builtin.Tuple.tupleExact acc.toList.toArray >>= fun v => ret v) _ _ _
  unfold Builtin.Tuple.tupleExact
  refine wpAny_bind (wpAny_newObj_type ?_ (by show acc.toList.toArray.size ≤ sizeLine; simp only [Array.toArray_toList]; rw [hacc.1]; exact hn))
  refine wpAny_pure ?_
  have e : acc.toList.toArray = acc := by simp
  rw [e]
  exact ⟨⟨_, Heap.get?_push_size _ rfl, rfl⟩, hQ h' tk acc kp hacc⟩
end
end PySem
namespace L2
open PySem PySem.Spec PyProof.Rows
def KeysAt (H : Hp) (qs : List Addr) (kvs : List (List Key × V)) : Prop := qs.length = kvs.length ∧ ∀ (i : Nat) (q : Addr), qs[i]? = some q → ∃ k v, kvs[i]? = some (k, v) ∧ H q = some (.tup (k.map kV))
theorem call_tuple_ofD {X : Cx} (hc : X.calm = true) : CallR X (.type "tuple") (fun xs H Q => ∃ a kvs, xs = [.ref a] ∧ H a = some (.dT kvs) ∧ ∀ p qs, KeysAt H qs kvs → H p = none → Q (.ref p) (upd H p (.tup (qs.map V.ref)))) := by
  intro pins s σ H xs us Q I r h
  obtain ⟨a, kvs, rfl, ha, q⟩ := h
  obtain ⟨u, rfl, rx⟩ := vals1 r
  cases rx
  obtain ⟨z, hs, ys, pr, o, es, ep, ho, hx, hdt, he, _⟩ := (show ObjOk X.prog X.w H s.heap a (.dT kvs) from I.hok a _ ha)
  have l1 : es.size = ys.length := size_of_entries he
  have l2 : kvs.length = ys.length := Paired.length pr
  have n1 : es.size ≤ sizeLine := by omega
  refine call_tuple_src (src_raw hs hx hdt) (I.ok.hd hc) ho n1 fun h' tk acc kp hacc => ?_
  have key : ∀ (i : Nat) (v : Value), acc[i]? = some v → ∃ b k x, kvs[i]? = some (k, x) ∧ v = .ref b ∧ H b = some (.tup (k.map kV)) := by
    intro i v hv
    obtain ⟨en, hen, rfl⟩ := hacc.2 i v hv
    have hi : i < kvs.length := by
      have := (Array.getElem?_eq_some_iff.mp hen).1
      omega
    obtain ⟨⟨k, x⟩, hkv⟩ : ∃ p, kvs[i]? = some p := ⟨kvs[i], List.getElem?_eq_getElem hi⟩
    obtain ⟨b, hb, e1, e2, _⟩ := paired_get pr hkv
    have q := entry_at he i
    rw [hb] at q
    rw [hen] at q
    cases q
    exact ⟨b.2.1, k, x, hkv, rfl, e2⟩
  have ex : ∀ (l : List Value) (j : Nat), (∀ (i : Nat) (v : Value), l[i]? = some v → ∃ b k x, kvs[j + i]? = some (k, x) ∧ v = .ref b ∧ H b = some (.tup (k.map kV))) → ∃ qs : List Addr, l = qs.map Value.ref ∧ ∀ (i : Nat) (q : Addr), qs[i]? = some q → ∃ k x, kvs[j + i]? = some (k, x) ∧ H q = some (.tup (k.map kV)) := by
    intro l
    induction l with
    | nil => intro j _; exact ⟨[], rfl, fun i q h => by simp at h⟩
    | cons v r ih =>
      intro j hv
      obtain ⟨b, k, x, h1, rfl, h2⟩ := hv 0 v rfl
      obtain ⟨qs, e, hq⟩ := ih (j + 1) (fun i v h => by
        have := hv (i + 1) v (by simpa using h)
        rwa [show j + (i + 1) = j + 1 + i by omega] at this)
      refine ⟨b :: qs, by rw [e]; rfl, fun i q h => ?_⟩
      cases i with
      | zero => cases h; exact ⟨k, x, h1, h2⟩
      | succ i =>
        have := hq i q (by simpa using h)
        rwa [show j + 1 + i = j + (i + 1) by omega] at this
  obtain ⟨qs, eq, hqs⟩ := ex acc.toList 0 (fun i v h => by
    rw [Nat.zero_add]
    exact key i v (by rw [← Array.getElem?_toList]; exact h))
  have ql : qs.length = kvs.length := by
    have := congrArg List.length eq
    rw [Array.length_toList, hacc.1, List.length_map] at this
    omega
  have I1 : Inv X pins σ H { s with heap := h', toks := tk } := I.kept kp
  have vq : ∀ l : List Addr, Vals (l.map V.ref) (l.map Value.ref) := by
    intro l
    induction l with
    | nil => exact .nil
    | cons a r ih => exact .cons rfl ih
  have I2 : Inv X pins σ (upd H h'.objs.size (.tup (qs.map V.ref))) { s with heap := h'.push { cls := .type "tuple", data := .seq acc }, toks := tk } := by
    refine I1.laid (t' := tk) (fun b o e => Heap.get?_push_of_some _ e) (Nat.le_refl _) ⟨by rw [List.length_map]; omega, qs.map Value.ref, vq qs, ?_⟩
    refine ⟨_, Heap.get?_push_size _ rfl, rfl, 0, ?_⟩
    show Data.seq acc 0 = Data.seq (qs.map Value.ref).toArray 0
    rw [← eq]
  refine ⟨.ref h'.objs.size, _, I2, rfl, q _ qs ⟨ql, fun i q h => ?_⟩ (I1.hok.fresh (Nat.le_refl _))⟩
  have := hqs i q h
  rwa [Nat.zero_add] at this
end L2
set_option Elab.async false
set_option linter.all false
set_option maxRecDepth 100000
set_option maxHeartbeats 4000000
namespace PySem
open PySem.Spec PyProof.Rows
section
variable {prog : Program} {w : World} {A : Around} {E : Value → Shared → Prop} {s : Shared}
theorem setItem_list_slice {l sl b : Addr} {items new : Array Value} {n : Nat} {vl vu : Value} {lo hi : Nat} {Q : Unit → Shared → Prop} (hl : s.heap.get? l = some { cls := .type "list", data := .seq items n })
    (hs : s.heap.IsSliceOf sl vl vu .none) (pl : IsPart vl (some (lo : Int))) (pu : IsPart vu (some (hi : Int))) (hb : s.heap.IsList b new) (hne : l ≠ b) (h1 : lo ≤ hi) (h2 : hi ≤ items.size) (hz : items.size + new.size ≤ sizeLine)
    (h : Q () { s with heap := s.heap.update l (Obj.mapSeq fun xs => xs.extract 0 lo ++ new ++ xs.extract hi xs.size) }) : wpAny (model prog w) A (setItem (.ref l) (.ref sl) (.ref b)) Q E s := by
  obtain ⟨os, hos, hcs, hds⟩ := id hs
  obtain ⟨ob, hob, hcb, nb, hdb⟩ := id hb
  have hTs : s.TypeIs (.ref sl) "slice" := ⟨os, hos, hcs⟩
  have hTl : s.TypeIs (.ref l) "list" := ⟨_, hl, rfl⟩
  have hTb : s.TypeIs (.ref b) "list" := ⟨_, hob, hcb⟩
  unfold setItem
  try with_reducible refine wpAny_holding ?_
  first | refine wpAny_bind (wpAny_pure ?_) | skip
  refine wpAny_bind (wpAny_sequenceKey hTl (by decide) ?_)
  refine wpAny_bind (wpAny_callSpecial?_slot (name := Str.ofString "__setitem__") hTl slot_list_setitem
    (wpAny_call_entry slot_list_setitem hTl entry_list_setitem ?_ (args_list_setitem _ _ _)))
  show wpAny _ _ (Builtin.List.listSubscript? (.ref sl) >>= _) _ _ s
  refine wpAny_bind ?_
  unfold Builtin.List.listSubscript?
  refine wpAny_bind (wpAny_specialOf hTs slice_no_index ?_)
  simp only [Option.isNone_none, if_true]
  refine wpAny_pure ?_
  show wpAny _ _ (typeOf (.ref sl) >>= _) _ _ s
  refine wpAny_bind (wpAny_typeOf hTs ?_)
  rw [if_neg (by decide)]
  rw [listSliceParts_eq]
  refine wpAny_bind (wpAny_bind (wpAny_field hos hds (x := .none) rfl (wpAny_bind (wpAny_listPart .none ?_))))
  rw [if_neg (by decide)]
  refine wpAny_bind (wpAny_field hos hds (x := vl) rfl (wpAny_bind (wpAny_listPart pl ?_)))
  refine wpAny_bind (wpAny_field hos hds (x := vu) rfl (wpAny_bind (wpAny_listPart pu (wpAny_pure ?_))))
  have e1 : Builtin.List.listSameRef (.ref l) (.ref b) = false := by simp [Builtin.List.listSameRef, hne]
  rw [e1]
  show wpAny _ _ (Builtin.List.listAllItems (.ref b) _ >>= _) _ _ s
  refine wpAny_bind ?_
  unfold Builtin.List.listAllItems
  refine wpAny_bind (wpAny_typeOf hTb ?_)
  rw [if_pos (by decide)]
  show wpAny _ _ (seqItems? (.ref b) >>= _) _ _ s
  refine wpAny_bind (wpAny_seqItems hob hdb (wpAny_pure ?_))
  show wpAny _ _ (Builtin.List.listItems (.ref l) >>= _) _ _ s
  refine wpAny_bind (m := Builtin.List.listItems (.ref l)) ?_
  unfold Builtin.List.listItems
  refine wpAny_bind (wpAny_seqItems hl rfl (wpAny_pure ?_))
  refine wpAny_bind (wpAny_of_eq (sliceIndices_raw (some (lo : Int)) (some (hi : Int)) none items.size (by simp)) ?_)
  have eb : sliceBounds (some (lo : Int)) (some (hi : Int)) none items.size = ((lo : Int), (hi : Int), 1) := by
    unfold sliceBounds
    simp only [Option.getD_none]
    have a1 : ¬ ((lo : Int) < 0) := by omega
    have a2 : ¬ ((hi : Int) < 0) := by omega
    have b1 : max (0 : Int) (min (lo : Int) (items.size : Int)) = lo := by omega
    have b2 : max (0 : Int) (min (hi : Int) (items.size : Int)) = hi := by omega
    simp [a1, a2, b1, b2]
  rw [eb]
  show wpAny _ _ (do rule "list.__setitem__.slice"; _) _ _ s
  refine wpAny_bind (wpAny_rule ?_)
  have lz : Builtin.List.listTooLong (items.size + new.size) = false := by
    unfold Builtin.List.listTooLong
    exact decide_eq_false (by omega)
  rw [lz]
  have m1 : (max (lo : Int) (hi : Int)).toNat = hi := by omega
  show wpAny _ _ (updateSeq l (fun xs => xs.extract 0 (lo : Int).toNat ++ new ++ xs.extract (max (lo : Int) (hi : Int)).toNat xs.size) >>= _) _ _ s
  rw [m1]
  refine wpAny_bind (wpAny_updateSeq hl rfl ?_ (by omega) (by simp only [Array.size_append, Array.size_extract]; omega))
  refine wpAny_bind (wpAny_letGo ?_)
  exact wpAny_pure ⟨_, rfl, wpAny_pure h⟩
end
end PySem
namespace L2
open PySem PySem.Spec PyProof.Rows
def gSlice (to : TE) (tl th : TO) : TG := fun v σ H Q => to σ H fun x H1 => tl σ H1 fun l H2 => th σ H2 fun u H3 => ∃ (p q : Addr) (xs ys : List V) (a b : Nat), x = .ref p ∧ v = .ref q ∧ p ≠ q ∧ H3 p = some (.lst xs) ∧ H3 q = some (.lst ys) ∧ l = some (a : Int) ∧ u = some (b : Int) ∧ a ≤ b ∧ b ≤ xs.length ∧ xs.length + ys.length ≤ sizeLine ∧ Q σ (upd H3 p (.lst (xs.take a ++ ys ++ xs.drop b)))
theorem q_pg_slice {X : Cx} {o : Expr} {lo hi : Option Expr} {to : TE} {tl th : TO} {p2 pos : Pos} (ho : QE X o to) (hl : QO X lo tl) (hu : QO X hi th)
    (ha : ∀ v, assign (.Subscript o (.Slice lo hi none p2) pos) X.env v = (do
      let ov ← holding [v] (eval o X.env)
      let iv ← holding [v, ov] (eval (.Slice lo hi none p2) X.env)
      standAt pos
      holding [v, ov, iv] (setItem ov iv v)
      release [iv, v, ov] []) := by intro _; rfl) : QG X (.Subscript o (.Slice lo hi none p2) pos) (gSlice to tl th) := by
  refine ⟨?_⟩
  intro pins s σ H v u Q I r h
  rw [ha]
  refine wpAny_bind (wpAny_holding (thn (ho.h pins s σ H _ I h) fun ov s1 ⟨x, H1, I1, r1, q1⟩ => ?_))
  refine wpAny_bind (wpAny_holding (wpAny_Slice (thn (hl.h pins s1 σ H1 _ I1 q1) fun vl s2 ⟨l, H2, I2, pl, q2⟩ => thn (hu.h pins s2 σ H2 _ I2 q2) fun vu s3 ⟨uu, H3, I3, pu, q3⟩ => ?_)))
  rw [evalPart_none]
  refine wpAny_pure ?_
  obtain ⟨p, q, xs, ys, a, b, rfl, rfl, npq, hp, hq, rfl, rfl, h1, h2, hz, k⟩ := q3
  cases r1
  cases r
  have I4 : Inv X pins σ H3 { s3 with heap := s3.heap.push { cls := .type "slice", data := .fields #[vl, vu, .none] } } := I3.kept (t' := s3.toks) fun b ob q => Heap.get?_push_of_some _ q
  obtain ⟨its, n, rx, hx, hzx⟩ := I4.lst hp
  obtain ⟨jts, m, ry, hy, hzy⟩ := I4.lst hq
  have lx := rx.length
  have ly := ry.length
  refine wpAny_bind (wpAny_standAt (wpAny_bind (wpAny_holding ?_)))
  refine setItem_list_slice hx (Heap.IsSliceOf.new ..) pl pu ⟨_, hy, rfl, _, rfl⟩ npq h1 (by rw [List.size_toArray]; omega) (by rw [List.size_toArray, List.size_toArray]; omega) ?_
  refine wpAny_release ⟨σ, _, ?_, k⟩
  refine I4.lset (its' := its.take a ++ jts ++ its.drop b) (t' := s3.toks) hp hx ?_ ?_ ?_
  · simp only [List.extract_toArray, List.append_toArray, List.size_toArray, List.extract_eq_drop_take]
    congr 1
    simp
    exact List.take_of_length_le (by rw [List.length_drop]; exact Nat.le_refl _)
  · exact ((rx.take a).append ry).append (rx.drop b)
  · rw [List.length_append, List.length_append, List.length_take, List.length_drop]; omega
end L2
set_option Elab.async false
set_option linter.all false
set_option maxRecDepth 100000
set_option maxHeartbeats 4000000
namespace L2
open PySem PySem.Spec PyProof.Rows
section
variable {X : Cx} {K : PySem.W.Frag}
theorem q_pe_dnewT {pos : Pos} : QE X (.Dict [] [] pos) tDNewT := ⟨pe_dnewT⟩
theorem call_list_ofK (e : X.K = K) : CallR X (.type "list") (fun xs H Q => ∃ p ys, xs = [.ref p] ∧ (SqL K H p ys ∨ SqT K H p ys) ∧ ∀ l, H l = none → Q (.ref l) (upd H l (.lst ys))) := by subst e; exact call_list_of
theorem call_tuple_ofK (e : X.K = K) : CallR X (.type "tuple") (fun xs H Q => ∃ p ys, xs = [.ref p] ∧ ((SqL K H p ys ∧ ∀ l, H l = none → Q (.ref l) (upd H l (.tup ys))) ∨ (SqT K H p ys ∧ Q (.ref p) H))) := by subst e; exact call_tuple_of
end
end L2
set_option Elab.async false
set_option linter.all false
set_option maxRecDepth 100000
set_option maxHeartbeats 4000000
namespace Ck
open PySem PySem.Spec PyProof.Rows L2
end Ck
set_option Elab.async false
set_option linter.all false
set_option maxRecDepth 100000
set_option maxHeartbeats 4000000
namespace L2
open PySem PySem.Spec PyProof.Rows
def iEit (K : PySem.W.Frag) (tl : TE) : TI := fun σ H R => tl σ H fun x H1 => ∃ a, x = .ref a ∧ (((∃ xs, SqL K H1 a xs) ∧ R (Itl K a) H1) ∨ ((∃ xs, SqT K H1 a xs) ∧ R (Itt K a) H1))
theorem q_pi_eit {X : Cx} {tg l : Expr} {tl : TE} (hl : QE X l tl) : QI X tg l (iEit X.K tl) := by
  refine ⟨?_⟩
  intro pins s σ H R I h
  refine thn (hl.h pins s σ H _ I h) fun v s1 ⟨x, H1, I1, r1, q1⟩ => ?_
  obtain ⟨a, e, q1⟩ := q1
  subst e
  cases r1
  rcases q1 with ⟨⟨xs, hq⟩, q⟩ | ⟨⟨xs, hq⟩, q⟩
  · obtain ⟨its, rv, p, hz⟩ := I1.list hq
    refine wpAny_pyIter_list p.isList ?_
    refine ⟨s1.heap.objs.size, [s1.heap.objs.size], _, _, H1, rfl, I1.kept (t' := s1.toks) fun b o e => Heap.get?_push_of_some _ e, turn_list a _, ⟨_, Heap.get?_push_size _ rfl, rfl, rfl⟩, fun b hb => ?_, q⟩
    rw [show b = s1.heap.objs.size by simpa using hb]
    exact I1.fpOk (Nat.le_refl _) (I1.hok.fresh (Nat.le_refl _))
  · obtain ⟨its, rv, p, hz⟩ := I1.tuple hq
    refine wpAny_pyIter_tuple (show s1.heap.IsTuple a its.toArray from p) ?_
    refine ⟨s1.heap.objs.size, [s1.heap.objs.size], _, _, H1, rfl, I1.kept (t' := s1.toks) fun b o e => Heap.get?_push_of_some _ e, turn_tuple a _, ⟨_, Heap.get?_push_size _ rfl, rfl, rfl⟩, fun b hb => ?_, q⟩
    rw [show b = s1.heap.objs.size by simpa using hb]
    exact I1.fpOk (Nat.le_refl _) (I1.hok.fresh (Nat.le_refl _))
end L2
set_option Elab.async false
set_option linter.all false
set_option pp.maxSteps 1500
set_option maxRecDepth 100000
set_option maxHeartbeats 4000000
namespace Ck
open PySem L2
def top (i : Nat) : Stmt := PySem.Challenge.pw_callcoin_k51_tables_made.main.body.getD i (.Pass ⟨0, 0, 0, 0⟩)
abbrev s_is_made_of : Stmt := top 26
theorem sc_is_made_of : FnScope ["text", "signs", "sign"] ["text", "signs"] (defScope s_is_made_of) := ⟨rfl, rfl, rfl, by decide +kernel, rfl, by decide +kernel, by decide +kernel⟩
abbrev s_is_word : Stmt := top 27
theorem sc_is_word : FnScope ["text"] ["text"] (defScope s_is_word) := ⟨rfl, rfl, rfl, by decide +kernel, rfl, by decide +kernel, by decide +kernel⟩
abbrev s_is_name : Stmt := top 28
theorem sc_is_name : FnScope ["text"] ["text"] (defScope s_is_name) := ⟨rfl, rfl, rfl, by decide +kernel, rfl, by decide +kernel, by decide +kernel⟩
abbrev s_is_number : Stmt := top 29
theorem sc_is_number : FnScope ["number"] ["number"] (defScope s_is_number) := ⟨rfl, rfl, rfl, by decide +kernel, rfl, by decide +kernel, by decide +kernel⟩
abbrev s_is_within : Stmt := top 30
theorem sc_is_within : FnScope ["number", "least", "most"] ["number", "least", "most"] (defScope s_is_within) := ⟨rfl, rfl, rfl, by decide +kernel, rfl, by decide +kernel, by decide +kernel⟩
abbrev s_check_name : Stmt := top 32
theorem sc_check_name : FnScope ["text"] ["text"] (defScope s_check_name) := ⟨rfl, rfl, rfl, by decide +kernel, rfl, by decide +kernel, by decide +kernel⟩
abbrev s_check_names : Stmt := top 33
theorem sc_check_names : FnScope ["texts", "text"] ["texts"] (defScope s_check_names) := ⟨rfl, rfl, rfl, by decide +kernel, rfl, by decide +kernel, by decide +kernel⟩
abbrev s_sides : Stmt := top 38
theorem sc_sides : FnScope ["row", "town", "kind", "given", "other_town", "other_kind", "gained"] ["row"] (defScope s_sides) := ⟨rfl, rfl, rfl, by decide +kernel, rfl, by decide +kernel, by decide +kernel⟩
abbrev s_goods_of : Stmt := top 39
theorem sc_goods_of : FnScope ["rows", "found", "row", "one", "given", "other", "gained"] ["rows"] (defScope s_goods_of) := ⟨rfl, rfl, rfl, by decide +kernel, rfl, by decide +kernel, by decide +kernel⟩
abbrev s_check_rows : Stmt := top 40
theorem sc_check_rows : FnScope ["rows", "row", "one", "given", "other", "gained"] ["rows"] (defScope s_check_rows) := ⟨rfl, rfl, rfl, by decide +kernel, rfl, by decide +kernel, by decide +kernel⟩
abbrev s_Changers_init : Stmt := inClass (top 41) 0
theorem sc_Changers_init : FnScope ["self", "rows", "own_rows", "row"] ["self", "rows"] (defScope s_Changers_init) := ⟨rfl, rfl, rfl, by decide +kernel, rfl, by decide +kernel, by decide +kernel⟩
abbrev s_Changers_goods : Stmt := inClass (top 41) 1
theorem sc_Changers_goods : FnScope ["self"] ["self"] (defScope s_Changers_goods) := ⟨rfl, rfl, rfl, by decide +kernel, rfl, by decide +kernel, by decide +kernel⟩
abbrev s_l_mixed : Stmt := top 43
theorem sc_l_mixed : FnScope ["_law_cell", "_law_k", "_law_mix"] ["_law_cell", "_law_k"] (defScope s_l_mixed) := ⟨rfl, rfl, rfl, by decide +kernel, rfl, by decide +kernel, by decide +kernel⟩
abbrev s_l_next : Stmt := top 44
theorem sc_l_next : FnScope ["_law_draw", "_law_size", "_law_at", "_law_many", "_law_cell"] ["_law_draw", "_law_size"] (defScope s_l_next) := ⟨rfl, rfl, rfl, by decide +kernel, rfl, by decide +kernel, by decide +kernel⟩
abbrev s_l_word : Stmt := top 45
theorem sc_l_word : FnScope ["_law_draw", "_law_some", "_law_word_here", "_law_k"] ["_law_draw"] (defScope s_l_word) := ⟨rfl, rfl, rfl, by decide +kernel, rfl, by decide +kernel, by decide +kernel⟩
abbrev s_l_words : Stmt := top 46
theorem sc_l_words : FnScope ["_law_draw", "_law_many", "_law_found", "_law_k", "_law_word_here", "_law_sign"] ["_law_draw", "_law_many"] (defScope s_l_words) := ⟨rfl, rfl, rfl, by decide +kernel, rfl, by decide +kernel, by decide +kernel⟩
abbrev s_l_goods : Stmt := top 47
theorem sc_l_goods : FnScope ["_law_draw", "_law_many", "_law_words_here", "_law_left", "_law_word_here", "_law_k", "_law_other"] ["_law_draw", "_law_many"] (defScope s_l_goods) := ⟨rfl, rfl, rfl, by decide +kernel, rfl, by decide +kernel, by decide +kernel⟩
abbrev s_l_number : Stmt := top 48
theorem sc_l_number : FnScope ["_law_draw", "_law_way"] ["_law_draw"] (defScope s_l_number) := ⟨rfl, rfl, rfl, by decide +kernel, rfl, by decide +kernel, by decide +kernel⟩
abbrev s_l_rows : Stmt := top 49
theorem sc_l_rows : FnScope ["_law_draw", "_law_goods_here", "_law_many", "_law_rows_here", "_law_k", "_law_at", "_law_to"] ["_law_draw", "_law_goods_here", "_law_many"] (defScope s_l_rows) := ⟨rfl, rfl, rfl, by decide +kernel, rfl, by decide +kernel, by decide +kernel⟩
abbrev s_l_is_name : Stmt := top 50
theorem sc_l_is_name : FnScope ["_law_text", "_law_sign"] ["_law_text"] (defScope s_l_is_name) := ⟨rfl, rfl, rfl, by decide +kernel, rfl, by decide +kernel, by decide +kernel⟩
abbrev s_l_spoilt : Stmt := top 51
theorem sc_l_spoilt : FnScope ["_law_draw", "_law_rows_here", "_law_words_here", "_law_way", "_law_at", "_law_row", "_law_names", "_law_goods_here", "_law_k"] ["_law_draw", "_law_rows_here", "_law_words_here"] (defScope s_l_spoilt) := ⟨rfl, rfl, rfl, by decide +kernel, rfl, by decide +kernel, by decide +kernel⟩
abbrev s_l_due : Stmt := top 52
theorem sc_l_due : FnScope ["_law_rows_here", "_law_goods_here", "_law_numbers", "_law_row", "_law_good", "_law_number_here", "_law_name"] ["_law_rows_here"] (defScope s_l_due) := ⟨rfl, rfl, rfl, by decide +kernel, rfl, by decide +kernel, by decide +kernel⟩
abbrev s_l_class : Stmt := top 53
theorem sc_l_class : FnScope ["_law_e", "_law_some", "_law_words_here"] ["_law_e"] (defScope s_l_class) := ⟨rfl, rfl, rfl, by decide +kernel, rfl, by decide +kernel, by decide +kernel⟩
abbrev s_l_told_right : Stmt := top 54
theorem sc_l_told_right : FnScope ["_law_table", "_law_rows_here", "_law_goods_here", "_law_found", "_law_good", "_law_row"] ["_law_table", "_law_rows_here", "_law_goods_here"] (defScope s_l_told_right) := ⟨rfl, rfl, rfl, by decide +kernel, rfl, by decide +kernel, by decide +kernel⟩
abbrev s_law : Stmt := top 55
theorem sc_law : FnScope ["_law_script", "_law_draw", "_law_spoils", "_law_as_lists", "_law_many", "_law_goods_here", "_law_good_rows", "_law_words_here", "_law_rows_here", "_law_k", "_law_handed", "_law_other", "_law_due_here", "_law_table", "_law_error", "_law_e", "_law_row"] ["_law_script"] (defScope s_law) := ⟨rfl, rfl, rfl, by decide +kernel, rfl, by decide +kernel, by decide +kernel⟩
abbrev c_SMALL_LETTERS : V := .str "abcdefghijklmnopqrstuvwxyz"
abbrev c_LONGEST_NAME : V := .int 8
abbrev c_MOST_ROWS : V := .int 40
abbrev c_MOST_GOODS : V := .int 16
abbrev c_MOST_MANY : V := .int 1000000
structure Ad where
  C_Changers : Addr
  C_NoName : Addr
  C_NoRow : Addr
  C_NoMoney : Addr
  C_NoAmount : Addr
  C_NoText : Addr
  C_NoBridge : Addr
  C_NoDay : Addr
  C_NoWorth : Addr
  C_NoBook : Addr
  C_NoTerm : Addr
  C_NoWeight : Addr
  C_NoMany : Addr
  C_NoKinds : Addr
  C_Lacking : Addr
  C_NoStock : Addr
  C_NoDebt : Addr
  C_NoPeople : Addr
  C_NoDeed : Addr
  C_Shut : Addr
  C_TooMany : Addr
  C_CoinError : Addr
  a_is_made_of : Addr
  fd_is_made_of : FuncData
  a_is_word : Addr
  fd_is_word : FuncData
  a_is_name : Addr
  fd_is_name : FuncData
  a_is_number : Addr
  fd_is_number : FuncData
  a_is_within : Addr
  fd_is_within : FuncData
  a_check_name : Addr
  fd_check_name : FuncData
  a_check_names : Addr
  fd_check_names : FuncData
  a_sides : Addr
  fd_sides : FuncData
  a_goods_of : Addr
  fd_goods_of : FuncData
  a_check_rows : Addr
  fd_check_rows : FuncData
  a_Changers_init : Addr
  fd_Changers_init : FuncData
  a_Changers_goods : Addr
  fd_Changers_goods : FuncData
  a_l_mixed : Addr
  fd_l_mixed : FuncData
  a_l_next : Addr
  fd_l_next : FuncData
  a_l_word : Addr
  fd_l_word : FuncData
  a_l_words : Addr
  fd_l_words : FuncData
  a_l_goods : Addr
  fd_l_goods : FuncData
  a_l_number : Addr
  fd_l_number : FuncData
  a_l_rows : Addr
  fd_l_rows : FuncData
  a_l_is_name : Addr
  fd_l_is_name : FuncData
  a_l_spoilt : Addr
  fd_l_spoilt : FuncData
  a_l_due : Addr
  fd_l_due : FuncData
  a_l_class : Addr
  fd_l_class : FuncData
  a_l_told_right : Addr
  fd_l_told_right : FuncData
  a_law : Addr
  fd_law : FuncData
  k_SMALL_LETTERS : Tok
  k_LONGEST_NAME : Tok
  k_MOST_ROWS : Tok
  k_MOST_GOODS : Tok
  k_MOST_MANY : Tok
structure Env (K : PySem.W.Frag) (mg : Str → Option Value) (t : Ad) : Prop where
  cl_Changers : Cls K t.C_Changers
  mg_Changers : mg "Changers" = some (.ref t.C_Changers)
  mk_Changers : Mk K t.C_Changers t.a_Changers_init
  no_Changers_rows : NoAttr K t.C_Changers "rows"
  mg_NoName : mg "NoName" = some (.ref t.C_NoName)
  mg_NoRow : mg "NoRow" = some (.ref t.C_NoRow)
  mg_NoMoney : mg "NoMoney" = some (.ref t.C_NoMoney)
  mg_NoAmount : mg "NoAmount" = some (.ref t.C_NoAmount)
  mg_NoText : mg "NoText" = some (.ref t.C_NoText)
  mg_NoBridge : mg "NoBridge" = some (.ref t.C_NoBridge)
  mg_NoDay : mg "NoDay" = some (.ref t.C_NoDay)
  mg_NoWorth : mg "NoWorth" = some (.ref t.C_NoWorth)
  mg_NoBook : mg "NoBook" = some (.ref t.C_NoBook)
  mg_NoTerm : mg "NoTerm" = some (.ref t.C_NoTerm)
  mg_NoWeight : mg "NoWeight" = some (.ref t.C_NoWeight)
  mg_NoMany : mg "NoMany" = some (.ref t.C_NoMany)
  mg_NoKinds : mg "NoKinds" = some (.ref t.C_NoKinds)
  mg_Lacking : mg "Lacking" = some (.ref t.C_Lacking)
  mg_NoStock : mg "NoStock" = some (.ref t.C_NoStock)
  mg_NoDebt : mg "NoDebt" = some (.ref t.C_NoDebt)
  mg_NoPeople : mg "NoPeople" = some (.ref t.C_NoPeople)
  mg_NoDeed : mg "NoDeed" = some (.ref t.C_NoDeed)
  mg_Shut : mg "Shut" = some (.ref t.C_Shut)
  mg_TooMany : mg "TooMany" = some (.ref t.C_TooMany)
  mg_CoinError : mg "CoinError" = some (.ref t.C_CoinError)
  ex_NoName : ExcI K t.C_NoName
  is_NoName_NoName : PySem.W.kitOne K (.ref t.C_NoName) (.ref t.C_NoName) = some true
  is_NoName_NoMoney : PySem.W.kitOne K (.ref t.C_NoName) (.ref t.C_NoMoney) = some false
  is_NoName_NoAmount : PySem.W.kitOne K (.ref t.C_NoName) (.ref t.C_NoAmount) = some false
  is_NoName_NoText : PySem.W.kitOne K (.ref t.C_NoName) (.ref t.C_NoText) = some false
  is_NoName_NoBridge : PySem.W.kitOne K (.ref t.C_NoName) (.ref t.C_NoBridge) = some false
  is_NoName_NoDay : PySem.W.kitOne K (.ref t.C_NoName) (.ref t.C_NoDay) = some false
  is_NoName_NoWorth : PySem.W.kitOne K (.ref t.C_NoName) (.ref t.C_NoWorth) = some false
  is_NoName_NoBook : PySem.W.kitOne K (.ref t.C_NoName) (.ref t.C_NoBook) = some false
  is_NoName_NoTerm : PySem.W.kitOne K (.ref t.C_NoName) (.ref t.C_NoTerm) = some false
  is_NoName_NoWeight : PySem.W.kitOne K (.ref t.C_NoName) (.ref t.C_NoWeight) = some false
  is_NoName_NoMany : PySem.W.kitOne K (.ref t.C_NoName) (.ref t.C_NoMany) = some false
  is_NoName_NoKinds : PySem.W.kitOne K (.ref t.C_NoName) (.ref t.C_NoKinds) = some false
  is_NoName_Lacking : PySem.W.kitOne K (.ref t.C_NoName) (.ref t.C_Lacking) = some false
  is_NoName_NoRow : PySem.W.kitOne K (.ref t.C_NoName) (.ref t.C_NoRow) = some false
  is_NoName_NoStock : PySem.W.kitOne K (.ref t.C_NoName) (.ref t.C_NoStock) = some false
  is_NoName_NoDebt : PySem.W.kitOne K (.ref t.C_NoName) (.ref t.C_NoDebt) = some false
  is_NoName_NoPeople : PySem.W.kitOne K (.ref t.C_NoName) (.ref t.C_NoPeople) = some false
  is_NoName_NoDeed : PySem.W.kitOne K (.ref t.C_NoName) (.ref t.C_NoDeed) = some false
  is_NoName_Shut : PySem.W.kitOne K (.ref t.C_NoName) (.ref t.C_Shut) = some false
  is_NoName_TooMany : PySem.W.kitOne K (.ref t.C_NoName) (.ref t.C_TooMany) = some false
  is_NoName_ValueError : PySem.W.kitOne K (.ref t.C_NoName) (.type "ValueError") = some true
  ca_NoName_CoinError : PySem.W.exmOne K (.ref t.C_NoName) (.ref t.C_CoinError) = some true
  ex_NoRow : ExcI K t.C_NoRow
  is_NoRow_NoName : PySem.W.kitOne K (.ref t.C_NoRow) (.ref t.C_NoName) = some false
  is_NoRow_NoMoney : PySem.W.kitOne K (.ref t.C_NoRow) (.ref t.C_NoMoney) = some false
  is_NoRow_NoAmount : PySem.W.kitOne K (.ref t.C_NoRow) (.ref t.C_NoAmount) = some false
  is_NoRow_NoText : PySem.W.kitOne K (.ref t.C_NoRow) (.ref t.C_NoText) = some false
  is_NoRow_NoBridge : PySem.W.kitOne K (.ref t.C_NoRow) (.ref t.C_NoBridge) = some false
  is_NoRow_NoDay : PySem.W.kitOne K (.ref t.C_NoRow) (.ref t.C_NoDay) = some false
  is_NoRow_NoWorth : PySem.W.kitOne K (.ref t.C_NoRow) (.ref t.C_NoWorth) = some false
  is_NoRow_NoBook : PySem.W.kitOne K (.ref t.C_NoRow) (.ref t.C_NoBook) = some false
  is_NoRow_NoTerm : PySem.W.kitOne K (.ref t.C_NoRow) (.ref t.C_NoTerm) = some false
  is_NoRow_NoWeight : PySem.W.kitOne K (.ref t.C_NoRow) (.ref t.C_NoWeight) = some false
  is_NoRow_NoMany : PySem.W.kitOne K (.ref t.C_NoRow) (.ref t.C_NoMany) = some false
  is_NoRow_NoKinds : PySem.W.kitOne K (.ref t.C_NoRow) (.ref t.C_NoKinds) = some false
  is_NoRow_Lacking : PySem.W.kitOne K (.ref t.C_NoRow) (.ref t.C_Lacking) = some false
  is_NoRow_NoRow : PySem.W.kitOne K (.ref t.C_NoRow) (.ref t.C_NoRow) = some true
  is_NoRow_NoStock : PySem.W.kitOne K (.ref t.C_NoRow) (.ref t.C_NoStock) = some false
  is_NoRow_NoDebt : PySem.W.kitOne K (.ref t.C_NoRow) (.ref t.C_NoDebt) = some false
  is_NoRow_NoPeople : PySem.W.kitOne K (.ref t.C_NoRow) (.ref t.C_NoPeople) = some false
  is_NoRow_NoDeed : PySem.W.kitOne K (.ref t.C_NoRow) (.ref t.C_NoDeed) = some false
  is_NoRow_Shut : PySem.W.kitOne K (.ref t.C_NoRow) (.ref t.C_Shut) = some false
  is_NoRow_TooMany : PySem.W.kitOne K (.ref t.C_NoRow) (.ref t.C_TooMany) = some false
  is_NoRow_ValueError : PySem.W.kitOne K (.ref t.C_NoRow) (.type "ValueError") = some true
  ca_NoRow_CoinError : PySem.W.exmOne K (.ref t.C_NoRow) (.ref t.C_CoinError) = some true
  f_is_made_of : Fun K "is_made_of" "is_made_of" s_is_made_of t.a_is_made_of t.fd_is_made_of
  b_is_made_of : Binds K t.fd_is_made_of ["text", "signs"] []
  kp_is_made_of : PySem.W.keepIn K (.ref t.a_is_made_of) = true
  mg_is_made_of : mg "is_made_of" = some (.ref t.a_is_made_of)
  f_is_word : Fun K "is_word" "is_word" s_is_word t.a_is_word t.fd_is_word
  b_is_word : Binds K t.fd_is_word ["text"] []
  kp_is_word : PySem.W.keepIn K (.ref t.a_is_word) = true
  mg_is_word : mg "is_word" = some (.ref t.a_is_word)
  f_is_name : Fun K "is_name" "is_name" s_is_name t.a_is_name t.fd_is_name
  b_is_name : Binds K t.fd_is_name ["text"] []
  kp_is_name : PySem.W.keepIn K (.ref t.a_is_name) = true
  mg_is_name : mg "is_name" = some (.ref t.a_is_name)
  f_is_number : Fun K "is_number" "is_number" s_is_number t.a_is_number t.fd_is_number
  b_is_number : Binds K t.fd_is_number ["number"] []
  kp_is_number : PySem.W.keepIn K (.ref t.a_is_number) = true
  mg_is_number : mg "is_number" = some (.ref t.a_is_number)
  f_is_within : Fun K "is_within" "is_within" s_is_within t.a_is_within t.fd_is_within
  b_is_within : Binds K t.fd_is_within ["number", "least", "most"] []
  kp_is_within : PySem.W.keepIn K (.ref t.a_is_within) = true
  mg_is_within : mg "is_within" = some (.ref t.a_is_within)
  f_check_name : Fun K "check_name" "check_name" s_check_name t.a_check_name t.fd_check_name
  b_check_name : Binds K t.fd_check_name ["text"] []
  kp_check_name : PySem.W.keepIn K (.ref t.a_check_name) = true
  mg_check_name : mg "check_name" = some (.ref t.a_check_name)
  f_check_names : Fun K "check_names" "check_names" s_check_names t.a_check_names t.fd_check_names
  b_check_names : Binds K t.fd_check_names ["texts"] []
  kp_check_names : PySem.W.keepIn K (.ref t.a_check_names) = true
  mg_check_names : mg "check_names" = some (.ref t.a_check_names)
  f_sides : Fun K "sides" "sides" s_sides t.a_sides t.fd_sides
  b_sides : Binds K t.fd_sides ["row"] []
  kp_sides : PySem.W.keepIn K (.ref t.a_sides) = true
  mg_sides : mg "sides" = some (.ref t.a_sides)
  f_goods_of : Fun K "goods_of" "goods_of" s_goods_of t.a_goods_of t.fd_goods_of
  b_goods_of : Binds K t.fd_goods_of ["rows"] []
  kp_goods_of : PySem.W.keepIn K (.ref t.a_goods_of) = true
  mg_goods_of : mg "goods_of" = some (.ref t.a_goods_of)
  f_check_rows : Fun K "check_rows" "check_rows" s_check_rows t.a_check_rows t.fd_check_rows
  b_check_rows : Binds K t.fd_check_rows ["rows"] []
  kp_check_rows : PySem.W.keepIn K (.ref t.a_check_rows) = true
  mg_check_rows : mg "check_rows" = some (.ref t.a_check_rows)
  f_Changers_init : Fun K "__init__" "Changers.__init__" s_Changers_init t.a_Changers_init t.fd_Changers_init
  b_Changers_init : Binds K t.fd_Changers_init ["self", "rows"] []
  f_Changers_goods : Fun K "goods" "Changers.goods" s_Changers_goods t.a_Changers_goods t.fd_Changers_goods
  b_Changers_goods : Binds K t.fd_Changers_goods ["self"] []
  m_Changers_goods : Meth K t.C_Changers "goods" t.a_Changers_goods
  f_l_mixed : Fun K "_law_mixed" "_law_mixed" s_l_mixed t.a_l_mixed t.fd_l_mixed
  b_l_mixed : Binds K t.fd_l_mixed ["_law_cell", "_law_k"] []
  kp_l_mixed : PySem.W.keepIn K (.ref t.a_l_mixed) = true
  mg_l_mixed : mg "_law_mixed" = some (.ref t.a_l_mixed)
  f_l_next : Fun K "_law_next" "_law_next" s_l_next t.a_l_next t.fd_l_next
  b_l_next : Binds K t.fd_l_next ["_law_draw", "_law_size"] []
  kp_l_next : PySem.W.keepIn K (.ref t.a_l_next) = true
  mg_l_next : mg "_law_next" = some (.ref t.a_l_next)
  f_l_word : Fun K "_law_word" "_law_word" s_l_word t.a_l_word t.fd_l_word
  b_l_word : Binds K t.fd_l_word ["_law_draw"] []
  kp_l_word : PySem.W.keepIn K (.ref t.a_l_word) = true
  mg_l_word : mg "_law_word" = some (.ref t.a_l_word)
  f_l_words : Fun K "_law_words" "_law_words" s_l_words t.a_l_words t.fd_l_words
  b_l_words : Binds K t.fd_l_words ["_law_draw", "_law_many"] []
  kp_l_words : PySem.W.keepIn K (.ref t.a_l_words) = true
  mg_l_words : mg "_law_words" = some (.ref t.a_l_words)
  f_l_goods : Fun K "_law_goods" "_law_goods" s_l_goods t.a_l_goods t.fd_l_goods
  b_l_goods : Binds K t.fd_l_goods ["_law_draw", "_law_many"] []
  kp_l_goods : PySem.W.keepIn K (.ref t.a_l_goods) = true
  mg_l_goods : mg "_law_goods" = some (.ref t.a_l_goods)
  f_l_number : Fun K "_law_number" "_law_number" s_l_number t.a_l_number t.fd_l_number
  b_l_number : Binds K t.fd_l_number ["_law_draw"] []
  kp_l_number : PySem.W.keepIn K (.ref t.a_l_number) = true
  mg_l_number : mg "_law_number" = some (.ref t.a_l_number)
  f_l_rows : Fun K "_law_rows" "_law_rows" s_l_rows t.a_l_rows t.fd_l_rows
  b_l_rows : Binds K t.fd_l_rows ["_law_draw", "_law_goods_here", "_law_many"] []
  kp_l_rows : PySem.W.keepIn K (.ref t.a_l_rows) = true
  mg_l_rows : mg "_law_rows" = some (.ref t.a_l_rows)
  f_l_is_name : Fun K "_law_is_name" "_law_is_name" s_l_is_name t.a_l_is_name t.fd_l_is_name
  b_l_is_name : Binds K t.fd_l_is_name ["_law_text"] []
  kp_l_is_name : PySem.W.keepIn K (.ref t.a_l_is_name) = true
  mg_l_is_name : mg "_law_is_name" = some (.ref t.a_l_is_name)
  f_l_spoilt : Fun K "_law_spoilt" "_law_spoilt" s_l_spoilt t.a_l_spoilt t.fd_l_spoilt
  b_l_spoilt : Binds K t.fd_l_spoilt ["_law_draw", "_law_rows_here", "_law_words_here"] []
  kp_l_spoilt : PySem.W.keepIn K (.ref t.a_l_spoilt) = true
  mg_l_spoilt : mg "_law_spoilt" = some (.ref t.a_l_spoilt)
  f_l_due : Fun K "_law_due" "_law_due" s_l_due t.a_l_due t.fd_l_due
  b_l_due : Binds K t.fd_l_due ["_law_rows_here"] []
  kp_l_due : PySem.W.keepIn K (.ref t.a_l_due) = true
  mg_l_due : mg "_law_due" = some (.ref t.a_l_due)
  f_l_class : Fun K "_law_class" "_law_class" s_l_class t.a_l_class t.fd_l_class
  b_l_class : Binds K t.fd_l_class ["_law_e"] []
  kp_l_class : PySem.W.keepIn K (.ref t.a_l_class) = true
  mg_l_class : mg "_law_class" = some (.ref t.a_l_class)
  f_l_told_right : Fun K "_law_told_right" "_law_told_right" s_l_told_right t.a_l_told_right t.fd_l_told_right
  b_l_told_right : Binds K t.fd_l_told_right ["_law_table", "_law_rows_here", "_law_goods_here"] []
  kp_l_told_right : PySem.W.keepIn K (.ref t.a_l_told_right) = true
  mg_l_told_right : mg "_law_told_right" = some (.ref t.a_l_told_right)
  f_law : Fun K "law" "law" s_law t.a_law t.fd_law
  b_law : Binds K t.fd_law ["_law_script"] []
  kp_law : PySem.W.keepIn K (.ref t.a_law) = true
  mg_law : mg "law" = some (.ref t.a_law)
  mg_SMALL_LETTERS : mg "SMALL_LETTERS" = some (Value.str "abcdefghijklmnopqrstuvwxyz" t.k_SMALL_LETTERS)
  mg_LONGEST_NAME : mg "LONGEST_NAME" = some (Value.int 8 t.k_LONGEST_NAME)
  mg_MOST_ROWS : mg "MOST_ROWS" = some (Value.int 40 t.k_MOST_ROWS)
  mg_MOST_GOODS : mg "MOST_GOODS" = some (Value.int 16 t.k_MOST_GOODS)
  mg_MOST_MANY : mg "MOST_MANY" = some (Value.int 1000000 t.k_MOST_MANY)
  z_len : mg "len" = none
  z_range : mg "range" = none
  z_max : mg "max" = none
  z_min : mg "min" = none
  z_isinstance : mg "isinstance" = none
  z_all : mg "all" = none
  z_str : mg "str" = none
  z_bool : mg "bool" = none
  z_int : mg "int" = none
  z_list : mg "list" = none
  z_tuple : mg "tuple" = none
  z_ValueError : mg "ValueError" = none
theorem env_mk {K : PySem.W.Frag} {h : Heap} {mg : Str → Option Value} {C_Changers : Addr} {C_NoName : Addr} {C_NoRow : Addr} {C_NoMoney : Addr} {C_NoAmount : Addr} {C_NoText : Addr} {C_NoBridge : Addr} {C_NoDay : Addr} {C_NoWorth : Addr} {C_NoBook : Addr} {C_NoTerm : Addr} {C_NoWeight : Addr} {C_NoMany : Addr} {C_NoKinds : Addr} {C_Lacking : Addr} {C_NoStock : Addr} {C_NoDebt : Addr} {C_NoPeople : Addr} {C_NoDeed : Addr} {C_Shut : Addr} {C_TooMany : Addr} {C_CoinError : Addr} {a_is_made_of : Addr} {od_is_made_of an_is_made_of : Option Addr} {sl_is_made_of : Array (Option Value)} {oc_is_made_of kV_is_made_of dc_is_made_of pm_is_made_of cd_is_made_of ct_is_made_of : Value} {a_is_word : Addr} {od_is_word an_is_word : Option Addr} {sl_is_word : Array (Option Value)} {oc_is_word kV_is_word dc_is_word pm_is_word cd_is_word ct_is_word : Value} {a_is_name : Addr} {od_is_name an_is_name : Option Addr} {sl_is_name : Array (Option Value)} {oc_is_name kV_is_name dc_is_name pm_is_name cd_is_name ct_is_name : Value} {a_is_number : Addr} {od_is_number an_is_number : Option Addr} {sl_is_number : Array (Option Value)} {oc_is_number kV_is_number dc_is_number pm_is_number cd_is_number ct_is_number : Value} {a_is_within : Addr} {od_is_within an_is_within : Option Addr} {sl_is_within : Array (Option Value)} {oc_is_within kV_is_within dc_is_within pm_is_within cd_is_within ct_is_within : Value} {a_check_name : Addr} {od_check_name an_check_name : Option Addr} {sl_check_name : Array (Option Value)} {oc_check_name kV_check_name dc_check_name pm_check_name cd_check_name ct_check_name : Value} {a_check_names : Addr} {od_check_names an_check_names : Option Addr} {sl_check_names : Array (Option Value)} {oc_check_names kV_check_names dc_check_names pm_check_names cd_check_names ct_check_names : Value} {a_sides : Addr} {od_sides an_sides : Option Addr} {sl_sides : Array (Option Value)} {oc_sides kV_sides dc_sides pm_sides cd_sides ct_sides : Value} {a_goods_of : Addr} {od_goods_of an_goods_of : Option Addr} {sl_goods_of : Array (Option Value)} {oc_goods_of kV_goods_of dc_goods_of pm_goods_of cd_goods_of ct_goods_of : Value} {a_check_rows : Addr} {od_check_rows an_check_rows : Option Addr} {sl_check_rows : Array (Option Value)} {oc_check_rows kV_check_rows dc_check_rows pm_check_rows cd_check_rows ct_check_rows : Value} {a_Changers_init : Addr} {od_Changers_init an_Changers_init : Option Addr} {sl_Changers_init : Array (Option Value)} {oc_Changers_init kV_Changers_init dc_Changers_init pm_Changers_init cd_Changers_init ct_Changers_init : Value} {a_Changers_goods : Addr} {od_Changers_goods an_Changers_goods : Option Addr} {sl_Changers_goods : Array (Option Value)} {oc_Changers_goods kV_Changers_goods dc_Changers_goods pm_Changers_goods cd_Changers_goods ct_Changers_goods : Value} {a_l_mixed : Addr} {od_l_mixed an_l_mixed : Option Addr} {sl_l_mixed : Array (Option Value)} {oc_l_mixed kV_l_mixed dc_l_mixed pm_l_mixed cd_l_mixed ct_l_mixed : Value} {a_l_next : Addr} {od_l_next an_l_next : Option Addr} {sl_l_next : Array (Option Value)} {oc_l_next kV_l_next dc_l_next pm_l_next cd_l_next ct_l_next : Value} {a_l_word : Addr} {od_l_word an_l_word : Option Addr} {sl_l_word : Array (Option Value)} {oc_l_word kV_l_word dc_l_word pm_l_word cd_l_word ct_l_word : Value} {a_l_words : Addr} {od_l_words an_l_words : Option Addr} {sl_l_words : Array (Option Value)} {oc_l_words kV_l_words dc_l_words pm_l_words cd_l_words ct_l_words : Value} {a_l_goods : Addr} {od_l_goods an_l_goods : Option Addr} {sl_l_goods : Array (Option Value)} {oc_l_goods kV_l_goods dc_l_goods pm_l_goods cd_l_goods ct_l_goods : Value} {a_l_number : Addr} {od_l_number an_l_number : Option Addr} {sl_l_number : Array (Option Value)} {oc_l_number kV_l_number dc_l_number pm_l_number cd_l_number ct_l_number : Value} {a_l_rows : Addr} {od_l_rows an_l_rows : Option Addr} {sl_l_rows : Array (Option Value)} {oc_l_rows kV_l_rows dc_l_rows pm_l_rows cd_l_rows ct_l_rows : Value} {a_l_is_name : Addr} {od_l_is_name an_l_is_name : Option Addr} {sl_l_is_name : Array (Option Value)} {oc_l_is_name kV_l_is_name dc_l_is_name pm_l_is_name cd_l_is_name ct_l_is_name : Value} {a_l_spoilt : Addr} {od_l_spoilt an_l_spoilt : Option Addr} {sl_l_spoilt : Array (Option Value)} {oc_l_spoilt kV_l_spoilt dc_l_spoilt pm_l_spoilt cd_l_spoilt ct_l_spoilt : Value} {a_l_due : Addr} {od_l_due an_l_due : Option Addr} {sl_l_due : Array (Option Value)} {oc_l_due kV_l_due dc_l_due pm_l_due cd_l_due ct_l_due : Value} {a_l_class : Addr} {od_l_class an_l_class : Option Addr} {sl_l_class : Array (Option Value)} {oc_l_class kV_l_class dc_l_class pm_l_class cd_l_class ct_l_class : Value} {a_l_told_right : Addr} {od_l_told_right an_l_told_right : Option Addr} {sl_l_told_right : Array (Option Value)} {oc_l_told_right kV_l_told_right dc_l_told_right pm_l_told_right cd_l_told_right ct_l_told_right : Value} {a_law : Addr} {od_law an_law : Option Addr} {sl_law : Array (Option Value)} {oc_law kV_law dc_law pm_law cd_law ct_law : Value} {k_SMALL_LETTERS : Tok} {k_LONGEST_NAME : Tok} {k_MOST_ROWS : Tok} {k_MOST_GOODS : Tok} {k_MOST_MANY : Tok} (X : K.In h) (G : h.Ns mainGlobals mg)
    (n_Changers : PySem.W.nsIn K mainGlobals "Changers" = some (some (.ref C_Changers)))
    (pg_Changers : PySem.W.plainGet K C_Changers Str.empty = true)
    (hd_Changers : PySem.W.hasDictIn K C_Changers = true)
    (po_Changers : PySem.W.plainOver K C_Changers = true)
    (sa_Changers : PySem.W.findIn K (.ref C_Changers) "__setattr__" = some (some (.builtin "object.__setattr__")))
    (mk_Changers : PySem.W.makesIn K C_Changers = true)
    (kc_Changers : PySem.W.keepIn K (.ref C_Changers) = true)
    (no_Changers_rows : PySem.W.findIn K (.ref C_Changers) "rows" = some none)
    (n_NoName : PySem.W.nsIn K mainGlobals "NoName" = some (some (.ref C_NoName)))
    (n_NoRow : PySem.W.nsIn K mainGlobals "NoRow" = some (some (.ref C_NoRow)))
    (n_NoMoney : PySem.W.nsIn K mainGlobals "NoMoney" = some (some (.ref C_NoMoney)))
    (n_NoAmount : PySem.W.nsIn K mainGlobals "NoAmount" = some (some (.ref C_NoAmount)))
    (n_NoText : PySem.W.nsIn K mainGlobals "NoText" = some (some (.ref C_NoText)))
    (n_NoBridge : PySem.W.nsIn K mainGlobals "NoBridge" = some (some (.ref C_NoBridge)))
    (n_NoDay : PySem.W.nsIn K mainGlobals "NoDay" = some (some (.ref C_NoDay)))
    (n_NoWorth : PySem.W.nsIn K mainGlobals "NoWorth" = some (some (.ref C_NoWorth)))
    (n_NoBook : PySem.W.nsIn K mainGlobals "NoBook" = some (some (.ref C_NoBook)))
    (n_NoTerm : PySem.W.nsIn K mainGlobals "NoTerm" = some (some (.ref C_NoTerm)))
    (n_NoWeight : PySem.W.nsIn K mainGlobals "NoWeight" = some (some (.ref C_NoWeight)))
    (n_NoMany : PySem.W.nsIn K mainGlobals "NoMany" = some (some (.ref C_NoMany)))
    (n_NoKinds : PySem.W.nsIn K mainGlobals "NoKinds" = some (some (.ref C_NoKinds)))
    (n_Lacking : PySem.W.nsIn K mainGlobals "Lacking" = some (some (.ref C_Lacking)))
    (n_NoStock : PySem.W.nsIn K mainGlobals "NoStock" = some (some (.ref C_NoStock)))
    (n_NoDebt : PySem.W.nsIn K mainGlobals "NoDebt" = some (some (.ref C_NoDebt)))
    (n_NoPeople : PySem.W.nsIn K mainGlobals "NoPeople" = some (some (.ref C_NoPeople)))
    (n_NoDeed : PySem.W.nsIn K mainGlobals "NoDeed" = some (some (.ref C_NoDeed)))
    (n_Shut : PySem.W.nsIn K mainGlobals "Shut" = some (some (.ref C_Shut)))
    (n_TooMany : PySem.W.nsIn K mainGlobals "TooMany" = some (some (.ref C_TooMany)))
    (n_CoinError : PySem.W.nsIn K mainGlobals "CoinError" = some (some (.ref C_CoinError)))
    (e0_NoName : PySem.W.excIn K C_NoName [.type "ValueError", .type "Exception", .type "BaseException", .type "object"] "ValueError.__new__" = true)
    (e1_NoName : PySem.W.findIn K (.ref C_NoName) "__class__" = some (some (.builtin "object.__class__")))
    (e2_NoName : PySem.W.findIn K (.ref C_NoName) "__getattribute__" = some (some (.builtin "BaseException.__getattribute__")))
    (e3_NoName : PySem.W.findIn K (.ref C_NoName) "__getattr__" = some none)
    (is_NoName_NoName : PySem.W.kitOne K (.ref C_NoName) (.ref C_NoName) = some true)
    (is_NoName_NoMoney : PySem.W.kitOne K (.ref C_NoName) (.ref C_NoMoney) = some false)
    (is_NoName_NoAmount : PySem.W.kitOne K (.ref C_NoName) (.ref C_NoAmount) = some false)
    (is_NoName_NoText : PySem.W.kitOne K (.ref C_NoName) (.ref C_NoText) = some false)
    (is_NoName_NoBridge : PySem.W.kitOne K (.ref C_NoName) (.ref C_NoBridge) = some false)
    (is_NoName_NoDay : PySem.W.kitOne K (.ref C_NoName) (.ref C_NoDay) = some false)
    (is_NoName_NoWorth : PySem.W.kitOne K (.ref C_NoName) (.ref C_NoWorth) = some false)
    (is_NoName_NoBook : PySem.W.kitOne K (.ref C_NoName) (.ref C_NoBook) = some false)
    (is_NoName_NoTerm : PySem.W.kitOne K (.ref C_NoName) (.ref C_NoTerm) = some false)
    (is_NoName_NoWeight : PySem.W.kitOne K (.ref C_NoName) (.ref C_NoWeight) = some false)
    (is_NoName_NoMany : PySem.W.kitOne K (.ref C_NoName) (.ref C_NoMany) = some false)
    (is_NoName_NoKinds : PySem.W.kitOne K (.ref C_NoName) (.ref C_NoKinds) = some false)
    (is_NoName_Lacking : PySem.W.kitOne K (.ref C_NoName) (.ref C_Lacking) = some false)
    (is_NoName_NoRow : PySem.W.kitOne K (.ref C_NoName) (.ref C_NoRow) = some false)
    (is_NoName_NoStock : PySem.W.kitOne K (.ref C_NoName) (.ref C_NoStock) = some false)
    (is_NoName_NoDebt : PySem.W.kitOne K (.ref C_NoName) (.ref C_NoDebt) = some false)
    (is_NoName_NoPeople : PySem.W.kitOne K (.ref C_NoName) (.ref C_NoPeople) = some false)
    (is_NoName_NoDeed : PySem.W.kitOne K (.ref C_NoName) (.ref C_NoDeed) = some false)
    (is_NoName_Shut : PySem.W.kitOne K (.ref C_NoName) (.ref C_Shut) = some false)
    (is_NoName_TooMany : PySem.W.kitOne K (.ref C_NoName) (.ref C_TooMany) = some false)
    (is_NoName_ValueError : PySem.W.kitOne K (.ref C_NoName) (.type "ValueError") = some true)
    (ca_NoName_CoinError : PySem.W.exmOne K (.ref C_NoName) (.ref C_CoinError) = some true)
    (e0_NoRow : PySem.W.excIn K C_NoRow [.type "ValueError", .type "Exception", .type "BaseException", .type "object"] "ValueError.__new__" = true)
    (e1_NoRow : PySem.W.findIn K (.ref C_NoRow) "__class__" = some (some (.builtin "object.__class__")))
    (e2_NoRow : PySem.W.findIn K (.ref C_NoRow) "__getattribute__" = some (some (.builtin "BaseException.__getattribute__")))
    (e3_NoRow : PySem.W.findIn K (.ref C_NoRow) "__getattr__" = some none)
    (is_NoRow_NoName : PySem.W.kitOne K (.ref C_NoRow) (.ref C_NoName) = some false)
    (is_NoRow_NoMoney : PySem.W.kitOne K (.ref C_NoRow) (.ref C_NoMoney) = some false)
    (is_NoRow_NoAmount : PySem.W.kitOne K (.ref C_NoRow) (.ref C_NoAmount) = some false)
    (is_NoRow_NoText : PySem.W.kitOne K (.ref C_NoRow) (.ref C_NoText) = some false)
    (is_NoRow_NoBridge : PySem.W.kitOne K (.ref C_NoRow) (.ref C_NoBridge) = some false)
    (is_NoRow_NoDay : PySem.W.kitOne K (.ref C_NoRow) (.ref C_NoDay) = some false)
    (is_NoRow_NoWorth : PySem.W.kitOne K (.ref C_NoRow) (.ref C_NoWorth) = some false)
    (is_NoRow_NoBook : PySem.W.kitOne K (.ref C_NoRow) (.ref C_NoBook) = some false)
    (is_NoRow_NoTerm : PySem.W.kitOne K (.ref C_NoRow) (.ref C_NoTerm) = some false)
    (is_NoRow_NoWeight : PySem.W.kitOne K (.ref C_NoRow) (.ref C_NoWeight) = some false)
    (is_NoRow_NoMany : PySem.W.kitOne K (.ref C_NoRow) (.ref C_NoMany) = some false)
    (is_NoRow_NoKinds : PySem.W.kitOne K (.ref C_NoRow) (.ref C_NoKinds) = some false)
    (is_NoRow_Lacking : PySem.W.kitOne K (.ref C_NoRow) (.ref C_Lacking) = some false)
    (is_NoRow_NoRow : PySem.W.kitOne K (.ref C_NoRow) (.ref C_NoRow) = some true)
    (is_NoRow_NoStock : PySem.W.kitOne K (.ref C_NoRow) (.ref C_NoStock) = some false)
    (is_NoRow_NoDebt : PySem.W.kitOne K (.ref C_NoRow) (.ref C_NoDebt) = some false)
    (is_NoRow_NoPeople : PySem.W.kitOne K (.ref C_NoRow) (.ref C_NoPeople) = some false)
    (is_NoRow_NoDeed : PySem.W.kitOne K (.ref C_NoRow) (.ref C_NoDeed) = some false)
    (is_NoRow_Shut : PySem.W.kitOne K (.ref C_NoRow) (.ref C_Shut) = some false)
    (is_NoRow_TooMany : PySem.W.kitOne K (.ref C_NoRow) (.ref C_TooMany) = some false)
    (is_NoRow_ValueError : PySem.W.kitOne K (.ref C_NoRow) (.type "ValueError") = some true)
    (ca_NoRow_CoinError : PySem.W.exmOne K (.ref C_NoRow) (.ref C_CoinError) = some true)
    (n_is_made_of : PySem.W.nsIn K mainGlobals "is_made_of" = some (some (.ref a_is_made_of)))
    (l_is_made_of : K.lookup a_is_made_of = some ⟨oc_is_made_of, od_is_made_of, .func (PySem.W.fnOf "is_made_of" "is_made_of" (defArgs s_is_made_of) (defBody s_is_made_of) (defScope s_is_made_of) .none kV_is_made_of dc_is_made_of pm_is_made_of an_is_made_of cd_is_made_of ct_is_made_of), sl_is_made_of⟩)
    (c_is_made_of : PySem.W.codeIn K cd_is_made_of "is_made_of" = true)
    (k_is_made_of : PySem.W.keepIn K (.ref a_is_made_of) = true)
    (n_is_word : PySem.W.nsIn K mainGlobals "is_word" = some (some (.ref a_is_word)))
    (l_is_word : K.lookup a_is_word = some ⟨oc_is_word, od_is_word, .func (PySem.W.fnOf "is_word" "is_word" (defArgs s_is_word) (defBody s_is_word) (defScope s_is_word) .none kV_is_word dc_is_word pm_is_word an_is_word cd_is_word ct_is_word), sl_is_word⟩)
    (c_is_word : PySem.W.codeIn K cd_is_word "is_word" = true)
    (k_is_word : PySem.W.keepIn K (.ref a_is_word) = true)
    (n_is_name : PySem.W.nsIn K mainGlobals "is_name" = some (some (.ref a_is_name)))
    (l_is_name : K.lookup a_is_name = some ⟨oc_is_name, od_is_name, .func (PySem.W.fnOf "is_name" "is_name" (defArgs s_is_name) (defBody s_is_name) (defScope s_is_name) .none kV_is_name dc_is_name pm_is_name an_is_name cd_is_name ct_is_name), sl_is_name⟩)
    (c_is_name : PySem.W.codeIn K cd_is_name "is_name" = true)
    (k_is_name : PySem.W.keepIn K (.ref a_is_name) = true)
    (n_is_number : PySem.W.nsIn K mainGlobals "is_number" = some (some (.ref a_is_number)))
    (l_is_number : K.lookup a_is_number = some ⟨oc_is_number, od_is_number, .func (PySem.W.fnOf "is_number" "is_number" (defArgs s_is_number) (defBody s_is_number) (defScope s_is_number) .none kV_is_number dc_is_number pm_is_number an_is_number cd_is_number ct_is_number), sl_is_number⟩)
    (c_is_number : PySem.W.codeIn K cd_is_number "is_number" = true)
    (k_is_number : PySem.W.keepIn K (.ref a_is_number) = true)
    (n_is_within : PySem.W.nsIn K mainGlobals "is_within" = some (some (.ref a_is_within)))
    (l_is_within : K.lookup a_is_within = some ⟨oc_is_within, od_is_within, .func (PySem.W.fnOf "is_within" "is_within" (defArgs s_is_within) (defBody s_is_within) (defScope s_is_within) .none kV_is_within dc_is_within pm_is_within an_is_within cd_is_within ct_is_within), sl_is_within⟩)
    (c_is_within : PySem.W.codeIn K cd_is_within "is_within" = true)
    (k_is_within : PySem.W.keepIn K (.ref a_is_within) = true)
    (n_check_name : PySem.W.nsIn K mainGlobals "check_name" = some (some (.ref a_check_name)))
    (l_check_name : K.lookup a_check_name = some ⟨oc_check_name, od_check_name, .func (PySem.W.fnOf "check_name" "check_name" (defArgs s_check_name) (defBody s_check_name) (defScope s_check_name) .none kV_check_name dc_check_name pm_check_name an_check_name cd_check_name ct_check_name), sl_check_name⟩)
    (c_check_name : PySem.W.codeIn K cd_check_name "check_name" = true)
    (k_check_name : PySem.W.keepIn K (.ref a_check_name) = true)
    (n_check_names : PySem.W.nsIn K mainGlobals "check_names" = some (some (.ref a_check_names)))
    (l_check_names : K.lookup a_check_names = some ⟨oc_check_names, od_check_names, .func (PySem.W.fnOf "check_names" "check_names" (defArgs s_check_names) (defBody s_check_names) (defScope s_check_names) .none kV_check_names dc_check_names pm_check_names an_check_names cd_check_names ct_check_names), sl_check_names⟩)
    (c_check_names : PySem.W.codeIn K cd_check_names "check_names" = true)
    (k_check_names : PySem.W.keepIn K (.ref a_check_names) = true)
    (n_sides : PySem.W.nsIn K mainGlobals "sides" = some (some (.ref a_sides)))
    (l_sides : K.lookup a_sides = some ⟨oc_sides, od_sides, .func (PySem.W.fnOf "sides" "sides" (defArgs s_sides) (defBody s_sides) (defScope s_sides) .none kV_sides dc_sides pm_sides an_sides cd_sides ct_sides), sl_sides⟩)
    (c_sides : PySem.W.codeIn K cd_sides "sides" = true)
    (k_sides : PySem.W.keepIn K (.ref a_sides) = true)
    (n_goods_of : PySem.W.nsIn K mainGlobals "goods_of" = some (some (.ref a_goods_of)))
    (l_goods_of : K.lookup a_goods_of = some ⟨oc_goods_of, od_goods_of, .func (PySem.W.fnOf "goods_of" "goods_of" (defArgs s_goods_of) (defBody s_goods_of) (defScope s_goods_of) .none kV_goods_of dc_goods_of pm_goods_of an_goods_of cd_goods_of ct_goods_of), sl_goods_of⟩)
    (c_goods_of : PySem.W.codeIn K cd_goods_of "goods_of" = true)
    (k_goods_of : PySem.W.keepIn K (.ref a_goods_of) = true)
    (n_check_rows : PySem.W.nsIn K mainGlobals "check_rows" = some (some (.ref a_check_rows)))
    (l_check_rows : K.lookup a_check_rows = some ⟨oc_check_rows, od_check_rows, .func (PySem.W.fnOf "check_rows" "check_rows" (defArgs s_check_rows) (defBody s_check_rows) (defScope s_check_rows) .none kV_check_rows dc_check_rows pm_check_rows an_check_rows cd_check_rows ct_check_rows), sl_check_rows⟩)
    (c_check_rows : PySem.W.codeIn K cd_check_rows "check_rows" = true)
    (k_check_rows : PySem.W.keepIn K (.ref a_check_rows) = true)
    (n_Changers_init : PySem.W.findIn K (.ref C_Changers) "__init__" = some (some (.ref a_Changers_init)))
    (i_Changers_init : PySem.W.isFn K (.ref a_Changers_init) = true)
    (l_Changers_init : K.lookup a_Changers_init = some ⟨oc_Changers_init, od_Changers_init, .func (PySem.W.fnOf "__init__" "Changers.__init__" (defArgs s_Changers_init) (defBody s_Changers_init) (defScope s_Changers_init) .none kV_Changers_init dc_Changers_init pm_Changers_init an_Changers_init cd_Changers_init ct_Changers_init), sl_Changers_init⟩)
    (c_Changers_init : PySem.W.codeIn K cd_Changers_init "Changers.__init__" = true)
    (k_Changers_init : PySem.W.keepIn K (.ref a_Changers_init) = true)
    (n_Changers_goods : PySem.W.findIn K (.ref C_Changers) "goods" = some (some (.ref a_Changers_goods)))
    (i_Changers_goods : PySem.W.isFn K (.ref a_Changers_goods) = true)
    (l_Changers_goods : K.lookup a_Changers_goods = some ⟨oc_Changers_goods, od_Changers_goods, .func (PySem.W.fnOf "goods" "Changers.goods" (defArgs s_Changers_goods) (defBody s_Changers_goods) (defScope s_Changers_goods) .none kV_Changers_goods dc_Changers_goods pm_Changers_goods an_Changers_goods cd_Changers_goods ct_Changers_goods), sl_Changers_goods⟩)
    (c_Changers_goods : PySem.W.codeIn K cd_Changers_goods "Changers.goods" = true)
    (k_Changers_goods : PySem.W.keepIn K (.ref a_Changers_goods) = true)
    (n_l_mixed : PySem.W.nsIn K mainGlobals "_law_mixed" = some (some (.ref a_l_mixed)))
    (l_l_mixed : K.lookup a_l_mixed = some ⟨oc_l_mixed, od_l_mixed, .func (PySem.W.fnOf "_law_mixed" "_law_mixed" (defArgs s_l_mixed) (defBody s_l_mixed) (defScope s_l_mixed) .none kV_l_mixed dc_l_mixed pm_l_mixed an_l_mixed cd_l_mixed ct_l_mixed), sl_l_mixed⟩)
    (c_l_mixed : PySem.W.codeIn K cd_l_mixed "_law_mixed" = true)
    (k_l_mixed : PySem.W.keepIn K (.ref a_l_mixed) = true)
    (n_l_next : PySem.W.nsIn K mainGlobals "_law_next" = some (some (.ref a_l_next)))
    (l_l_next : K.lookup a_l_next = some ⟨oc_l_next, od_l_next, .func (PySem.W.fnOf "_law_next" "_law_next" (defArgs s_l_next) (defBody s_l_next) (defScope s_l_next) .none kV_l_next dc_l_next pm_l_next an_l_next cd_l_next ct_l_next), sl_l_next⟩)
    (c_l_next : PySem.W.codeIn K cd_l_next "_law_next" = true)
    (k_l_next : PySem.W.keepIn K (.ref a_l_next) = true)
    (n_l_word : PySem.W.nsIn K mainGlobals "_law_word" = some (some (.ref a_l_word)))
    (l_l_word : K.lookup a_l_word = some ⟨oc_l_word, od_l_word, .func (PySem.W.fnOf "_law_word" "_law_word" (defArgs s_l_word) (defBody s_l_word) (defScope s_l_word) .none kV_l_word dc_l_word pm_l_word an_l_word cd_l_word ct_l_word), sl_l_word⟩)
    (c_l_word : PySem.W.codeIn K cd_l_word "_law_word" = true)
    (k_l_word : PySem.W.keepIn K (.ref a_l_word) = true)
    (n_l_words : PySem.W.nsIn K mainGlobals "_law_words" = some (some (.ref a_l_words)))
    (l_l_words : K.lookup a_l_words = some ⟨oc_l_words, od_l_words, .func (PySem.W.fnOf "_law_words" "_law_words" (defArgs s_l_words) (defBody s_l_words) (defScope s_l_words) .none kV_l_words dc_l_words pm_l_words an_l_words cd_l_words ct_l_words), sl_l_words⟩)
    (c_l_words : PySem.W.codeIn K cd_l_words "_law_words" = true)
    (k_l_words : PySem.W.keepIn K (.ref a_l_words) = true)
    (n_l_goods : PySem.W.nsIn K mainGlobals "_law_goods" = some (some (.ref a_l_goods)))
    (l_l_goods : K.lookup a_l_goods = some ⟨oc_l_goods, od_l_goods, .func (PySem.W.fnOf "_law_goods" "_law_goods" (defArgs s_l_goods) (defBody s_l_goods) (defScope s_l_goods) .none kV_l_goods dc_l_goods pm_l_goods an_l_goods cd_l_goods ct_l_goods), sl_l_goods⟩)
    (c_l_goods : PySem.W.codeIn K cd_l_goods "_law_goods" = true)
    (k_l_goods : PySem.W.keepIn K (.ref a_l_goods) = true)
    (n_l_number : PySem.W.nsIn K mainGlobals "_law_number" = some (some (.ref a_l_number)))
    (l_l_number : K.lookup a_l_number = some ⟨oc_l_number, od_l_number, .func (PySem.W.fnOf "_law_number" "_law_number" (defArgs s_l_number) (defBody s_l_number) (defScope s_l_number) .none kV_l_number dc_l_number pm_l_number an_l_number cd_l_number ct_l_number), sl_l_number⟩)
    (c_l_number : PySem.W.codeIn K cd_l_number "_law_number" = true)
    (k_l_number : PySem.W.keepIn K (.ref a_l_number) = true)
    (n_l_rows : PySem.W.nsIn K mainGlobals "_law_rows" = some (some (.ref a_l_rows)))
    (l_l_rows : K.lookup a_l_rows = some ⟨oc_l_rows, od_l_rows, .func (PySem.W.fnOf "_law_rows" "_law_rows" (defArgs s_l_rows) (defBody s_l_rows) (defScope s_l_rows) .none kV_l_rows dc_l_rows pm_l_rows an_l_rows cd_l_rows ct_l_rows), sl_l_rows⟩)
    (c_l_rows : PySem.W.codeIn K cd_l_rows "_law_rows" = true)
    (k_l_rows : PySem.W.keepIn K (.ref a_l_rows) = true)
    (n_l_is_name : PySem.W.nsIn K mainGlobals "_law_is_name" = some (some (.ref a_l_is_name)))
    (l_l_is_name : K.lookup a_l_is_name = some ⟨oc_l_is_name, od_l_is_name, .func (PySem.W.fnOf "_law_is_name" "_law_is_name" (defArgs s_l_is_name) (defBody s_l_is_name) (defScope s_l_is_name) .none kV_l_is_name dc_l_is_name pm_l_is_name an_l_is_name cd_l_is_name ct_l_is_name), sl_l_is_name⟩)
    (c_l_is_name : PySem.W.codeIn K cd_l_is_name "_law_is_name" = true)
    (k_l_is_name : PySem.W.keepIn K (.ref a_l_is_name) = true)
    (n_l_spoilt : PySem.W.nsIn K mainGlobals "_law_spoilt" = some (some (.ref a_l_spoilt)))
    (l_l_spoilt : K.lookup a_l_spoilt = some ⟨oc_l_spoilt, od_l_spoilt, .func (PySem.W.fnOf "_law_spoilt" "_law_spoilt" (defArgs s_l_spoilt) (defBody s_l_spoilt) (defScope s_l_spoilt) .none kV_l_spoilt dc_l_spoilt pm_l_spoilt an_l_spoilt cd_l_spoilt ct_l_spoilt), sl_l_spoilt⟩)
    (c_l_spoilt : PySem.W.codeIn K cd_l_spoilt "_law_spoilt" = true)
    (k_l_spoilt : PySem.W.keepIn K (.ref a_l_spoilt) = true)
    (n_l_due : PySem.W.nsIn K mainGlobals "_law_due" = some (some (.ref a_l_due)))
    (l_l_due : K.lookup a_l_due = some ⟨oc_l_due, od_l_due, .func (PySem.W.fnOf "_law_due" "_law_due" (defArgs s_l_due) (defBody s_l_due) (defScope s_l_due) .none kV_l_due dc_l_due pm_l_due an_l_due cd_l_due ct_l_due), sl_l_due⟩)
    (c_l_due : PySem.W.codeIn K cd_l_due "_law_due" = true)
    (k_l_due : PySem.W.keepIn K (.ref a_l_due) = true)
    (n_l_class : PySem.W.nsIn K mainGlobals "_law_class" = some (some (.ref a_l_class)))
    (l_l_class : K.lookup a_l_class = some ⟨oc_l_class, od_l_class, .func (PySem.W.fnOf "_law_class" "_law_class" (defArgs s_l_class) (defBody s_l_class) (defScope s_l_class) .none kV_l_class dc_l_class pm_l_class an_l_class cd_l_class ct_l_class), sl_l_class⟩)
    (c_l_class : PySem.W.codeIn K cd_l_class "_law_class" = true)
    (k_l_class : PySem.W.keepIn K (.ref a_l_class) = true)
    (n_l_told_right : PySem.W.nsIn K mainGlobals "_law_told_right" = some (some (.ref a_l_told_right)))
    (l_l_told_right : K.lookup a_l_told_right = some ⟨oc_l_told_right, od_l_told_right, .func (PySem.W.fnOf "_law_told_right" "_law_told_right" (defArgs s_l_told_right) (defBody s_l_told_right) (defScope s_l_told_right) .none kV_l_told_right dc_l_told_right pm_l_told_right an_l_told_right cd_l_told_right ct_l_told_right), sl_l_told_right⟩)
    (c_l_told_right : PySem.W.codeIn K cd_l_told_right "_law_told_right" = true)
    (k_l_told_right : PySem.W.keepIn K (.ref a_l_told_right) = true)
    (n_law : PySem.W.nsIn K mainGlobals "law" = some (some (.ref a_law)))
    (l_law : K.lookup a_law = some ⟨oc_law, od_law, .func (PySem.W.fnOf "law" "law" (defArgs s_law) (defBody s_law) (defScope s_law) .none kV_law dc_law pm_law an_law cd_law ct_law), sl_law⟩)
    (c_law : PySem.W.codeIn K cd_law "law" = true)
    (k_law : PySem.W.keepIn K (.ref a_law) = true)
    (n_SMALL_LETTERS : PySem.W.nsIn K mainGlobals "SMALL_LETTERS" = some (some (Value.str "abcdefghijklmnopqrstuvwxyz" k_SMALL_LETTERS)))
    (n_LONGEST_NAME : PySem.W.nsIn K mainGlobals "LONGEST_NAME" = some (some (Value.int 8 k_LONGEST_NAME)))
    (n_MOST_ROWS : PySem.W.nsIn K mainGlobals "MOST_ROWS" = some (some (Value.int 40 k_MOST_ROWS)))
    (n_MOST_GOODS : PySem.W.nsIn K mainGlobals "MOST_GOODS" = some (some (Value.int 16 k_MOST_GOODS)))
    (n_MOST_MANY : PySem.W.nsIn K mainGlobals "MOST_MANY" = some (some (Value.int 1000000 k_MOST_MANY)))
    (z_len : PySem.W.nsIn K mainGlobals "len" = some none)
    (z_range : PySem.W.nsIn K mainGlobals "range" = some none)
    (z_max : PySem.W.nsIn K mainGlobals "max" = some none)
    (z_min : PySem.W.nsIn K mainGlobals "min" = some none)
    (z_isinstance : PySem.W.nsIn K mainGlobals "isinstance" = some none)
    (z_all : PySem.W.nsIn K mainGlobals "all" = some none)
    (z_str : PySem.W.nsIn K mainGlobals "str" = some none)
    (z_bool : PySem.W.nsIn K mainGlobals "bool" = some none)
    (z_int : PySem.W.nsIn K mainGlobals "int" = some none)
    (z_list : PySem.W.nsIn K mainGlobals "list" = some none)
    (z_tuple : PySem.W.nsIn K mainGlobals "tuple" = some none)
    (z_ValueError : PySem.W.nsIn K mainGlobals "ValueError" = some none) : ∃ t : Ad, Env K mg t := by
  have F_is_made_of := fun_mk (st := s_is_made_of) l_is_made_of c_is_made_of k_is_made_of
  have B_is_made_of := F_is_made_of.binds (ps := ["text", "signs"]) fun _ _ _ _ _ _ us hl => match us, hl with | [_, _], _ => rfl
  have F_is_word := fun_mk (st := s_is_word) l_is_word c_is_word k_is_word
  have B_is_word := F_is_word.binds (ps := ["text"]) fun _ _ _ _ _ _ us hl => match us, hl with | [_], _ => rfl
  have F_is_name := fun_mk (st := s_is_name) l_is_name c_is_name k_is_name
  have B_is_name := F_is_name.binds (ps := ["text"]) fun _ _ _ _ _ _ us hl => match us, hl with | [_], _ => rfl
  have F_is_number := fun_mk (st := s_is_number) l_is_number c_is_number k_is_number
  have B_is_number := F_is_number.binds (ps := ["number"]) fun _ _ _ _ _ _ us hl => match us, hl with | [_], _ => rfl
  have F_is_within := fun_mk (st := s_is_within) l_is_within c_is_within k_is_within
  have B_is_within := F_is_within.binds (ps := ["number", "least", "most"]) fun _ _ _ _ _ _ us hl => match us, hl with | [_, _, _], _ => rfl
  have F_check_name := fun_mk (st := s_check_name) l_check_name c_check_name k_check_name
  have B_check_name := F_check_name.binds (ps := ["text"]) fun _ _ _ _ _ _ us hl => match us, hl with | [_], _ => rfl
  have F_check_names := fun_mk (st := s_check_names) l_check_names c_check_names k_check_names
  have B_check_names := F_check_names.binds (ps := ["texts"]) fun _ _ _ _ _ _ us hl => match us, hl with | [_], _ => rfl
  have F_sides := fun_mk (st := s_sides) l_sides c_sides k_sides
  have B_sides := F_sides.binds (ps := ["row"]) fun _ _ _ _ _ _ us hl => match us, hl with | [_], _ => rfl
  have F_goods_of := fun_mk (st := s_goods_of) l_goods_of c_goods_of k_goods_of
  have B_goods_of := F_goods_of.binds (ps := ["rows"]) fun _ _ _ _ _ _ us hl => match us, hl with | [_], _ => rfl
  have F_check_rows := fun_mk (st := s_check_rows) l_check_rows c_check_rows k_check_rows
  have B_check_rows := F_check_rows.binds (ps := ["rows"]) fun _ _ _ _ _ _ us hl => match us, hl with | [_], _ => rfl
  have F_Changers_init := fun_mk (st := s_Changers_init) l_Changers_init c_Changers_init k_Changers_init
  have B_Changers_init := F_Changers_init.binds (ps := ["self", "rows"]) fun _ _ _ _ _ _ us hl => match us, hl with | [_, _], _ => rfl
  have F_Changers_goods := fun_mk (st := s_Changers_goods) l_Changers_goods c_Changers_goods k_Changers_goods
  have B_Changers_goods := F_Changers_goods.binds (ps := ["self"]) fun _ _ _ _ _ _ us hl => match us, hl with | [_], _ => rfl
  have F_l_mixed := fun_mk (st := s_l_mixed) l_l_mixed c_l_mixed k_l_mixed
  have B_l_mixed := F_l_mixed.binds (ps := ["_law_cell", "_law_k"]) fun _ _ _ _ _ _ us hl => match us, hl with | [_, _], _ => rfl
  have F_l_next := fun_mk (st := s_l_next) l_l_next c_l_next k_l_next
  have B_l_next := F_l_next.binds (ps := ["_law_draw", "_law_size"]) fun _ _ _ _ _ _ us hl => match us, hl with | [_, _], _ => rfl
  have F_l_word := fun_mk (st := s_l_word) l_l_word c_l_word k_l_word
  have B_l_word := F_l_word.binds (ps := ["_law_draw"]) fun _ _ _ _ _ _ us hl => match us, hl with | [_], _ => rfl
  have F_l_words := fun_mk (st := s_l_words) l_l_words c_l_words k_l_words
  have B_l_words := F_l_words.binds (ps := ["_law_draw", "_law_many"]) fun _ _ _ _ _ _ us hl => match us, hl with | [_, _], _ => rfl
  have F_l_goods := fun_mk (st := s_l_goods) l_l_goods c_l_goods k_l_goods
  have B_l_goods := F_l_goods.binds (ps := ["_law_draw", "_law_many"]) fun _ _ _ _ _ _ us hl => match us, hl with | [_, _], _ => rfl
  have F_l_number := fun_mk (st := s_l_number) l_l_number c_l_number k_l_number
  have B_l_number := F_l_number.binds (ps := ["_law_draw"]) fun _ _ _ _ _ _ us hl => match us, hl with | [_], _ => rfl
  have F_l_rows := fun_mk (st := s_l_rows) l_l_rows c_l_rows k_l_rows
  have B_l_rows := F_l_rows.binds (ps := ["_law_draw", "_law_goods_here", "_law_many"]) fun _ _ _ _ _ _ us hl => match us, hl with | [_, _, _], _ => rfl
  have F_l_is_name := fun_mk (st := s_l_is_name) l_l_is_name c_l_is_name k_l_is_name
  have B_l_is_name := F_l_is_name.binds (ps := ["_law_text"]) fun _ _ _ _ _ _ us hl => match us, hl with | [_], _ => rfl
  have F_l_spoilt := fun_mk (st := s_l_spoilt) l_l_spoilt c_l_spoilt k_l_spoilt
  have B_l_spoilt := F_l_spoilt.binds (ps := ["_law_draw", "_law_rows_here", "_law_words_here"]) fun _ _ _ _ _ _ us hl => match us, hl with | [_, _, _], _ => rfl
  have F_l_due := fun_mk (st := s_l_due) l_l_due c_l_due k_l_due
  have B_l_due := F_l_due.binds (ps := ["_law_rows_here"]) fun _ _ _ _ _ _ us hl => match us, hl with | [_], _ => rfl
  have F_l_class := fun_mk (st := s_l_class) l_l_class c_l_class k_l_class
  have B_l_class := F_l_class.binds (ps := ["_law_e"]) fun _ _ _ _ _ _ us hl => match us, hl with | [_], _ => rfl
  have F_l_told_right := fun_mk (st := s_l_told_right) l_l_told_right c_l_told_right k_l_told_right
  have B_l_told_right := F_l_told_right.binds (ps := ["_law_table", "_law_rows_here", "_law_goods_here"]) fun _ _ _ _ _ _ us hl => match us, hl with | [_, _, _], _ => rfl
  have F_law := fun_mk (st := s_law) l_law c_law k_law
  have B_law := F_law.binds (ps := ["_law_script"]) fun _ _ _ _ _ _ us hl => match us, hl with | [_], _ => rfl
  exact ⟨⟨C_Changers, C_NoName, C_NoRow, C_NoMoney, C_NoAmount, C_NoText, C_NoBridge, C_NoDay, C_NoWorth, C_NoBook, C_NoTerm, C_NoWeight, C_NoMany, C_NoKinds, C_Lacking, C_NoStock, C_NoDebt, C_NoPeople, C_NoDeed, C_Shut, C_TooMany, C_CoinError, a_is_made_of, PySem.W.fnOf _ _ (defArgs s_is_made_of) (defBody s_is_made_of) (defScope s_is_made_of) .none kV_is_made_of dc_is_made_of pm_is_made_of an_is_made_of cd_is_made_of ct_is_made_of, a_is_word, PySem.W.fnOf _ _ (defArgs s_is_word) (defBody s_is_word) (defScope s_is_word) .none kV_is_word dc_is_word pm_is_word an_is_word cd_is_word ct_is_word, a_is_name, PySem.W.fnOf _ _ (defArgs s_is_name) (defBody s_is_name) (defScope s_is_name) .none kV_is_name dc_is_name pm_is_name an_is_name cd_is_name ct_is_name, a_is_number, PySem.W.fnOf _ _ (defArgs s_is_number) (defBody s_is_number) (defScope s_is_number) .none kV_is_number dc_is_number pm_is_number an_is_number cd_is_number ct_is_number, a_is_within, PySem.W.fnOf _ _ (defArgs s_is_within) (defBody s_is_within) (defScope s_is_within) .none kV_is_within dc_is_within pm_is_within an_is_within cd_is_within ct_is_within, a_check_name, PySem.W.fnOf _ _ (defArgs s_check_name) (defBody s_check_name) (defScope s_check_name) .none kV_check_name dc_check_name pm_check_name an_check_name cd_check_name ct_check_name, a_check_names, PySem.W.fnOf _ _ (defArgs s_check_names) (defBody s_check_names) (defScope s_check_names) .none kV_check_names dc_check_names pm_check_names an_check_names cd_check_names ct_check_names, a_sides, PySem.W.fnOf _ _ (defArgs s_sides) (defBody s_sides) (defScope s_sides) .none kV_sides dc_sides pm_sides an_sides cd_sides ct_sides, a_goods_of, PySem.W.fnOf _ _ (defArgs s_goods_of) (defBody s_goods_of) (defScope s_goods_of) .none kV_goods_of dc_goods_of pm_goods_of an_goods_of cd_goods_of ct_goods_of, a_check_rows, PySem.W.fnOf _ _ (defArgs s_check_rows) (defBody s_check_rows) (defScope s_check_rows) .none kV_check_rows dc_check_rows pm_check_rows an_check_rows cd_check_rows ct_check_rows, a_Changers_init, PySem.W.fnOf _ _ (defArgs s_Changers_init) (defBody s_Changers_init) (defScope s_Changers_init) .none kV_Changers_init dc_Changers_init pm_Changers_init an_Changers_init cd_Changers_init ct_Changers_init, a_Changers_goods, PySem.W.fnOf _ _ (defArgs s_Changers_goods) (defBody s_Changers_goods) (defScope s_Changers_goods) .none kV_Changers_goods dc_Changers_goods pm_Changers_goods an_Changers_goods cd_Changers_goods ct_Changers_goods, a_l_mixed, PySem.W.fnOf _ _ (defArgs s_l_mixed) (defBody s_l_mixed) (defScope s_l_mixed) .none kV_l_mixed dc_l_mixed pm_l_mixed an_l_mixed cd_l_mixed ct_l_mixed, a_l_next, PySem.W.fnOf _ _ (defArgs s_l_next) (defBody s_l_next) (defScope s_l_next) .none kV_l_next dc_l_next pm_l_next an_l_next cd_l_next ct_l_next, a_l_word, PySem.W.fnOf _ _ (defArgs s_l_word) (defBody s_l_word) (defScope s_l_word) .none kV_l_word dc_l_word pm_l_word an_l_word cd_l_word ct_l_word, a_l_words, PySem.W.fnOf _ _ (defArgs s_l_words) (defBody s_l_words) (defScope s_l_words) .none kV_l_words dc_l_words pm_l_words an_l_words cd_l_words ct_l_words, a_l_goods, PySem.W.fnOf _ _ (defArgs s_l_goods) (defBody s_l_goods) (defScope s_l_goods) .none kV_l_goods dc_l_goods pm_l_goods an_l_goods cd_l_goods ct_l_goods, a_l_number, PySem.W.fnOf _ _ (defArgs s_l_number) (defBody s_l_number) (defScope s_l_number) .none kV_l_number dc_l_number pm_l_number an_l_number cd_l_number ct_l_number, a_l_rows, PySem.W.fnOf _ _ (defArgs s_l_rows) (defBody s_l_rows) (defScope s_l_rows) .none kV_l_rows dc_l_rows pm_l_rows an_l_rows cd_l_rows ct_l_rows, a_l_is_name, PySem.W.fnOf _ _ (defArgs s_l_is_name) (defBody s_l_is_name) (defScope s_l_is_name) .none kV_l_is_name dc_l_is_name pm_l_is_name an_l_is_name cd_l_is_name ct_l_is_name, a_l_spoilt, PySem.W.fnOf _ _ (defArgs s_l_spoilt) (defBody s_l_spoilt) (defScope s_l_spoilt) .none kV_l_spoilt dc_l_spoilt pm_l_spoilt an_l_spoilt cd_l_spoilt ct_l_spoilt, a_l_due, PySem.W.fnOf _ _ (defArgs s_l_due) (defBody s_l_due) (defScope s_l_due) .none kV_l_due dc_l_due pm_l_due an_l_due cd_l_due ct_l_due, a_l_class, PySem.W.fnOf _ _ (defArgs s_l_class) (defBody s_l_class) (defScope s_l_class) .none kV_l_class dc_l_class pm_l_class an_l_class cd_l_class ct_l_class, a_l_told_right, PySem.W.fnOf _ _ (defArgs s_l_told_right) (defBody s_l_told_right) (defScope s_l_told_right) .none kV_l_told_right dc_l_told_right pm_l_told_right an_l_told_right cd_l_told_right ct_l_told_right, a_law, PySem.W.fnOf _ _ (defArgs s_law) (defBody s_law) (defScope s_law) .none kV_law dc_law pm_law an_law cd_law ct_law, k_SMALL_LETTERS, k_LONGEST_NAME, k_MOST_ROWS, k_MOST_GOODS, k_MOST_MANY⟩, ⟨⟨pg_Changers, hd_Changers, po_Changers, sa_Changers⟩, PySem.W.mg_of X G n_Changers, ⟨mk_Changers, n_Changers_init, i_Changers_init, kc_Changers⟩, no_Changers_rows, PySem.W.mg_of X G n_NoName, PySem.W.mg_of X G n_NoRow, PySem.W.mg_of X G n_NoMoney, PySem.W.mg_of X G n_NoAmount, PySem.W.mg_of X G n_NoText, PySem.W.mg_of X G n_NoBridge, PySem.W.mg_of X G n_NoDay, PySem.W.mg_of X G n_NoWorth, PySem.W.mg_of X G n_NoBook, PySem.W.mg_of X G n_NoTerm, PySem.W.mg_of X G n_NoWeight, PySem.W.mg_of X G n_NoMany, PySem.W.mg_of X G n_NoKinds, PySem.W.mg_of X G n_Lacking, PySem.W.mg_of X G n_NoStock, PySem.W.mg_of X G n_NoDebt, PySem.W.mg_of X G n_NoPeople, PySem.W.mg_of X G n_NoDeed, PySem.W.mg_of X G n_Shut, PySem.W.mg_of X G n_TooMany, PySem.W.mg_of X G n_CoinError, ⟨⟨e0_NoName⟩, e1_NoName, e2_NoName, e3_NoName⟩, is_NoName_NoName, is_NoName_NoMoney, is_NoName_NoAmount, is_NoName_NoText, is_NoName_NoBridge, is_NoName_NoDay, is_NoName_NoWorth, is_NoName_NoBook, is_NoName_NoTerm, is_NoName_NoWeight, is_NoName_NoMany, is_NoName_NoKinds, is_NoName_Lacking, is_NoName_NoRow, is_NoName_NoStock, is_NoName_NoDebt, is_NoName_NoPeople, is_NoName_NoDeed, is_NoName_Shut, is_NoName_TooMany, is_NoName_ValueError, ca_NoName_CoinError, ⟨⟨e0_NoRow⟩, e1_NoRow, e2_NoRow, e3_NoRow⟩, is_NoRow_NoName, is_NoRow_NoMoney, is_NoRow_NoAmount, is_NoRow_NoText, is_NoRow_NoBridge, is_NoRow_NoDay, is_NoRow_NoWorth, is_NoRow_NoBook, is_NoRow_NoTerm, is_NoRow_NoWeight, is_NoRow_NoMany, is_NoRow_NoKinds, is_NoRow_Lacking, is_NoRow_NoRow, is_NoRow_NoStock, is_NoRow_NoDebt, is_NoRow_NoPeople, is_NoRow_NoDeed, is_NoRow_Shut, is_NoRow_TooMany, is_NoRow_ValueError, ca_NoRow_CoinError, F_is_made_of, B_is_made_of, k_is_made_of, PySem.W.mg_of X G n_is_made_of, F_is_word, B_is_word, k_is_word, PySem.W.mg_of X G n_is_word, F_is_name, B_is_name, k_is_name, PySem.W.mg_of X G n_is_name, F_is_number, B_is_number, k_is_number, PySem.W.mg_of X G n_is_number, F_is_within, B_is_within, k_is_within, PySem.W.mg_of X G n_is_within, F_check_name, B_check_name, k_check_name, PySem.W.mg_of X G n_check_name, F_check_names, B_check_names, k_check_names, PySem.W.mg_of X G n_check_names, F_sides, B_sides, k_sides, PySem.W.mg_of X G n_sides, F_goods_of, B_goods_of, k_goods_of, PySem.W.mg_of X G n_goods_of, F_check_rows, B_check_rows, k_check_rows, PySem.W.mg_of X G n_check_rows, F_Changers_init, B_Changers_init, F_Changers_goods, B_Changers_goods, ⟨n_Changers_goods, i_Changers_goods, k_Changers_goods⟩, F_l_mixed, B_l_mixed, k_l_mixed, PySem.W.mg_of X G n_l_mixed, F_l_next, B_l_next, k_l_next, PySem.W.mg_of X G n_l_next, F_l_word, B_l_word, k_l_word, PySem.W.mg_of X G n_l_word, F_l_words, B_l_words, k_l_words, PySem.W.mg_of X G n_l_words, F_l_goods, B_l_goods, k_l_goods, PySem.W.mg_of X G n_l_goods, F_l_number, B_l_number, k_l_number, PySem.W.mg_of X G n_l_number, F_l_rows, B_l_rows, k_l_rows, PySem.W.mg_of X G n_l_rows, F_l_is_name, B_l_is_name, k_l_is_name, PySem.W.mg_of X G n_l_is_name, F_l_spoilt, B_l_spoilt, k_l_spoilt, PySem.W.mg_of X G n_l_spoilt, F_l_due, B_l_due, k_l_due, PySem.W.mg_of X G n_l_due, F_l_class, B_l_class, k_l_class, PySem.W.mg_of X G n_l_class, F_l_told_right, B_l_told_right, k_l_told_right, PySem.W.mg_of X G n_l_told_right, F_law, B_law, k_law, PySem.W.mg_of X G n_law, PySem.W.mg_of X G n_SMALL_LETTERS, PySem.W.mg_of X G n_LONGEST_NAME, PySem.W.mg_of X G n_MOST_ROWS, PySem.W.mg_of X G n_MOST_GOODS, PySem.W.mg_of X G n_MOST_MANY, PySem.W.mg_none_of X G z_len, PySem.W.mg_none_of X G z_range, PySem.W.mg_none_of X G z_max, PySem.W.mg_none_of X G z_min, PySem.W.mg_none_of X G z_isinstance, PySem.W.mg_none_of X G z_all, PySem.W.mg_none_of X G z_str, PySem.W.mg_none_of X G z_bool, PySem.W.mg_none_of X G z_int, PySem.W.mg_none_of X G z_list, PySem.W.mg_none_of X G z_tuple, PySem.W.mg_none_of X G z_ValueError⟩⟩
def spMixed : Sp := fun vs H Q _ => ∃ (c k : Int), vs = [.int c, .int k] ∧ 0 ≤ k ∧ k < 1000 ∧ ∀ r : Int, 0 ≤ r → r < 2147483399 → Q (.int r) H
def spNext (K : PySem.W.Frag) : Sp := fun vs H Q _ => ∃ (d a : Addr) (ns : List Int) (z : Int), vs = [.ref d, .int z] ∧ DrawAt K H d a ns ∧ 0 < z ∧
  ∀ (r : Int) (H' : Hp), 0 ≤ r → r < z → DrawAt K H' d a ns → Keep d H H' → Q (.int r) H'
section
variable {P : Program} {w : World} {K : PySem.W.Frag} {mg : Str → Option Value} {base : Heap} {t : Ad}
theorem ok_mixed (T : Env K mg t) : FnOk P w K mg base CX0 1 t.a_l_mixed t.fd_l_mixed ["_law_cell", "_law_k"] spMixed := by
  refine T.f_l_mixed.okQ sc_l_mixed (fun vs H Q E h => ?_) (fun cdv A outer s H vs Q E hr h => ?_)
  · obtain ⟨c, k, rfl, _⟩ := h
    rfl
  · obtain ⟨c, k, rfl, k0, k1, q⟩ := h
    refine ⟨_, (q_pss_cons (q_ps_set (i := 2) sc_l_mixed.nd rfl (by first | exact Or.inl rfl | exact Or.inr (Or.inl rfl) | exact Or.inr rfl) (q_pe_op op_mod (q_pe_op op_pow (q_pe_op op_mod (q_pe_op op_mul (q_pe_op op_add (q_pe_op op_add (q_pe_op op_mod (q_pv 0) q_pe_int) (q_pe_op op_mul q_pe_int (q_pv 1))) q_pe_int) q_pe_int) q_pe_int) q_pe_int) q_pe_int))
      (q_pss_cons (q_ps_if (q_pt_cmpR op_lt (q_pv 0) (q_pe_op op_pow q_pe_int q_pe_int) (nomark _)) (q_pss_one (q_ps_ret (q_pv 2))) q_pss_nil)
      (q_pss_one (q_ps_ret (q_pe_op op_mod (q_pe_op op_add (q_pv 2) (q_pe_op op_mod (q_pe_op op_fdivL (q_pv 0) (q_pe_op op_pow q_pe_int q_pe_int)) (q_pe_op op_add q_pe_int (q_pe_op op_mul (q_pe_op op_add (q_pv 1) q_pe_int) q_pe_int)))) q_pe_int))))), ?_⟩
    have p1 : (0 : Int) < 2147483399 := by decide
    have a0 := Int.emod_nonneg c (show (2147483399 : Int) ≠ 0 by decide)
    have a1 := Int.emod_lt_of_pos c p1
    refine ⟨_, rfl, _, _, rfl, rfl, p1, _, rfl, _, _, rfl, rfl, .inl ⟨by decide, by decide⟩, _, _, rfl, rfl, _, _, rfl, rfl, _, _, rfl, rfl, .inl ⟨by omega, by omega⟩, _, _, rfl, rfl, p1, _, _, rfl, rfl, ⟨by decide, by decide, ?_⟩, _, _, rfl, rfl, p1, ?_⟩
    · have b0 := Int.emod_nonneg ((c % 2147483399 + 104729 * k + 11) * 48271) (show (2147483399 : Int) ≠ 0 by decide)
      have b1 := Int.emod_lt_of_pos ((c % 2147483399 + 104729 * k + 11) * 48271) p1
      have : (2 : Nat) ^ 64 = 18446744073709551616 := by decide
      omega
    refine ⟨_, rfl, _, _, rfl, rfl, ⟨by decide, by decide, by decide⟩, _, _, rfl, rfl, _, rfl, ?_⟩
    refine ite2 (fun _ => ?_) (fun _ => ?_)
    · exact ⟨_, rfl, q _ (Int.emod_nonneg _ (by decide)) (Int.emod_lt_of_pos _ p1)⟩
    · refine ⟨_, rfl, _, rfl, _, _, rfl, rfl, ⟨by decide, by decide, by decide⟩, _, _, rfl, rfl, ⟨by decide +kernel, by decide +kernel⟩, _, rfl, _, _, rfl, rfl, _, _, rfl, rfl, .inl ⟨by omega, by omega⟩, _, _, rfl, rfl, _, _, rfl, rfl, ?_, _, _, rfl, rfl, _, _, rfl, rfl, p1, ?_⟩
      · show (0 : Int) < 1 + (k + 1) * _
        omega
      · exact q _ (Int.emod_nonneg _ (by decide)) (Int.emod_lt_of_pos _ p1)
theorem ok_next (T : Env K mg t) : FnOk P w K mg base CX0 2 t.a_l_next t.fd_l_next ["_law_draw", "_law_size"] (spNext K) := by
  have G_l_mixed : FnOk P w K mg base CX0 1 t.a_l_mixed t.fd_l_mixed ["_law_cell", "_law_k"] spMixed := ok_mixed T
  refine T.f_l_next.okQ sc_l_next (fun vs H Q E h => ?_) (fun cdv A outer s H vs Q E hr h => ?_)
  · obtain ⟨d, a, ns, z, rfl, _⟩ := h
    rfl
  · obtain ⟨d, a, ns, z, rfl, D, hz, q⟩ := h
    have hr_l_mixed := hr
    obtain ⟨⟨n, n0, hd⟩, sc, hl⟩ := id D
    refine ⟨_, (q_pss_cons (q_ps_set (i := 2) sc_l_next.nd rfl (by first | exact Or.inl rfl | exact Or.inr (Or.inl rfl) | exact Or.inr rfl) (q_pe_ix ix_list (q_pv 0) q_pe_int (fun _ _ => rfl)))
      (q_pss_cons (q_ps_asg (q_pe_op op_add (q_pv 2) q_pe_int) (q_pg_sub (q_pv 0) q_pe_int set_list))
      (q_pss_cons (q_ps_set (i := 3) sc_l_next.nd rfl (by first | exact Or.inl rfl | exact Or.inr (Or.inl rfl) | exact Or.inr rfl) (q_pe_callB (call_max2 rfl) (by rfl) T.z_max (by decide +kernel) (q_pa_cons q_pe_int (q_pa_cons (q_pe_callB call_len_seq (by rfl) T.z_len PySem.boot_len (q_pa_cons (q_pe_ix ix_list (q_pv 0) q_pe_int (fun _ _ => rfl)) q_pa_nil star_Subscript)) q_pa_nil star_Call) star_Constant)))
      (q_pss_cons (q_ps_set (i := 4) sc_l_next.nd rfl (by first | exact Or.inl rfl | exact Or.inr (Or.inl rfl) | exact Or.inr rfl) q_pe_int)
      (q_pss_cons (q_ps_if (q_pt_cmpR (op_neD hr.units) (q_pe_ix ix_list (q_pv 0) q_pe_int (fun _ _ => rfl)) (q_pe_lst q_pa_nil) (nomark _)) (q_pss_one (q_ps_set (i := 4) sc_l_next.nd rfl (by first | exact Or.inl rfl | exact Or.inr (Or.inl rfl) | exact Or.inr rfl) (q_pe_ix ix_list (q_pe_ix ix_list (q_pv 0) q_pe_int (fun _ _ => rfl)) (q_pe_op op_mod (q_pv 2) (q_pv 3)) (fun _ _ => rfl)))) q_pss_nil)
      (q_pss_one (q_ps_ret (q_pe_op op_mod (q_pe_op op_fdiv (q_pe_call G_l_mixed hr_l_mixed (by rfl) T.mg_l_mixed T.kp_l_mixed T.b_l_mixed .nil pass0 (q_pa_cons (q_pv 4) (q_pa_cons (q_pe_op op_mod (q_pe_op op_fdiv (q_pv 2) (q_pv 3)) q_pe_int) q_pa_nil star_BinOp) star_Name)) q_pe_int) (q_pv 1))))))))), ?_⟩
    have hd1 : ∀ o, (upd H d o) d = some o := fun o => upd_same
    have k1 : Keep d H (upd H d (.lst [.ref a, .int (n + 1)])) := fun b o e nb => by rw [upd_ne nb]; exact e
    have sc1 : Scr K (upd H d (.lst [.ref a, .int (n + 1)])) a ns := sc.keep k1 (nofrz hd)
    have D1 : DrawAt K (upd H d (.lst [.ref a, .int (n + 1)])) d a ns := ⟨⟨n + 1, by omega, upd_same⟩, sc1, hl⟩
    refine ⟨_, rfl, d, _, _, _, rfl, rfl, SqL.of hd, rfl, ?_⟩
    refine ⟨_, rfl, _, _, rfl, rfl, _, rfl, d, _, _, 1, rfl, rfl, hd, rfl, ?_⟩
    refine ⟨_, rfl, d, _, _, _, rfl, rfl, SqL.of upd_same, rfl, a, _, rfl, .inl sc1.sq, _, _, rfl, ?_⟩
    have lm : ((ns.map V.int).length : Int) = (ns.length : Int) := by rw [List.length_map]
    rw [lm]
    generalize hm : (if (ns.length : Int) > 1 then (ns.length : Int) else 1) = m
    have m1 : 1 ≤ m ∧ m ≤ 63 ∧ (ns.length ≠ 0 → m = ns.length) := by
      rw [← hm]; split <;> omega
    refine ⟨_, rfl, d, _, _, _, rfl, rfl, SqL.of upd_same, rfl, (by decide), fun l hl' => ?_⟩
    have s2 : Same (upd H d (.lst [.ref a, .int (n + 1)])) (upd (upd H d (.lst [.ref a, .int (n + 1)])) l (.lst [])) := same_new hl'
    have D2 := D1.same s2
    have k2 : Keep d H (upd (upd H d (.lst [.ref a, .int (n + 1)])) l (.lst [])) := k1.trans (.of s2)
    have hd2 : (upd (upd H d (.lst [.ref a, .int (n + 1)])) l (.lst [])) d = some (.lst [.ref a, .int (n + 1)]) := s2 _ _ upd_same
    refine ⟨.list (ns.map .int), .list [], .lst D2.sq (dp_ints ns), .lst (SqL.of upd_same) .nil, shaped_ints ns, rfl, _, rfl, ?_⟩
    rw [eqv_nil]
    have z127 : ((0 : Int) < 127 ∧ (127 : Int) < 1073741824) := ⟨by decide, by decide⟩
    cases ns with
    | nil =>
      refine iteF ?_
      refine ⟨_, rfl, _, rfl, _, rfl, _, _, rfl, rfl, ⟨by omega, by omega⟩, _, _, rfl, rfl, (by decide : (0 : Int) < 127), _, _, rfl, Int.emod_nonneg _ (by decide), Int.lt_trans (Int.emod_lt_of_pos _ (by decide)) (by decide), fun r r0 r1 => ?_⟩
      refine ⟨_, _, rfl, rfl, ⟨by decide, by decide⟩, _, rfl, _, _, rfl, rfl, hz, ?_⟩
      exact q _ _ (Int.emod_nonneg _ (by omega)) (Int.emod_lt_of_pos _ hz) D2 k2
    | cons x xs =>
      refine iteT ?_
      have hmm : m = ((x :: xs).length : Int) := m1.2.2 (by simp)
      have j0 := Int.emod_nonneg n (show m ≠ 0 by omega)
      have j1 := Int.emod_lt_of_pos n (show 0 < m by omega)
      have hj : (n % m).toNat < (x :: xs).length := by omega
      have hat : atI ((x :: xs).map V.int) (n % m) = some (.int ((x :: xs)[(n % m).toNat]'hj)) := at_of (j := (n % m).toNat) (by omega) (by rw [List.getElem?_map, List.getElem?_eq_getElem hj]; rfl)
      refine ⟨_, rfl, d, _, _, _, rfl, rfl, SqL.of hd2, rfl, _, rfl, _, rfl, _, _, rfl, rfl, (show (0 : Int) < m by omega), a, _, _, _, rfl, rfl, D2.sq, hat, ?_⟩
      refine ⟨_, rfl, _, rfl, _, rfl, _, _, rfl, rfl, ⟨by omega, by omega⟩, _, _, rfl, rfl, (by decide : (0 : Int) < 127), _, _, rfl, Int.emod_nonneg _ (by decide), Int.lt_trans (Int.emod_lt_of_pos _ (by decide)) (by decide), fun r r0 r1 => ?_⟩
      refine ⟨_, _, rfl, rfl, ⟨by decide, by decide⟩, _, rfl, _, _, rfl, rfl, hz, ?_⟩
      exact q _ _ (Int.emod_nonneg _ (by omega)) (Int.emod_lt_of_pos _ hz) D2 k2
def spWord (K : PySem.W.Frag) : Sp := fun vs H Q _ => ∃ (d a : Addr) (ns : List Int), vs = [.ref d] ∧ DrawAt K H d a ns ∧
  ∀ (x : Str) (H' : Hp), nameOk x = true → DrawAt K H' d a ns → Keep d H H' → Q (.str x) H'
def words14 : List Str := ["by", "in", "at", "made", "paid", "day", "least", "greatest", "for", "none", "call", "held", "a", "zz"]
theorem ok_word (T : Env K mg t) : FnOk P w K mg base CX0 3 t.a_l_word t.fd_l_word ["_law_draw"] (spWord K) := by
  have G_l_next : FnOk P w K mg base CX0 2 t.a_l_next t.fd_l_next ["_law_draw", "_law_size"] (spNext K) := ok_next T
  refine T.f_l_word.okQ sc_l_word (fun vs H Q E h => ?_) (fun cdv A outer s H vs Q E hr h => ?_)
  · obtain ⟨d, a, ns, rfl, _⟩ := h
    rfl
  · obtain ⟨d, a, ns, rfl, D, q⟩ := h
    have hr_l_next := hr
    refine ⟨_, (q_pss_cons (q_ps_set (i := 1) sc_l_word.nd rfl (by first | exact Or.inl rfl | exact Or.inr (Or.inl rfl) | exact Or.inr rfl) (q_pe_lst (q_pa_cons q_pe_str (q_pa_cons q_pe_str (q_pa_cons q_pe_str (q_pa_cons q_pe_str (q_pa_cons q_pe_str (q_pa_cons q_pe_str (q_pa_cons q_pe_str (q_pa_cons q_pe_str (q_pa_cons q_pe_str (q_pa_cons q_pe_str (q_pa_cons q_pe_str (q_pa_cons q_pe_str (q_pa_cons q_pe_str (q_pa_cons q_pe_str q_pa_nil star_Constant) star_Constant) star_Constant) star_Constant) star_Constant) star_Constant) star_Constant) star_Constant) star_Constant) star_Constant) star_Constant) star_Constant) star_Constant) star_Constant)))
      (q_pss_cons (q_ps_if (q_pt_cmpR op_eq (q_pe_call G_l_next hr_l_next (by rfl) T.mg_l_next T.kp_l_next T.b_l_next .nil pass0 (q_pa_cons (q_pv 0) (q_pa_cons q_pe_int q_pa_nil star_Constant) star_Name)) q_pe_int (nomark _)) (q_pss_one (q_ps_ret (q_pe_ix ix_list (q_pv 1) (q_pe_call G_l_next hr_l_next (by rfl) T.mg_l_next T.kp_l_next T.b_l_next .nil pass0 (q_pa_cons (q_pv 0) (q_pa_cons (q_pe_callB call_len_seq (by rfl) T.z_len PySem.boot_len (q_pa_cons (q_pv 1) q_pa_nil star_Name)) q_pa_nil star_Call) star_Name)) (fun _ _ => rfl)))) q_pss_nil)
      (q_pss_cons (q_ps_set (i := 2) sc_l_word.nd rfl (by first | exact Or.inl rfl | exact Or.inr (Or.inl rfl) | exact Or.inr rfl) q_pe_str)
      (q_pss_cons (q_ps_for PassesOwn.never rfl (q_pi_range1 (by rfl) T.z_range (q_pa_cons (q_pe_op op_add q_pe_int (q_pe_call G_l_next hr_l_next (by rfl) T.mg_l_next T.kp_l_next T.b_l_next .nil pass0 (q_pa_cons (q_pv 0) (q_pa_cons q_pe_int q_pa_nil star_Constant) star_Name))) q_pa_nil star_BinOp)) (q_pg_name (i := 3) sc_l_word.nd rfl (by first | exact Or.inl rfl | exact Or.inr (Or.inl rfl) | exact Or.inr rfl))
      (q_pss_one (q_ps_set (i := 2) sc_l_word.nd rfl (by first | exact Or.inl rfl | exact Or.inr (Or.inl rfl) | exact Or.inr rfl) (q_pe_op op_add_str (q_pv 2) (q_pe_ix ix_str q_pe_str (q_pe_call G_l_next hr_l_next (by rfl) T.mg_l_next T.kp_l_next T.b_l_next .nil pass0 (q_pa_cons (q_pv 0) (q_pa_cons q_pe_int q_pa_nil star_Constant) star_Name)) (fun _ _ => rfl))))))
      (q_pss_one (q_ps_ret (q_pv 2))))))), ?_⟩
    refine ⟨by decide, fun p hp => ?_⟩
    have s1 := same_new (o := .lst (words14.map V.str)) hp
    have D1 := D.same s1
    have np := D.ne hp
    refine ⟨_, rfl, d, a, ns, _, rfl, D1, by decide, fun r H2 r0 r1 D2 k2 => ⟨rfl, _, rfl, ite2 (fun _ => ?_) (fun _ => ?_)⟩⟩
    · have h2 := k2 _ _ upd_same np
      refine ⟨_, rfl, _, rfl, _, rfl, p, _, rfl, .inl (SqL.of h2), d, a, ns, _, rfl, D2, by decide, fun r' H3 r0' r1' D3 k3 => ?_⟩
      obtain ⟨v, hv, hm⟩ := at_bound (xs := words14.map V.str) r0' r1'
      obtain ⟨x, hx, rfl⟩ := List.mem_map.mp hm
      refine ⟨p, _, r', _, rfl, rfl, SqL.of (k3 _ _ h2 np), hv, ?_⟩
      have all : words14.all nameOk = true := by decide +kernel
      exact q x H3 (List.all_eq_true.mp all x hx) D3 (((Keep.of s1).trans k2).trans k3)
    · refine ⟨_, rfl, d, a, ns, _, rfl, D2, by decide, fun m H3 m0 m1 D3 k3 => ?_⟩
      refine ⟨_, _, rfl, rfl, _, rfl, by omega, by omega, ?_⟩
      refine for_range (lo := 0) (fun i σ H' => ∃ (o3 : Option V) (x : Str), σ = [some (.ref d), some (.ref p), some (.str x), o3] ∧ x.length = i ∧ (x.cps.toList.all fun c => decide (c ∈ letters.cps.toList)) = true ∧ DrawAt K H' d a ns ∧ Keep d H H') ?_ ?_ ?_
      · exact ⟨none, "", rfl, rfl, rfl, D3, ((Keep.of s1).trans k2).trans k3⟩
      · rintro i σ H4 hi ⟨o3, x, rfl, lx, ax, D4, k4⟩
        refine ⟨_, rfl, _, rfl, d, a, ns, _, rfl, D4, by decide, fun r' H5 r0' r1' D5 k5 => ?_⟩
        obtain ⟨c, hc, hm⟩ := at_bound (xs := letters.cps.toList) r0' r1'
        refine ⟨letters, r', c, rfl, rfl, by decide, hc, _, _, rfl, rfl, Nat.le_of_lt (small1000 (by show x.length + 1 ≤ 1000; omega)), ?_⟩
        refine ⟨_, _, rfl, by rw [len_app, lx]; rfl, ?_, D5, k4.trans k5⟩
        rw [tl_app, List.all_append, ax, Bool.true_and, List.all_cons]
        rw [decide_eq_true hm]; rfl
      · rintro σ H4 ⟨o3, x, rfl, lx, ax, D4, k4⟩
        refine ⟨_, rfl, q x H4 ?_ D4 k4⟩
        unfold nameOk madeOf
        rw [ax, decide_eq_true (by omega : 0 < x.length), decide_eq_true (by omega : x.length ≤ 8)]
        rfl
def spWords (K : PySem.W.Frag) : Sp := fun vs H Q _ => ∃ (d a : Addr) (ns : List Int) (m : Int), vs = [.ref d, .int m] ∧ DrawAt K H d a ns ∧ 0 ≤ m ∧ m ≤ 6 ∧
  ∀ (L : Addr) (ws : List Str) (H' : Hp), ws.length = m.toNat → ws.Nodup → (∀ x ∈ ws, nameOk x = true) → H' L = some (.lst (ws.map .str)) → H L = none → DrawAt K H' d a ns → Keep d H H' → Q (.ref L) H'
theorem ok_words (T : Env K mg t) : FnOk P w K mg base CX0 4 t.a_l_words t.fd_l_words ["_law_draw", "_law_many"] (spWords K) := by
  have G_l_word : FnOk P w K mg base CX0 3 t.a_l_word t.fd_l_word ["_law_draw"] (spWord K) := ok_word T
  refine T.f_l_words.okQ sc_l_words (fun vs H Q E h => ?_) (fun cdv A outer s H vs Q E hr h => ?_)
  · obtain ⟨d, a, ns, m, rfl, _⟩ := h
    rfl
  · obtain ⟨d, a, ns, m, rfl, D, m0, m1, q⟩ := h
    have hr_l_word := hr
    refine ⟨_, (q_pss_cons (q_ps_set (i := 2) sc_l_words.nd rfl (by first | exact Or.inl rfl | exact Or.inr (Or.inl rfl) | exact Or.inr rfl) (q_pe_lst q_pa_nil))
      (q_pss_cons (q_ps_for PassesOwn.never rfl (q_pi_range1 (by rfl) T.z_range (q_pa_cons (q_pv 1) q_pa_nil star_Name)) (q_pg_name (i := 3) sc_l_words.nd rfl (by first | exact Or.inl rfl | exact Or.inr (Or.inl rfl) | exact Or.inr rfl))
      (q_pss_cons (q_ps_set (i := 4) sc_l_words.nd rfl (by first | exact Or.inl rfl | exact Or.inr (Or.inl rfl) | exact Or.inr rfl) (q_pe_call G_l_word hr_l_word (by rfl) T.mg_l_word T.kp_l_word T.b_l_word .nil pass0 (q_pa_cons (q_pv 0) q_pa_nil star_Name)))
      (q_pss_cons (q_ps_if (q_pt_cmpR op_in_seq (q_pv 4) (q_pv 2) (by rfl)) (q_pss_one (q_ps_set (i := 4) sc_l_words.nd rfl (by first | exact Or.inl rfl | exact Or.inr (Or.inl rfl) | exact Or.inr rfl) (q_pe_ix ix_list (q_pe_lc (own := [("_law_sign", 5)]) (g := gName 5) (by rfl) sc_l_words.nd (q_pi_str q_pe_str) (blkOk_by (own := [("_law_sign", 5)]) (N := ["_law_draw", "_law_many", "_law_found", "_law_k", "_law_word_here", "_law_sign"]) (sc := defScope s_l_words) (by decide +kernel)) (fun _ _ _ _ _ => (q_pg_name (i := 5) sc_l_words.nd rfl (by first | exact Or.inl rfl | exact Or.inr (Or.inl rfl) | exact Or.inr rfl))) (fun _ _ _ _ _ => (q_pts_one (q_pt_cmpR (op_notIn_seqK (K := K) rfl) (q_pe_op op_add_str (q_pe_slice sl_str (q_pv 4) q_po_none (q_po_some q_pe_int)) (q_pv 5)) (q_pv 2) (by rfl)))) (fun _ _ _ _ _ => (q_pe_op op_add_str (q_pe_slice sl_str (q_pv 4) q_po_none (q_po_some q_pe_int)) (q_pv 5)))) q_pe_int (fun _ _ => rfl)))) q_pss_nil)
      (q_pss_one (q_ps_expr (q_pe_bm PySem.F.plainAttrs_list PySem.F.slot_list_append PySem.F.type_list_append mt_append (q_pv 2) (q_pa_cons (q_pv 4) q_pa_nil star_Name)))))))
      (q_pss_one (q_ps_ret (q_pv 2))))), ?_⟩
    refine ⟨by decide, fun L hL => ?_⟩
    have D1 := D.same (same_new (o := .lst []) hL)
    have nL := D.ne hL
    refine ⟨_, rfl, m, rfl, by omega, by omega, ?_⟩
    refine for_range (lo := 0) (fun i σ H' => ∃ (o3 o4 o5 : Option V) (ws : List Str), σ = [some (.ref d), some (.int m), some (.ref L), o3, o4, o5] ∧ ws.length = i ∧ ws.Nodup ∧ (∀ x ∈ ws, nameOk x = true) ∧ H' L = some (.lst (ws.map .str)) ∧ DrawAt K H' d a ns ∧ Keep d H H') ?_ ?_ ?_
    · exact ⟨none, none, none, [], rfl, rfl, .nil, by simp, upd_same, D1, .of (same_new hL)⟩
    · rintro i σ H4 hi ⟨o3, o4, o5, ws, rfl, lw, nw, aw, h4, D4, k4⟩
      refine ⟨_, rfl, d, a, ns, rfl, D4, fun x H5 nx D5 k5 => ?_⟩
      have h5 := k5 _ _ h4 nL
      obtain ⟨x0, x1, x2⟩ := nameOk_iff.mp nx
      have lz : x.length ≤ sizeLine := Nat.le_of_lt (small1000 (by omega))
      have app : ∀ (y : Str) (H6 : Hp) (o3 o5 : Option V), nameOk y = true → y ∉ ws → H6 L = some (.lst (ws.map .str)) → DrawAt K H6 d a ns → Keep d H H6 →
        ∃ (o3' o4' o5' : Option V) (ws' : List Str), ([some (.ref d), some (.int m), some (.ref L), o3, some (.str y), o5] : St) = [some (.ref d), some (.int m), some (.ref L), o3', o4', o5'] ∧ ws'.length = i + 1 ∧ ws'.Nodup ∧ (∀ x ∈ ws', nameOk x = true) ∧ (upd H6 L (.lst (ws.map .str ++ [.str y]))) L = some (.lst (ws'.map .str)) ∧ DrawAt K (upd H6 L (.lst (ws.map .str ++ [.str y]))) d a ns ∧ Keep d H (upd H6 L (.lst (ws.map .str ++ [.str y]))) := by
        intro y H6 o3 o5 ny hy h6 D6 k6
        refine ⟨o3, _, o5, ws ++ [y], rfl, by rw [List.length_append, lw]; rfl, ?_, ?_, ?_, D6.upd nL (nofrz h6), k6.updNew hL⟩
        · rw [List.nodup_append]
          refine ⟨nw, by simp, ?_⟩
          intro b hb c hc e
          rw [List.mem_singleton] at hc
          subst hc; subst e
          exact hy hb
        · intro b hb
          rcases List.mem_append.mp hb with z | z
          · exact aw b z
          · rw [List.mem_singleton.mp z]; exact ny
        · rw [upd_same, List.map_append]; rfl
      refine ⟨_, rfl, _, rfl, L, _, rfl, .inl (SqL.of h5), rfl, flat_strs ws, _, rfl, ?_⟩
      rw [if_neg (by decide : ¬ (false = true)), inV_strs]
      refine ite2 (fun hin => ?_) (fun hin => ?_)
      · have hc7 : (cutS x none (some 7)).length ≤ x.length := len_cut x none (some 7)
        have l1 : ∀ c, (sgn c).length = 1 := fun c => rfl
        refine ⟨letters, rfl, fun L2 hL2 => ?_⟩
        have n2 : L2 ≠ L := (ne_of_none h5 hL2).symm
        refine lc_str (fun i H' => H' L2 = some (.lst (((letters.cps.toList.take i).filter fun c => !decide (cutS x none (some 7) ++ sgn c ∈ ws)).map fun c => .str (cutS x none (some 7) ++ sgn c))) ∧ Same H5 H') ?_ ?_ ?_
        · exact ⟨by rw [upd_same]; rfl, same_new hL2⟩
        · rintro j c H6 hc ⟨h6, s6⟩
          refine ⟨rfl, ?_⟩
          have lz7 : (cutS x none (some 7)).length + (sgn c).length ≤ sizeLine := Nat.le_of_lt (small1000 (by rw [l1]; omega))
          refine ⟨_, rfl, 7, rfl, x, rfl, lz, _, rfl, _, _, rfl, rfl, lz7, _, rfl, L, _, rfl, .inl (SqL.of (s6 _ _ h5)), rfl, flat_strs ws, _, rfl, ?_⟩
          rw [if_pos (by decide : (true = true)), inV_strs]
          refine ite2 (fun hb => ?_) (fun hb => ?_)
          · refine ⟨_, rfl, 7, rfl, x, rfl, lz, _, rfl, _, _, rfl, rfl, lz7, _, h6, small1000 ?_, ?_, fun b o e => ?_⟩
            · rw [List.length_map]
              have := List.length_filter_le (fun c => !decide (cutS x none (some 7) ++ sgn c ∈ ws)) (letters.cps.toList.take j)
              have := List.length_take_le' j letters.cps.toList
              rw [letters_len] at this
              omega
            · rw [upd_same, List.take_succ, hc, List.filter_append, List.map_append]
              show _ = some (HO.lst (_ ++ List.map _ (List.filter _ [c])))
              rw [List.filter_cons, if_pos hb]
              rfl
            · rw [upd_ne (ne_of_none e hL2)]
              exact s6 b o e
          · refine ⟨?_, s6⟩
            rw [h6, List.take_succ, hc, List.filter_append, List.map_append]
            show _ = some (HO.lst (_ ++ List.map _ (List.filter _ [c])))
            rw [List.filter_cons, if_neg hb]
            simp
        · rintro H6 ⟨h6, s6⟩
          rw [List.take_length] at h6
          have fs := free_sign (cutS x none (some 7)) ws (by omega)
          cases ef : (letters.cps.toList.filter fun c => !decide (cutS x none (some 7) ++ sgn c ∈ ws)) with
          | nil => exact absurd ef fs
          | cons c r =>
            rw [ef, List.map_cons] at h6
            have hm : c ∈ letters.cps.toList.filter fun c => !decide (cutS x none (some 7) ++ sgn c ∈ ws) := by rw [ef]; exact List.mem_cons_self
            obtain ⟨hm1, hm2⟩ := List.mem_filter.mp hm
            have hm3 : cutS x none (some 7) ++ sgn c ∉ ws := by simpa using hm2
            refine ⟨L2, _, 0, _, rfl, rfl, SqL.of h6, at_of (j := 0) (by decide) rfl, ?_⟩
            have h7 := s6 _ _ h5
            refine ⟨_, rfl, .inl ⟨rfl, _, SqL.of h7⟩, _, rfl, L, _, _, rfl, rfl, h7, small1000 (by rw [List.length_map]; omega), ?_⟩
            exact app _ H6 _ _ (nameOk_cut nx hm1) hm3 h7 (D5.same s6) ((k4.trans k5).trans (.of s6))
      · refine ⟨_, rfl, .inl ⟨rfl, _, SqL.of h5⟩, _, rfl, L, _, _, rfl, rfl, h5, small1000 (by rw [List.length_map]; omega), ?_⟩
        exact app x H5 _ _ nx (by simpa using hin) h5 D5 (k4.trans k5)
    · rintro σ H4 ⟨o3, o4, o5, ws, rfl, lw, nw, aw, h4, D4, k4⟩
      exact ⟨_, rfl, q L ws H4 lw nw aw h4 hL D4 k4⟩
end
end Ck
set_option Elab.async false
set_option linter.all false
set_option pp.maxSteps 1500
set_option maxRecDepth 100000
set_option maxHeartbeats 4000000
namespace Ck
open PySem L2
section
variable {P : Program} {w : World} {K : PySem.W.Frag} {mg : Str → Option Value} {base : Heap} {t : Ad}
def spMade : Sp := fun vs H Q _ => ∃ (x y : Str), vs = [.str x, .str y] ∧ x.length ≤ 1000 ∧ ∀ H', Same H H' → Q (.bl (madeOf x y)) H'
def spTx (f : Str → Bool) : Sp := fun vs H Q _ => ∃ (x : Str), vs = [.str x] ∧ x.length ≤ 1000 ∧ ∀ H', Same H H' → Q (.bl (f x)) H'
theorem ok_made (T : Env K mg t) : FnOk P w K mg base CX0 1 t.a_is_made_of t.fd_is_made_of ["text", "signs"] spMade := by
  refine T.f_is_made_of.okQ sc_is_made_of (fun vs H Q E h => ?_) (fun cdv A outer s H vs Q E hr h => ?_)
  · obtain ⟨x, y, rfl, _⟩ := h
    rfl
  · obtain ⟨x, y, rfl, hx, q⟩ := h
    have hz : x.length ≤ sizeLine := Nat.le_of_lt (small1000 hx)
    refine ⟨_, (q_pss_one (q_ps_ret (q_pe_and (q_pe_cmpR op_gt (q_pe_callB call_len_str (by rfl) T.z_len PySem.boot_len (q_pa_cons (q_pv 0) q_pa_nil star_Name)) q_pe_int (nomark _)) (q_pe_one (q_pe_callB (cr_all rfl) (by rfl) T.z_all (by decide +kernel) (q_pa_cons (q_pe_lc (own := [("sign", 2)]) (g := gName 2) (by rfl) sc_is_made_of.nd (q_pi_str (q_pv 0)) (blkOk_by (own := [("sign", 2)]) (N := ["text", "signs", "sign"]) (sc := defScope s_is_made_of) (by decide +kernel)) (fun _ _ _ _ _ => (q_pg_name (i := 2) sc_is_made_of.nd rfl (by first | exact Or.inl rfl | exact Or.inr (Or.inl rfl) | exact Or.inr rfl))) (fun _ _ _ _ _ => q_pts_nil) (fun _ _ _ _ _ => (q_pe_cmpR op_in_sign (q_pv 2) (q_pv 1) (by rfl)))) q_pa_nil star_ListComp)))))), ?_⟩
    refine ⟨_, rfl, x, rfl, hz, _, _, rfl, rfl, _, rfl, ?_⟩
    refine ite2 (fun h1 => ?_) (fun h1 => ?_)
    · have h0 : 0 < x.length := by simpa using h1
      refine ⟨_, rfl, x, rfl, fun L hL => ?_⟩
      refine lc_str (fun i H' => H' L = some (.lst ((x.cps.toList.take i).map fun c => .bl (decide (c ∈ y.cps.toList)))) ∧ Same H H') ?_ ?_ ?_
      · exact ⟨by rw [upd_same]; rfl, same_new hL⟩
      · rintro i c H1 hc ⟨h1, s1⟩
        refine ⟨rfl, yes_i ?_⟩
        refine ⟨_, rfl, _, rfl, c, y, rfl, rfl, ?_⟩
        refine ⟨_, h1, small1000 ?_, ?_, fun b o e => ?_⟩
        · rw [List.length_map, List.length_take, ← str_len]; omega
        · rw [upd_same, List.take_succ, hc, List.map_append]
          rfl
        · rw [upd_ne (ne_of_none e hL)]
          exact s1 b o e
      · rintro H1 ⟨h1, s1⟩
        rw [List.take_length] at h1
        refine ⟨L, x.cps.toList.map fun c => decide (c ∈ y.cps.toList), rfl, SqL.of (by rw [List.map_map]; exact h1), ?_⟩
        have e : (x.cps.toList.map fun c => decide (c ∈ y.cps.toList)).all id = madeOf x y := by
          unfold madeOf
          rw [List.all_map, decide_eq_true h0, Bool.true_and]
          rfl
        rw [e]
        exact q H1 s1
    · have h0 : ¬ 0 < x.length := by simpa using h1
      have e : madeOf x y = false := by unfold madeOf; rw [decide_eq_false h0, Bool.false_and]
      rw [← e]
      exact q H (Same.refl H)
theorem ok_isword (T : Env K mg t) : FnOk P w K mg base CX0 2 t.a_is_word t.fd_is_word ["text"] (spTx fun x => madeOf x letters) := by
  have G_is_made_of : FnOk P w K mg base CX0 1 t.a_is_made_of t.fd_is_made_of ["text", "signs"] spMade := ok_made T
  refine T.f_is_word.okQ sc_is_word (fun vs H Q E h => ?_) (fun cdv A outer s H vs Q E hr h => ?_)
  · obtain ⟨x, rfl, _⟩ := h
    rfl
  · obtain ⟨x, rfl, hx, q⟩ := h
    have hr_is_made_of := hr
    refine ⟨_, (q_pss_one (q_ps_ret (q_pe_and (q_pe_callB call_isinst (by rfl) T.z_isinstance (by decide +kernel) (q_pa_cons (q_pv 0) (q_pa_cons (q_pe_bltn (v := .ty "str") (by rfl) T.z_str (by decide +kernel) rfl) q_pa_nil star_Name) star_Name)) (q_pe_one (q_pe_call G_is_made_of hr_is_made_of (by rfl) T.mg_is_made_of T.kp_is_made_of T.b_is_made_of .nil pass0 (q_pa_cons (q_pv 0) (q_pa_cons (q_pe_glob (v := c_SMALL_LETTERS) (by rfl) T.mg_SMALL_LETTERS ⟨_, rfl⟩) q_pa_nil star_Name) star_Name)))))), ?_⟩
    refine ⟨_, rfl, _, "str", _, _, rfl, .str x, kit_same, _, rfl, iteT ?_⟩
    exact ⟨_, rfl, x, letters, rfl, hx, q⟩
theorem ok_name (T : Env K mg t) : FnOk P w K mg base CX0 3 t.a_is_name t.fd_is_name ["text"] (spTx nameOk) := by
  have G_is_word : FnOk P w K mg base CX0 2 t.a_is_word t.fd_is_word ["text"] (spTx fun x => madeOf x letters) := ok_isword T
  refine T.f_is_name.okQ sc_is_name (fun vs H Q E h => ?_) (fun cdv A outer s H vs Q E hr h => ?_)
  · obtain ⟨x, rfl, _⟩ := h
    rfl
  · obtain ⟨x, rfl, hx, q⟩ := h
    have hr_is_word := hr
    have hz : x.length ≤ sizeLine := Nat.le_of_lt (small1000 hx)
    refine ⟨_, (q_pss_one (q_ps_ret (q_pe_and (q_pe_call G_is_word hr_is_word (by rfl) T.mg_is_word T.kp_is_word T.b_is_word .nil pass0 (q_pa_cons (q_pv 0) q_pa_nil star_Name)) (q_pe_one (q_pe_cmpR op_le (q_pe_callB call_len_str (by rfl) T.z_len PySem.boot_len (q_pa_cons (q_pv 0) q_pa_nil star_Name)) (q_pe_glob (v := c_LONGEST_NAME) (by rfl) T.mg_LONGEST_NAME ⟨_, rfl⟩) (nomark _)))))), ?_⟩
    refine ⟨_, rfl, x, rfl, hx, fun H1 s1 => ⟨_, rfl, ?_⟩⟩
    refine ite2 (fun e => ?_) (fun e => ?_)
    · have e : madeOf x letters = true := e
      refine ⟨_, rfl, x, rfl, hz, _, _, rfl, rfl, ?_⟩
      have e2 : decide ((x.length : Int) ≤ 8) = nameOk x := by
        unfold nameOk
        rw [e, Bool.true_and]
        exact decide_eq_decide.mpr (by omega)
      show Q (.bl (decide ((x.length : Int) ≤ 8))) H1
      rw [e2]
      exact q H1 s1
    · have e : madeOf x letters = false := Bool.eq_false_iff.mpr e
      have e2 : nameOk x = false := by unfold nameOk; rw [e, Bool.false_and]
      rw [← e2]
      exact q H1 s1
def spNum : Sp := fun vs H Q _ => ∃ (v : V), vs = [v] ∧ ((∃ n : Int, v = .int n ∧ Q (.bl true) H) ∨ ∃ b : Bool, v = .bl b ∧ Q (.bl false) H)
theorem ok_num (T : Env K mg t) : FnOk P w K mg base CX0 1 t.a_is_number t.fd_is_number ["number"] spNum := by
  refine T.f_is_number.okQ sc_is_number (fun vs H Q E h => ?_) (fun cdv A outer s H vs Q E hr h => ?_)
  · obtain ⟨v, rfl, _⟩ := h
    rfl
  · obtain ⟨v, rfl, h⟩ := h
    refine ⟨_, (q_pss_one (q_ps_ret (q_pe_and (q_pe_callB call_isinst (by rfl) T.z_isinstance (by decide +kernel) (q_pa_cons (q_pv 0) (q_pa_cons (q_pe_bltn (v := .ty "int") (by rfl) T.z_int (by decide +kernel) rfl) q_pa_nil star_Name) star_Name)) (q_pe_one (q_pe_not (q_pe_callB call_isinst (by rfl) T.z_isinstance (by decide +kernel) (q_pa_cons (q_pv 0) (q_pa_cons (q_pe_bltn (v := .ty "bool") (by rfl) T.z_bool (by decide +kernel) rfl) q_pa_nil star_Name) star_Name))))))), ?_⟩
    rcases h with ⟨n, rfl, q⟩ | ⟨b, rfl, q⟩
    · refine ⟨_, rfl, _, "int", _, _, rfl, .int n, kit_same, _, rfl, iteT ?_⟩
      exact ⟨_, rfl, _, "bool", _, _, rfl, .int n, kit_int_bool, _, rfl, q⟩
    · refine ⟨_, rfl, _, "int", _, _, rfl, .bl b, kit_bool_int, _, rfl, iteT ?_⟩
      exact ⟨_, rfl, _, "bool", _, _, rfl, .bl b, kit_same, _, rfl, q⟩
def spWithin : Sp := fun vs H Q _ => ∃ (v : V) (lo hi : Int), vs = [v, .int lo, .int hi] ∧ ((∃ n : Int, v = .int n ∧ Q (.bl (decide (lo ≤ n) && decide (n ≤ hi))) H) ∨ ∃ b : Bool, v = .bl b ∧ Q (.bl false) H)
theorem ok_within (T : Env K mg t) : FnOk P w K mg base CX0 2 t.a_is_within t.fd_is_within ["number", "least", "most"] spWithin := by
  have G_is_number : FnOk P w K mg base CX0 1 t.a_is_number t.fd_is_number ["number"] spNum := ok_num T
  refine T.f_is_within.okQ sc_is_within (fun vs H Q E h => ?_) (fun cdv A outer s H vs Q E hr h => ?_)
  · obtain ⟨v, lo, hi, rfl, _⟩ := h
    rfl
  · obtain ⟨v, lo, hi, rfl, h⟩ := h
    have hr_is_number := hr
    refine ⟨_, (q_pss_one (q_ps_ret (q_pe_and (q_pe_call G_is_number hr_is_number (by rfl) T.mg_is_number T.kp_is_number T.b_is_number .nil pass0 (q_pa_cons (q_pv 0) q_pa_nil star_Name)) (q_pe_one (q_pe_chain op_le op_le (q_pv 1) (q_pv 0) (q_pv 2)))))), ?_⟩
    rcases h with ⟨n, rfl, q⟩ | ⟨b, rfl, q⟩
    · refine ⟨_, rfl, _, rfl, .inl ⟨n, rfl, _, rfl, iteT ?_⟩⟩
      refine ⟨_, rfl, _, rfl, _, _, rfl, rfl, _, rfl, ?_⟩
      refine ite2 (fun h1 => ?_) (fun h1 => ?_)
      · rw [h1, Bool.true_and] at q
        exact ⟨_, rfl, _, _, rfl, rfl, q⟩
      · rw [Bool.eq_false_iff.mpr h1, Bool.false_and] at q
        exact q
    · exact ⟨_, rfl, _, rfl, .inr ⟨b, rfl, _, rfl, iteF q⟩⟩
def spCkNameX (CN : Addr) : Sp := fun vs H Q E => ∃ x : Str, vs = [.str x] ∧ x.length ≤ 1000 ∧ ((nameOk x = true ∧ ∀ H', Same H H' → Q .non H') ∨ (nameOk x = false ∧ ∀ H', Same H H' → E (.ref CN) none H'))
theorem ok_check_nameX (T : Env K mg t) : FnOk P w K mg base (CX1 P w) 4 t.a_check_name t.fd_check_name ["text"] (spCkNameX t.C_NoName) := by
  have G_is_name : FnOk P w K mg base CX0 3 t.a_is_name t.fd_is_name ["text"] (spTx nameOk) := ok_name T
  refine T.f_check_name.okX sc_check_name (fun vs H Q E h => ?_) (fun cdv A outer s H vs Q E hr h O => ?_)
  · obtain ⟨x, rfl, _⟩ := h
    rfl
  · obtain ⟨x, rfl, lx, h⟩ := h
    have hr_is_name := hr
    refine ⟨_, (q_pss_one (q_ps_if (q_pt_not (q_pt_val (q_pe_call G_is_name hr_is_name (by rfl) T.mg_is_name T.kp_is_name T.b_is_name .nil pass0 (q_pa_cons (q_pv 0) q_pa_nil star_Name)))) (q_pss_one (q_ps_raise O T.ex_NoName.toExcCls (by rfl) T.mg_NoName (q_pa_cons q_pe_str q_pa_nil star_Constant))) q_pss_nil)), ?_⟩
    refine ⟨_, rfl, x, rfl, lx, fun H1 s1 => ?_⟩
    rcases h with ⟨nx, q⟩ | ⟨nx, e⟩
    · exact ⟨_, rfl, iteN nx (q H1 s1)⟩
    · rw [nx]
      exact ⟨_, rfl, iteT ⟨(by show 1 ≤ sizeLine; decide), e H1 s1⟩⟩
def spCkNamesT (CN : Addr) : Sp := fun vs H Q E => ∃ (l : Addr) (ws : List Str), vs = [.ref l] ∧ H l = some (.tup (ws.map V.str)) ∧ (∀ x ∈ ws, x.length ≤ 1000) ∧
  (((∀ x ∈ ws, nameOk x = true) ∧ ∀ H', Same H H' → Q .non H') ∨ ((∃ x ∈ ws, nameOk x = false) ∧ ∀ H', Same H H' → E (.ref CN) none H'))
theorem ok_check_namesT (T : Env K mg t) : FnOk P w K mg base (CX1 P w) 5 t.a_check_names t.fd_check_names ["texts"] (spCkNamesT t.C_NoName) := by
  have G_check_name : FnOk P w K mg base (CX1 P w) 4 t.a_check_name t.fd_check_name ["text"] (spCkNameX t.C_NoName) := ok_check_nameX T
  refine T.f_check_names.okX sc_check_names (fun vs H Q E h => ?_) (fun cdv A outer s H vs Q E hr h O => ?_)
  · obtain ⟨l, ws, rfl, _⟩ := h
    rfl
  · obtain ⟨l, ws, rfl, hl, lw, h⟩ := h
    have hr_check_name := hr
    refine ⟨_, (q_pss_one (q_ps_for PassesOwn.leaving rfl (q_pi_tup (q_pv 0)) (q_pg_name (i := 1) sc_check_names.nd rfl (by first | exact Or.inl rfl | exact Or.inr (Or.inl rfl) | exact Or.inr rfl))
      (q_pss_one (q_ps_expr (q_pe_call G_check_name hr_check_name (by rfl) T.mg_check_name T.kp_check_name T.b_check_name .nil (passX O (fun _ _ _ z => z)) (q_pa_cons (q_pv 1) q_pa_nil star_Name)))))), ?_⟩
    refine ⟨_, rfl, l, rfl, ⟨_, SqT.of hl⟩, ?_⟩
    refine for_tup (xs := ws.map V.str) (fun i σ H' => ∃ o1 : Option V, σ = [some (.ref l), o1] ∧ (∀ x ∈ ws.take i, nameOk x = true) ∧ Same H H') ?_ ?_ ?_ ?_
    · exact ⟨none, rfl, by simp, Same.refl _⟩
    · rintro i σ H1 hi ⟨o1, rfl, a1, s1⟩
      exact SqT.of (s1 _ _ hl)
    · rintro i y σ H1 hy ⟨o1, rfl, a1, s1⟩
      obtain ⟨nm, hn, rfl⟩ := str_at hy
      have hm := List.mem_of_getElem? hn
      refine ⟨_, rfl, nm, rfl, lw nm hm, ?_⟩
      cases e : nameOk nm with
      | true =>
        refine .inl ⟨rfl, fun H2 s2 => ⟨_, rfl, ?_, s1.trans s2⟩⟩
        intro x hx
        rw [List.take_succ, hn] at hx
        rcases List.mem_append.mp hx with z | z
        · exact a1 x z
        · rw [show x = nm by simpa using z]; exact e
      | false =>
        refine .inr ⟨rfl, fun H2 s2 => ?_⟩
        rcases h with ⟨al, _⟩ | ⟨_, ex⟩
        · rw [al nm hm] at e; cases e
        · exact ex _ (s1.trans s2)
    · rintro σ H1 ⟨o1, rfl, a1, s1⟩
      rw [List.length_map, List.take_length] at a1
      rcases h with ⟨_, q⟩ | ⟨⟨x, hx, e⟩, _⟩
      · exact q _ s1
      · rw [a1 x hx] at e; cases e
end
end Ck
set_option Elab.async false
set_option linter.all false
set_option pp.maxSteps 1500
set_option maxRecDepth 100000
set_option maxHeartbeats 4000000
namespace Ck
open PySem L2
section
variable {P : Program} {w : World} {K : PySem.W.Frag} {mg : Str → Option Value} {base : Heap} {t : Ad}
def clsWords : List Str := ["name", "money", "amount", "text", "bridge", "day", "worth", "book", "term", "weight", "many", "kinds", "lacking", "row", "stock", "debt", "people", "deed", "shut", "too many"]
theorem before_idx {bs : List Bool} {j : Nat} (h : ∀ m, m < j → bs[m]? = some false) : ∀ (m : Nat) (z : V), m < j → (bs.map V.bl)[m]? = some z → eqV z (.bl true) = false := by
  intro m z hm hz
  rw [List.getElem?_map, h m hm] at hz
  cases hz
  rfl
def spClass (C : Addr) (wd : Str) : Sp := fun vs H Q _ => ∃ (ea : Addr), vs = [.ref ea] ∧ H ea = some (.ext (excAt ea C)) ∧ ∀ H', Same H H' → Q (.str wd) H'
theorem ok_class_NoName (T : Env K mg t) : FnOk P w K mg base CX0 1 t.a_l_class t.fd_l_class ["_law_e"] (spClass t.C_NoName "name") := by
  refine T.f_l_class.okQ sc_l_class (fun vs H Q E h => ?_) (fun cdv A outer s H vs Q E hr h => ?_)
  · obtain ⟨ea, rfl, _⟩ := h
    rfl
  · obtain ⟨ea, rfl, he, q⟩ := h
    refine ⟨_, (q_pss_cons (q_ps_set (i := 1) sc_l_class.nd rfl (by first | exact Or.inl rfl | exact Or.inr (Or.inl rfl) | exact Or.inr rfl) (q_pe_lst (q_pa_cons (q_pe_callB call_isinstG (by rfl) T.z_isinstance (by decide +kernel) (q_pa_cons (q_pv 0) (q_pa_cons (q_pe_glob (v := .ref _) (by rfl) T.mg_NoName rfl) q_pa_nil star_Name) star_Name)) (q_pa_cons (q_pe_callB call_isinstG (by rfl) T.z_isinstance (by decide +kernel) (q_pa_cons (q_pv 0) (q_pa_cons (q_pe_glob (v := .ref _) (by rfl) T.mg_NoMoney rfl) q_pa_nil star_Name) star_Name)) (q_pa_cons (q_pe_callB call_isinstG (by rfl) T.z_isinstance (by decide +kernel) (q_pa_cons (q_pv 0) (q_pa_cons (q_pe_glob (v := .ref _) (by rfl) T.mg_NoAmount rfl) q_pa_nil star_Name) star_Name)) (q_pa_cons (q_pe_callB call_isinstG (by rfl) T.z_isinstance (by decide +kernel) (q_pa_cons (q_pv 0) (q_pa_cons (q_pe_glob (v := .ref _) (by rfl) T.mg_NoText rfl) q_pa_nil star_Name) star_Name)) q_pa_nil star_Call) star_Call) star_Call) star_Call)))
      (q_pss_cons (q_ps_set (i := 1) sc_l_class.nd rfl (by first | exact Or.inl rfl | exact Or.inr (Or.inl rfl) | exact Or.inr rfl) (q_pe_op op_cat (q_pv 1) (q_pe_lst (q_pa_cons (q_pe_callB call_isinstG (by rfl) T.z_isinstance (by decide +kernel) (q_pa_cons (q_pv 0) (q_pa_cons (q_pe_glob (v := .ref _) (by rfl) T.mg_NoBridge rfl) q_pa_nil star_Name) star_Name)) (q_pa_cons (q_pe_callB call_isinstG (by rfl) T.z_isinstance (by decide +kernel) (q_pa_cons (q_pv 0) (q_pa_cons (q_pe_glob (v := .ref _) (by rfl) T.mg_NoDay rfl) q_pa_nil star_Name) star_Name)) (q_pa_cons (q_pe_callB call_isinstG (by rfl) T.z_isinstance (by decide +kernel) (q_pa_cons (q_pv 0) (q_pa_cons (q_pe_glob (v := .ref _) (by rfl) T.mg_NoWorth rfl) q_pa_nil star_Name) star_Name)) (q_pa_cons (q_pe_callB call_isinstG (by rfl) T.z_isinstance (by decide +kernel) (q_pa_cons (q_pv 0) (q_pa_cons (q_pe_glob (v := .ref _) (by rfl) T.mg_NoBook rfl) q_pa_nil star_Name) star_Name)) q_pa_nil star_Call) star_Call) star_Call) star_Call))))
      (q_pss_cons (q_ps_set (i := 1) sc_l_class.nd rfl (by first | exact Or.inl rfl | exact Or.inr (Or.inl rfl) | exact Or.inr rfl) (q_pe_op op_cat (q_pv 1) (q_pe_lst (q_pa_cons (q_pe_callB call_isinstG (by rfl) T.z_isinstance (by decide +kernel) (q_pa_cons (q_pv 0) (q_pa_cons (q_pe_glob (v := .ref _) (by rfl) T.mg_NoTerm rfl) q_pa_nil star_Name) star_Name)) (q_pa_cons (q_pe_callB call_isinstG (by rfl) T.z_isinstance (by decide +kernel) (q_pa_cons (q_pv 0) (q_pa_cons (q_pe_glob (v := .ref _) (by rfl) T.mg_NoWeight rfl) q_pa_nil star_Name) star_Name)) (q_pa_cons (q_pe_callB call_isinstG (by rfl) T.z_isinstance (by decide +kernel) (q_pa_cons (q_pv 0) (q_pa_cons (q_pe_glob (v := .ref _) (by rfl) T.mg_NoMany rfl) q_pa_nil star_Name) star_Name)) (q_pa_cons (q_pe_callB call_isinstG (by rfl) T.z_isinstance (by decide +kernel) (q_pa_cons (q_pv 0) (q_pa_cons (q_pe_glob (v := .ref _) (by rfl) T.mg_NoKinds rfl) q_pa_nil star_Name) star_Name)) q_pa_nil star_Call) star_Call) star_Call) star_Call))))
      (q_pss_cons (q_ps_set (i := 1) sc_l_class.nd rfl (by first | exact Or.inl rfl | exact Or.inr (Or.inl rfl) | exact Or.inr rfl) (q_pe_op op_cat (q_pv 1) (q_pe_lst (q_pa_cons (q_pe_callB call_isinstG (by rfl) T.z_isinstance (by decide +kernel) (q_pa_cons (q_pv 0) (q_pa_cons (q_pe_glob (v := .ref _) (by rfl) T.mg_Lacking rfl) q_pa_nil star_Name) star_Name)) (q_pa_cons (q_pe_callB call_isinstG (by rfl) T.z_isinstance (by decide +kernel) (q_pa_cons (q_pv 0) (q_pa_cons (q_pe_glob (v := .ref _) (by rfl) T.mg_NoRow rfl) q_pa_nil star_Name) star_Name)) (q_pa_cons (q_pe_callB call_isinstG (by rfl) T.z_isinstance (by decide +kernel) (q_pa_cons (q_pv 0) (q_pa_cons (q_pe_glob (v := .ref _) (by rfl) T.mg_NoStock rfl) q_pa_nil star_Name) star_Name)) (q_pa_cons (q_pe_callB call_isinstG (by rfl) T.z_isinstance (by decide +kernel) (q_pa_cons (q_pv 0) (q_pa_cons (q_pe_glob (v := .ref _) (by rfl) T.mg_NoDebt rfl) q_pa_nil star_Name) star_Name)) q_pa_nil star_Call) star_Call) star_Call) star_Call))))
      (q_pss_cons (q_ps_set (i := 1) sc_l_class.nd rfl (by first | exact Or.inl rfl | exact Or.inr (Or.inl rfl) | exact Or.inr rfl) (q_pe_op op_cat (q_pv 1) (q_pe_lst (q_pa_cons (q_pe_callB call_isinstG (by rfl) T.z_isinstance (by decide +kernel) (q_pa_cons (q_pv 0) (q_pa_cons (q_pe_glob (v := .ref _) (by rfl) T.mg_NoPeople rfl) q_pa_nil star_Name) star_Name)) (q_pa_cons (q_pe_callB call_isinstG (by rfl) T.z_isinstance (by decide +kernel) (q_pa_cons (q_pv 0) (q_pa_cons (q_pe_glob (v := .ref _) (by rfl) T.mg_NoDeed rfl) q_pa_nil star_Name) star_Name)) (q_pa_cons (q_pe_callB call_isinstG (by rfl) T.z_isinstance (by decide +kernel) (q_pa_cons (q_pv 0) (q_pa_cons (q_pe_glob (v := .ref _) (by rfl) T.mg_Shut rfl) q_pa_nil star_Name) star_Name)) (q_pa_cons (q_pe_callB call_isinstG (by rfl) T.z_isinstance (by decide +kernel) (q_pa_cons (q_pv 0) (q_pa_cons (q_pe_glob (v := .ref _) (by rfl) T.mg_TooMany rfl) q_pa_nil star_Name) star_Name)) q_pa_nil star_Call) star_Call) star_Call) star_Call))))
      (q_pss_cons (q_ps_set (i := 2) sc_l_class.nd rfl (by first | exact Or.inl rfl | exact Or.inr (Or.inl rfl) | exact Or.inr rfl) (q_pe_lst (q_pa_cons q_pe_str (q_pa_cons q_pe_str (q_pa_cons q_pe_str (q_pa_cons q_pe_str (q_pa_cons q_pe_str (q_pa_cons q_pe_str (q_pa_cons q_pe_str (q_pa_cons q_pe_str (q_pa_cons q_pe_str (q_pa_cons q_pe_str (q_pa_cons q_pe_str (q_pa_cons q_pe_str q_pa_nil star_Constant) star_Constant) star_Constant) star_Constant) star_Constant) star_Constant) star_Constant) star_Constant) star_Constant) star_Constant) star_Constant) star_Constant)))
      (q_pss_cons (q_ps_set (i := 2) sc_l_class.nd rfl (by first | exact Or.inl rfl | exact Or.inr (Or.inl rfl) | exact Or.inr rfl) (q_pe_op op_cat (q_pv 2) (q_pe_lst (q_pa_cons q_pe_str (q_pa_cons q_pe_str (q_pa_cons q_pe_str (q_pa_cons q_pe_str (q_pa_cons q_pe_str (q_pa_cons q_pe_str (q_pa_cons q_pe_str (q_pa_cons q_pe_str q_pa_nil star_Constant) star_Constant) star_Constant) star_Constant) star_Constant) star_Constant) star_Constant) star_Constant))))
      (q_pss_cons (q_ps_if (QW.pt (q_pw_or (q_pt_cmpR op_ne (q_pe_bm PySem.F.plainAttrs_list PySem.F.slot_list_count PySem.F.type_list_count mt_count_list (q_pv 1) (q_pa_cons q_pe_bl q_pa_nil star_Constant)) q_pe_int (nomark _)) (q_pw_or1 (q_pt_not (q_pt_val (q_pe_callB call_isinstG (by rfl) T.z_isinstance (by decide +kernel) (q_pa_cons (q_pv 0) (q_pa_cons (q_pe_bltn (v := .ty "ValueError") (by rfl) T.z_ValueError (by decide +kernel) rfl) q_pa_nil star_Name) star_Name))))))) (q_pss_one (q_ps_ret q_pe_str)) q_pss_nil)
      (q_pss_one (q_ps_ret (q_pe_ix ix_list (q_pv 2) (q_pe_bm PySem.F.plainAttrs_list PySem.F.slot_list_index PySem.F.type_list_index mt_index (q_pv 1) (q_pa_cons q_pe_bl q_pa_nil star_Constant)) (fun _ _ => rfl)))))))))))), ?_⟩
    refine ⟨_, rfl, _, _, _, _, _, rfl, rfl, .exc he T.ex_NoName, T.is_NoName_NoName, _, rfl, _, _, _, _, _, rfl, rfl, .exc he T.ex_NoName, T.is_NoName_NoMoney, _, rfl, _, _, _, _, _, rfl, rfl, .exc he T.ex_NoName, T.is_NoName_NoAmount, _, rfl, _, _, _, _, _, rfl, rfl, .exc he T.ex_NoName, T.is_NoName_NoText, (by show 4 ≤ sizeLine; decide), fun l0 h0 => ?_⟩
    have s0 := same_new (o := .lst ([true, false, false, false].map V.bl)) h0
    have e0 := s0 _ _ he
    have k0 := new_at (o := .lst ([true, false, false, false].map V.bl)) h0
    refine ⟨_, rfl, _, rfl, _, _, _, _, _, rfl, rfl, .exc e0 T.ex_NoName, T.is_NoName_NoBridge, _, rfl, _, _, _, _, _, rfl, rfl, .exc e0 T.ex_NoName, T.is_NoName_NoDay, _, rfl, _, _, _, _, _, rfl, rfl, .exc e0 T.ex_NoName, T.is_NoName_NoWorth, _, rfl, _, _, _, _, _, rfl, rfl, .exc e0 T.ex_NoName, T.is_NoName_NoBook, (by show 4 ≤ sizeLine; decide), fun m1 hm1 => ?_⟩
    have t1 := same_new (o := .lst ([false, false, false, false].map V.bl)) hm1
    refine ⟨l0, m1, _, _, rfl, rfl, t1 _ _ k0, upd_same, (by show 4 + 4 ≤ sizeLine; decide), fun l1 h1 => ?_⟩
    have s1 := (s0.trans t1).trans (same_new (o := .lst ([true, false, false, false, false, false, false, false].map V.bl)) h1)
    have e1 := s1 _ _ he
    have k1 := new_at (o := .lst ([true, false, false, false, false, false, false, false].map V.bl)) h1
    refine ⟨_, rfl, _, rfl, _, _, _, _, _, rfl, rfl, .exc e1 T.ex_NoName, T.is_NoName_NoTerm, _, rfl, _, _, _, _, _, rfl, rfl, .exc e1 T.ex_NoName, T.is_NoName_NoWeight, _, rfl, _, _, _, _, _, rfl, rfl, .exc e1 T.ex_NoName, T.is_NoName_NoMany, _, rfl, _, _, _, _, _, rfl, rfl, .exc e1 T.ex_NoName, T.is_NoName_NoKinds, (by show 4 ≤ sizeLine; decide), fun m2 hm2 => ?_⟩
    have t2 := same_new (o := .lst ([false, false, false, false].map V.bl)) hm2
    refine ⟨l1, m2, _, _, rfl, rfl, t2 _ _ k1, upd_same, (by show 8 + 4 ≤ sizeLine; decide), fun l2 h2 => ?_⟩
    have s2 := (s1.trans t2).trans (same_new (o := .lst ([true, false, false, false, false, false, false, false, false, false, false, false].map V.bl)) h2)
    have e2 := s2 _ _ he
    have k2 := new_at (o := .lst ([true, false, false, false, false, false, false, false, false, false, false, false].map V.bl)) h2
    refine ⟨_, rfl, _, rfl, _, _, _, _, _, rfl, rfl, .exc e2 T.ex_NoName, T.is_NoName_Lacking, _, rfl, _, _, _, _, _, rfl, rfl, .exc e2 T.ex_NoName, T.is_NoName_NoRow, _, rfl, _, _, _, _, _, rfl, rfl, .exc e2 T.ex_NoName, T.is_NoName_NoStock, _, rfl, _, _, _, _, _, rfl, rfl, .exc e2 T.ex_NoName, T.is_NoName_NoDebt, (by show 4 ≤ sizeLine; decide), fun m3 hm3 => ?_⟩
    have t3 := same_new (o := .lst ([false, false, false, false].map V.bl)) hm3
    refine ⟨l2, m3, _, _, rfl, rfl, t3 _ _ k2, upd_same, (by show 12 + 4 ≤ sizeLine; decide), fun l3 h3 => ?_⟩
    have s3 := (s2.trans t3).trans (same_new (o := .lst ([true, false, false, false, false, false, false, false, false, false, false, false, false, false, false, false].map V.bl)) h3)
    have e3 := s3 _ _ he
    have k3 := new_at (o := .lst ([true, false, false, false, false, false, false, false, false, false, false, false, false, false, false, false].map V.bl)) h3
    refine ⟨_, rfl, _, rfl, _, _, _, _, _, rfl, rfl, .exc e3 T.ex_NoName, T.is_NoName_NoPeople, _, rfl, _, _, _, _, _, rfl, rfl, .exc e3 T.ex_NoName, T.is_NoName_NoDeed, _, rfl, _, _, _, _, _, rfl, rfl, .exc e3 T.ex_NoName, T.is_NoName_Shut, _, rfl, _, _, _, _, _, rfl, rfl, .exc e3 T.ex_NoName, T.is_NoName_TooMany, (by show 4 ≤ sizeLine; decide), fun m4 hm4 => ?_⟩
    have t4 := same_new (o := .lst ([false, false, false, false].map V.bl)) hm4
    refine ⟨l3, m4, _, _, rfl, rfl, t4 _ _ k3, upd_same, (by show 16 + 4 ≤ sizeLine; decide), fun l4 h4 => ?_⟩
    have s4 := (s3.trans t4).trans (same_new (o := .lst ([true, false, false, false, false, false, false, false, false, false, false, false, false, false, false, false, false, false, false, false].map V.bl)) h4)
    have e4 := s4 _ _ he
    have k4 := new_at (o := .lst ([true, false, false, false, false, false, false, false, false, false, false, false, false, false, false, false, false, false, false, false].map V.bl)) h4
    refine ⟨(by show 12 ≤ sizeLine; decide), fun w0 hw0 => ?_⟩
    have u0 := same_new (o := .lst ((clsWords.take 12).map V.str)) hw0
    have v0 := new_at (o := .lst ((clsWords.take 12).map V.str)) hw0
    refine ⟨_, rfl, (by show 8 ≤ sizeLine; decide), fun w1 hw1 => ?_⟩
    have u1 := same_new (o := .lst ((clsWords.drop 12).map V.str)) hw1
    refine ⟨w0, w1, _, _, rfl, rfl, u1 _ _ v0, upd_same, (by show 12 + 8 ≤ sizeLine; decide), fun w2 hw2 => ?_⟩
    have u2 := same_new (o := .lst (clsWords.map V.str)) hw2
    have v2 := new_at (o := .lst (clsWords.map V.str)) hw2
    have sA := ((s4.trans u0).trans u1).trans u2
    have kA := u2 _ _ (u1 _ _ (u0 _ _ k4))
    refine ⟨_, rfl, .inl ⟨rfl, _, SqL.of kA⟩, l4, _, _, rfl, rfl, SqL.of kA, rfl, by decide, rfl, _, rfl, iteF ?_⟩
    refine ⟨_, rfl, _, _, _, _, _, rfl, rfl, .exc (sA _ _ he) T.ex_NoName, T.is_NoName_ValueError, _, rfl, iteF ?_⟩
    refine ⟨_, rfl, _, rfl, .inl ⟨rfl, _, SqL.of kA⟩, l4, _, _, 0, _, rfl, rfl, SqL.of kA, rfl, by decide, rfl, rfl, before_idx (by decide), ?_⟩
    refine ⟨w2, _, 0, _, rfl, rfl, SqL.of v2, at_of (j := 0) (by decide) rfl, ?_⟩
    exact q _ sA
theorem ok_class_NoRow (T : Env K mg t) : FnOk P w K mg base CX0 1 t.a_l_class t.fd_l_class ["_law_e"] (spClass t.C_NoRow "row") := by
  refine T.f_l_class.okQ sc_l_class (fun vs H Q E h => ?_) (fun cdv A outer s H vs Q E hr h => ?_)
  · obtain ⟨ea, rfl, _⟩ := h
    rfl
  · obtain ⟨ea, rfl, he, q⟩ := h
    refine ⟨_, (q_pss_cons (q_ps_set (i := 1) sc_l_class.nd rfl (by first | exact Or.inl rfl | exact Or.inr (Or.inl rfl) | exact Or.inr rfl) (q_pe_lst (q_pa_cons (q_pe_callB call_isinstG (by rfl) T.z_isinstance (by decide +kernel) (q_pa_cons (q_pv 0) (q_pa_cons (q_pe_glob (v := .ref _) (by rfl) T.mg_NoName rfl) q_pa_nil star_Name) star_Name)) (q_pa_cons (q_pe_callB call_isinstG (by rfl) T.z_isinstance (by decide +kernel) (q_pa_cons (q_pv 0) (q_pa_cons (q_pe_glob (v := .ref _) (by rfl) T.mg_NoMoney rfl) q_pa_nil star_Name) star_Name)) (q_pa_cons (q_pe_callB call_isinstG (by rfl) T.z_isinstance (by decide +kernel) (q_pa_cons (q_pv 0) (q_pa_cons (q_pe_glob (v := .ref _) (by rfl) T.mg_NoAmount rfl) q_pa_nil star_Name) star_Name)) (q_pa_cons (q_pe_callB call_isinstG (by rfl) T.z_isinstance (by decide +kernel) (q_pa_cons (q_pv 0) (q_pa_cons (q_pe_glob (v := .ref _) (by rfl) T.mg_NoText rfl) q_pa_nil star_Name) star_Name)) q_pa_nil star_Call) star_Call) star_Call) star_Call)))
      (q_pss_cons (q_ps_set (i := 1) sc_l_class.nd rfl (by first | exact Or.inl rfl | exact Or.inr (Or.inl rfl) | exact Or.inr rfl) (q_pe_op op_cat (q_pv 1) (q_pe_lst (q_pa_cons (q_pe_callB call_isinstG (by rfl) T.z_isinstance (by decide +kernel) (q_pa_cons (q_pv 0) (q_pa_cons (q_pe_glob (v := .ref _) (by rfl) T.mg_NoBridge rfl) q_pa_nil star_Name) star_Name)) (q_pa_cons (q_pe_callB call_isinstG (by rfl) T.z_isinstance (by decide +kernel) (q_pa_cons (q_pv 0) (q_pa_cons (q_pe_glob (v := .ref _) (by rfl) T.mg_NoDay rfl) q_pa_nil star_Name) star_Name)) (q_pa_cons (q_pe_callB call_isinstG (by rfl) T.z_isinstance (by decide +kernel) (q_pa_cons (q_pv 0) (q_pa_cons (q_pe_glob (v := .ref _) (by rfl) T.mg_NoWorth rfl) q_pa_nil star_Name) star_Name)) (q_pa_cons (q_pe_callB call_isinstG (by rfl) T.z_isinstance (by decide +kernel) (q_pa_cons (q_pv 0) (q_pa_cons (q_pe_glob (v := .ref _) (by rfl) T.mg_NoBook rfl) q_pa_nil star_Name) star_Name)) q_pa_nil star_Call) star_Call) star_Call) star_Call))))
      (q_pss_cons (q_ps_set (i := 1) sc_l_class.nd rfl (by first | exact Or.inl rfl | exact Or.inr (Or.inl rfl) | exact Or.inr rfl) (q_pe_op op_cat (q_pv 1) (q_pe_lst (q_pa_cons (q_pe_callB call_isinstG (by rfl) T.z_isinstance (by decide +kernel) (q_pa_cons (q_pv 0) (q_pa_cons (q_pe_glob (v := .ref _) (by rfl) T.mg_NoTerm rfl) q_pa_nil star_Name) star_Name)) (q_pa_cons (q_pe_callB call_isinstG (by rfl) T.z_isinstance (by decide +kernel) (q_pa_cons (q_pv 0) (q_pa_cons (q_pe_glob (v := .ref _) (by rfl) T.mg_NoWeight rfl) q_pa_nil star_Name) star_Name)) (q_pa_cons (q_pe_callB call_isinstG (by rfl) T.z_isinstance (by decide +kernel) (q_pa_cons (q_pv 0) (q_pa_cons (q_pe_glob (v := .ref _) (by rfl) T.mg_NoMany rfl) q_pa_nil star_Name) star_Name)) (q_pa_cons (q_pe_callB call_isinstG (by rfl) T.z_isinstance (by decide +kernel) (q_pa_cons (q_pv 0) (q_pa_cons (q_pe_glob (v := .ref _) (by rfl) T.mg_NoKinds rfl) q_pa_nil star_Name) star_Name)) q_pa_nil star_Call) star_Call) star_Call) star_Call))))
      (q_pss_cons (q_ps_set (i := 1) sc_l_class.nd rfl (by first | exact Or.inl rfl | exact Or.inr (Or.inl rfl) | exact Or.inr rfl) (q_pe_op op_cat (q_pv 1) (q_pe_lst (q_pa_cons (q_pe_callB call_isinstG (by rfl) T.z_isinstance (by decide +kernel) (q_pa_cons (q_pv 0) (q_pa_cons (q_pe_glob (v := .ref _) (by rfl) T.mg_Lacking rfl) q_pa_nil star_Name) star_Name)) (q_pa_cons (q_pe_callB call_isinstG (by rfl) T.z_isinstance (by decide +kernel) (q_pa_cons (q_pv 0) (q_pa_cons (q_pe_glob (v := .ref _) (by rfl) T.mg_NoRow rfl) q_pa_nil star_Name) star_Name)) (q_pa_cons (q_pe_callB call_isinstG (by rfl) T.z_isinstance (by decide +kernel) (q_pa_cons (q_pv 0) (q_pa_cons (q_pe_glob (v := .ref _) (by rfl) T.mg_NoStock rfl) q_pa_nil star_Name) star_Name)) (q_pa_cons (q_pe_callB call_isinstG (by rfl) T.z_isinstance (by decide +kernel) (q_pa_cons (q_pv 0) (q_pa_cons (q_pe_glob (v := .ref _) (by rfl) T.mg_NoDebt rfl) q_pa_nil star_Name) star_Name)) q_pa_nil star_Call) star_Call) star_Call) star_Call))))
      (q_pss_cons (q_ps_set (i := 1) sc_l_class.nd rfl (by first | exact Or.inl rfl | exact Or.inr (Or.inl rfl) | exact Or.inr rfl) (q_pe_op op_cat (q_pv 1) (q_pe_lst (q_pa_cons (q_pe_callB call_isinstG (by rfl) T.z_isinstance (by decide +kernel) (q_pa_cons (q_pv 0) (q_pa_cons (q_pe_glob (v := .ref _) (by rfl) T.mg_NoPeople rfl) q_pa_nil star_Name) star_Name)) (q_pa_cons (q_pe_callB call_isinstG (by rfl) T.z_isinstance (by decide +kernel) (q_pa_cons (q_pv 0) (q_pa_cons (q_pe_glob (v := .ref _) (by rfl) T.mg_NoDeed rfl) q_pa_nil star_Name) star_Name)) (q_pa_cons (q_pe_callB call_isinstG (by rfl) T.z_isinstance (by decide +kernel) (q_pa_cons (q_pv 0) (q_pa_cons (q_pe_glob (v := .ref _) (by rfl) T.mg_Shut rfl) q_pa_nil star_Name) star_Name)) (q_pa_cons (q_pe_callB call_isinstG (by rfl) T.z_isinstance (by decide +kernel) (q_pa_cons (q_pv 0) (q_pa_cons (q_pe_glob (v := .ref _) (by rfl) T.mg_TooMany rfl) q_pa_nil star_Name) star_Name)) q_pa_nil star_Call) star_Call) star_Call) star_Call))))
      (q_pss_cons (q_ps_set (i := 2) sc_l_class.nd rfl (by first | exact Or.inl rfl | exact Or.inr (Or.inl rfl) | exact Or.inr rfl) (q_pe_lst (q_pa_cons q_pe_str (q_pa_cons q_pe_str (q_pa_cons q_pe_str (q_pa_cons q_pe_str (q_pa_cons q_pe_str (q_pa_cons q_pe_str (q_pa_cons q_pe_str (q_pa_cons q_pe_str (q_pa_cons q_pe_str (q_pa_cons q_pe_str (q_pa_cons q_pe_str (q_pa_cons q_pe_str q_pa_nil star_Constant) star_Constant) star_Constant) star_Constant) star_Constant) star_Constant) star_Constant) star_Constant) star_Constant) star_Constant) star_Constant) star_Constant)))
      (q_pss_cons (q_ps_set (i := 2) sc_l_class.nd rfl (by first | exact Or.inl rfl | exact Or.inr (Or.inl rfl) | exact Or.inr rfl) (q_pe_op op_cat (q_pv 2) (q_pe_lst (q_pa_cons q_pe_str (q_pa_cons q_pe_str (q_pa_cons q_pe_str (q_pa_cons q_pe_str (q_pa_cons q_pe_str (q_pa_cons q_pe_str (q_pa_cons q_pe_str (q_pa_cons q_pe_str q_pa_nil star_Constant) star_Constant) star_Constant) star_Constant) star_Constant) star_Constant) star_Constant) star_Constant))))
      (q_pss_cons (q_ps_if (QW.pt (q_pw_or (q_pt_cmpR op_ne (q_pe_bm PySem.F.plainAttrs_list PySem.F.slot_list_count PySem.F.type_list_count mt_count_list (q_pv 1) (q_pa_cons q_pe_bl q_pa_nil star_Constant)) q_pe_int (nomark _)) (q_pw_or1 (q_pt_not (q_pt_val (q_pe_callB call_isinstG (by rfl) T.z_isinstance (by decide +kernel) (q_pa_cons (q_pv 0) (q_pa_cons (q_pe_bltn (v := .ty "ValueError") (by rfl) T.z_ValueError (by decide +kernel) rfl) q_pa_nil star_Name) star_Name))))))) (q_pss_one (q_ps_ret q_pe_str)) q_pss_nil)
      (q_pss_one (q_ps_ret (q_pe_ix ix_list (q_pv 2) (q_pe_bm PySem.F.plainAttrs_list PySem.F.slot_list_index PySem.F.type_list_index mt_index (q_pv 1) (q_pa_cons q_pe_bl q_pa_nil star_Constant)) (fun _ _ => rfl)))))))))))), ?_⟩
    refine ⟨_, rfl, _, _, _, _, _, rfl, rfl, .exc he T.ex_NoRow, T.is_NoRow_NoName, _, rfl, _, _, _, _, _, rfl, rfl, .exc he T.ex_NoRow, T.is_NoRow_NoMoney, _, rfl, _, _, _, _, _, rfl, rfl, .exc he T.ex_NoRow, T.is_NoRow_NoAmount, _, rfl, _, _, _, _, _, rfl, rfl, .exc he T.ex_NoRow, T.is_NoRow_NoText, (by show 4 ≤ sizeLine; decide), fun l0 h0 => ?_⟩
    have s0 := same_new (o := .lst ([false, false, false, false].map V.bl)) h0
    have e0 := s0 _ _ he
    have k0 := new_at (o := .lst ([false, false, false, false].map V.bl)) h0
    refine ⟨_, rfl, _, rfl, _, _, _, _, _, rfl, rfl, .exc e0 T.ex_NoRow, T.is_NoRow_NoBridge, _, rfl, _, _, _, _, _, rfl, rfl, .exc e0 T.ex_NoRow, T.is_NoRow_NoDay, _, rfl, _, _, _, _, _, rfl, rfl, .exc e0 T.ex_NoRow, T.is_NoRow_NoWorth, _, rfl, _, _, _, _, _, rfl, rfl, .exc e0 T.ex_NoRow, T.is_NoRow_NoBook, (by show 4 ≤ sizeLine; decide), fun m1 hm1 => ?_⟩
    have t1 := same_new (o := .lst ([false, false, false, false].map V.bl)) hm1
    refine ⟨l0, m1, _, _, rfl, rfl, t1 _ _ k0, upd_same, (by show 4 + 4 ≤ sizeLine; decide), fun l1 h1 => ?_⟩
    have s1 := (s0.trans t1).trans (same_new (o := .lst ([false, false, false, false, false, false, false, false].map V.bl)) h1)
    have e1 := s1 _ _ he
    have k1 := new_at (o := .lst ([false, false, false, false, false, false, false, false].map V.bl)) h1
    refine ⟨_, rfl, _, rfl, _, _, _, _, _, rfl, rfl, .exc e1 T.ex_NoRow, T.is_NoRow_NoTerm, _, rfl, _, _, _, _, _, rfl, rfl, .exc e1 T.ex_NoRow, T.is_NoRow_NoWeight, _, rfl, _, _, _, _, _, rfl, rfl, .exc e1 T.ex_NoRow, T.is_NoRow_NoMany, _, rfl, _, _, _, _, _, rfl, rfl, .exc e1 T.ex_NoRow, T.is_NoRow_NoKinds, (by show 4 ≤ sizeLine; decide), fun m2 hm2 => ?_⟩
    have t2 := same_new (o := .lst ([false, false, false, false].map V.bl)) hm2
    refine ⟨l1, m2, _, _, rfl, rfl, t2 _ _ k1, upd_same, (by show 8 + 4 ≤ sizeLine; decide), fun l2 h2 => ?_⟩
    have s2 := (s1.trans t2).trans (same_new (o := .lst ([false, false, false, false, false, false, false, false, false, false, false, false].map V.bl)) h2)
    have e2 := s2 _ _ he
    have k2 := new_at (o := .lst ([false, false, false, false, false, false, false, false, false, false, false, false].map V.bl)) h2
    refine ⟨_, rfl, _, rfl, _, _, _, _, _, rfl, rfl, .exc e2 T.ex_NoRow, T.is_NoRow_Lacking, _, rfl, _, _, _, _, _, rfl, rfl, .exc e2 T.ex_NoRow, T.is_NoRow_NoRow, _, rfl, _, _, _, _, _, rfl, rfl, .exc e2 T.ex_NoRow, T.is_NoRow_NoStock, _, rfl, _, _, _, _, _, rfl, rfl, .exc e2 T.ex_NoRow, T.is_NoRow_NoDebt, (by show 4 ≤ sizeLine; decide), fun m3 hm3 => ?_⟩
    have t3 := same_new (o := .lst ([false, true, false, false].map V.bl)) hm3
    refine ⟨l2, m3, _, _, rfl, rfl, t3 _ _ k2, upd_same, (by show 12 + 4 ≤ sizeLine; decide), fun l3 h3 => ?_⟩
    have s3 := (s2.trans t3).trans (same_new (o := .lst ([false, false, false, false, false, false, false, false, false, false, false, false, false, true, false, false].map V.bl)) h3)
    have e3 := s3 _ _ he
    have k3 := new_at (o := .lst ([false, false, false, false, false, false, false, false, false, false, false, false, false, true, false, false].map V.bl)) h3
    refine ⟨_, rfl, _, rfl, _, _, _, _, _, rfl, rfl, .exc e3 T.ex_NoRow, T.is_NoRow_NoPeople, _, rfl, _, _, _, _, _, rfl, rfl, .exc e3 T.ex_NoRow, T.is_NoRow_NoDeed, _, rfl, _, _, _, _, _, rfl, rfl, .exc e3 T.ex_NoRow, T.is_NoRow_Shut, _, rfl, _, _, _, _, _, rfl, rfl, .exc e3 T.ex_NoRow, T.is_NoRow_TooMany, (by show 4 ≤ sizeLine; decide), fun m4 hm4 => ?_⟩
    have t4 := same_new (o := .lst ([false, false, false, false].map V.bl)) hm4
    refine ⟨l3, m4, _, _, rfl, rfl, t4 _ _ k3, upd_same, (by show 16 + 4 ≤ sizeLine; decide), fun l4 h4 => ?_⟩
    have s4 := (s3.trans t4).trans (same_new (o := .lst ([false, false, false, false, false, false, false, false, false, false, false, false, false, true, false, false, false, false, false, false].map V.bl)) h4)
    have e4 := s4 _ _ he
    have k4 := new_at (o := .lst ([false, false, false, false, false, false, false, false, false, false, false, false, false, true, false, false, false, false, false, false].map V.bl)) h4
    refine ⟨(by show 12 ≤ sizeLine; decide), fun w0 hw0 => ?_⟩
    have u0 := same_new (o := .lst ((clsWords.take 12).map V.str)) hw0
    have v0 := new_at (o := .lst ((clsWords.take 12).map V.str)) hw0
    refine ⟨_, rfl, (by show 8 ≤ sizeLine; decide), fun w1 hw1 => ?_⟩
    have u1 := same_new (o := .lst ((clsWords.drop 12).map V.str)) hw1
    refine ⟨w0, w1, _, _, rfl, rfl, u1 _ _ v0, upd_same, (by show 12 + 8 ≤ sizeLine; decide), fun w2 hw2 => ?_⟩
    have u2 := same_new (o := .lst (clsWords.map V.str)) hw2
    have v2 := new_at (o := .lst (clsWords.map V.str)) hw2
    have sA := ((s4.trans u0).trans u1).trans u2
    have kA := u2 _ _ (u1 _ _ (u0 _ _ k4))
    refine ⟨_, rfl, .inl ⟨rfl, _, SqL.of kA⟩, l4, _, _, rfl, rfl, SqL.of kA, rfl, by decide, rfl, _, rfl, iteF ?_⟩
    refine ⟨_, rfl, _, _, _, _, _, rfl, rfl, .exc (sA _ _ he) T.ex_NoRow, T.is_NoRow_ValueError, _, rfl, iteF ?_⟩
    refine ⟨_, rfl, _, rfl, .inl ⟨rfl, _, SqL.of kA⟩, l4, _, _, 13, _, rfl, rfl, SqL.of kA, rfl, by decide, rfl, rfl, before_idx (by decide), ?_⟩
    refine ⟨w2, _, 13, _, rfl, rfl, SqL.of v2, at_of (j := 13) (by decide) rfl, ?_⟩
    exact q _ sA
def WordOf (t : Ad) (C : Addr) (wd : Str) : Prop := (C = t.C_NoName ∧ wd = "name") ∨ (C = t.C_NoRow ∧ wd = "row")
def spClassA (t : Ad) : Sp := fun vs H Q E => ∃ (C : Addr) (wd : Str), WordOf t C wd ∧ spClass C wd vs H Q E
theorem ok_class (T : Env K mg t) : FnOk P w K mg base CX0 1 t.a_l_class t.fd_l_class ["_law_e"] (spClassA t) :=
  ⟨fun vs H Q E h => let ⟨_, _, _, _, e, _⟩ := h; e ▸ rfl, fun A outer s H args us vs Q E hr he hb hv hs => by
    obtain ⟨C, wd, wo, h⟩ := hs
    rcases wo with ⟨rfl, rfl⟩ | ⟨rfl, rfl⟩
    · exact (ok_class_NoName T).run A outer s H args us vs Q E hr he hb hv h
    · exact (ok_class_NoRow T).run A outer s H args us vs Q E hr he hb hv h⟩
end
end Ck
set_option Elab.async false
set_option linter.all false
set_option pp.maxSteps 1500
set_option maxRecDepth 100000
set_option maxHeartbeats 4000000
namespace Ck
open PySem L2
abbrev Nm := Int ⊕ Bool
def nV : Nm → V
  | .inl i => .int i
  | .inr b => .bl b
def nD : Nm → PyData
  | .inl i => .int i
  | .inr b => .bool b
abbrev RW := Str × Str × Nm × Str × Str × Nm
abbrev rwV (u : RW) : List V := [.str u.1, .str u.2.1, nV u.2.2.1, .str u.2.2.2.1, .str u.2.2.2.2.1, nV u.2.2.2.2.2]
abbrev Gd := Str × Str
abbrev gdV (g : Gd) : List V := [.str g.1, .str g.2]
def one (u : RW) : Gd := (u.1, u.2.1)
def oth (u : RW) : Gd := (u.2.2.2.1, u.2.2.2.2.1)
def gAdd (gs : List Gd) (g : Gd) : List Gd := if g ∈ gs then gs else gs ++ [g]
def gOf (rows : List RW) : List Gd := rows.foldl (fun gs u => gAdd (gAdd gs (one u)) (oth u)) []
theorem gOf_snoc (rows : List RW) (u : RW) : gOf (rows ++ [u]) = gAdd (gAdd (gOf rows) (one u)) (oth u) := by
  unfold gOf
  rw [List.foldl_append]
  rfl
theorem gOf_next {rows : List RW} {i : Nat} {u : RW} (h : rows[i]? = some u) : gOf (rows.take (i + 1)) = gAdd (gAdd (gOf (rows.take i)) (one u)) (oth u) := by
  rw [List.take_succ, h]
  exact gOf_snoc _ _
theorem gAdd_len (gs : List Gd) (g : Gd) : (gAdd gs g).length ≤ gs.length + 1 := by
  unfold gAdd
  split
  · omega
  · simp
def keyG (g : Gd) : List Key := [.inr g.1, .inr g.2]
theorem keyG_inj {g h : Gd} (e : keyG g = keyG h) : g = h := by
  unfold keyG at e
  injection e with e1 e2
  injection e2 with e3 _
  exact Prod.ext (Sum.inr.inj e1) (Sum.inr.inj e3)
theorem put_keys {kvs : List (List Key × V)} {gs : List Gd} (h : kvs.map (·.1) = gs.map keyG) (g : Gd) (v : V) : (putK kvs (keyG g) v).map (·.1) = (gAdd gs g).map keyG := by
  have mem : keyG g ∈ kvs.map (·.1) ↔ g ∈ gs := by
    rw [h, List.mem_map]
    constructor
    · rintro ⟨x, hx, e⟩
      rw [← keyG_inj e]; exact hx
    · exact fun z => ⟨g, z, rfl⟩
  have any : (kvs.any fun kv => decide (kv.1 = keyG g)) = true ↔ g ∈ gs := by
    rw [← mem, List.any_eq_true, List.mem_map]
    constructor
    · rintro ⟨x, hx, e⟩
      exact ⟨x, hx, of_decide_eq_true e⟩
    · rintro ⟨x, hx, e⟩
      exact ⟨x, hx, decide_eq_true e⟩
  unfold putK gAdd
  by_cases c : g ∈ gs
  · rw [if_pos (any.mpr c), if_pos c, ← h, List.map_map]
    refine List.map_congr_left fun x _ => ?_
    show (if x.1 = keyG g then (x.1, v) else x).1 = x.1
    split <;> rfl
  · rw [if_neg (fun z => c (any.mp z)), if_neg c, List.map_append, List.map_append, h]
    rfl
section
variable {P : Program} {w : World} {K : PySem.W.Frag} {mg : Str → Option Value} {base : Heap} {t : Ad}
def spSides : Sp := fun vs H Q _ => ∃ (r : Addr) (u : RW), vs = [.ref r] ∧ H r = some (.tup (rwV u)) ∧ ∀ T p1 p2 H', H' T = some (.tup [.ref p1, nV u.2.2.1, .ref p2, nV u.2.2.2.2.2]) → H' p1 = some (.tup (gdV (one u))) → H' p2 = some (.tup (gdV (oth u))) → Same H H' → Q (.ref T) H'
theorem ok_sides (T : Env K mg t) : FnOk P w K mg base CX0 1 t.a_sides t.fd_sides ["row"] spSides := by
  refine T.f_sides.okQ sc_sides (fun vs H Q E h => ?_) (fun cdv A outer s H vs Q E hr h => ?_)
  · obtain ⟨r, u, rfl, _⟩ := h
    rfl
  · obtain ⟨r, u, rfl, h, q⟩ := h
    refine ⟨_, (q_pss_cons (q_ps_asg (q_pv 0) (q_pg_tup (by rfl) (q_pgs_cons (q_pg_name (i := 1) sc_sides.nd rfl (by first | exact Or.inl rfl | exact Or.inr (Or.inl rfl) | exact Or.inr rfl)) (q_pgs_cons (q_pg_name (i := 2) sc_sides.nd rfl (by first | exact Or.inl rfl | exact Or.inr (Or.inl rfl) | exact Or.inr rfl)) (q_pgs_cons (q_pg_name (i := 3) sc_sides.nd rfl (by first | exact Or.inl rfl | exact Or.inr (Or.inl rfl) | exact Or.inr rfl)) (q_pgs_cons (q_pg_name (i := 4) sc_sides.nd rfl (by first | exact Or.inl rfl | exact Or.inr (Or.inl rfl) | exact Or.inr rfl)) (q_pgs_cons (q_pg_name (i := 5) sc_sides.nd rfl (by first | exact Or.inl rfl | exact Or.inr (Or.inl rfl) | exact Or.inr rfl)) (q_pgs_cons (q_pg_name (i := 6) sc_sides.nd rfl (by first | exact Or.inl rfl | exact Or.inr (Or.inl rfl) | exact Or.inr rfl)) q_pgs_nil))))))))
      (q_pss_one (q_ps_ret (q_pe_tup (q_pa_cons (q_pe_tup (q_pa_cons (q_pv 1) (q_pa_cons (q_pv 2) q_pa_nil star_Name) star_Name)) (q_pa_cons (q_pv 3) (q_pa_cons (q_pe_tup (q_pa_cons (q_pv 4) (q_pa_cons (q_pv 5) q_pa_nil star_Name) star_Name)) (q_pa_cons (q_pv 6) q_pa_nil star_Name) star_Tuple) star_Name) star_Tuple))))), ?_⟩
    refine ⟨_, rfl, r, _, rfl, SqT.of h, rfl, _, _, rfl, _, _, rfl, _, _, rfl, _, _, rfl, _, _, rfl, _, _, rfl, rfl, ?_⟩
    refine ⟨_, rfl, _, rfl, (by show 2 ≤ sizeLine; decide), fun p1 h1 => ?_⟩
    have s1 := same_new (o := .tup (gdV (one u))) h1
    have e1 := new_at (o := .tup (gdV (one u))) h1
    refine ⟨_, rfl, _, rfl, _, rfl, (by show 2 ≤ sizeLine; decide), fun p2 h2 => ?_⟩
    have s2 := same_new (o := .tup (gdV (oth u))) h2
    have e2 := new_at (o := .tup (gdV (oth u))) h2
    refine ⟨_, rfl, (by show 4 ≤ sizeLine; decide), fun T4 h4 => ?_⟩
    have s4 := same_new (o := .tup [.ref p1, nV u.2.2.1, .ref p2, nV u.2.2.2.2.2]) h4
    exact q T4 p1 p2 _ upd_same (s4 _ _ (s2 _ _ e1)) (s4 _ _ e2) ((s1.trans s2).trans s4)
def spGoods : Sp := fun vs H Q _ => ∃ (R : Addr) (rs : List Addr) (rows : List RW), vs = [.ref R] ∧ H R = some (.tup (rs.map V.ref)) ∧ TA rwV H rs rows ∧ rows.length ≤ 60 ∧ ∀ p qs H', H' p = some (.tup (qs.map V.ref)) → TA gdV H' qs (gOf rows) → Same H H' → Q (.ref p) H'
theorem gOf_len (rows : List RW) : (gOf rows).length ≤ 2 * rows.length := by
  refine snoc_ind (P := fun rows => (gOf rows).length ≤ 2 * rows.length) (by decide) (fun l u ih => ?_) rows
  rw [gOf_snoc, List.length_append]
  have a := gAdd_len (gAdd (gOf l) (one u)) (oth u)
  have b := gAdd_len (gOf l) (one u)
  show _ ≤ 2 * (_ + 1)
  omega
theorem ok_goods (T : Env K mg t) : FnOk P w K mg base CX0 2 t.a_goods_of t.fd_goods_of ["rows"] spGoods := by
  have G_sides : FnOk P w K mg base CX0 1 t.a_sides t.fd_sides ["row"] spSides := ok_sides T
  refine T.f_goods_of.okQ sc_goods_of (fun vs H Q E h => ?_) (fun cdv A outer s H vs Q E hr h => ?_)
  · obtain ⟨R, rs, rows, rfl, _⟩ := h
    rfl
  · obtain ⟨R, rs, rows, rfl, hR, ta, l60, q⟩ := h
    have hr_sides := hr
    have hu := hu_of hr
    refine ⟨_, (q_pss_cons (q_ps_set (i := 1) sc_goods_of.nd rfl (by first | exact Or.inl rfl | exact Or.inr (Or.inl rfl) | exact Or.inr rfl) q_pe_dnewT)
      (q_pss_cons (q_ps_for PassesOwn.never rfl (q_pi_tup (q_pv 0)) (q_pg_name (i := 2) sc_goods_of.nd rfl (by first | exact Or.inl rfl | exact Or.inr (Or.inl rfl) | exact Or.inr rfl))
      (q_pss_cons (q_ps_asg (q_pe_call G_sides hr_sides (by rfl) T.mg_sides T.kp_sides T.b_sides .nil pass0 (q_pa_cons (q_pv 2) q_pa_nil star_Name)) (q_pg_tup (by rfl) (q_pgs_cons (q_pg_name (i := 3) sc_goods_of.nd rfl (by first | exact Or.inl rfl | exact Or.inr (Or.inl rfl) | exact Or.inr rfl)) (q_pgs_cons (q_pg_name (i := 4) sc_goods_of.nd rfl (by first | exact Or.inl rfl | exact Or.inr (Or.inl rfl) | exact Or.inr rfl)) (q_pgs_cons (q_pg_name (i := 5) sc_goods_of.nd rfl (by first | exact Or.inl rfl | exact Or.inr (Or.inl rfl) | exact Or.inr rfl)) (q_pgs_cons (q_pg_name (i := 6) sc_goods_of.nd rfl (by first | exact Or.inl rfl | exact Or.inr (Or.inl rfl) | exact Or.inr rfl)) q_pgs_nil))))))
      (q_pss_cons (q_ps_dput hu (q_pv 1) (q_pv 3) q_pe_bl rfl)
      (q_pss_one (q_ps_dput hu (q_pv 1) (q_pv 5) q_pe_bl rfl)))))
      (q_pss_one (q_ps_ret (q_pe_callTy (call_tuple_ofD rfl) (by rfl) T.z_tuple (by decide +kernel) (q_pa_cons (q_pv 1) q_pa_nil star_Name)))))), ?_⟩
    intro D hD
    have s1 := same_new (o := .dT []) hD
    refine ⟨_, rfl, R, rfl, ⟨_, SqT.of (s1 _ _ hR)⟩, ?_⟩
    refine for_tup (xs := rs.map V.ref) (fun i σ H' => ∃ (o2 o3 o4 o5 o6 : Option V) (kvs : List (List Key × V)), σ = [some (.ref R), some (.ref D), o2, o3, o4, o5, o6] ∧ H' D = some (.dT kvs) ∧ kvs.map (·.1) = (gOf (rows.take i)).map keyG ∧ Same H H') ?_ ?_ ?_ ?_
    · exact ⟨_, _, _, _, _, [], rfl, upd_same, rfl, s1⟩
    · rintro i σ H1 hi ⟨o2, o3, o4, o5, o6, kvs, rfl, h1, e1, z1⟩
      exact SqT.of (z1 _ _ hR)
    · rintro i y σ H1 hy ⟨o2, o3, o4, o5, o6, kvs, rfl, h1, e1, z1⟩
      obtain ⟨r, hr', rfl⟩ := ref_at hy
      obtain ⟨u, hu', e⟩ := ta.at_ i r hr'
      have kl : kvs.length ≤ 120 := by
        have := congrArg List.length e1
        rw [List.length_map, List.length_map] at this
        have := gOf_len (rows.take i)
        have := List.length_take_le' i rows
        omega
      refine ⟨_, rfl, r, u, rfl, z1 _ _ e, fun T4 p1 p2 H2 hT h2 h3 z2 => ?_⟩
      refine ⟨T4, _, rfl, SqT.of hT, rfl, _, _, rfl, _, _, rfl, _, _, rfl, _, _, rfl, rfl, ?_⟩
      have hD2 := z2 _ _ h1
      refine ⟨_, rfl, _, rfl, D, _, rfl, DPut.t (k := keyG (one u)) hD2 h2 (small1000 (by omega)), ?_⟩
      have kl2 := length_putK kvs (keyG (one u)) (V.bl true)
      have n3 : p2 ≠ D := fun z => by rw [z, hD2] at h3; cases h3
      refine ⟨_, rfl, _, rfl, D, _, rfl, DPut.t (k := keyG (oth u)) upd_same (by rw [upd_ne n3]; exact h3) (small1000 (by omega)), ?_⟩
      refine ⟨_, _, _, _, _, _, rfl, upd_same, ?_, fun b o eb => ?_⟩
      · rw [gOf_next hu']
        exact put_keys (put_keys e1 _ _) _ _
      · have nb := ne_of_none eb hD
        rw [upd_ne nb, upd_ne nb]
        exact z2 _ _ (z1 b o eb)
    · rintro σ H1 ⟨o2, o3, o4, o5, o6, kvs, rfl, h1, e1, z1⟩
      rw [List.length_map, ta.len, List.take_length] at e1
      refine ⟨_, rfl, D, kvs, rfl, h1, fun p qs ka hp => ?_⟩
      have s3 := same_new (o := .tup (qs.map V.ref)) hp
      have kl : kvs.length = (gOf rows).length := by
        have := congrArg List.length e1
        rw [List.length_map, List.length_map] at this
        exact this
      refine q p qs _ upd_same ⟨by rw [ka.1, kl], fun i r hr => ?_⟩ (z1.trans s3)
      obtain ⟨k, v, hk, e⟩ := ka.2 i r hr
      have e2 := congrArg (fun l => l[i]?) e1
      rw [List.getElem?_map, List.getElem?_map, hk] at e2
      cases e3 : (gOf rows)[i]? with
      | none => rw [e3] at e2; cases e2
      | some g =>
        rw [e3] at e2
        have e4 : k = keyG g := by simpa using e2
        subst e4
        exact ⟨g, rfl, s3 _ _ e⟩
end
end Ck
set_option Elab.async false
set_option linter.all false
set_option pp.maxSteps 1500
set_option maxRecDepth 100000
set_option maxHeartbeats 4000000
namespace Ck
open PySem L2
section
variable {P : Program} {w : World} {K : PySem.W.Frag} {mg : Str → Option Value} {base : Heap} {t : Ad}
def NmOk (n : Nm) : Prop := ∃ i : Int, n = .inl i ∧ 1 ≤ i ∧ i ≤ 1000000
def NamesOk (u : RW) : Prop := nameOk u.1 = true ∧ nameOk u.2.1 = true ∧ nameOk u.2.2.2.1 = true ∧ nameOk u.2.2.2.2.1 = true
def RowGood (u : RW) : Prop := NmOk u.2.2.1 ∧ NmOk u.2.2.2.2.2 ∧ one u ≠ oth u
def Rest (rows : List RW) : Prop := (∀ u ∈ rows, RowGood u) ∧ 1 ≤ rows.length ∧ rows.length ≤ 40 ∧ (gOf rows).length ≤ 16
def GoodT (rows : List RW) : Prop := (∀ u ∈ rows, NamesOk u) ∧ Rest rows
def BadT (t : Ad) (rows : List RW) (C : Addr) (wd : Str) : Prop := ((∃ u ∈ rows, ¬ NamesOk u) ∧ C = t.C_NoName ∧ wd = "name") ∨ ((∀ u ∈ rows, NamesOk u) ∧ ¬ Rest rows ∧ C = t.C_NoRow ∧ wd = "row")
theorem good_or_badT (t : Ad) (rows : List RW) : GoodT rows ∨ ∃ C wd, BadT t rows C wd := by
  by_cases h : ∀ u ∈ rows, NamesOk u
  · by_cases r : Rest rows
    · exact .inl ⟨h, r⟩
    · exact .inr ⟨_, _, .inr ⟨h, r, rfl, rfl⟩⟩
  · refine .inr ⟨_, _, .inl ⟨?_, rfl, rfl⟩⟩
    exact Classical.byContradiction fun z => h fun u hu => Classical.byContradiction fun y => z ⟨u, hu, y⟩
def Tx (n : Nat) (x : Str) : Prop := x.length ≤ n ∧ Okt x
def RTx (n : Nat) (u : RW) : Prop := Tx n u.1 ∧ Tx n u.2.1 ∧ Tx n u.2.2.2.1 ∧ Tx n u.2.2.2.2.1
theorem names_iff {u : RW} : NamesOk u ↔ ∀ x ∈ [u.1, u.2.1, u.2.2.2.1, u.2.2.2.2.1], nameOk x = true := by
  constructor
  · rintro ⟨a, b, c, d⟩ x hx
    simp only [List.mem_cons, List.not_mem_nil, or_false] at hx
    rcases hx with rfl | rfl | rfl | rfl <;> assumption
  · intro h
    exact ⟨h _ (by simp), h _ (by simp), h _ (by simp), h _ (by simp)⟩
def okN (n : Nm) : Bool := match n with
  | .inl i => decide (1 ≤ i) && decide (i ≤ 1000000)
  | .inr _ => false
theorem okN_iff {n : Nm} : okN n = true ↔ NmOk n := by
  unfold okN NmOk
  cases n with
  | inl i =>
    simp only [Bool.and_eq_true, decide_eq_true_eq]
    constructor
    · exact fun h => ⟨i, rfl, h⟩
    · rintro ⟨j, e, h⟩
      cases e
      exact h
  | inr b =>
    constructor
    · intro h; cases h
    · rintro ⟨j, e, _⟩; cases e
def spWithinN : Sp := fun vs H Q _ => ∃ n : Nm, vs = [nV n, V.int 1, V.int 1000000] ∧ Q (.bl (okN n)) H
theorem ok_withinN (T : Env K mg t) : FnOk P w K mg base CX0 2 t.a_is_within t.fd_is_within ["number", "least", "most"] spWithinN :=
  ⟨fun vs H Q E h => let ⟨_, e, _⟩ := h; e ▸ rfl, fun A outer s H args us vs Q E hr he hb hv hs => by
    obtain ⟨n, rfl, q⟩ := hs
    refine (ok_within T).run A outer s H args us _ Q E hr he hb hv ⟨nV n, 1, 1000000, rfl, ?_⟩
    cases n with
    | inl i => exact .inl ⟨i, rfl, q⟩
    | inr b => exact .inr ⟨b, rfl, q⟩⟩
theorem eqv_gd (g h : Gd) : PyData.eqv (.tuple [.str g.1, .str g.2]) (.tuple [.str h.1, .str h.2]) = decide (g = h) := by
  rw [eqv_pair]
  exact decide_eq_decide.mpr (by rw [Prod.ext_iff])
def spCkRows (t : Ad) : Sp := fun vs H Q E => ∃ (R : Addr) (rs : List Addr) (rows : List RW), vs = [.ref R] ∧ H R = some (.tup (rs.map V.ref)) ∧ TA rwV H rs rows ∧ rows.length ≤ 60 ∧ (∀ u ∈ rows, RTx 1000 u) ∧
  ((GoodT rows ∧ ∀ H', Same H H' → Q .non H') ∨ ∃ C wd, BadT t rows C wd ∧ ∀ H', Same H H' → E (.ref C) none H')
theorem ok_ckrows (T : Env K mg t) : FnOk P w K mg base (CX1 P w) 6 t.a_check_rows t.fd_check_rows ["rows"] (spCkRows t) := by
  have G_sides : FnOk P w K mg base CX0 1 t.a_sides t.fd_sides ["row"] spSides := ok_sides T
  have G_check_names : FnOk P w K mg base (CX1 P w) 5 t.a_check_names t.fd_check_names ["texts"] (spCkNamesT t.C_NoName) := ok_check_namesT T
  have G_is_within : FnOk P w K mg base CX0 2 t.a_is_within t.fd_is_within ["number", "least", "most"] spWithinN := ok_withinN T
  have G_goods_of : FnOk P w K mg base CX0 2 t.a_goods_of t.fd_goods_of ["rows"] spGoods := ok_goods T
  refine T.f_check_rows.okX sc_check_rows (fun vs H Q E h => ?_) (fun cdv A outer s H vs Q E hr h O => ?_)
  · obtain ⟨R, rs, rows, rfl, _⟩ := h
    rfl
  · obtain ⟨R, rs, rows, rfl, hR, ta, l60, tx, h⟩ := h
    have hr_sides : Room 1 _ := hr.mono (by decide)
    have hr_check_names := hr
    have hr_is_within : Room 2 _ := hr.mono (by decide)
    have hr_goods_of : Room 2 _ := hr.mono (by decide)
    refine ⟨_, (q_pss_cons (q_ps_for PassesOwn.leaving rfl (q_pi_tup (q_pv 0)) (q_pg_name (i := 1) sc_check_rows.nd rfl (by first | exact Or.inl rfl | exact Or.inr (Or.inl rfl) | exact Or.inr rfl))
      (q_pss_cons (q_ps_asg (q_pe_call G_sides hr_sides (by rfl) T.mg_sides T.kp_sides T.b_sides .nil pass0 (q_pa_cons (q_pv 1) q_pa_nil star_Name)) (q_pg_tup (by rfl) (q_pgs_cons (q_pg_name (i := 2) sc_check_rows.nd rfl (by first | exact Or.inl rfl | exact Or.inr (Or.inl rfl) | exact Or.inr rfl)) (q_pgs_cons (q_pg_name (i := 3) sc_check_rows.nd rfl (by first | exact Or.inl rfl | exact Or.inr (Or.inl rfl) | exact Or.inr rfl)) (q_pgs_cons (q_pg_name (i := 4) sc_check_rows.nd rfl (by first | exact Or.inl rfl | exact Or.inr (Or.inl rfl) | exact Or.inr rfl)) (q_pgs_cons (q_pg_name (i := 5) sc_check_rows.nd rfl (by first | exact Or.inl rfl | exact Or.inr (Or.inl rfl) | exact Or.inr rfl)) q_pgs_nil))))))
      (q_pss_one (q_ps_expr (q_pe_call G_check_names hr_check_names (by rfl) T.mg_check_names T.kp_check_names T.b_check_names .nil (passX O (fun _ _ _ z => z)) (q_pa_cons (q_pe_op op_catT (q_pv 2) (q_pv 4)) q_pa_nil star_BinOp))))))
      (q_pss_cons (q_ps_for PassesOwn.leaving rfl (q_pi_tup (q_pv 0)) (q_pg_name (i := 1) sc_check_rows.nd rfl (by first | exact Or.inl rfl | exact Or.inr (Or.inl rfl) | exact Or.inr rfl))
      (q_pss_cons (q_ps_asg (q_pe_call G_sides hr_sides (by rfl) T.mg_sides T.kp_sides T.b_sides .nil pass0 (q_pa_cons (q_pv 1) q_pa_nil star_Name)) (q_pg_tup (by rfl) (q_pgs_cons (q_pg_name (i := 2) sc_check_rows.nd rfl (by first | exact Or.inl rfl | exact Or.inr (Or.inl rfl) | exact Or.inr rfl)) (q_pgs_cons (q_pg_name (i := 3) sc_check_rows.nd rfl (by first | exact Or.inl rfl | exact Or.inr (Or.inl rfl) | exact Or.inr rfl)) (q_pgs_cons (q_pg_name (i := 4) sc_check_rows.nd rfl (by first | exact Or.inl rfl | exact Or.inr (Or.inl rfl) | exact Or.inr rfl)) (q_pgs_cons (q_pg_name (i := 5) sc_check_rows.nd rfl (by first | exact Or.inl rfl | exact Or.inr (Or.inl rfl) | exact Or.inr rfl)) q_pgs_nil))))))
      (q_pss_cons (q_ps_if (QW.pt (q_pw_or (q_pt_not (q_pt_val (q_pe_call G_is_within hr_is_within (by rfl) T.mg_is_within T.kp_is_within T.b_is_within .nil pass0 (q_pa_cons (q_pv 3) (q_pa_cons q_pe_int (q_pa_cons (q_pe_glob (v := c_MOST_MANY) (by rfl) T.mg_MOST_MANY ⟨_, rfl⟩) q_pa_nil star_Name) star_Constant) star_Name)))) (q_pw_or1 (q_pt_not (q_pt_val (q_pe_call G_is_within hr_is_within (by rfl) T.mg_is_within T.kp_is_within T.b_is_within .nil pass0 (q_pa_cons (q_pv 5) (q_pa_cons q_pe_int (q_pa_cons (q_pe_glob (v := c_MOST_MANY) (by rfl) T.mg_MOST_MANY ⟨_, rfl⟩) q_pa_nil star_Name) star_Constant) star_Name))))))) (q_pss_one (q_ps_raise O T.ex_NoRow.toExcCls (by rfl) T.mg_NoRow (q_pa_cons q_pe_str q_pa_nil star_Constant))) q_pss_nil)
      (q_pss_one (q_ps_if (q_pt_cmpR (op_eqD hr.units) (q_pv 2) (q_pv 4) (nomark _)) (q_pss_one (q_ps_raise O T.ex_NoRow.toExcCls (by rfl) T.mg_NoRow (q_pa_cons q_pe_str q_pa_nil star_Constant))) q_pss_nil)))))
      (q_pss_cons (q_ps_if (q_pt_not (q_pt_chain op_le op_le q_pe_int (q_pe_callB call_len_seq (by rfl) T.z_len PySem.boot_len (q_pa_cons (q_pv 0) q_pa_nil star_Name)) (q_pe_glob (v := c_MOST_ROWS) (by rfl) T.mg_MOST_ROWS ⟨_, rfl⟩))) (q_pss_one (q_ps_raise O T.ex_NoRow.toExcCls (by rfl) T.mg_NoRow (q_pa_cons q_pe_str q_pa_nil star_Constant))) q_pss_nil)
      (q_pss_one (q_ps_if (q_pt_cmpR op_gt (q_pe_callB call_len_seq (by rfl) T.z_len PySem.boot_len (q_pa_cons (q_pe_call G_goods_of hr_goods_of (by rfl) T.mg_goods_of T.kp_goods_of T.b_goods_of .nil pass0 (q_pa_cons (q_pv 0) q_pa_nil star_Name)) q_pa_nil star_Call)) (q_pe_glob (v := c_MOST_GOODS) (by rfl) T.mg_MOST_GOODS ⟨_, rfl⟩) (nomark _)) (q_pss_one (q_ps_raise O T.ex_NoRow.toExcCls (by rfl) T.mg_NoRow (q_pa_cons q_pe_str q_pa_nil star_Constant))) q_pss_nil))))), ?_⟩
    refine ⟨_, rfl, R, rfl, ⟨_, SqT.of hR⟩, ?_⟩
    refine for_tup (xs := rs.map V.ref) (fun i σ H' => ∃ (o1 o2 o3 o4 o5 : Option V), σ = [some (.ref R), o1, o2, o3, o4, o5] ∧ (∀ u ∈ rows.take i, NamesOk u) ∧ Same H H') ?_ ?_ ?_ ?_
    · exact ⟨_, _, _, _, _, rfl, by simp, Same.refl _⟩
    · rintro i σ H1 hi ⟨o1, o2, o3, o4, o5, rfl, a1, z1⟩
      exact SqT.of (z1 _ _ hR)
    · rintro i y σ H1 hy ⟨o1, o2, o3, o4, o5, rfl, a1, z1⟩
      obtain ⟨r, hr', rfl⟩ := ref_at hy
      obtain ⟨u, hu', e⟩ := ta.at_ i r hr'
      have mu := List.mem_of_getElem? hu'
      have tu := tx u mu
      refine ⟨_, rfl, r, u, rfl, z1 _ _ e, fun T4 p1 p2 H2 hT h2 h3 z2 => ?_⟩
      refine ⟨T4, _, rfl, SqT.of hT, rfl, _, _, rfl, _, _, rfl, _, _, rfl, _, _, rfl, rfl, ?_⟩
      refine ⟨_, rfl, _, rfl, p1, p2, _, _, rfl, rfl, SqT.of h2, SqT.of h3, (fun z => by cases z), (by show 2 + 2 ≤ sizeLine; decide), (fun z => by cases z), fun _ q1 hq1 => ?_⟩
      have s3 := same_new (o := .tup ([u.1, u.2.1, u.2.2.2.1, u.2.2.2.2.1].map V.str)) hq1
      refine ⟨q1, [u.1, u.2.1, u.2.2.2.1, u.2.2.2.2.1], rfl, upd_same, ?_, ?_⟩
      · intro x hx
        simp only [List.mem_cons, List.not_mem_nil, or_false] at hx
        rcases hx with rfl | rfl | rfl | rfl
        · exact tu.1.1
        · exact tu.2.1.1
        · exact tu.2.2.1.1
        · exact tu.2.2.2.1
      by_cases c : NamesOk u
      · refine .inl ⟨names_iff.mp c, fun H4 z4 => ⟨_, _, _, _, _, rfl, ?_, ((z1.trans z2).trans s3).trans z4⟩⟩
        intro x hx
        rw [List.take_succ, hu'] at hx
        rcases List.mem_append.mp hx with z | z
        · exact a1 x z
        · rw [show x = u by simpa using z]; exact c
      · refine .inr ⟨?_, fun H4 z4 => ?_⟩
        · refine Classical.byContradiction fun z => c (names_iff.mpr fun x hx => ?_)
          cases e : nameOk x with
          | true => rfl
          | false => exact absurd ⟨x, hx, e⟩ z
        · rcases h with ⟨g, _⟩ | ⟨C, wd, b, ex⟩
          · exact absurd (g.1 u mu) c
          · rcases b with ⟨_, rfl, _⟩ | ⟨z, _⟩
            · exact ex _ (((z1.trans z2).trans s3).trans z4)
            · exact absurd (z u mu) c
    rintro σ H1 ⟨o1, o2, o3, o4, o5, rfl, hn, z1⟩
    rw [List.length_map, ta.len, List.take_length] at hn
    have bad : ¬ Rest rows → ∀ H', Same H H' → E (.ref t.C_NoRow) none H' := by
      intro nr H' s'
      rcases h with ⟨g, _⟩ | ⟨C, wd, b, ex⟩
      · exact absurd g.2 nr
      · rcases b with ⟨⟨u, hu, z⟩, _⟩ | ⟨_, _, rfl, _⟩
        · exact absurd (hn u hu) z
        · exact ex _ s'
    refine ⟨_, rfl, R, rfl, ⟨_, SqT.of (z1 _ _ hR)⟩, ?_⟩
    refine for_tup (xs := rs.map V.ref) (fun i σ H' => ∃ (o1 o2 o3 o4 o5 : Option V), σ = [some (.ref R), o1, o2, o3, o4, o5] ∧ (∀ u ∈ rows.take i, RowGood u) ∧ Same H H') ?_ ?_ ?_ ?_
    · exact ⟨_, _, _, _, _, rfl, by simp, z1⟩
    · rintro i σ H2 hi ⟨o1, o2, o3, o4, o5, rfl, a2, z2⟩
      exact SqT.of (z2 _ _ hR)
    · rintro i y σ H2 hy ⟨o1, o2, o3, o4, o5, rfl, a2, z2⟩
      obtain ⟨r, hr', rfl⟩ := ref_at hy
      obtain ⟨u, hu', e⟩ := ta.at_ i r hr'
      have mu := List.mem_of_getElem? hu'
      have tu := tx u mu
      refine ⟨_, rfl, r, u, rfl, z2 _ _ e, fun T4 p1 p2 H3 hT h2 h3 z3 => ?_⟩
      refine ⟨T4, _, rfl, SqT.of hT, rfl, _, _, rfl, _, _, rfl, _, _, rfl, _, _, rfl, rfl, ?_⟩
      have z23 := z2.trans z3
      have nb : ∀ P : Prop, (RowGood u → False) → 1 ≤ sizeLine ∧ E (.ref t.C_NoRow) none H3 := fun _ c => ⟨by decide, bad (fun z => c (z.1 u mu)) _ z23⟩
      refine ⟨_, rfl, u.2.2.1, rfl, _, rfl, ?_⟩
      cases c1 : okN u.2.2.1 with
      | false => exact iteT (iteT (nb True fun z => by have := okN_iff.mpr z.1; rw [c1] at this; cases this))
      | true =>
        refine iteF ?_
        refine ⟨_, rfl, u.2.2.2.2.2, rfl, _, rfl, ?_⟩
        cases c2 : okN u.2.2.2.2.2 with
        | false => exact iteT (nb True fun z => by have := okN_iff.mpr z.2.1; rw [c2] at this; cases this)
        | true =>
          refine iteF ?_
          refine ⟨_, rfl, _, rfl, _, _, dp_pair h2, dp_pair h3, shaped_pair tu.1.2 tu.2.1.2, shaped_pair tu.2.2.1.2 tu.2.2.2.2, _, rfl, ?_⟩
          rw [eqv_gd (one u) (oth u)]
          refine ite2 (fun c3 => ?_) (fun c3 => ?_)
          · exact nb True fun z => z.2.2 (of_decide_eq_true c3)
          · refine ⟨_, _, _, _, _, rfl, ?_, z23⟩
            intro x hx
            rw [List.take_succ, hu'] at hx
            rcases List.mem_append.mp hx with z | z
            · exact a2 x z
            · rw [show x = u by simpa using z]
              exact ⟨okN_iff.mp c1, okN_iff.mp c2, fun e => c3 (decide_eq_true e)⟩
    rintro σ H2 ⟨o1, o2, o3, o4, o5, rfl, hg, z2⟩
    rw [List.length_map, ta.len, List.take_length] at hg
    have lr : (((rs.map V.ref).length : Nat) : Int) = (rows.length : Int) := by rw [List.length_map, ta.len]
    refine ⟨_, rfl, R, _, rfl, .inr (SqT.of (z2 _ _ hR)), _, _, rfl, rfl, _, rfl, ?_⟩
    refine ite2 (fun c => ?_) (fun c => ?_)
    case refine_2 =>
      have c : ¬ (1 : Int) ≤ ((rs.map V.ref).length : Nat) := fun z => c (decide_eq_true z)
      exact ⟨_, rfl, iteT ⟨(by show 1 ≤ sizeLine; decide), bad (fun z => by have := z.2.1; omega) _ z2⟩⟩
    have c : (1 : Int) ≤ ((rs.map V.ref).length : Nat) := of_decide_eq_true c
    refine ⟨_, _, rfl, rfl, _, rfl, ?_⟩
    by_cases c2 : ((rs.map V.ref).length : Int) ≤ 40
    case neg =>
      rw [decide_eq_false c2]
      exact iteT ⟨(by show 1 ≤ sizeLine; decide), bad (fun z => by have := z.2.2.1; omega) _ z2⟩
    rw [decide_eq_true c2]
    refine iteF ?_
    refine ⟨_, rfl, R, rs, rows, rfl, z2 _ _ hR, ta.mono (.same z2), l60, fun p qs H3 hp tg z3 => ?_⟩
    have lq : (((qs.map V.ref).length : Nat) : Int) = ((gOf rows).length : Int) := by rw [List.length_map, tg.len]
    refine ⟨p, _, rfl, .inr (SqT.of hp), _, _, rfl, rfl, _, rfl, ?_⟩
    refine ite2 (fun c3 => ?_) (fun c3 => ?_)
    · have c3 : (16 : Int) < ((qs.map V.ref).length : Nat) := of_decide_eq_true c3
      exact ⟨(by show 1 ≤ sizeLine; decide), bad (fun z => by have := z.2.2.2; omega) _ (z2.trans z3)⟩
    · have c3 : ¬ (16 : Int) < ((qs.map V.ref).length : Nat) := fun z => c3 (decide_eq_true z)
      have rest : Rest rows := ⟨hg, by omega, by omega, by omega⟩
      rcases h with ⟨_, q⟩ | ⟨C, wd, b, _⟩
      · exact q _ (z2.trans z3)
      · exfalso
        rcases b with ⟨⟨u, hu, z⟩, _⟩ | ⟨_, z, _⟩
        · exact z (hn u hu)
        · exact z rest
end
end Ck
set_option Elab.async false
set_option linter.all false
set_option pp.maxSteps 1500
set_option maxRecDepth 100000
set_option maxHeartbeats 4000000
namespace Ck
open PySem L2
section
variable {P : Program} {w : World} {K : PySem.W.Frag} {mg : Str → Option Value} {base : Heap} {t : Ad}
def RowAt (H : Hp) (q : Addr) (u : RW) : Prop := H q = some (.lst (rwV u)) ∨ H q = some (.tup (rwV u))
structure RA (H : Hp) (qs : List Addr) (rows : List RW) : Prop where
  len : qs.length = rows.length
  at_ : ∀ (i : Nat) (q : Addr), qs[i]? = some q → ∃ u, rows[i]? = some u ∧ RowAt H q u
theorem RowAt.same {H H' : Hp} {q : Addr} {u : RW} (h : RowAt H q u) (s : Same H H') : RowAt H' q u := h.elim (fun z => .inl (s _ _ z)) (fun z => .inr (s _ _ z))
theorem RA.same {H H' : Hp} {qs : List Addr} {rows : List RW} (h : RA H qs rows) (s : Same H H') : RA H' qs rows := ⟨h.len, fun i q e => let ⟨u, a, b⟩ := h.at_ i q e; ⟨u, a, b.same s⟩⟩
theorem RA.of {H : Hp} {qs : List Addr} {rows : List RW} (h : TA rwV H qs rows) : RA H qs rows := ⟨h.len, fun i q e => let ⟨u, a, b⟩ := h.at_ i q e; ⟨u, a, .inr b⟩⟩
def TableAt (C : Addr) (H : Hp) (x O : Addr) (os : List Addr) (rows : List RW) : Prop := ∃ dx, H x = some (.ins C dx [("rows", .ref O)]) ∧ H O = some (.tup (os.map V.ref)) ∧ TA rwV H os rows
theorem TableAt.same {C : Addr} {H H' : Hp} {x O : Addr} {os : List Addr} {rows : List RW} (h : TableAt C H x O os rows) (s : Same H H') : TableAt C H' x O os rows := let ⟨dx, a, b, c⟩ := h; ⟨dx, s _ _ a, s _ _ b, c.mono (.same s)⟩
theorem TableAt.keep {C : Addr} {H H' : Hp} {x O p : Addr} {os : List Addr} {rows : List RW} {xs : List V} (h : TableAt C H x O os rows) (k : Keep p H H') (hp : H p = some (.lst xs)) : TableAt C H' x O os rows := by
  obtain ⟨dx, a, b, c⟩ := h
  exact ⟨dx, k _ _ a (fun z => by rw [z, hp] at a; cases a), (k.tups hp) _ _ b, c.mono (k.tups hp)⟩
def spInitL (t : Ad) : Sp := fun vs H Q E => ∃ (x dx Hd : Addr) (qs : List Addr) (rows : List RW), vs = [.ref x, .ref Hd] ∧ H x = some (.ins t.C_Changers dx []) ∧ H Hd = some (.lst (qs.map V.ref)) ∧ RA H qs rows ∧ rows.length ≤ 60 ∧ (∀ u ∈ rows, RTx 1000 u) ∧
  ((GoodT rows ∧ ∀ O os H', TableAt t.C_Changers H' x O os rows → Keep x H H' → Q .non H') ∨ ∃ C wd, BadT t rows C wd ∧ ∀ H', Same H H' → E (.ref C) none H')
theorem ok_initL (T : Env K mg t) : FnOk P w K mg base (CX1 P w) 7 t.a_Changers_init t.fd_Changers_init ["self", "rows"] (spInitL t) := by
  have G_check_rows : FnOk P w K mg base (CX1 P w) 6 t.a_check_rows t.fd_check_rows ["rows"] (spCkRows t) := ok_ckrows T
  refine T.f_Changers_init.okX sc_Changers_init (fun vs H Q E h => ?_) (fun cdv A outer s H vs Q E hr h O => ?_)
  · obtain ⟨x, dx, Hd, qs, rows, rfl, _⟩ := h
    rfl
  · obtain ⟨x, dx, Hd, qs, rows, rfl, hx, hH, ra, l60, tx, h⟩ := h
    have hr_check_rows := hr
    refine ⟨_, (q_pss_cons (q_ps_set (i := 2) sc_Changers_init.nd rfl (by first | exact Or.inl rfl | exact Or.inr (Or.inl rfl) | exact Or.inr rfl) (q_pe_callTy call_tuple_of (by rfl) T.z_tuple (by decide +kernel) (q_pa_cons (q_pe_lc (own := [("row", 3)]) (g := gName 3) (by rfl) sc_Changers_init.nd (q_pi_list (q_pv 1)) (blkOk_by (own := [("row", 3)]) (N := ["self", "rows", "own_rows", "row"]) (sc := defScope s_Changers_init) (by decide +kernel)) (fun _ _ _ _ _ => (q_pg_name (i := 3) sc_Changers_init.nd rfl (by first | exact Or.inl rfl | exact Or.inr (Or.inl rfl) | exact Or.inr rfl))) (fun _ _ _ _ _ => q_pts_nil) (fun _ _ _ _ _ => (q_pe_callTy (call_tuple_ofK (K := K) rfl) (by rfl) T.z_tuple (by decide +kernel) (q_pa_cons (q_pv 3) q_pa_nil star_Name)))) q_pa_nil star_ListComp)))
      (q_pss_cons (q_ps_expr (q_pe_call G_check_rows hr_check_rows (by rfl) T.mg_check_rows T.kp_check_rows T.b_check_rows .nil (passX O (fun _ _ _ z => z)) (q_pa_cons (q_pv 2) q_pa_nil star_Name)))
      (q_pss_one (q_ps_fld (q_pv 0) (q_pv 2) rfl)))), ?_⟩
    refine ⟨_, rfl, Hd, rfl, ⟨_, SqL.of hH⟩, fun L hL => ?_⟩
    refine lc_list (xs := qs.map V.ref) (fun i H' => ∃ os : List Addr, H' L = some (.lst (os.map V.ref)) ∧ TA rwV H' os (rows.take i) ∧ Same H H') ?_ ?_ ?_ ?_
    · exact ⟨[], upd_same, .nil _ _, same_new hL⟩
    · rintro i H1 hi ⟨os, h1, u1, z1⟩
      exact SqL.of (z1 _ _ hH)
    · rintro i y H1 hy ⟨os, h1, u1, z1⟩
      obtain ⟨q, hq, rfl⟩ := ref_at hy
      obtain ⟨u, hu, e⟩ := ra.at_ i q hq
      have hi := (List.getElem?_eq_some_iff.mp hu).1
      have ol := u1.len
      rw [List.length_take] at ol
      have et : rows.take (i + 1) = rows.take i ++ [u] := by rw [List.take_succ, hu]; rfl
      refine ⟨rfl, yes_i ?_⟩
      refine ⟨_, rfl, q, rwV u, rfl, ?_⟩
      rcases e.same z1 with e | e
      · refine .inl ⟨SqL.of e, fun l hl => ?_⟩
        have s2 := same_new (o := .tup (rwV u)) hl
        have f2 := new_at (o := .tup (rwV u)) hl
        have h2 := s2 _ _ h1
        have t2 : Tups _ (upd (upd H1 l (.tup (rwV u))) L (.lst (os.map V.ref ++ [V.ref l]))) := Tups.upd h2
        refine ⟨_, h2, small1000 (by rw [List.length_map]; omega), os ++ [l], by rw [upd_same, List.map_append]; rfl, ?_, fun b o e => ?_⟩
        · rw [et]
          exact ((u1.mono (.same s2)).mono t2).snoc (t2 _ _ f2)
        · rw [upd_ne (ne_of_none e hL)]; exact s2 _ _ (z1 b o e)
      · refine .inr ⟨SqT.of e, ?_⟩
        have t2 : Tups H1 (upd H1 L (.lst (os.map V.ref ++ [V.ref q]))) := Tups.upd h1
        refine ⟨_, h1, small1000 (by rw [List.length_map]; omega), os ++ [q], by rw [upd_same, List.map_append]; rfl, ?_, fun b o e => ?_⟩
        · rw [et]
          exact (u1.mono t2).snoc (t2 _ _ e)
        · rw [upd_ne (ne_of_none e hL)]; exact z1 b o e
    rintro H1 ⟨os, h1, u1, z1⟩
    rw [List.length_map, ra.len, List.take_length] at u1
    refine ⟨L, _, rfl, .inl ⟨SqL.of h1, fun OO hO => ?_⟩⟩
    have s2 := same_new (o := .tup (os.map V.ref)) hO
    have f2 := new_at (o := .tup (os.map V.ref)) hO
    have z2 := z1.trans s2
    have u2 := u1.mono (.same s2)
    generalize (upd H1 OO (.tup (os.map V.ref))) = H2 at f2 z2 u2
    refine ⟨_, rfl, OO, os, rows, rfl, f2, u2, l60, tx, ?_⟩
    rcases h with ⟨g, q⟩ | ⟨C, wd, b, ex⟩
    · refine .inl ⟨g, fun H3 z3 => ?_⟩
      have hx3 := z3 _ _ (z2 _ _ hx)
      refine ⟨_, rfl, _, rfl, x, _, dx, _, rfl, hx3, T.cl_Changers, T.no_Changers_rows, (by show 0 < 1000; decide), ?_⟩
      have nx : ∀ b xs, H3 b = some (.tup xs) → (upd H3 x (.ins t.C_Changers dx [("rows", .ref OO)])) b = some (.tup xs) := fun b xs e => by
        rw [upd_ne (fun z => by rw [z, hx3] at e; cases e)]; exact e
      refine q OO os _ ⟨dx, upd_same, nx _ _ (z3 _ _ f2), (u2.mono (.same z3)).mono nx⟩ fun b o e nb => ?_
      rw [upd_ne nb]
      exact z3 _ _ (z2 b o e)
    · exact .inr ⟨C, wd, b, fun H3 z3 => ex _ (z2.trans z3)⟩
def spInitT (t : Ad) : Sp := fun vs H Q E => ∃ (x dx Hd : Addr) (qs : List Addr) (rows : List RW), vs = [.ref x, .ref Hd] ∧ H x = some (.ins t.C_Changers dx []) ∧ H Hd = some (.tup (qs.map V.ref)) ∧ RA H qs rows ∧ rows.length ≤ 60 ∧ (∀ u ∈ rows, RTx 1000 u) ∧
  ((GoodT rows ∧ ∀ O os H', TableAt t.C_Changers H' x O os rows → Keep x H H' → Q .non H') ∨ ∃ C wd, BadT t rows C wd ∧ ∀ H', Same H H' → E (.ref C) none H')
theorem ok_initT (T : Env K mg t) : FnOk P w K mg base (CX1 P w) 7 t.a_Changers_init t.fd_Changers_init ["self", "rows"] (spInitT t) := by
  have G_check_rows : FnOk P w K mg base (CX1 P w) 6 t.a_check_rows t.fd_check_rows ["rows"] (spCkRows t) := ok_ckrows T
  refine T.f_Changers_init.okX sc_Changers_init (fun vs H Q E h => ?_) (fun cdv A outer s H vs Q E hr h O => ?_)
  · obtain ⟨x, dx, Hd, qs, rows, rfl, _⟩ := h
    rfl
  · obtain ⟨x, dx, Hd, qs, rows, rfl, hx, hH, ra, l60, tx, h⟩ := h
    have hr_check_rows := hr
    refine ⟨_, (q_pss_cons (q_ps_set (i := 2) sc_Changers_init.nd rfl (by first | exact Or.inl rfl | exact Or.inr (Or.inl rfl) | exact Or.inr rfl) (q_pe_callTy call_tuple_of (by rfl) T.z_tuple (by decide +kernel) (q_pa_cons (q_pe_lc (own := [("row", 3)]) (g := gName 3) (by rfl) sc_Changers_init.nd (q_pi_tup (q_pv 1)) (blkOk_by (own := [("row", 3)]) (N := ["self", "rows", "own_rows", "row"]) (sc := defScope s_Changers_init) (by decide +kernel)) (fun _ _ _ _ _ => (q_pg_name (i := 3) sc_Changers_init.nd rfl (by first | exact Or.inl rfl | exact Or.inr (Or.inl rfl) | exact Or.inr rfl))) (fun _ _ _ _ _ => q_pts_nil) (fun _ _ _ _ _ => (q_pe_callTy (call_tuple_ofK (K := K) rfl) (by rfl) T.z_tuple (by decide +kernel) (q_pa_cons (q_pv 3) q_pa_nil star_Name)))) q_pa_nil star_ListComp)))
      (q_pss_cons (q_ps_expr (q_pe_call G_check_rows hr_check_rows (by rfl) T.mg_check_rows T.kp_check_rows T.b_check_rows .nil (passX O (fun _ _ _ z => z)) (q_pa_cons (q_pv 2) q_pa_nil star_Name)))
      (q_pss_one (q_ps_fld (q_pv 0) (q_pv 2) rfl)))), ?_⟩
    refine ⟨_, rfl, Hd, rfl, ⟨_, SqT.of hH⟩, fun L hL => ?_⟩
    refine lc_tup (xs := qs.map V.ref) (fun i H' => ∃ os : List Addr, H' L = some (.lst (os.map V.ref)) ∧ TA rwV H' os (rows.take i) ∧ Same H H') ?_ ?_ ?_ ?_
    · exact ⟨[], upd_same, .nil _ _, same_new hL⟩
    · rintro i H1 hi ⟨os, h1, u1, z1⟩
      exact SqT.of (z1 _ _ hH)
    · rintro i y H1 hy ⟨os, h1, u1, z1⟩
      obtain ⟨q, hq, rfl⟩ := ref_at hy
      obtain ⟨u, hu, e⟩ := ra.at_ i q hq
      have hi := (List.getElem?_eq_some_iff.mp hu).1
      have ol := u1.len
      rw [List.length_take] at ol
      have et : rows.take (i + 1) = rows.take i ++ [u] := by rw [List.take_succ, hu]; rfl
      refine ⟨rfl, yes_i ?_⟩
      refine ⟨_, rfl, q, rwV u, rfl, ?_⟩
      rcases e.same z1 with e | e
      · refine .inl ⟨SqL.of e, fun l hl => ?_⟩
        have s2 := same_new (o := .tup (rwV u)) hl
        have f2 := new_at (o := .tup (rwV u)) hl
        have h2 := s2 _ _ h1
        have t2 : Tups _ (upd (upd H1 l (.tup (rwV u))) L (.lst (os.map V.ref ++ [V.ref l]))) := Tups.upd h2
        refine ⟨_, h2, small1000 (by rw [List.length_map]; omega), os ++ [l], by rw [upd_same, List.map_append]; rfl, ?_, fun b o e => ?_⟩
        · rw [et]
          exact ((u1.mono (.same s2)).mono t2).snoc (t2 _ _ f2)
        · rw [upd_ne (ne_of_none e hL)]; exact s2 _ _ (z1 b o e)
      · refine .inr ⟨SqT.of e, ?_⟩
        have t2 : Tups H1 (upd H1 L (.lst (os.map V.ref ++ [V.ref q]))) := Tups.upd h1
        refine ⟨_, h1, small1000 (by rw [List.length_map]; omega), os ++ [q], by rw [upd_same, List.map_append]; rfl, ?_, fun b o e => ?_⟩
        · rw [et]
          exact (u1.mono t2).snoc (t2 _ _ e)
        · rw [upd_ne (ne_of_none e hL)]; exact z1 b o e
    rintro H1 ⟨os, h1, u1, z1⟩
    rw [List.length_map, ra.len, List.take_length] at u1
    refine ⟨L, _, rfl, .inl ⟨SqL.of h1, fun OO hO => ?_⟩⟩
    have s2 := same_new (o := .tup (os.map V.ref)) hO
    have f2 := new_at (o := .tup (os.map V.ref)) hO
    have z2 := z1.trans s2
    have u2 := u1.mono (.same s2)
    generalize (upd H1 OO (.tup (os.map V.ref))) = H2 at f2 z2 u2
    refine ⟨_, rfl, OO, os, rows, rfl, f2, u2, l60, tx, ?_⟩
    rcases h with ⟨g, q⟩ | ⟨C, wd, b, ex⟩
    · refine .inl ⟨g, fun H3 z3 => ?_⟩
      have hx3 := z3 _ _ (z2 _ _ hx)
      refine ⟨_, rfl, _, rfl, x, _, dx, _, rfl, hx3, T.cl_Changers, T.no_Changers_rows, (by show 0 < 1000; decide), ?_⟩
      have nx : ∀ b xs, H3 b = some (.tup xs) → (upd H3 x (.ins t.C_Changers dx [("rows", .ref OO)])) b = some (.tup xs) := fun b xs e => by
        rw [upd_ne (fun z => by rw [z, hx3] at e; cases e)]; exact e
      refine q OO os _ ⟨dx, upd_same, nx _ _ (z3 _ _ f2), (u2.mono (.same z3)).mono nx⟩ fun b o e nb => ?_
      rw [upd_ne nb]
      exact z3 _ _ (z2 b o e)
    · exact .inr ⟨C, wd, b, fun H3 z3 => ex _ (z2.trans z3)⟩
def spTGoods (t : Ad) : Sp := fun vs H Q _ => ∃ (x O : Addr) (os : List Addr) (rows : List RW), vs = [.ref x] ∧ TableAt t.C_Changers H x O os rows ∧ rows.length ≤ 60 ∧ ∀ p qs H', H' p = some (.tup (qs.map V.ref)) → TA gdV H' qs (gOf rows) → Same H H' → Q (.ref p) H'
theorem ok_tgoods (T : Env K mg t) : FnOk P w K mg base CX0 3 t.a_Changers_goods t.fd_Changers_goods ["self"] (spTGoods t) := by
  have G_goods_of : FnOk P w K mg base CX0 2 t.a_goods_of t.fd_goods_of ["rows"] spGoods := ok_goods T
  refine T.f_Changers_goods.okQ sc_Changers_goods (fun vs H Q E h => ?_) (fun cdv A outer s H vs Q E hr h => ?_)
  · obtain ⟨x, O, os, rows, rfl, _⟩ := h
    rfl
  · obtain ⟨x, O, os, rows, rfl, ⟨dx, hx, hO, ta⟩, l60, q⟩ := h
    have hr_goods_of := hr
    refine ⟨_, (q_pss_one (q_ps_ret (q_pe_call G_goods_of hr_goods_of (by rfl) T.mg_goods_of T.kp_goods_of T.b_goods_of .nil pass0 (q_pa_cons (q_pe_fld (q_pv 0) rfl) q_pa_nil star_Attribute)))), ?_⟩
    exact ⟨_, rfl, x, _, dx, _, _, rfl, hx, T.cl_Changers, T.no_Changers_rows, rfl, O, os, rows, rfl, hO, ta, l60, q⟩
end
end Ck
set_option Elab.async false
set_option linter.all false
set_option pp.maxSteps 1500
set_option maxRecDepth 100000
set_option maxHeartbeats 4000000
namespace Ck
open PySem L2
theorem TA.erase {α : Type} {f : α → List V} {H : Hp} {rs : List Addr} {xs : List α} (h : TA f H rs xs) (j : Nat) : TA f H (rs.eraseIdx j) (xs.eraseIdx j) := by
  refine ⟨?_, fun i r e => ?_⟩
  · rw [List.length_eraseIdx, List.length_eraseIdx, h.len]
  · rw [List.getElem?_eraseIdx] at e ⊢
    split at e
    · next c => rw [if_pos c]; exact h.at_ i r e
    · next c => rw [if_neg c]; exact h.at_ (i + 1) r e
theorem TA.app {α : Type} {f : α → List V} {H : Hp} {rs qs : List Addr} {xs ys : List α} (h : TA f H rs xs) (h' : TA f H qs ys) : TA f H (rs ++ qs) (xs ++ ys) := by
  refine ⟨by rw [List.length_append, List.length_append, h.len, h'.len], fun i r e => ?_⟩
  rw [List.getElem?_append] at e ⊢
  rw [h.len] at e
  split at e
  · next c => rw [if_pos c]; exact h.at_ i r e
  · next c => rw [if_neg c]; exact h'.at_ _ r e
theorem erase_perm {α : Type} : ∀ (l : List α) (i : Nat) (h : i < l.length), (l[i]'h :: l.eraseIdx i).Perm l
  | [], _, h => absurd h (Nat.not_lt_zero _)
  | a :: r, 0, _ => List.Perm.refl _
  | a :: r, i + 1, h => by
    rw [List.eraseIdx_cons_succ]
    exact (List.Perm.swap _ _ _).trans ((erase_perm r i (Nat.lt_of_succ_lt_succ h)).cons a)
def prs (a : Str) (ws : List Str) : List Gd := ws.map fun b => (a, b)
def allP (ls ws : List Str) : List Gd := ls.flatMap fun a => prs a ws
theorem allP_nodup {ws : List Str} (hw : ws.Nodup) : ∀ {ls : List Str}, ls.Nodup → (allP ls ws).Nodup
  | [], _ => List.nodup_nil
  | a :: r, h => by
    rw [List.nodup_cons] at h
    unfold allP
    rw [List.flatMap_cons, List.nodup_append]
    refine ⟨?_, allP_nodup hw h.2, ?_⟩
    · unfold prs
      exact List.Pairwise.map _ (fun x y n e => n (by injection e)) hw
    · rintro x hx y hy rfl
      obtain ⟨b, _, rfl⟩ := List.mem_map.mp hx
      obtain ⟨c, hc, hy⟩ := List.mem_flatMap.mp hy
      obtain ⟨b', _, e⟩ := List.mem_map.mp hy
      have : c = a := congrArg Prod.fst e
      rw [this] at hc
      exact h.1 hc
theorem allP_mem {ls ws : List Str} {g : Gd} (h : g ∈ allP ls ws) : g.1 ∈ ls ∧ g.2 ∈ ws := by
  obtain ⟨a, ha, h⟩ := List.mem_flatMap.mp h
  obtain ⟨b, hb, rfl⟩ := List.mem_map.mp h
  exact ⟨ha, hb⟩
theorem allP_len (ws : List Str) : ∀ ls : List Str, (allP ls ws).length = ls.length * ws.length
  | [] => by simp [allP]
  | a :: r => by
    have := allP_len ws r
    unfold allP at this ⊢
    rw [List.flatMap_cons, List.length_append, this, List.length_cons, Nat.add_mul]
    unfold prs
    rw [List.length_map]
    omega
section
variable {P : Program} {w : World} {K : PySem.W.Frag} {mg : Str → Option Value} {base : Heap} {t : Ad}
def GdOk (g : Gd) : Prop := nameOk g.1 = true ∧ nameOk g.2 = true
def spLGoods (K : PySem.W.Frag) : Sp := fun vs H Q _ => ∃ (d a : Addr) (ns : List Int) (m : Int), vs = [.ref d, .int m] ∧ DrawAt K H d a ns ∧ 0 ≤ m ∧ m ≤ 20 ∧
  ∀ (L : Addr) (gs : List Addr) (goods : List Gd) (H' : Hp), H' L = some (.lst (gs.map V.ref)) → TA gdV H' gs goods → goods.length = m.toNat → goods.Nodup → (∀ g ∈ goods, GdOk g) → L ≠ d → DrawAt K H' d a ns → Keep d H H' → Q (.ref L) H'
theorem ok_lgoods (T : Env K mg t) : FnOk P w K mg base CX0 5 t.a_l_goods t.fd_l_goods ["_law_draw", "_law_many"] (spLGoods K) := by
  have G_l_next : FnOk P w K mg base CX0 2 t.a_l_next t.fd_l_next ["_law_draw", "_law_size"] (spNext K) := ok_next T
  have G_l_words : FnOk P w K mg base CX0 4 t.a_l_words t.fd_l_words ["_law_draw", "_law_many"] (spWords K) := ok_words T
  refine T.f_l_goods.okQ sc_l_goods (fun vs H Q E h => ?_) (fun cdv A outer s H vs Q E hr h => ?_)
  · obtain ⟨d, a, ns, m, rfl, _⟩ := h
    rfl
  · obtain ⟨d, a, ns, m, rfl, D, m0, m1, q⟩ := h
    have hr_l_next : Room 2 _ := hr.mono (by decide)
    have hr_l_words : Room 4 _ := hr.mono (by decide)
    refine ⟨_, (q_pss_cons (q_ps_set (i := 2) sc_l_goods.nd rfl (by first | exact Or.inl rfl | exact Or.inr (Or.inl rfl) | exact Or.inr rfl) (q_pe_call G_l_words hr_l_words (by rfl) T.mg_l_words T.kp_l_words T.b_l_words .nil pass0 (q_pa_cons (q_pv 0) (q_pa_cons q_pe_int q_pa_nil star_Constant) star_Name)))
      (q_pss_cons (q_ps_set (i := 3) sc_l_goods.nd rfl (by first | exact Or.inl rfl | exact Or.inr (Or.inl rfl) | exact Or.inr rfl) (q_pe_lst q_pa_nil))
      (q_pss_cons (q_ps_for PassesOwn.never rfl (q_pi_list (q_pv 2)) (q_pg_name (i := 4) sc_l_goods.nd rfl (by first | exact Or.inl rfl | exact Or.inr (Or.inl rfl) | exact Or.inr rfl))
      (q_pss_one (q_ps_set (i := 3) sc_l_goods.nd rfl (by first | exact Or.inl rfl | exact Or.inr (Or.inl rfl) | exact Or.inr rfl) (q_pe_op op_cat (q_pv 3) (q_pe_lc (own := [("_law_other", 6)]) (g := gName 6) (by rfl) sc_l_goods.nd (q_pi_list (q_pv 2)) (blkOk_by (own := [("_law_other", 6)]) (N := ["_law_draw", "_law_many", "_law_words_here", "_law_left", "_law_word_here", "_law_k", "_law_other"]) (sc := defScope s_l_goods) (by decide +kernel)) (fun _ _ _ _ _ => (q_pg_name (i := 6) sc_l_goods.nd rfl (by first | exact Or.inl rfl | exact Or.inr (Or.inl rfl) | exact Or.inr rfl))) (fun _ _ _ _ _ => q_pts_nil) (fun _ _ _ _ _ => (q_pe_tup (q_pa_cons (q_pv 4) (q_pa_cons (q_pv 6) q_pa_nil star_Name) star_Name))))))))
      (q_pss_one (q_ps_ret (q_pe_lc (own := [("_law_k", 5)]) (g := gName 5) (by rfl) sc_l_goods.nd (q_pi_range1 (by rfl) T.z_range (q_pa_cons (q_pv 1) q_pa_nil star_Name)) (blkOk_by (own := [("_law_k", 5)]) (N := ["_law_draw", "_law_many", "_law_words_here", "_law_left", "_law_word_here", "_law_k", "_law_other"]) (sc := defScope s_l_goods) (by decide +kernel)) (fun _ _ _ _ _ => (q_pg_name (i := 5) sc_l_goods.nd rfl (by first | exact Or.inl rfl | exact Or.inr (Or.inl rfl) | exact Or.inr rfl))) (fun _ _ _ _ _ => q_pts_nil) (fun _ _ _ _ _ => (q_pe_bmK (K := K) rfl PySem.F.plainAttrs_list PySem.F.slot_list_pop PySem.F.type_list_pop mt_popAt (q_pv 3) (q_pa_cons (q_pe_call G_l_next hr_l_next (by rfl) T.mg_l_next T.kp_l_next T.b_l_next .nil pass0 (q_pa_cons (q_pv 0) (q_pa_cons (q_pe_callB (call_len_seqK (K := K) rfl) (by rfl) T.z_len PySem.boot_len (q_pa_cons (q_pv 3) q_pa_nil star_Name)) q_pa_nil star_Call) star_Name)) q_pa_nil star_Call))))))))), ?_⟩
    refine ⟨_, rfl, d, a, ns, 5, rfl, D, by decide, by decide, fun Ln ws H1 lw nw aw hw nLw D1 k1 => ?_⟩
    have lw : ws.length = 5 := lw
    have nLn : Ln ≠ d := D.ne nLw
    refine ⟨by decide, fun L0 hL0 => ?_⟩
    have s2 := same_new (o := .lst []) hL0
    refine ⟨_, rfl, Ln, rfl, ⟨_, SqL.of (s2 _ _ hw)⟩, ?_⟩
    refine for_list (xs := ws.map V.str) (fun i σ H' => ∃ (o4 o5 o6 : Option V) (Ll : Addr) (ls : List Addr), σ = [some (.ref d), some (.int m), some (.ref Ln), some (.ref Ll), o4, o5, o6] ∧ H' Ll = some (.lst (ls.map V.ref)) ∧ TA gdV H' ls (allP (ws.take i) ws) ∧ Same H1 H' ∧ H1 Ll = none) ?_ ?_ ?_ ?_
    · exact ⟨_, _, _, L0, [], rfl, upd_same, .nil _ _, s2, hL0⟩
    · rintro i σ H2 hi ⟨o4, o5, o6, Ll, ls, rfl, h2, u2, z2, nl⟩
      exact SqL.of (z2 _ _ hw)
    · rintro i y σ H2 hy ⟨o4, o5, o6, Ll, ls, rfl, h2, u2, z2, nl⟩
      obtain ⟨x, hx, rfl⟩ := str_at hy
      have hi := (List.getElem?_eq_some_iff.mp hx).1
      refine ⟨_, rfl, _, rfl, Ln, rfl, ⟨_, SqL.of (z2 _ _ hw)⟩, fun Lc hLc => ?_⟩
      refine lc_list (xs := ws.map V.str) (fun j H' => ∃ qs : List Addr, H' Lc = some (.lst (qs.map V.ref)) ∧ TA gdV H' qs (prs x (ws.take j)) ∧ Same H2 H') ?_ ?_ ?_ ?_
      · exact ⟨[], upd_same, .nil _ _, same_new hLc⟩
      · rintro j H3 hj ⟨qs, h3, u3, z3⟩
        exact SqL.of (z3 _ _ (z2 _ _ hw))
      · rintro j y H3 hy ⟨qs, h3, u3, z3⟩
        obtain ⟨b, hb, rfl⟩ := str_at hy
        have hj := (List.getElem?_eq_some_iff.mp hb).1
        have ql := u3.len
        unfold prs at ql
        rw [List.length_map, List.length_take] at ql
        refine ⟨rfl, yes_i ?_⟩
        refine ⟨_, rfl, _, rfl, (by show 2 ≤ sizeLine; decide), fun p hp => ?_⟩
        have s4 := same_new (o := .tup (gdV (x, b))) hp
        have f4 := new_at (o := .tup (gdV (x, b))) hp
        have h4 := s4 _ _ h3
        have t4 : Tups _ (upd (upd H3 p (.tup (gdV (x, b)))) Lc (.lst (qs.map V.ref ++ [V.ref p]))) := Tups.upd h4
        refine ⟨_, h4, small1000 (by rw [List.length_map]; omega), qs ++ [p], by rw [upd_same, List.map_append]; rfl, ?_, fun b' o e => ?_⟩
        · have et : prs x (ws.take (j + 1)) = prs x (ws.take j) ++ [(x, b)] := by
            unfold prs
            rw [List.take_succ, hb, List.map_append]; rfl
          rw [et]
          exact ((u3.mono (.same s4)).mono t4).snoc (t4 _ _ f4)
        · rw [upd_ne (ne_of_none e hLc)]; exact s4 _ _ (z3 b' o e)
      rintro H3 ⟨qs, h3, u3, z3⟩
      rw [List.length_map, List.take_length] at u3
      have l1 := u2.len
      have l2 := u3.len
      rw [allP_len, List.length_take, lw] at l1
      unfold prs at l2
      rw [List.length_map, lw] at l2
      have b1 : min i ws.length * 5 ≤ 5 * 5 := Nat.mul_le_mul (by omega) (Nat.le_refl _)
      refine ⟨Ll, Lc, _, _, rfl, rfl, z3 _ _ h2, h3, Nat.le_of_lt (small1000 (by rw [List.length_map, List.length_map]; omega)), fun L4 hL4 => ?_⟩
      have s4 := same_new (o := .lst ((ls ++ qs).map V.ref)) hL4
      rw [← List.map_append]
      have z4 := (z2.trans z3).trans s4
      refine ⟨_, _, _, L4, ls ++ qs, rfl, upd_same, ?_, z4, ?_⟩
      · have et : allP (ws.take (i + 1)) ws = allP (ws.take i) ws ++ prs x ws := by
          unfold allP
          rw [List.take_succ, hx, List.flatMap_append]
          simp
        rw [et]
        exact ((u2.mono (.same z3)).mono (.same s4)).app (u3.mono (.same s4))
      · cases e : H1 L4 with
        | none => rfl
        | some o => rw [(z2.trans z3) _ _ e] at hL4; cases hL4
    rintro σ H2 ⟨o4, o5, o6, Ll, ls, rfl, h2, u2, z2, nl⟩
    rw [List.length_map, List.take_length] at u2
    have D2 := D1.same z2
    have nLl : Ll ≠ d := D1.ne nl
    have k2 := k1.trans (.of z2)
    have hLl : H Ll = none := by
      cases e : H Ll with
      | none => rfl
      | some o => rw [k1 _ _ e nLl] at nl; cases nl
    have al : (allP ws ws).length = 25 := by rw [allP_len, lw]
    refine ⟨_, rfl, m, rfl, by omega, by omega, fun L hL => ?_⟩
    have nL : L ≠ d := D2.ne hL
    have nLL : Ll ≠ L := ne_of_none h2 hL
    have hLH : H L = none := by
      cases e : H L with
      | none => rfl
      | some o => rw [k2 _ _ e nL] at hL; cases hL
    refine lc_range (lo := 0) (n := m.toNat) (fun i H' => ∃ (left got : List Gd) (ls gs : List Addr), H' Ll = some (.lst (ls.map V.ref)) ∧ TA gdV H' ls left ∧ H' L = some (.lst (gs.map V.ref)) ∧ TA gdV H' gs got ∧ got.length = i ∧ (got ++ left).Perm (allP ws ws) ∧ DrawAt K H' d a ns ∧ Keep d H H') ?_ ?_ ?_
    · have s3 := same_new (o := .lst []) hL
      exact ⟨allP ws ws, [], ls, [], s3 _ _ h2, u2.mono (.same s3), upd_same, .nil _ _, rfl, List.Perm.refl _, D2.same s3, k2.trans (.of s3)⟩
    · rintro i H3 hi ⟨left, got, ls, gs, h1, u1, h3, u3, l3, pm, D3, k3⟩
      have pl := pm.length_eq
      rw [List.length_append, al] at pl
      have lsl := u1.len
      have lm : (ls.map V.ref).length = ls.length := List.length_map _
      have hi : i < m.toNat := hi
      refine ⟨rfl, yes_i ?_⟩
      refine ⟨_, rfl, .inl ⟨rfl, _, SqL.of h1⟩, _, rfl, _, rfl, Ll, _, rfl, .inl (SqL.of h1), d, a, ns, _, rfl, D3, by omega, fun j H4 j0 j1 D4 k4 => ?_⟩
      have h1 := k4 _ _ h1 nLl
      have h3 := k4 _ _ h3 nL
      have t4 := D3.tups k4
      have hj : j.toNat < ls.length := by omega
      have hjl : j.toNat < left.length := by omega
      refine ⟨Ll, _, j, j.toNat, .ref (ls[j.toNat]'hj), rfl, rfl, h1, by omega, by omega, idx_in j0 (by omega), by rw [List.getElem?_map, List.getElem?_eq_getElem hj]; rfl, ?_⟩
      rw [erase_map]
      obtain ⟨g, hg, eg⟩ := (u1.mono t4).at_ j.toNat _ (List.getElem?_eq_getElem hj)
      have hg' : left[j.toNat]'hjl = g := by
        rw [List.getElem?_eq_getElem hjl] at hg
        exact Option.some.inj hg
      have t5 : Tups H4 (upd H4 Ll (.lst ((ls.eraseIdx j.toNat).map V.ref))) := Tups.upd h1
      have h5 : (upd H4 Ll (.lst ((ls.eraseIdx j.toNat).map V.ref))) L = some (.lst (gs.map V.ref)) := by rw [upd_ne nLL.symm]; exact h3
      have h6 : (upd H4 Ll (.lst ((ls.eraseIdx j.toNat).map V.ref))) Ll = some (.lst ((ls.eraseIdx j.toNat).map V.ref)) := upd_same
      have D5 : DrawAt K (upd H4 Ll (.lst ((ls.eraseIdx j.toNat).map V.ref))) d a ns := D4.upd nLl (nofrz h1)
      have k5 : Keep d H (upd H4 Ll (.lst ((ls.eraseIdx j.toNat).map V.ref))) := (k3.trans k4).updNew hLl
      generalize (upd H4 Ll (.lst ((ls.eraseIdx j.toNat).map V.ref))) = H5 at t5 h5 h6 D5 k5
      have t6 : Tups H5 (upd H5 L (.lst (gs.map V.ref ++ [V.ref (ls[j.toNat]'hj)]))) := Tups.upd h5
      refine ⟨_, h5, small1000 (by rw [List.length_map, u3.len]; omega), left.eraseIdx j.toNat, got ++ [g], ls.eraseIdx j.toNat, gs ++ [ls[j.toNat]'hj], ?_, ?_, ?_, ?_, ?_, ?_, D5.upd nL (nofrz h5), k5.updNew hLH⟩
      · rw [upd_ne nLL]; exact h6
      · exact ((((u1.mono t4).mono t5).mono t6).erase _)
      · rw [upd_same, List.map_append]; rfl
      · exact (((u3.mono t4).mono t5).mono t6).snoc (t6 _ _ (t5 _ _ eg))
      · rw [List.length_append, l3]; rfl
      · rw [List.append_assoc]
        refine List.Perm.trans (List.Perm.append_left got ?_) pm
        rw [← hg']
        exact erase_perm left j.toNat hjl
    rintro H3 ⟨left, got, ls, gs, _, _, h3, u3, l3, pm, D3, k3⟩
    have nd : (got ++ left).Nodup := pm.symm.nodup (allP_nodup nw nw)
    refine q L gs got H3 h3 u3 l3 (List.nodup_append.mp nd).1 (fun g hg => ?_) nL D3 k3
    have := allP_mem (pm.mem_iff.mp (List.mem_append_left left hg))
    exact ⟨aw _ this.1, aw _ this.2⟩
def spLNum (K : PySem.W.Frag) : Sp := fun vs H Q _ => ∃ (d a : Addr) (ns : List Int), vs = [.ref d] ∧ DrawAt K H d a ns ∧ ∀ (r : Int) (H' : Hp), 1 ≤ r → r ≤ 1000000 → DrawAt K H' d a ns → Keep d H H' → Q (.int r) H'
theorem ok_lnum (T : Env K mg t) : FnOk P w K mg base CX0 3 t.a_l_number t.fd_l_number ["_law_draw"] (spLNum K) := by
  have G_l_next : FnOk P w K mg base CX0 2 t.a_l_next t.fd_l_next ["_law_draw", "_law_size"] (spNext K) := ok_next T
  refine T.f_l_number.okQ sc_l_number (fun vs H Q E h => ?_) (fun cdv A outer s H vs Q E hr h => ?_)
  · obtain ⟨d, a, ns, rfl, _⟩ := h
    rfl
  · obtain ⟨d, a, ns, rfl, D, q⟩ := h
    have hr_l_next := hr
    refine ⟨_, (q_pss_cons (q_ps_set (i := 1) sc_l_number.nd rfl (by first | exact Or.inl rfl | exact Or.inr (Or.inl rfl) | exact Or.inr rfl) (q_pe_call G_l_next hr_l_next (by rfl) T.mg_l_next T.kp_l_next T.b_l_next .nil pass0 (q_pa_cons (q_pv 0) (q_pa_cons q_pe_int q_pa_nil star_Constant) star_Name)))
      (q_pss_cons (q_ps_if (q_pt_cmpR op_eq (q_pv 1) q_pe_int (nomark _)) (q_pss_one (q_ps_ret (q_pe_ix ix_list (q_pe_lst (q_pa_cons q_pe_int (q_pa_cons q_pe_int (q_pa_cons q_pe_int (q_pa_cons q_pe_int q_pa_nil star_Constant) star_Constant) star_Constant) star_Constant)) (q_pe_call G_l_next hr_l_next (by rfl) T.mg_l_next T.kp_l_next T.b_l_next .nil pass0 (q_pa_cons (q_pv 0) (q_pa_cons q_pe_int q_pa_nil star_Constant) star_Name)) (fun _ _ => rfl)))) q_pss_nil)
      (q_pss_cons (q_ps_if (q_pt_cmpR op_lt (q_pv 1) q_pe_int (nomark _)) (q_pss_one (q_ps_ret (q_pe_op op_add q_pe_int (q_pe_call G_l_next hr_l_next (by rfl) T.mg_l_next T.kp_l_next T.b_l_next .nil pass0 (q_pa_cons (q_pv 0) (q_pa_cons q_pe_int q_pa_nil star_Constant) star_Name))))) q_pss_nil)
      (q_pss_one (q_ps_ret (q_pe_op op_add q_pe_int (q_pe_call G_l_next hr_l_next (by rfl) T.mg_l_next T.kp_l_next T.b_l_next .nil pass0 (q_pa_cons (q_pv 0) (q_pa_cons q_pe_int q_pa_nil star_Constant) star_Name)))))))), ?_⟩
    refine ⟨_, rfl, d, a, ns, _, rfl, D, by decide, fun wy H1 _ _ D1 k1 => ?_⟩
    refine ⟨_, rfl, rfl, _, rfl, ?_⟩
    refine ite2 (fun _ => ?_) (fun _ => ?_)
    · refine ⟨(by show 4 ≤ sizeLine; decide), fun p hp => ?_⟩
      have s2 := same_new (o := .lst (([1, 1000000, 999999, 2] : List Int).map V.int)) hp
      refine ⟨_, rfl, d, a, ns, _, rfl, D1.same s2, by decide, fun r H3 r0 r1 D3 k3 => ?_⟩
      obtain ⟨v, hv, hm⟩ := at_bound (xs := ([1, 1000000, 999999, 2] : List Int).map V.int) r0 r1
      obtain ⟨z, hz, rfl⟩ := List.mem_map.mp hm
      refine ⟨p, _, r, _, rfl, rfl, SqL.of (k3 _ _ upd_same (D1.ne hp)), hv, ?_⟩
      simp only [List.mem_cons, List.not_mem_nil, or_false] at hz
      exact q z H3 (by omega) (by omega) D3 ((k1.trans (.of s2)).trans k3)
    refine ⟨_, rfl, _, _, rfl, rfl, _, rfl, ?_⟩
    refine ite2 (fun _ => ?_) (fun _ => ?_)
    · refine ⟨_, rfl, d, a, ns, _, rfl, D1, by decide, fun r H3 r0 r1 D3 k3 => ⟨_, _, rfl, rfl, ?_⟩⟩
      exact q _ H3 (by omega) (by omega) D3 (k1.trans k3)
    · refine ⟨_, rfl, d, a, ns, _, rfl, D1, by decide, fun r H3 r0 r1 D3 k3 => ⟨_, _, rfl, rfl, ?_⟩⟩
      exact q _ H3 (by omega) (by omega) D3 (k1.trans k3)
def RowIn (goods : List Gd) (u : RW) : Prop := NamesOk u ∧ RowGood u ∧ one u ∈ goods ∧ oth u ∈ goods
def spLRows (K : PySem.W.Frag) : Sp := fun vs H Q _ => ∃ (d a Lg : Addr) (ns : List Int) (gs : List Addr) (goods : List Gd) (m : Int), vs = [.ref d, .ref Lg, .int m] ∧ DrawAt K H d a ns ∧ H Lg = some (.lst (gs.map V.ref)) ∧ TA gdV H gs goods ∧ Lg ≠ d ∧ 2 ≤ goods.length ∧ goods.length ≤ 20 ∧ goods.Nodup ∧ (∀ g ∈ goods, GdOk g) ∧ 0 ≤ m ∧ m ≤ 40 ∧
  ∀ (L : Addr) (rs : List Addr) (rows : List RW) (H' : Hp), H' L = some (.lst (rs.map V.ref)) → TA rwV H' rs rows → rows.length = m.toNat → (∀ u ∈ rows, RowIn goods u) → L ≠ d → DrawAt K H' d a ns → Keep d H H' → Q (.ref L) H'
theorem mod_ne {at' r n : Int} (a0 : 0 ≤ at') (a1 : at' < n) (r0 : 0 ≤ r) (r1 : r < n - 1) : (at' + 1 + r) % n ≠ at' := by
  by_cases c : at' + 1 + r < n
  · rw [Int.emod_eq_of_lt (by omega) c]; omega
  · have e : (at' + 1 + r) % n = (at' + 1 + r - n) % n := (Int.sub_emod_right _ _).symm
    rw [e, Int.emod_eq_of_lt (by omega) (by omega)]; omega
theorem ok_lrows (T : Env K mg t) : FnOk P w K mg base CX0 4 t.a_l_rows t.fd_l_rows ["_law_draw", "_law_goods_here", "_law_many"] (spLRows K) := by
  have G_l_next : FnOk P w K mg base CX0 2 t.a_l_next t.fd_l_next ["_law_draw", "_law_size"] (spNext K) := ok_next T
  have G_l_number : FnOk P w K mg base CX0 3 t.a_l_number t.fd_l_number ["_law_draw"] (spLNum K) := ok_lnum T
  refine T.f_l_rows.okQ sc_l_rows (fun vs H Q E h => ?_) (fun cdv A outer s H vs Q E hr h => ?_)
  · obtain ⟨d, a, Lg, ns, gs, goods, m, rfl, _⟩ := h
    rfl
  · obtain ⟨d, a, Lg, ns, gs, goods, m, rfl, D, hg, tg, nG, g2, g20, nd, gok, m0, m1, q⟩ := h
    have hr_l_next : Room 2 _ := hr.mono (by decide)
    have hr_l_number : Room 3 _ := hr.mono (by decide)
    refine ⟨_, (q_pss_cons (q_ps_set (i := 3) sc_l_rows.nd rfl (by first | exact Or.inl rfl | exact Or.inr (Or.inl rfl) | exact Or.inr rfl) (q_pe_lst q_pa_nil))
      (q_pss_cons (q_ps_for PassesOwn.never rfl (q_pi_range1 (by rfl) T.z_range (q_pa_cons (q_pv 2) q_pa_nil star_Name)) (q_pg_name (i := 4) sc_l_rows.nd rfl (by first | exact Or.inl rfl | exact Or.inr (Or.inl rfl) | exact Or.inr rfl))
      (q_pss_cons (q_ps_set (i := 5) sc_l_rows.nd rfl (by first | exact Or.inl rfl | exact Or.inr (Or.inl rfl) | exact Or.inr rfl) (q_pe_call G_l_next hr_l_next (by rfl) T.mg_l_next T.kp_l_next T.b_l_next .nil pass0 (q_pa_cons (q_pv 0) (q_pa_cons (q_pe_callB call_len_seq (by rfl) T.z_len PySem.boot_len (q_pa_cons (q_pv 1) q_pa_nil star_Name)) q_pa_nil star_Call) star_Name)))
      (q_pss_cons (q_ps_set (i := 6) sc_l_rows.nd rfl (by first | exact Or.inl rfl | exact Or.inr (Or.inl rfl) | exact Or.inr rfl) (q_pe_op op_mod (q_pe_op op_add (q_pe_op op_add (q_pv 5) q_pe_int) (q_pe_call G_l_next hr_l_next (by rfl) T.mg_l_next T.kp_l_next T.b_l_next .nil pass0 (q_pa_cons (q_pv 0) (q_pa_cons (q_pe_op op_sub (q_pe_callB call_len_seq (by rfl) T.z_len PySem.boot_len (q_pa_cons (q_pv 1) q_pa_nil star_Name)) q_pe_int) q_pa_nil star_BinOp) star_Name))) (q_pe_callB call_len_seq (by rfl) T.z_len PySem.boot_len (q_pa_cons (q_pv 1) q_pa_nil star_Name))))
      (q_pss_one (q_ps_expr (q_pe_bm PySem.F.plainAttrs_list PySem.F.slot_list_append PySem.F.type_list_append mt_append (q_pv 3) (q_pa_cons (q_pe_op op_catT (q_pe_op op_catT (q_pe_op op_catT (q_pe_ix ix_list (q_pv 1) (q_pv 5) (fun _ _ => rfl)) (q_pe_tup (q_pa_cons (q_pe_call G_l_number hr_l_number (by rfl) T.mg_l_number T.kp_l_number T.b_l_number .nil pass0 (q_pa_cons (q_pv 0) q_pa_nil star_Name)) q_pa_nil star_Call))) (q_pe_ix ix_list (q_pv 1) (q_pv 6) (fun _ _ => rfl))) (q_pe_tup (q_pa_cons (q_pe_call G_l_number hr_l_number (by rfl) T.mg_l_number T.kp_l_number T.b_l_number .nil pass0 (q_pa_cons (q_pv 0) q_pa_nil star_Name)) q_pa_nil star_Call))) q_pa_nil star_BinOp)))))))
      (q_pss_one (q_ps_ret (q_pv 3))))), ?_⟩
    refine ⟨by decide, fun L hL => ?_⟩
    have s1 := same_new (o := .lst []) hL
    have nL := D.ne hL
    have gl := tg.len
    have gm : (gs.map V.ref).length = gs.length := List.length_map _
    refine ⟨_, rfl, m, rfl, by omega, by omega, ?_⟩
    refine for_range (lo := 0) (n := m.toNat) (fun i σ H' => ∃ (o4 o5 o6 : Option V) (rs : List Addr) (rows : List RW), σ = [some (.ref d), some (.ref Lg), some (.int m), some (.ref L), o4, o5, o6] ∧ H' L = some (.lst (rs.map V.ref)) ∧ TA rwV H' rs rows ∧ rows.length = i ∧ (∀ u ∈ rows, RowIn goods u) ∧ DrawAt K H' d a ns ∧ Keep d H H') ?_ ?_ ?_
    · exact ⟨_, _, _, [], [], rfl, upd_same, .nil _ _, rfl, by simp, D.same s1, .of s1⟩
    · rintro i σ H1 hi ⟨o4, o5, o6, rs, rows, rfl, h1, u1, l1, g1, D1, k1⟩
      have hi : i < m.toNat := hi
      have hg1 := k1 _ _ hg nG
      have tg1 := tg.mono (D.tups k1)
      refine ⟨_, rfl, _, rfl, Lg, _, rfl, .inl (SqL.of hg1), d, a, ns, _, rfl, D1, by omega, fun at' H2 a0 a1 D2 k2 => ?_⟩
      have hg2 := k2 _ _ hg1 nG
      refine ⟨_, rfl, _, _, rfl, rfl, _, rfl, _, rfl, Lg, _, rfl, .inl (SqL.of hg2), _, _, rfl, rfl, d, a, ns, _, rfl, D2, by omega, fun r H3 r0 r1 D3 k3 => ?_⟩
      have k13 := k2.trans k3
      have hg3 := k3 _ _ hg2 nG
      have tg3 := tg1.mono (D1.tups k13)
      refine ⟨_, _, rfl, rfl, _, rfl, Lg, _, rfl, .inl (SqL.of hg3), _, _, rfl, rfl, (by show (0 : Int) < _; omega), ?_⟩
      have e0 := Int.emod_nonneg (at' + 1 + r) (show ((gs.map V.ref).length : Int) ≠ 0 by omega)
      have e1 := Int.emod_lt_of_pos (at' + 1 + r) (show (0 : Int) < ((gs.map V.ref).length : Int) by omega)
      have ne := mod_ne a0 a1 r0 r1
      obtain ⟨to', eto⟩ : ∃ to', to' = (at' + 1 + r) % ((gs.map V.ref).length : Int) := ⟨_, rfl⟩
      rw [← eto] at e0 e1 ne
      have pick : ∀ z : Int, 0 ≤ z → z < ((gs.map V.ref).length : Int) → ∃ p g, atI (gs.map V.ref) z = some (.ref p) ∧ gs[z.toNat]? = some p ∧ goods[z.toNat]? = some g := by
        intro z z0 z1
        have hz : z.toNat < gs.length := by omega
        obtain ⟨g, hg, _⟩ := tg.at_ z.toNat _ (List.getElem?_eq_getElem hz)
        exact ⟨gs[z.toNat]'hz, g, at_of (j := z.toNat) (by omega) (by rw [List.getElem?_map, List.getElem?_eq_getElem hz]; rfl), List.getElem?_eq_getElem hz, hg⟩
      obtain ⟨p1, ga, at1, pa, ha⟩ := pick at' a0 a1
      obtain ⟨p2, gb, at2, pb, hb⟩ := pick to' e0 e1
      rw [eto] at at2
      have c3 : ∀ {H' : Hp}, TA gdV H' gs goods → H' p1 = some (.tup (gdV ga)) ∧ H' p2 = some (.tup (gdV gb)) := by
        intro H' tt
        obtain ⟨x, hx, ex⟩ := tt.at_ _ _ pa
        obtain ⟨y, hy, ey⟩ := tt.at_ _ _ pb
        rw [ha] at hx
        rw [hb] at hy
        cases hx
        cases hy
        exact ⟨ex, ey⟩
      have nab : ga ≠ gb := by
        intro z
        have ha' := List.getElem?_eq_some_iff.mp ha
        have hb' := List.getElem?_eq_some_iff.mp hb
        have p := List.pairwise_iff_getElem.mp nd
        rcases Nat.lt_trichotomy at'.toNat to'.toNat with c | c | c
        · exact p _ _ ha'.1 hb'.1 c (by rw [ha'.2, hb'.2, z])
        · omega
        · exact p _ _ hb'.1 ha'.1 c (by rw [ha'.2, hb'.2, z])
      have h3 := k13 _ _ h1 nL
      have u3 := u1.mono (D1.tups k13)
      refine ⟨_, rfl, .inl ⟨rfl, _, SqL.of h3⟩, _, rfl, _, rfl, Lg, _, _, _, rfl, rfl, SqL.of hg3, at1, ?_⟩
      refine ⟨_, rfl, d, a, ns, rfl, D3, fun n1 H4 n10 n11 D4 k4 => ⟨(by show 1 ≤ sizeLine; decide), fun q1 hq1 => ?_⟩⟩
      have s5 := same_new (o := .tup [V.int n1]) hq1
      have f5 := new_at (o := .tup [V.int n1]) hq1
      have tg5 := (tg3.mono (D3.tups k4)).mono (.same s5)
      have D5 := D4.same s5
      have k5 := k4.trans (.of s5)
      generalize (upd H4 q1 (.tup [V.int n1])) = H5 at f5 tg5 D5 k5
      refine ⟨p1, q1, _, _, rfl, rfl, SqT.of (c3 tg5).1, SqT.of f5, (fun z => by cases z), (by show 2 + 1 ≤ sizeLine; decide), (fun z => by cases z), fun _ c1 hc1 => ?_⟩
      have s6 := same_new (o := .tup (gdV ga ++ [V.int n1])) hc1
      have f6 := new_at (o := .tup (gdV ga ++ [V.int n1])) hc1
      have tg6 := tg5.mono (.same s6)
      have D6 := D5.same s6
      have k6 := k5.trans (.of s6)
      generalize (upd H5 c1 (.tup (gdV ga ++ [V.int n1]))) = H6 at f6 tg6 D6 k6
      refine ⟨_, rfl, _, rfl, Lg, _, _, _, rfl, rfl, SqL.of (k6 _ _ hg3 nG), at2, ?_⟩
      refine ⟨c1, p2, _, _, rfl, rfl, SqT.of f6, SqT.of (c3 tg6).2, (fun z => by cases z), (by show 3 + 2 ≤ sizeLine; decide), (fun z => by cases z), fun _ c2 hc2 => ?_⟩
      have s7 := same_new (o := .tup (gdV ga ++ [V.int n1] ++ gdV gb)) hc2
      have f7 := new_at (o := .tup (gdV ga ++ [V.int n1] ++ gdV gb)) hc2
      have D7 := D6.same s7
      have k7 := k6.trans (.of s7)
      have nc2 := D6.ne hc2
      generalize (upd H6 c2 (.tup (gdV ga ++ [V.int n1] ++ gdV gb))) = H7 at f7 D7 k7
      refine ⟨_, rfl, d, a, ns, rfl, D7, fun n2 H8 n20 n21 D8 k8 => ⟨(by show 1 ≤ sizeLine; decide), fun q2 hq2 => ?_⟩⟩
      have s9 := same_new (o := .tup [V.int n2]) hq2
      refine ⟨c2, q2, _, _, rfl, rfl, SqT.of (s9 _ _ (k8 _ _ f7 nc2)), SqT.of upd_same, (fun z => by cases z), (by show 5 + 1 ≤ sizeLine; decide), (fun z => by cases z), fun _ c4 hc4 => ?_⟩
      have s10 := same_new (o := .tup (rwV (ga.1, ga.2, .inl n1, gb.1, gb.2, .inl n2))) hc4
      have f10 := new_at (o := .tup (rwV (ga.1, ga.2, .inl n1, gb.1, gb.2, .inl n2))) hc4
      have s910 := s9.trans s10
      have kA := (k7.trans k8).trans (.of s910)
      have h10 := kA _ _ h3 nL
      have D10 := D8.same s910
      have u10 := u3.mono (D3.tups kA)
      have eH : (upd (upd H8 q2 (.tup [V.int n2])) c4 (.tup (gdV ga ++ [V.int n1] ++ gdV gb ++ [V.int n2]))) = upd (upd H8 q2 (.tup [V.int n2])) c4 (.tup (rwV (ga.1, ga.2, .inl n1, gb.1, gb.2, .inl n2))) := rfl
      rw [eH]
      generalize (upd (upd H8 q2 (.tup [V.int n2])) c4 (.tup (rwV (ga.1, ga.2, .inl n1, gb.1, gb.2, .inl n2)))) = H10 at f10 h10 D10 u10 kA
      have rl := u10.len
      refine ⟨L, _, _, rfl, rfl, h10, small1000 (by rw [List.length_map]; omega), ?_⟩
      have t11 : Tups H10 (upd H10 L (.lst (rs.map V.ref ++ [V.ref c4]))) := Tups.upd h10
      have gA := gok ga (List.mem_of_getElem? ha)
      have gB := gok gb (List.mem_of_getElem? hb)
      refine ⟨_, _, _, rs ++ [c4], rows ++ [(ga.1, ga.2, .inl n1, gb.1, gb.2, .inl n2)], rfl, by rw [upd_same, List.map_append]; rfl, (u10.mono t11).snoc (t11 _ _ f10), by rw [List.length_append, l1]; rfl, ?_, D10.upd nL (nofrz h10), ((k1.trans k13).trans kA).updNew hL⟩
      intro u hu
      rcases List.mem_append.mp hu with z | z
      · exact g1 u z
      · rw [List.mem_singleton.mp z]
        exact ⟨⟨gA.1, gA.2, gB.1, gB.2⟩, ⟨⟨n1, rfl, n10, n11⟩, ⟨n2, rfl, n20, n21⟩, nab⟩, List.mem_of_getElem? ha, List.mem_of_getElem? hb⟩
    · rintro σ H1 ⟨o4, o5, o6, rs, rows, rfl, h1, u1, l1, g1, D1, k1⟩
      exact ⟨_, rfl, q L rs rows H1 h1 u1 l1 g1 nL D1 k1⟩
end
end Ck
set_option Elab.async false
set_option linter.all false
set_option pp.maxSteps 1500
set_option maxRecDepth 100000
set_option maxHeartbeats 4000000
namespace Ck
open PySem L2
theorem sgn_okt {x : Str} (h : Okt x) {c : Nat} (hc : c ∈ x.cps.toList) : Okt (sgn c) := by
  intro z hz
  have : z = c := by simpa [sgn] using hz
  rw [this]; exact h c hc
def badSg (x : Str) : List Nat := x.cps.toList.filter fun c => !decide (c ∈ letters.cps.toList)
theorem badSg_none {x : Str} : (badSg x).isEmpty = x.cps.toList.all fun c => decide (c ∈ letters.cps.toList) := by
  unfold badSg
  rw [Bool.eq_iff_iff, List.isEmpty_iff, List.filter_eq_nil_iff, List.all_eq_true]
  constructor
  · intro h c hc
    have := h c hc
    simpa using this
  · intro h c hc
    have := h c hc
    simpa using this
def gdD (g : Gd) : PyData := .tuple [.str g.1, .str g.2]
def rwD (u : RW) : PyData := .tuple [.str u.1, .str u.2.1, nD u.2.2.1, .str u.2.2.2.1, .str u.2.2.2.2.1, nD u.2.2.2.2.2]
theorem Lay.nm (n : Nm) : Lay 1 (nD n) := by
  cases n with
  | inl i => exact .int i
  | inr b => exact .bool b
theorem rw_lay {n : Nat} {u : RW} (h : RTx n u) : Lay 2 (rwD u) := Lay.tuple (n := 1) fun d hd => by
  simp only [List.mem_cons, List.not_mem_nil, or_false] at hd
  rcases hd with rfl | rfl | rfl | rfl | rfl | rfl
  · exact .str h.1.2
  · exact .str h.2.1.2
  · exact .nm _
  · exact .str h.2.2.1.2
  · exact .str h.2.2.2.2
  · exact .nm _
theorem rws_lay {n : Nat} {rows : List RW} (h : ∀ u ∈ rows, RTx n u) : (∀ d ∈ rows.map rwD, Lay 2 d) := fun d hd => by
  obtain ⟨u, hu, rfl⟩ := List.mem_map.mp hd
  exact rw_lay (h u hu)
def GTx (g : Gd) : Prop := Okt g.1 ∧ Okt g.2
theorem gd_lay {g : Gd} (h : GTx g) : Lay 2 (gdD g) := Lay.tuple (n := 1) fun d hd => by
  simp only [List.mem_cons, List.not_mem_nil, or_false] at hd
  rcases hd with rfl | rfl
  · exact .str h.1
  · exact .str h.2
theorem gds_lay {gs : List Gd} (h : ∀ g ∈ gs, GTx g) : (∀ d ∈ gs.map gdD, Lay 2 d) := fun d hd => by
  obtain ⟨u, hu, rfl⟩ := List.mem_map.mp hd
  exact gd_lay (h u hu)
theorem gAdd_mem {gs : List Gd} {g x : Gd} (h : x ∈ gAdd gs g) : x ∈ gs ∨ x = g := by
  unfold gAdd at h
  split at h
  · exact .inl h
  · rcases List.mem_append.mp h with z | z
    · exact .inl z
    · exact .inr (List.mem_singleton.mp z)
theorem gOf_mem {rows : List RW} : ∀ {g : Gd}, g ∈ gOf rows → ∃ u ∈ rows, g = one u ∨ g = oth u := by
  refine snoc_ind (P := fun rows => ∀ {g : Gd}, g ∈ gOf rows → ∃ u ∈ rows, g = one u ∨ g = oth u) (fun h => by cases h) (fun l u ih => ?_) rows
  intro g h
  rw [gOf_snoc] at h
  rcases gAdd_mem h with h | h
  · rcases gAdd_mem h with h | h
    · obtain ⟨v, hv, e⟩ := ih h
      exact ⟨v, List.mem_append_left _ hv, e⟩
    · exact ⟨u, by simp, .inl h⟩
  · exact ⟨u, by simp, .inr h⟩
theorem gOf_tx {n : Nat} {rows : List RW} (h : ∀ u ∈ rows, RTx n u) : ∀ g ∈ gOf rows, GTx g := fun g hg => by
  obtain ⟨u, hu, e⟩ := gOf_mem hg
  have t := h u hu
  rcases e with rfl | rfl
  · exact ⟨t.1.2, t.2.1.2⟩
  · exact ⟨t.2.2.1.2, t.2.2.2.2⟩
theorem any_gd (gs : List Gd) (g : Gd) : ((gs.map gdD).any fun y => PyData.eqv y (gdD g)) = decide (g ∈ gs) := by
  induction gs with
  | nil => rfl
  | cons a r ih =>
    rw [List.map_cons, List.any_cons, ih]
    have e : PyData.eqv (gdD a) (gdD g) = decide (a = g) := eqv_gd a g
    rw [e, Bool.eq_iff_iff, Bool.or_eq_true, decide_eq_true_eq, decide_eq_true_eq, decide_eq_true_eq, List.mem_cons]
    constructor
    · rintro (z | z)
      · exact .inl z.symm
      · exact .inr z
    · rintro (z | z)
      · exact .inl z.symm
      · exact .inr z
section
variable {P : Program} {w : World} {K : PySem.W.Frag} {mg : Str → Option Value} {base : Heap} {t : Ad}
theorem dp_rw {H : Hp} (u : RW) (p : Addr) (h : H p = some (.tup (rwV u))) : Dp K H (.ref p) (rwD u) := by
  have nm : ∀ n : Nm, Dp K H (nV n) (nD n) := fun n => by
    cases n with
    | inl i => exact .int i
    | inr b => exact .bl b
  exact .tup (SqT.of h) (.cons (.str _) (.cons (.str _) (.cons (nm _) (.cons (.str _) (.cons (.str _) (.cons (nm _) .nil))))))
theorem dp_gd {H : Hp} (g : Gd) (p : Addr) (h : H p = some (.tup (gdV g))) : Dp K H (.ref p) (gdD g) := .tup (SqT.of h) (.cons (.str _) (.cons (.str _) .nil))
theorem dp_nms {H : Hp} : ∀ ns : List Nm, DpAll K H (ns.map nV) (ns.map nD)
  | [] => .nil
  | .inl i :: r => .cons (.int i) (dp_nms r)
  | .inr b :: r => .cons (.bl b) (dp_nms r)
def spIsNm : Sp := fun vs H Q _ => ∃ (x : Str), vs = [.str x] ∧ x.length ≤ 1000 ∧ Okt x ∧ ∀ H', Same H H' → Q (.bl (nameOk x)) H'
theorem ok_isnm (T : Env K mg t) : FnOk P w K mg base CX0 1 t.a_l_is_name t.fd_l_is_name ["_law_text"] spIsNm := by
  refine T.f_l_is_name.okQ sc_l_is_name (fun vs H Q E h => ?_) (fun cdv A outer s H vs Q E hr h => ?_)
  · obtain ⟨x, rfl, _⟩ := h
    rfl
  · obtain ⟨x, rfl, lx, ox, q⟩ := h
    have hz : x.length ≤ sizeLine := Nat.le_of_lt (small1000 lx)
    refine ⟨_, (q_pss_cons (q_ps_if (q_pt_not (q_pt_chain op_le op_le q_pe_int (q_pe_callB call_len_str (by rfl) T.z_len PySem.boot_len (q_pa_cons (q_pv 0) q_pa_nil star_Name)) q_pe_int)) (q_pss_one (q_ps_ret q_pe_bl)) q_pss_nil)
      (q_pss_one (q_ps_ret (q_pe_cmpR (op_eqD hr.units) (q_pe_lc (own := [("_law_sign", 1)]) (g := gName 1) (by rfl) sc_l_is_name.nd (q_pi_str (q_pv 0)) (blkOk_by (own := [("_law_sign", 1)]) (N := ["_law_text", "_law_sign"]) (sc := defScope s_l_is_name) (by decide +kernel)) (fun _ _ _ _ _ => (q_pg_name (i := 1) sc_l_is_name.nd rfl (by first | exact Or.inl rfl | exact Or.inr (Or.inl rfl) | exact Or.inr rfl))) (fun _ _ _ _ _ => (q_pts_one (q_pt_cmpR op_notIn_sign (q_pv 1) q_pe_str (by rfl)))) (fun _ _ _ _ _ => (q_pv 1))) (q_pe_lst q_pa_nil) (nomark _))))), ?_⟩
    refine ⟨_, rfl, x, rfl, hz, _, _, rfl, rfl, _, rfl, ?_⟩
    refine ite2 (fun h1 => ?_) (fun h1 => ?_)
    · have h1 : (1 : Int) ≤ x.length := of_decide_eq_true h1
      refine ⟨_, _, rfl, rfl, _, rfl, ?_⟩
      by_cases h2 : (x.length : Int) ≤ 8
      · rw [decide_eq_true h2]
        refine iteF ?_
        refine ⟨_, rfl, x, rfl, fun L hL => ?_⟩
        refine lc_str (fun i H' => H' L = some (.lst (((x.cps.toList.take i).filter fun c => !decide (c ∈ letters.cps.toList)).map fun c => .str (sgn c))) ∧ Same H H') ?_ ?_ ?_
        · exact ⟨by rw [upd_same]; rfl, same_new hL⟩
        · rintro i c H1 hc ⟨h1, s1⟩
          refine ⟨rfl, ?_⟩
          refine ⟨_, rfl, c, letters, rfl, rfl, _, rfl, ?_⟩
          refine ite2 (fun g => ?_) (fun g => ?_)
          · refine ⟨_, rfl, _, h1, small1000 ?_, ?_, fun b o e => ?_⟩
            · have := filtm_len (ns := x.cps.toList) (p := fun c => !decide (c ∈ letters.cps.toList)) (f := fun c => V.str (sgn c)) (i := i)
              rw [← str_len] at this
              omega
            · rw [upd_same, filtm_yes hc g]
            · rw [upd_ne (ne_of_none e hL)]; exact s1 b o e
          · exact ⟨by rw [h1, filtm_no hc g], s1⟩
        · rintro H1 ⟨h1, s1⟩
          rw [List.take_length] at h1
          have h1 : H1 L = some (.lst ((((badSg x).map sgn)).map V.str)) := by rw [List.map_map]; exact h1
          refine ⟨(by decide), fun l hl => ?_⟩
          have s2 := same_new (o := .lst []) hl
          refine ⟨.list ((((badSg x).map sgn)).map PyData.str), .list [], .lst (SqL.of (s2 _ _ h1)) (dp_strs _), .lst (SqL.of upd_same) .nil, shaped_strs _ ?_, rfl, ?_⟩
          · intro z hz
            obtain ⟨c, hc, rfl⟩ := List.mem_map.mp hz
            exact sgn_okt ox (List.mem_filter.mp hc).1
          rw [eqv_nil, List.isEmpty_map, List.isEmpty_map, badSg_none]
          have e : nameOk x = x.cps.toList.all fun c => decide (c ∈ letters.cps.toList) := by
            unfold nameOk madeOf
            rw [decide_eq_true (by omega : 0 < x.length), decide_eq_true (by omega : x.length ≤ 8), Bool.true_and, Bool.and_true]
          rw [← e]
          exact q _ (s1.trans s2)
      · rw [decide_eq_false h2]
        refine iteT ?_
        have e : nameOk x = false := by unfold nameOk; rw [decide_eq_false (by omega : ¬ x.length ≤ 8), Bool.and_false]
        have q := q H (Same.refl _)
        rw [e] at q
        exact q
    · have h1 : ¬ (1 : Int) ≤ x.length := fun z => h1 (decide_eq_true z)
      have e : nameOk x = false := by unfold nameOk madeOf; rw [decide_eq_false (by omega : ¬ 0 < x.length), Bool.false_and, Bool.false_and]
      refine ⟨_, rfl, iteT ?_⟩
      have q := q H (Same.refl _)
      rw [e] at q
      exact q
def DueV (t : Ad) (rows : List RW) (H : Hp) (v : V) : Prop := (GoodT rows ∧ ∃ p qs, v = .ref p ∧ H p = some (.tup (qs.map V.ref)) ∧ TA gdV H qs (gOf rows)) ∨ ∃ C wd, BadT t rows C wd ∧ v = .str wd
def spDue (t : Ad) : Sp := fun vs H Q _ => ∃ (L : Addr) (rs : List Addr) (rows : List RW), vs = [.ref L] ∧ H L = some (.lst (rs.map V.ref)) ∧ TA rwV H rs rows ∧ rows.length ≤ 60 ∧ (∀ u ∈ rows, RTx 1000 u) ∧ ∀ v H', Same H H' → DueV t rows H' v → Q v H'
def numsOf (rows : List RW) : List Nm := rows.flatMap fun u => [u.2.2.1, u.2.2.2.2.2]
theorem numsOf_next {rows : List RW} {i : Nat} {u : RW} (h : rows[i]? = some u) : numsOf (rows.take (i + 1)) = numsOf (rows.take i) ++ [u.2.2.1, u.2.2.2.2.2] := by
  unfold numsOf
  rw [List.take_succ, h, List.flatMap_append]
  simp
theorem numsOf_len (rows : List RW) : (numsOf rows).length = 2 * rows.length := by
  unfold numsOf
  induction rows with
  | nil => rfl
  | cons a r ih => rw [List.flatMap_cons, List.length_append, ih]; simp; omega
theorem ok_due (T : Env K mg t) : FnOk P w K mg base CX0 2 t.a_l_due t.fd_l_due ["_law_rows_here"] (spDue t) := by
  have G_l_is_name : FnOk P w K mg base CX0 1 t.a_l_is_name t.fd_l_is_name ["_law_text"] spIsNm := ok_isnm T
  refine T.f_l_due.okQ sc_l_due (fun vs H Q E h => ?_) (fun cdv A outer s H vs Q E hr h => ?_)
  · obtain ⟨L, rs, rows, rfl, _⟩ := h
    rfl
  · obtain ⟨L, rs, rows, rfl, hL, ta, l60, tx, q⟩ := h
    have hr_l_is_name := hr
    refine ⟨_, (q_pss_cons (q_ps_set (i := 1) sc_l_due.nd rfl (by first | exact Or.inl rfl | exact Or.inr (Or.inl rfl) | exact Or.inr rfl) (q_pe_lst q_pa_nil))
      (q_pss_cons (q_ps_set (i := 2) sc_l_due.nd rfl (by first | exact Or.inl rfl | exact Or.inr (Or.inl rfl) | exact Or.inr rfl) (q_pe_lst q_pa_nil))
      (q_pss_cons (q_ps_for PassesOwn.never rfl (q_pi_list (q_pv 0)) (q_pg_name (i := 3) sc_l_due.nd rfl (by first | exact Or.inl rfl | exact Or.inr (Or.inl rfl) | exact Or.inr rfl))
      (q_pss_cons (q_ps_if (q_pt_cmpR (op_neD hr.units) (q_pe_lc (own := [("_law_name", 6)]) (g := gName 6) (by rfl) sc_l_due.nd (q_pi_tup (q_pe_tup (q_pa_cons (q_pe_ix ix_tup (q_pv 3) q_pe_int (fun _ _ => rfl)) (q_pa_cons (q_pe_ix ix_tup (q_pv 3) q_pe_int (fun _ _ => rfl)) (q_pa_cons (q_pe_ix ix_tup (q_pv 3) q_pe_int (fun _ _ => rfl)) (q_pa_cons (q_pe_ix ix_tup (q_pv 3) q_pe_int (fun _ _ => rfl)) q_pa_nil star_Subscript) star_Subscript) star_Subscript) star_Subscript))) (blkOk_by (own := [("_law_name", 6)]) (N := ["_law_rows_here", "_law_goods_here", "_law_numbers", "_law_row", "_law_good", "_law_number_here", "_law_name"]) (sc := defScope s_l_due) (by decide +kernel)) (fun _ _ _ _ _ => (q_pg_name (i := 6) sc_l_due.nd rfl (by first | exact Or.inl rfl | exact Or.inr (Or.inl rfl) | exact Or.inr rfl))) (fun _ _ _ _ _ => (q_pts_one (q_pt_not (q_pt_val (q_pe_call G_l_is_name hr_l_is_name (by rfl) T.mg_l_is_name T.kp_l_is_name T.b_l_is_name .nil pass0 (q_pa_cons (q_pv 6) q_pa_nil star_Name)))))) (fun _ _ _ _ _ => (q_pv 6))) (q_pe_lst q_pa_nil) (nomark _)) (q_pss_one (q_ps_ret q_pe_str)) q_pss_nil)
      (q_pss_cons (q_ps_set (i := 2) sc_l_due.nd rfl (by first | exact Or.inl rfl | exact Or.inr (Or.inl rfl) | exact Or.inr rfl) (q_pe_op op_cat (q_pv 2) (q_pe_lst (q_pa_cons (q_pe_ix ix_tup (q_pv 3) q_pe_int (fun _ _ => rfl)) (q_pa_cons (q_pe_ix ix_tup (q_pv 3) q_pe_int (fun _ _ => rfl)) q_pa_nil star_Subscript) star_Subscript))))
      (q_pss_one (q_ps_for PassesOwn.never rfl (q_pi_tup (q_pe_tup (q_pa_cons (q_pe_tup (q_pa_cons (q_pe_ix ix_tup (q_pv 3) q_pe_int (fun _ _ => rfl)) (q_pa_cons (q_pe_ix ix_tup (q_pv 3) q_pe_int (fun _ _ => rfl)) q_pa_nil star_Subscript) star_Subscript)) (q_pa_cons (q_pe_tup (q_pa_cons (q_pe_ix ix_tup (q_pv 3) q_pe_int (fun _ _ => rfl)) (q_pa_cons (q_pe_ix ix_tup (q_pv 3) q_pe_int (fun _ _ => rfl)) q_pa_nil star_Subscript) star_Subscript)) q_pa_nil star_Tuple) star_Tuple))) (q_pg_name (i := 4) sc_l_due.nd rfl (by first | exact Or.inl rfl | exact Or.inr (Or.inl rfl) | exact Or.inr rfl))
      (q_pss_one (q_ps_if (q_pt_cmpR (op_notInD hr.units1) (q_pv 4) (q_pv 1) (by rfl)) (q_pss_one (q_ps_expr (q_pe_bm PySem.F.plainAttrs_list PySem.F.slot_list_append PySem.F.type_list_append mt_append (q_pv 1) (q_pa_cons (q_pv 4) q_pa_nil star_Name)))) q_pss_nil)))))))
      (q_pss_cons (q_ps_if (q_pt_cmpR (op_neD hr.units) (q_pe_lc (own := [("_law_number_here", 5)]) (g := gName 5) (by rfl) sc_l_due.nd (q_pi_list (q_pv 2)) (blkOk_by (own := [("_law_number_here", 5)]) (N := ["_law_rows_here", "_law_goods_here", "_law_numbers", "_law_row", "_law_good", "_law_number_here", "_law_name"]) (sc := defScope s_l_due) (by decide +kernel)) (fun _ _ _ _ _ => (q_pg_name (i := 5) sc_l_due.nd rfl (by first | exact Or.inl rfl | exact Or.inr (Or.inl rfl) | exact Or.inr rfl))) (fun _ _ _ _ _ => (q_pts_one (QW.pt (q_pw_or (q_pt_val (q_pe_callB (call_isinstK (K := K) rfl) (by rfl) T.z_isinstance (by decide +kernel) (q_pa_cons (q_pv 5) (q_pa_cons (q_pe_bltn (v := .ty "bool") (by rfl) T.z_bool (by decide +kernel) rfl) q_pa_nil star_Name) star_Name))) (q_pw_or1 (q_pt_not (q_pt_chain op_le op_le q_pe_int (q_pv 5) q_pe_int))))))) (fun _ _ _ _ _ => (q_pv 5))) (q_pe_lst q_pa_nil) (nomark _)) (q_pss_one (q_ps_ret q_pe_str)) q_pss_nil)
      (q_pss_cons (q_ps_if (q_pt_cmpR (op_neD hr.units) (q_pe_lc (own := [("_law_row", 3)]) (g := gName 3) (by rfl) sc_l_due.nd (q_pi_list (q_pv 0)) (blkOk_by (own := [("_law_row", 3)]) (N := ["_law_rows_here", "_law_goods_here", "_law_numbers", "_law_row", "_law_good", "_law_number_here", "_law_name"]) (sc := defScope s_l_due) (by decide +kernel)) (fun _ _ _ _ _ => (q_pg_name (i := 3) sc_l_due.nd rfl (by first | exact Or.inl rfl | exact Or.inr (Or.inl rfl) | exact Or.inr rfl))) (fun _ _ _ _ _ => (q_pts_one (q_pt_cmpR (op_eqDK (K := K) rfl hr.units) (q_pe_tup (q_pa_cons (q_pe_ix (ix_tupK (K := K) rfl) (q_pv 3) q_pe_int (fun _ _ => rfl)) (q_pa_cons (q_pe_ix (ix_tupK (K := K) rfl) (q_pv 3) q_pe_int (fun _ _ => rfl)) q_pa_nil star_Subscript) star_Subscript)) (q_pe_tup (q_pa_cons (q_pe_ix (ix_tupK (K := K) rfl) (q_pv 3) q_pe_int (fun _ _ => rfl)) (q_pa_cons (q_pe_ix (ix_tupK (K := K) rfl) (q_pv 3) q_pe_int (fun _ _ => rfl)) q_pa_nil star_Subscript) star_Subscript)) (nomark _)))) (fun _ _ _ _ _ => (q_pv 3))) (q_pe_lst q_pa_nil) (nomark _)) (q_pss_one (q_ps_ret q_pe_str)) q_pss_nil)
      (q_pss_cons (q_ps_if (QW.pt (q_pw_or (q_pt_not (q_pt_chain op_le op_le q_pe_int (q_pe_callB call_len_seq (by rfl) T.z_len PySem.boot_len (q_pa_cons (q_pv 0) q_pa_nil star_Name)) q_pe_int)) (q_pw_or1 (q_pt_cmpR op_gt (q_pe_callB call_len_seq (by rfl) T.z_len PySem.boot_len (q_pa_cons (q_pv 1) q_pa_nil star_Name)) q_pe_int (nomark _))))) (q_pss_one (q_ps_ret q_pe_str)) q_pss_nil)
      (q_pss_one (q_ps_ret (q_pe_callTy call_tuple_of (by rfl) T.z_tuple (by decide +kernel) (q_pa_cons (q_pv 1) q_pa_nil star_Name)))))))))), ?_⟩
    refine ⟨by decide, fun Lg hLg => ?_⟩
    have s1 := same_new (o := .lst []) hLg
    have f1 := new_at (o := .lst []) hLg
    refine ⟨by decide, fun Ln0 hLn0 => ?_⟩
    have s2 := same_new (o := .lst []) hLn0
    have s12 := s1.trans s2
    refine ⟨_, rfl, L, rfl, ⟨_, SqL.of (s12 _ _ hL)⟩, ?_⟩
    refine for_list (xs := rs.map V.ref) (fun i σ H' => ∃ (o3 o4 o5 o6 : Option V) (Ln : Addr) (gs : List Addr), σ = [some (.ref L), some (.ref Lg), some (.ref Ln), o3, o4, o5, o6] ∧ (∀ u ∈ rows.take i, NamesOk u) ∧ H' Lg = some (.lst (gs.map V.ref)) ∧ TA gdV H' gs (gOf (rows.take i)) ∧ H' Ln = some (.lst ((numsOf (rows.take i)).map nV)) ∧ Ln ≠ Lg ∧ Same H H') ?_ ?_ ?_ ?_
    · exact ⟨_, _, _, _, Ln0, [], rfl, by simp, s2 _ _ f1, .nil _ _, upd_same, (ne_of_none f1 hLn0).symm, s12⟩
    · rintro i σ H1 hi ⟨o3, o4, o5, o6, Ln, gs, rfl, a1, h1, u1, n1, nn, z1⟩
      exact SqL.of (z1 _ _ hL)
    · rintro i y σ H1 hy ⟨o3, o4, o5, o6, Ln, gs, rfl, a1, h1, u1, n1, nn, z1⟩
      obtain ⟨r, hr', rfl⟩ := ref_at hy
      obtain ⟨u, hu, e⟩ := ta.at_ i r hr'
      have hi := (List.getElem?_eq_some_iff.mp hu).1
      have mu := List.mem_of_getElem? hu
      have tu := tx u mu
      have e1 := z1 _ _ e
      refine ⟨_, rfl, r, _, 0, _, rfl, rfl, SqT.of e1, at_of (j := 0) (by decide) rfl, _, rfl, r, _, 1, _, rfl, rfl, SqT.of e1, at_of (j := 1) (by decide) rfl, _, rfl, r, _, 3, _, rfl, rfl, SqT.of e1, at_of (j := 3) (by decide) rfl, _, rfl, r, _, 4, _, rfl, rfl, SqT.of e1, at_of (j := 4) (by decide) rfl, (by show 4 ≤ sizeLine; decide), fun t4 ht4 => ?_⟩
      have s3 := same_new (o := .tup ([u.1, u.2.1, u.2.2.2.1, u.2.2.2.2.1].map V.str)) ht4
      have f3 := new_at (o := .tup ([u.1, u.2.1, u.2.2.2.1, u.2.2.2.2.1].map V.str)) ht4
      refine ⟨t4, rfl, ⟨_, SqT.of f3⟩, fun Lc hLc => ?_⟩
      have tn : ∀ x ∈ [u.1, u.2.1, u.2.2.2.1, u.2.2.2.2.1], Tx 1000 x := by
        intro x hx
        simp only [List.mem_cons, List.not_mem_nil, or_false] at hx
        rcases hx with rfl | rfl | rfl | rfl
        · exact tu.1
        · exact tu.2.1
        · exact tu.2.2.1
        · exact tu.2.2.2
      generalize hNS : [u.1, u.2.1, u.2.2.2.1, u.2.2.2.2.1] = NS at f3 tn
      have nl4 : NS.length = 4 := by rw [← hNS]; rfl
      have eH3 : (upd H1 t4 (.tup [V.str u.1, V.str u.2.1, V.str u.2.2.2.1, V.str u.2.2.2.2.1])) = upd H1 t4 (.tup (NS.map V.str)) := by rw [← hNS]; rfl
      have s3 : Same H1 (upd H1 t4 (.tup (NS.map V.str))) := same_new ht4
      rw [eH3] at hLc ⊢
      generalize (upd H1 t4 (.tup (NS.map V.str))) = H3 at s3 f3 hLc
      refine lc_tup (xs := NS.map V.str) (fun j H' => H' Lc = some (.lst (((NS.take j).filter fun x => !nameOk x).map V.str)) ∧ Same H3 H') ?_ ?_ ?_ ?_
      · exact ⟨upd_same, same_new hLc⟩
      · rintro j H4 hj ⟨h4, z4⟩
        exact SqT.of (z4 _ _ f3)
      · rintro j y H4 hy ⟨h4, z4⟩
        obtain ⟨x, hx, rfl⟩ := str_at hy
        have hw := tn x (List.mem_of_getElem? hx)
        refine ⟨rfl, ?_⟩
        refine ⟨_, rfl, x, rfl, hw.1, hw.2, fun H5 z5 => ⟨_, rfl, ?_⟩⟩
        have h5 := z5 _ _ h4
        refine ite2 (fun g => ?_) (fun g => ?_)
        · refine ⟨_, rfl, _, h5, small1000 ?_, ?_, fun b o e => ?_⟩
          · have := filtm_len (ns := NS) (p := fun x => !nameOk x) (f := V.str) (i := j)
            omega
          · rw [upd_same, filtm_yes hx g]
          · rw [upd_ne (ne_of_none e hLc)]; exact z5 _ _ (z4 b o e)
        · exact ⟨by rw [h5, filtm_no hx g], z4.trans z5⟩
      rintro H4 ⟨h4, z4⟩
      rw [List.length_map, List.take_length] at h4
      refine ⟨(by decide), fun l5 hl5 => ?_⟩
      have s5 := same_new (o := .lst []) hl5
      refine ⟨.list ((NS.filter fun x => !nameOk x).map PyData.str), .list [], .lst (SqL.of (s5 _ _ h4)) (dp_strs _), .lst (SqL.of upd_same) .nil, shaped_strs _ (fun x hx => (tn x (List.mem_filter.mp hx).1).2), rfl, _, rfl, ?_⟩
      rw [eqv_nil, List.isEmpty_map]
      have z5 := ((z1.trans s3).trans z4).trans s5
      have z15 := (s3.trans z4).trans s5
      by_cases c : NamesOk u
      case neg =>
        have en : (NS.filter fun x => !nameOk x).isEmpty = false := by
          rw [Bool.eq_false_iff]
          intro z
          rw [List.isEmpty_iff, List.filter_eq_nil_iff] at z
          refine c (names_iff.mpr fun x hx => ?_)
          rw [hNS] at hx
          have := z x hx
          simpa using this
        rw [en]
        exact iteT (q _ _ z5 (.inr ⟨_, _, .inl ⟨⟨u, mu, c⟩, rfl, rfl⟩, rfl⟩))
      have en : (NS.filter fun x => !nameOk x).isEmpty = true := by
        rw [List.isEmpty_iff, List.filter_eq_nil_iff]
        intro x hx
        rw [← hNS] at hx
        rw [names_iff.mp c x hx]; decide
      rw [en]
      refine iteF ?_
      have h1 := z15 _ _ h1
      have n1 := z15 _ _ n1
      have u1 := u1.mono (.same z15)
      have e5 := z15 _ _ e1
      generalize (upd H4 l5 (.lst [])) = H5 at z5 h1 n1 u1 e5
      have gl := u1.len
      have gl2 := gOf_len (rows.take i)
      have tl := List.length_take_le' i rows
      have nlen := numsOf_len (rows.take i)
      refine ⟨_, rfl, _, rfl, r, _, 2, _, rfl, rfl, SqT.of e5, at_of (j := 2) (by decide) rfl, _, rfl, r, _, 5, _, rfl, rfl, SqT.of e5, at_of (j := 5) (by decide) rfl, (by show 2 ≤ sizeLine; decide), fun q1 hq1 => ?_⟩
      have s6 := same_new (o := .lst [nV u.2.2.1, nV u.2.2.2.2.2]) hq1
      refine ⟨Ln, q1, _, _, rfl, rfl, s6 _ _ n1, upd_same, Nat.le_of_lt (small1000 (by rw [List.length_map]; show _ + 2 ≤ 1000; omega)), fun Ln2 hLn2 => ?_⟩
      have en2 : (numsOf (rows.take i)).map nV ++ [nV u.2.2.1, nV u.2.2.2.2.2] = (numsOf (rows.take (i + 1))).map nV := by rw [numsOf_next hu, List.map_append]; rfl
      rw [en2]
      have s7 := same_new (o := .lst ((numsOf (rows.take (i + 1))).map nV)) hLn2
      have f7 := new_at (o := .lst ((numsOf (rows.take (i + 1))).map nV)) hLn2
      have s67 := s6.trans s7
      have h7 := s67 _ _ h1
      have u7 := u1.mono (.same s67)
      have e7 := s67 _ _ e5
      have z7 := z5.trans s67
      have nn2 : Ln2 ≠ Lg := (ne_of_none (s6 _ _ h1) hLn2).symm
      generalize (upd (upd H5 q1 (.lst [nV u.2.2.1, nV u.2.2.2.2.2])) Ln2 (.lst ((numsOf (rows.take (i + 1))).map nV))) = H7 at f7 h7 u7 e7 z7
      refine ⟨_, rfl, r, _, 0, _, rfl, rfl, SqT.of e7, at_of (j := 0) (by decide) rfl, _, rfl, r, _, 1, _, rfl, rfl, SqT.of e7, at_of (j := 1) (by decide) rfl, (by show 2 ≤ sizeLine; decide), fun p1 hp1 => ?_⟩
      have s8 := same_new (o := .tup (gdV (one u))) hp1
      have f8 := new_at (o := .tup (gdV (one u))) hp1
      have e8 := s8 _ _ e7
      refine ⟨_, rfl, r, _, 3, _, rfl, rfl, SqT.of e8, at_of (j := 3) (by decide) rfl, _, rfl, r, _, 4, _, rfl, rfl, SqT.of e8, at_of (j := 4) (by decide) rfl, (by show 2 ≤ sizeLine; decide), fun p2 hp2 => ?_⟩
      have s9 := same_new (o := .tup (gdV (oth u))) hp2
      have f9 := new_at (o := .tup (gdV (oth u))) hp2
      refine ⟨(by show 2 ≤ sizeLine; decide), fun T2 hT2 => ?_⟩
      have s10 := same_new (o := .tup ([p1, p2].map V.ref)) hT2
      have f10 : (upd (upd (upd H7 p1 (.tup (gdV (one u)))) p2 (.tup (gdV (oth u)))) T2 (.tup ([p1, p2].map V.ref))) T2 = some (.tup ([p1, p2].map V.ref)) := upd_same
      have sA : Same H7 (upd (upd (upd H7 p1 (.tup (gdV (one u)))) p2 (.tup (gdV (oth u)))) T2 (.tup ([p1, p2].map V.ref))) := (s8.trans s9).trans s10
      have tp : TA gdV (upd (upd (upd H7 p1 (.tup (gdV (one u)))) p2 (.tup (gdV (oth u)))) T2 (.tup ([p1, p2].map V.ref))) [p1, p2] [one u, oth u] := ((TA.nil gdV _).snoc (s10 _ _ (s9 _ _ f8))).snoc (s10 _ _ f9)
      have h10 := sA _ _ h7
      have u10 := u7.mono (.same sA)
      have n10 := sA _ _ f7
      have z10 := z7.trans sA
      have eH10 : (upd (upd (upd H7 p1 (.tup [V.str u.1, V.str u.2.1])) p2 (.tup [V.str u.2.2.2.1, V.str u.2.2.2.2.1])) T2 (.tup [V.ref p1, V.ref p2])) = upd (upd (upd H7 p1 (.tup (gdV (one u)))) p2 (.tup (gdV (oth u)))) T2 (.tup ([p1, p2].map V.ref)) := rfl
      rw [eH10]
      generalize (upd (upd (upd H7 p1 (.tup (gdV (one u)))) p2 (.tup (gdV (oth u)))) T2 (.tup ([p1, p2].map V.ref))) = H10 at f10 tp h10 u10 n10 z10
      have tgo : ∀ g ∈ gOf (rows.take i), GTx g := gOf_tx (n := 1000) fun v hv => tx v (List.mem_of_mem_take hv)
      have to1 : GTx (one u) := ⟨tu.1.2, tu.2.1.2⟩
      have to2 : GTx (oth u) := ⟨tu.2.2.1.2, tu.2.2.2.2⟩
      refine ⟨T2, rfl, ⟨_, SqT.of f10⟩, ?_⟩
      refine for_tup (xs := [p1, p2].map V.ref) (fun j σ H' => ∃ (o4 o5 o6 : Option V) (gs : List Addr) (goods : List Gd), σ = [some (.ref L), some (.ref Lg), some (.ref Ln2), some (.ref r), o4, o5, o6] ∧ H' Lg = some (.lst (gs.map V.ref)) ∧ TA gdV H' gs goods ∧ goods = ([one u, oth u].take j).foldl gAdd (gOf (rows.take i)) ∧ goods.length ≤ 120 + j ∧ (∀ g ∈ goods, GTx g) ∧ (∀ b o, H10 b = some o → b ≠ Lg → H' b = some o)) ?_ ?_ ?_ ?_
      · exact ⟨_, _, _, gs, _, rfl, h10, u10, rfl, by omega, tgo, fun b o e _ => e⟩
      · rintro j σ H11 hj ⟨o4, o5, o6, gs, goods, rfl, h11, u11, eg, lg, tg, k11⟩
        exact SqT.of (k11 _ _ f10 (fun z => by rw [z, h10] at f10; cases f10))
      · rintro j y σ H11 hy ⟨o4, o5, o6, gs, goods, rfl, h11, u11, eg, lg, tg, k11⟩
        obtain ⟨pp, hpp, rfl⟩ := ref_at hy
        obtain ⟨g, hg, ep⟩ := tp.at_ j pp hpp
        have ep11 := k11 _ _ ep (fun z => by rw [z, h10] at ep; cases ep)
        have tgg : GTx g := by
          have := List.mem_of_getElem? hg
          simp only [List.mem_cons, List.not_mem_nil, or_false] at this
          rcases this with rfl | rfl
          · exact to1
          · exact to2
        have efold : ([one u, oth u].take (j + 1)).foldl gAdd (gOf (rows.take i)) = gAdd goods g := by
          rw [List.take_succ, hg, List.foldl_append, ← eg]; rfl
        have gl11 := u11.len
        refine ⟨_, rfl, _, rfl, gdD g, goods.map gdD, dp_gd g pp ep11, .lst (SqL.of h11) (TA.dp dp_gd u11), (gd_lay tgg).shaped (by decide), (Lay.list (gds_lay tg)).shaped (by decide), _, rfl, ?_⟩
        rw [if_pos (by decide : (true = true)), any_gd]
        have hj2 : j < 2 := (List.getElem?_eq_some_iff.mp hg).1
        by_cases m : g ∈ goods
        · rw [decide_eq_true m]
          refine iteF ⟨_, _, _, gs, goods, rfl, h11, u11, ?_, by omega, tg, k11⟩
          rw [efold]
          unfold gAdd
          rw [if_pos m]
        · rw [decide_eq_false m]
          refine iteT ?_
          refine ⟨_, rfl, .inl ⟨rfl, _, SqL.of h11⟩, _, rfl, Lg, _, _, rfl, rfl, h11, small1000 (by rw [List.length_map]; omega), ?_⟩
          have t12 : Tups H11 (upd H11 Lg (.lst (gs.map V.ref ++ [V.ref pp]))) := Tups.upd h11
          refine ⟨_, _, _, gs ++ [pp], goods ++ [g], rfl, by rw [upd_same, List.map_append]; rfl, (u11.mono t12).snoc (t12 _ _ ep11), ?_, by rw [List.length_append]; show _ + 1 ≤ _; omega, ?_, fun b o e nb => ?_⟩
          · rw [efold]
            unfold gAdd
            rw [if_neg m]
          · intro x hx
            rcases List.mem_append.mp hx with z | z
            · exact tg x z
            · rw [List.mem_singleton.mp z]; exact tgg
          · rw [upd_ne nb]; exact k11 b o e nb
      · rintro σ H11 ⟨o4, o5, o6, gs, goods, rfl, h11, u11, eg, lg, tg, k11⟩
        have eg2 : goods = gOf (rows.take (i + 1)) := by
          rw [eg, gOf_next hu]; rfl
        subst eg2
        refine ⟨_, _, _, _, Ln2, gs, rfl, ?_, h11, u11, k11 _ _ n10 nn2, nn2, fun b o e => k11 b o (z10 b o e) (ne_of_none e hLg)⟩
        intro x hx
        rw [List.take_succ, hu] at hx
        rcases List.mem_append.mp hx with z | z
        · exact a1 x z
        · rw [show x = u by simpa using z]; exact c
    rintro σ H1 ⟨o3, o4, o5, o6, Ln, gs, rfl, hn, h1, u1, n1, nn, z1⟩
    rw [List.length_map, ta.len, List.take_length] at hn u1 n1
    have tgo := gOf_tx tx
    have nlen := numsOf_len rows
    have bad : ¬ Rest rows → ∀ H', Same H H' → Q (.str "row") H' := fun nr H' s' => q _ _ s' (.inr ⟨_, _, .inr ⟨hn, nr, rfl, rfl⟩, rfl⟩)
    refine ⟨_, rfl, Ln, rfl, ⟨_, SqL.of n1⟩, fun Lc hLc => ?_⟩
    refine lc_list (xs := (numsOf rows).map nV) (fun j H' => H' Lc = some (.lst ((((numsOf rows).take j).filter fun n => !okN n).map nV)) ∧ Same H1 H') ?_ ?_ ?_ ?_
    · exact ⟨upd_same, same_new hLc⟩
    · rintro j H2 hj ⟨h2, z2⟩
      exact SqL.of (z2 _ _ n1)
    · rintro j y H2 hy ⟨h2, z2⟩
      rw [List.getElem?_map] at hy
      cases hx : (numsOf rows)[j]? with
      | none => rw [hx] at hy; cases hy
      | some n =>
      rw [hx] at hy
      cases hy
      refine ⟨rfl, ?_⟩
      have yes : okN n = false → ∃ acc, H2 Lc = some (.lst acc) ∧ acc.length < sizeLine ∧ (upd H2 Lc (.lst (acc ++ [nV n]))) Lc = some (.lst ((((numsOf rows).take (j + 1)).filter fun n => !okN n).map nV)) ∧ Same H1 (upd H2 Lc (.lst (acc ++ [nV n]))) := fun g => by
        refine ⟨_, h2, small1000 ?_, ?_, fun b o e => ?_⟩
        · have := filtm_len (ns := numsOf rows) (p := fun n => !okN n) (f := nV) (i := j)
          omega
        · rw [upd_same, filtm_yes (p := fun n => !okN n) hx (by rw [g]; rfl)]
        · rw [upd_ne (ne_of_none e hLc)]; exact z2 b o e
      have no : okN n = true → H2 Lc = some (.lst ((((numsOf rows).take (j + 1)).filter fun n => !okN n).map nV)) ∧ Same H1 H2 := fun g => ⟨by rw [h2, filtm_no (p := fun n => !okN n) hx (by rw [g]; decide)], z2⟩
      cases n with
      | inr b => exact ⟨_, rfl, _, "bool", _, _, rfl, .bl b, kit_same, _, rfl, iteT (iteT ⟨_, rfl, yes rfl⟩)⟩
      | inl i =>
        refine ⟨_, rfl, _, "bool", _, _, rfl, .int i, kit_int_bool, _, rfl, iteF ?_⟩
        refine ⟨_, rfl, _, _, rfl, rfl, _, rfl, ?_⟩
        by_cases c0 : (1 : Int) ≤ i
        · rw [decide_eq_true c0]
          refine iteT ⟨_, _, rfl, rfl, _, rfl, ?_⟩
          by_cases c1 : i ≤ 1000000
          · rw [decide_eq_true c1]
            exact iteF (no (by unfold okN; simp only [decide_eq_true c0, decide_eq_true c1]; rfl))
          · rw [decide_eq_false c1]
            exact iteT ⟨_, rfl, yes (by unfold okN; simp only [decide_eq_false c1, Bool.and_false])⟩
        · rw [decide_eq_false c0]
          exact iteF ⟨_, rfl, iteT ⟨_, rfl, yes (by unfold okN; simp only [decide_eq_false c0, Bool.false_and])⟩⟩
    rintro H2 ⟨h2, z2⟩
    rw [List.length_map, List.take_length] at h2
    refine ⟨(by decide), fun l3 hl3 => ?_⟩
    have s3 := same_new (o := .lst []) hl3
    refine ⟨.list (((numsOf rows).filter fun n => !okN n).map nD), .list [], .lst (SqL.of (s3 _ _ h2)) (dp_nms _), .lst (SqL.of upd_same) .nil, (Lay.list (n := 1) fun d hd => by
      obtain ⟨n, _, rfl⟩ := List.mem_map.mp hd
      exact .nm n).shaped (by decide), rfl, _, rfl, ?_⟩
    rw [eqv_nil, List.isEmpty_map]
    have z3 := (z1.trans z2).trans s3
    have z13 := z2.trans s3
    by_cases cn : ∀ n ∈ numsOf rows, okN n = true
    case neg =>
      have en : ((numsOf rows).filter fun n => !okN n).isEmpty = false := by
        rw [Bool.eq_false_iff]
        intro z
        rw [List.isEmpty_iff, List.filter_eq_nil_iff] at z
        refine cn fun n hn' => ?_
        have := z n hn'
        simpa using this
      rw [en]
      refine iteT (bad (fun z => cn fun n hn' => ?_) _ z3)
      obtain ⟨u, hu, hm⟩ := List.mem_flatMap.mp hn'
      simp only [List.mem_cons, List.not_mem_nil, or_false] at hm
      rcases hm with rfl | rfl
      · exact okN_iff.mpr (z.1 u hu).1
      · exact okN_iff.mpr (z.1 u hu).2.1
    have en : ((numsOf rows).filter fun n => !okN n).isEmpty = true := by
      rw [List.isEmpty_iff, List.filter_eq_nil_iff]
      intro n hn'
      rw [cn n hn']; decide
    rw [en]
    refine iteF ?_
    have nums : ∀ u ∈ rows, NmOk u.2.2.1 ∧ NmOk u.2.2.2.2.2 := fun u hu => ⟨okN_iff.mp (cn _ (List.mem_flatMap.mpr ⟨u, hu, by simp⟩)), okN_iff.mp (cn _ (List.mem_flatMap.mpr ⟨u, hu, by simp⟩))⟩
    have h3 := z13 _ _ h1
    have u3 := u1.mono (.same z13)
    generalize (upd H2 l3 (.lst [])) = H3 at z3 h3 u3
    have hL3 := z3 _ _ hL
    have ta3 := ta.mono (.same z3)
    refine ⟨_, rfl, L, rfl, ⟨_, SqL.of hL3⟩, fun Lf hLf => ?_⟩
    refine lc_list (xs := rs.map V.ref) (fun j H' => ∃ fs : List Addr, H' Lf = some (.lst (fs.map V.ref)) ∧ TA rwV H' fs ((rows.take j).filter fun u => decide (one u = oth u)) ∧ Same H3 H') ?_ ?_ ?_ ?_
    · exact ⟨[], upd_same, .nil _ _, same_new hLf⟩
    · rintro j H4 hj ⟨fs, h4, u4, z4⟩
      exact SqL.of (z4 _ _ hL3)
    · rintro j y H4 hy ⟨fs, h4, u4, z4⟩
      obtain ⟨r, hr', rfl⟩ := ref_at hy
      obtain ⟨u, hu, e⟩ := ta3.at_ j r hr'
      have tu := tx u (List.mem_of_getElem? hu)
      have e4 := z4 _ _ e
      have fl := u4.len
      have fl2 := List.length_filter_le (fun u => decide (one u = oth u)) (rows.take j)
      have tl := List.length_take_le' j rows
      have et : rows.take (j + 1) = rows.take j ++ [u] := by rw [List.take_succ, hu]; rfl
      refine ⟨rfl, ?_⟩
      refine ⟨_, rfl, r, _, 0, _, rfl, rfl, SqT.of e4, at_of (j := 0) (by decide) rfl, _, rfl, r, _, 1, _, rfl, rfl, SqT.of e4, at_of (j := 1) (by decide) rfl, (by show 2 ≤ sizeLine; decide), fun p1 hp1 => ?_⟩
      have s5 := same_new (o := .tup (gdV (one u))) hp1
      have f5 := new_at (o := .tup (gdV (one u))) hp1
      have e5 := s5 _ _ e4
      refine ⟨_, rfl, r, _, 3, _, rfl, rfl, SqT.of e5, at_of (j := 3) (by decide) rfl, _, rfl, r, _, 4, _, rfl, rfl, SqT.of e5, at_of (j := 4) (by decide) rfl, (by show 2 ≤ sizeLine; decide), fun p2 hp2 => ?_⟩
      have s6 := same_new (o := .tup (gdV (oth u))) hp2
      have f6 := new_at (o := .tup (gdV (oth u))) hp2
      have s56 := s5.trans s6
      refine ⟨gdD (one u), gdD (oth u), dp_gd _ _ (s6 _ _ f5), dp_gd _ _ f6, (gd_lay ⟨tu.1.2, tu.2.1.2⟩).shaped (by decide), (gd_lay ⟨tu.2.2.1.2, tu.2.2.2.2⟩).shaped (by decide), _, rfl, ?_⟩
      have ee : PyData.eqv (gdD (one u)) (gdD (oth u)) = decide (one u = oth u) := eqv_gd _ _
      rw [ee]
      have h6 := s56 _ _ h4
      have u6 := u4.mono (.same s56)
      refine ite2 (fun g => ?_) (fun g => ?_)
      · have t7 : Tups _ (upd (upd (upd H4 p1 (.tup (gdV (one u)))) p2 (.tup (gdV (oth u)))) Lf (.lst (fs.map V.ref ++ [V.ref r]))) := Tups.upd h6
        refine ⟨_, rfl, _, h6, small1000 (by rw [List.length_map]; omega), fs ++ [r], by rw [upd_same, List.map_append]; rfl, ?_, fun b o e => ?_⟩
        · rw [et, List.filter_append, List.filter_cons, if_pos g]
          exact (u6.mono t7).snoc (t7 _ _ (s56 _ _ e4))
        · rw [upd_ne (ne_of_none e hLf)]; exact s56 _ _ (z4 b o e)
      · refine ⟨fs, h6, ?_, z4.trans s56⟩
        rw [et, List.filter_append, List.filter_cons, if_neg g, List.filter_nil, List.append_nil]
        exact u6
    rintro H4 ⟨fs, h4, u4, z4⟩
    rw [List.length_map, ta.len, List.take_length] at u4
    refine ⟨(by decide), fun l5 hl5 => ?_⟩
    have s5 := same_new (o := .lst []) hl5
    refine ⟨.list ((rows.filter fun u => decide (one u = oth u)).map rwD), .list [], .lst (SqL.of (s5 _ _ h4)) (TA.dp dp_rw (u4.mono (.same s5))), .lst (SqL.of upd_same) .nil, (Lay.list (rws_lay (n := 1000) fun u hu => tx u (List.mem_filter.mp hu).1)).shaped (by decide), rfl, _, rfl, ?_⟩
    rw [eqv_nil, List.isEmpty_map]
    have z35 := z4.trans s5
    have z5 := z3.trans z35
    by_cases co : ∀ u ∈ rows, one u ≠ oth u
    case neg =>
      have en : (rows.filter fun u => decide (one u = oth u)).isEmpty = false := by
        rw [Bool.eq_false_iff]
        intro z
        rw [List.isEmpty_iff, List.filter_eq_nil_iff] at z
        exact co fun u hu e => z u hu (decide_eq_true e)
      rw [en]
      exact iteT (bad (fun z => co fun u hu => (z.1 u hu).2.2) _ z5)
    have en : (rows.filter fun u => decide (one u = oth u)).isEmpty = true := by
      rw [List.isEmpty_iff, List.filter_eq_nil_iff]
      exact fun u hu z => co u hu (of_decide_eq_true z)
    rw [en]
    refine iteF ?_
    have h5 := z35 _ _ h3
    have u5 := u3.mono (.same z35)
    generalize (upd H4 l5 (.lst [])) = H5 at z5 h5 u5
    have hL5 := z5 _ _ hL
    have lr : (((rs.map V.ref).length : Nat) : Int) = (rows.length : Int) := by rw [List.length_map, ta.len]
    have lg : (((gs.map V.ref).length : Nat) : Int) = ((gOf rows).length : Int) := by rw [List.length_map, u5.len]
    refine ⟨_, rfl, L, _, rfl, .inl (SqL.of hL5), _, _, rfl, rfl, _, rfl, ?_⟩
    refine ite2 (fun c => ?_) (fun c => ?_)
    case refine_2 =>
      have c : ¬ (1 : Int) ≤ ((rs.map V.ref).length : Nat) := fun z => c (decide_eq_true z)
      exact ⟨_, rfl, iteT (iteT (bad (fun z => by have := z.2.1; omega) _ z5))⟩
    have c : (1 : Int) ≤ ((rs.map V.ref).length : Nat) := of_decide_eq_true c
    refine ⟨_, _, rfl, rfl, _, rfl, ?_⟩
    by_cases c2 : ((rs.map V.ref).length : Int) ≤ 40
    case neg =>
      rw [decide_eq_false c2]
      exact iteT (iteT (bad (fun z => by have := z.2.2.1; omega) _ z5))
    rw [decide_eq_true c2]
    refine iteF ?_
    refine ⟨_, rfl, Lg, _, rfl, .inl (SqL.of h5), _, _, rfl, rfl, _, rfl, ?_⟩
    refine ite2 (fun c3 => ?_) (fun c3 => ?_)
    · have c3 : (16 : Int) < ((gs.map V.ref).length : Nat) := of_decide_eq_true c3
      exact bad (fun z => by have := z.2.2.2; omega) _ z5
    · have c3 : ¬ (16 : Int) < ((gs.map V.ref).length : Nat) := fun z => c3 (decide_eq_true z)
      have good : GoodT rows := ⟨hn, fun u hu => ⟨(nums u hu).1, (nums u hu).2, co u hu⟩, by omega, by omega, by omega⟩
      refine ⟨_, rfl, Lg, _, rfl, .inl ⟨SqL.of h5, fun p hp => ?_⟩⟩
      have s6 := same_new (o := .tup (gs.map V.ref)) hp
      exact q _ _ (z5.trans s6) (.inl ⟨good, p, gs, rfl, upd_same, u5.mono (.same s6)⟩)
end
end Ck
set_option Elab.async false
set_option linter.all false
set_option pp.maxSteps 1500
set_option maxRecDepth 100000
set_option maxHeartbeats 4000000
namespace Ck
open PySem L2
theorem cut_drop {xs : List V} {m : Int} (h : 0 ≤ m) (h2 : m ≤ xs.length) : cutV xs (some m) none = xs.drop m.toNat := by
  unfold cutV
  have e2 : HT.sIx xs.length xs.length none = xs.length := rfl
  have e1 : HT.sIx xs.length 0 (some m) = m.toNat := by
    unfold HT.sIx
    dsimp only
    rw [if_neg (by omega)]
    omega
  rw [e2, e1, ← List.length_drop, List.take_length]
theorem TA.take {α : Type} {f : α → List V} {H : Hp} {rs : List Addr} {xs : List α} (h : TA f H rs xs) (n : Nat) : TA f H (rs.take n) (xs.take n) := by
  refine ⟨by rw [List.length_take, List.length_take, h.len], fun i r e => ?_⟩
  rw [List.getElem?_take] at e ⊢
  split at e
  · next c => rw [if_pos c]; exact h.at_ i r e
  · cases e
theorem TA.drop {α : Type} {f : α → List V} {H : Hp} {rs : List Addr} {xs : List α} (h : TA f H rs xs) (n : Nat) : TA f H (rs.drop n) (xs.drop n) := by
  refine ⟨by rw [List.length_drop, List.length_drop, h.len], fun i r e => ?_⟩
  rw [List.getElem?_drop] at e ⊢
  exact h.at_ _ r e
theorem TA.rep {α : Type} {f : α → List V} {H : Hp} {rs : List Addr} {xs : List α} (h : TA f H rs xs) : ∀ k : Nat, TA f H (List.replicate k rs).flatten (List.replicate k xs).flatten
  | 0 => .nil _ _
  | k + 1 => by
    rw [List.replicate_succ, List.replicate_succ, List.flatten_cons, List.flatten_cons]
    exact h.app (TA.rep h k)
theorem rep_map (rs : List Addr) : ∀ k : Nat, (List.replicate k (rs.map V.ref)).flatten = ((List.replicate k rs).flatten).map V.ref
  | 0 => rfl
  | k + 1 => by rw [List.replicate_succ, List.replicate_succ, List.flatten_cons, List.flatten_cons, List.map_append, rep_map rs k]
theorem rep_mem {α : Type} {xs : List α} {x : α} {k : Nat} (h : x ∈ (List.replicate k xs).flatten) : x ∈ xs := by
  obtain ⟨l, hl, hx⟩ := List.mem_flatten.mp h
  rw [List.eq_of_mem_replicate hl] at hx
  exact hx
theorem Tx.mono {n m : Nat} {x : Str} (h : Tx n x) (l : n ≤ m) : Tx m x := ⟨by have := h.1; omega, h.2⟩
theorem RTx.mono {n m : Nat} {u : RW} (h : RTx n u) (l : n ≤ m) : RTx m u := ⟨h.1.mono l, h.2.1.mono l, h.2.2.1.mono l, h.2.2.2.mono l⟩
theorem Tx.name {x : Str} (h : nameOk x = true) : Tx 8 x := ⟨(nameOk_iff.mp h).2.1, nameOk.okt h⟩
def nms7 (a b : Str) : List Str := [Str.ofString "", Str.ofString "A" ++ cutS a (some 1) none, b ++ Str.ofString " ", Str.ofString "abcdefgh" ++ cutS a none (some 1), cutS b none (some 6) ++ Str.ofString "1", Str.ofString "-", cutS a none (some 3) ++ Str.ofString "_a"]
theorem okA : Okt "A" := by unfold Okt; decide +kernel
theorem okS : Okt " " := by unfold Okt; decide +kernel
theorem ok8 : Okt "abcdefgh" := by unfold Okt; decide +kernel
theorem ok1 : Okt "1" := by unfold Okt; decide +kernel
theorem okM : Okt "-" := by unfold Okt; decide +kernel
theorem okU : Okt "_a" := by unfold Okt; decide +kernel
theorem nms7_tx {n : Nat} {a b x : Str} (ha : Tx n a) (hb : Tx n b) (h9 : 9 ≤ n) (h : x ∈ nms7 a b) : Tx (n + 1) x := by
  unfold nms7 at h
  simp only [List.mem_cons, List.not_mem_nil, or_false] at h
  have la := ha.1
  have lb := hb.1
  rcases h with rfl | rfl | rfl | rfl | rfl | rfl | rfl
  · exact ⟨Nat.zero_le _, by unfold Okt; decide +kernel⟩
  · refine ⟨?_, okA.append (ha.2.cut _ _)⟩
    rw [len_app, len_from a (by decide)]
    show 1 + _ ≤ _
    omega
  · refine ⟨?_, hb.2.append okS⟩
    rw [len_app]
    show _ + 1 ≤ _
    omega
  · refine ⟨?_, ok8.append (ha.2.cut _ _)⟩
    rw [len_app, len_to a (by decide)]
    show 8 + min 1 _ ≤ _
    omega
  · refine ⟨?_, (hb.2.cut _ _).append ok1⟩
    rw [len_app, len_to b (by decide)]
    show min 6 _ + 1 ≤ _
    omega
  · exact ⟨by show 1 ≤ _; omega, okM⟩
  · refine ⟨?_, (ha.2.cut _ _).append okU⟩
    rw [len_app, len_to a (by decide)]
    show min 3 _ + 2 ≤ _
    omega
section
variable {P : Program} {w : World} {K : PySem.W.Frag} {mg : Str → Option Value} {base : Heap} {t : Ad}
def spSpoilt (K : PySem.W.Frag) : Sp := fun vs H Q _ => ∃ (d a L Lw : Addr) (ns : List Int) (rs : List Addr) (rows : List RW) (ws : List Str) (n : Nat), vs = [.ref d, .ref L, .ref Lw] ∧ DrawAt K H d a ns ∧ H L = some (.lst (rs.map V.ref)) ∧ TA rwV H rs rows ∧ rows.length ≠ 0 ∧ rows.length ≤ 41 ∧ (∀ u ∈ rows, RTx n u) ∧ 9 ≤ n ∧ n ≤ 100 ∧ H Lw = some (.lst (ws.map V.str)) ∧ ws.length = 5 ∧ (∀ x ∈ ws, nameOk x = true) ∧ L ≠ d ∧ Lw ≠ d ∧
  ∀ (L' : Addr) (rs' : List Addr) (rows' : List RW) (H' : Hp), H' L' = some (.lst (rs'.map V.ref)) → TA rwV H' rs' rows' → rows'.length ≤ 41 → (∀ u ∈ rows', RTx (n + 1) u) → L' ≠ d → DrawAt K H' d a ns → Keep d H H' → Q (.ref L') H'
theorem ok_spoilt (T : Env K mg t) : FnOk P w K mg base CX0 3 t.a_l_spoilt t.fd_l_spoilt ["_law_draw", "_law_rows_here", "_law_words_here"] (spSpoilt K) := by
  have G_l_next : FnOk P w K mg base CX0 2 t.a_l_next t.fd_l_next ["_law_draw", "_law_size"] (spNext K) := ok_next T
  refine T.f_l_spoilt.okQ sc_l_spoilt (fun vs H Q E h => ?_) (fun cdv A outer s H vs Q E hr h => ?_)
  · obtain ⟨d, a, L, Lw, ns, rs, rows, ws, n, rfl, _⟩ := h
    rfl
  · obtain ⟨d, a, L, Lw, ns, rs, rows, ws, n, rfl, D, hL, ta, r0, r41, tx, n9, n100, hw, lw, nw, nL, nW, q⟩ := h
    have hr_l_next := hr
    refine ⟨_, (q_pss_cons (q_ps_set (i := 3) sc_l_spoilt.nd rfl (by first | exact Or.inl rfl | exact Or.inr (Or.inl rfl) | exact Or.inr rfl) (q_pe_call G_l_next hr_l_next (by rfl) T.mg_l_next T.kp_l_next T.b_l_next .nil pass0 (q_pa_cons (q_pv 0) (q_pa_cons q_pe_int q_pa_nil star_Constant) star_Name)))
      (q_pss_cons (q_ps_set (i := 4) sc_l_spoilt.nd rfl (by first | exact Or.inl rfl | exact Or.inr (Or.inl rfl) | exact Or.inr rfl) (q_pe_call G_l_next hr_l_next (by rfl) T.mg_l_next T.kp_l_next T.b_l_next .nil pass0 (q_pa_cons (q_pv 0) (q_pa_cons (q_pe_callB call_len_seq (by rfl) T.z_len PySem.boot_len (q_pa_cons (q_pv 1) q_pa_nil star_Name)) q_pa_nil star_Call) star_Name)))
      (q_pss_cons (q_ps_set (i := 5) sc_l_spoilt.nd rfl (by first | exact Or.inl rfl | exact Or.inr (Or.inl rfl) | exact Or.inr rfl) (q_pe_callTy call_list_of (by rfl) T.z_list (by decide +kernel) (q_pa_cons (q_pe_ix ix_list (q_pv 1) (q_pv 4) (fun _ _ => rfl)) q_pa_nil star_Subscript)))
      (q_pss_cons (q_ps_if (q_pt_cmpR op_lt (q_pv 3) q_pe_int (nomark _)) (q_pss_cons (q_ps_set (i := 6) sc_l_spoilt.nd rfl (by first | exact Or.inl rfl | exact Or.inr (Or.inl rfl) | exact Or.inr rfl) (q_pe_lst (q_pa_cons q_pe_str (q_pa_cons (q_pe_op op_add_str q_pe_str (q_pe_slice sl_str (q_pe_ix ix_list (q_pv 5) q_pe_int (fun _ _ => rfl)) (q_po_some q_pe_int) q_po_none)) (q_pa_cons (q_pe_op op_add_str (q_pe_ix ix_list (q_pv 5) q_pe_int (fun _ _ => rfl)) q_pe_str) (q_pa_cons (q_pe_op op_add_str q_pe_str (q_pe_slice sl_str (q_pe_ix ix_list (q_pv 5) q_pe_int (fun _ _ => rfl)) q_po_none (q_po_some q_pe_int))) (q_pa_cons (q_pe_op op_add_str (q_pe_slice sl_str (q_pe_ix ix_list (q_pv 5) q_pe_int (fun _ _ => rfl)) q_po_none (q_po_some q_pe_int)) q_pe_str) (q_pa_cons q_pe_str (q_pa_cons (q_pe_op op_add_str (q_pe_slice sl_str (q_pe_ix ix_list (q_pv 5) q_pe_int (fun _ _ => rfl)) q_po_none (q_po_some q_pe_int)) q_pe_str) q_pa_nil star_BinOp) star_Constant) star_BinOp) star_BinOp) star_BinOp) star_BinOp) star_Constant)))
      (q_pss_one (q_ps_asg (q_pe_ix ix_list (q_pv 6) (q_pe_call G_l_next hr_l_next (by rfl) T.mg_l_next T.kp_l_next T.b_l_next .nil pass0 (q_pa_cons (q_pv 0) (q_pa_cons q_pe_int q_pa_nil star_Constant) star_Name)) (fun _ _ => rfl)) (q_pg_sub (q_pv 5) (q_pe_ix ix_list (q_pe_lst (q_pa_cons q_pe_int (q_pa_cons q_pe_int (q_pa_cons q_pe_int (q_pa_cons q_pe_int q_pa_nil star_Constant) star_Constant) star_Constant) star_Constant)) (q_pe_call G_l_next hr_l_next (by rfl) T.mg_l_next T.kp_l_next T.b_l_next .nil pass0 (q_pa_cons (q_pv 0) (q_pa_cons q_pe_int q_pa_nil star_Constant) star_Name)) (fun _ _ => rfl)) set_list)))) (q_pss_one (q_ps_if (q_pt_cmpR op_lt (q_pv 3) q_pe_int (nomark _)) (q_pss_one (q_ps_asg (q_pe_ix ix_list (q_pe_lst (q_pa_cons q_pe_int (q_pa_cons (q_pe_un un_neg q_pe_int) (q_pa_cons q_pe_int (q_pa_cons q_pe_bl (q_pa_cons (q_pe_op op_pow q_pe_int q_pe_int) (q_pa_cons q_pe_bl (q_pa_cons q_pe_int q_pa_nil star_Constant) star_Constant) star_BinOp) star_Constant) star_Constant) star_UnaryOp) star_Constant)) (q_pe_call G_l_next hr_l_next (by rfl) T.mg_l_next T.kp_l_next T.b_l_next .nil pass0 (q_pa_cons (q_pv 0) (q_pa_cons q_pe_int q_pa_nil star_Constant) star_Name)) (fun _ _ => rfl)) (q_pg_sub (q_pv 5) (q_pe_ix ix_list (q_pe_lst (q_pa_cons q_pe_int (q_pa_cons q_pe_int q_pa_nil star_Constant) star_Constant)) (q_pe_call G_l_next hr_l_next (by rfl) T.mg_l_next T.kp_l_next T.b_l_next .nil pass0 (q_pa_cons (q_pv 0) (q_pa_cons q_pe_int q_pa_nil star_Constant) star_Name)) (fun _ _ => rfl)) set_list))) (q_pss_one (q_ps_if (q_pt_cmpR op_eq (q_pv 3) q_pe_int (nomark _)) (q_pss_one (q_ps_asg (q_pe_slice sl_list (q_pv 5) q_po_none (q_po_some q_pe_int)) (q_pg_slice (q_pv 5) (q_po_some q_pe_int) (q_po_some q_pe_int)))) (q_pss_one (q_ps_if (q_pt_cmpR op_eq (q_pv 3) q_pe_int (nomark _)) (q_pss_one (q_ps_ret (q_pe_ix ix_list (q_pe_lst (q_pa_cons (q_pe_lst q_pa_nil) (q_pa_cons (q_pe_callTy call_list_of (by rfl) T.z_list (by decide +kernel) (q_pa_cons (q_pe_slice sl_list (q_pv 1) q_po_none (q_po_some q_pe_int)) q_pa_nil star_Subscript)) q_pa_nil star_Call) star_List)) (q_pe_call G_l_next hr_l_next (by rfl) T.mg_l_next T.kp_l_next T.b_l_next .nil pass0 (q_pa_cons (q_pv 0) (q_pa_cons q_pe_int q_pa_nil star_Constant) star_Name)) (fun _ _ => rfl)))) (q_pss_one (q_ps_if (q_pt_cmpR op_eq (q_pv 3) q_pe_int (nomark _)) (q_pss_one (q_ps_ret (q_pe_slice sl_list (q_pe_op op_rep (q_pe_callTy call_list_of (by rfl) T.z_list (by decide +kernel) (q_pa_cons (q_pv 1) q_pa_nil star_Name)) q_pe_int) q_po_none (q_po_some (q_pe_op op_add q_pe_int (q_pe_call G_l_next hr_l_next (by rfl) T.mg_l_next T.kp_l_next T.b_l_next .nil pass0 (q_pa_cons (q_pv 0) (q_pa_cons q_pe_int q_pa_nil star_Constant) star_Name))))))) (q_pss_one (q_ps_if (q_pt_cmpR op_eq (q_pv 3) q_pe_int (nomark _)) (q_pss_cons (q_ps_set (i := 7) sc_l_spoilt.nd rfl (by first | exact Or.inl rfl | exact Or.inr (Or.inl rfl) | exact Or.inr rfl) (q_pe_lc (own := [("_law_k", 8)]) (g := gName 8) (by rfl) sc_l_spoilt.nd (q_pi_range1 (by rfl) T.z_range (q_pa_cons (q_pe_op op_add q_pe_int (q_pe_call G_l_next hr_l_next (by rfl) T.mg_l_next T.kp_l_next T.b_l_next .nil pass0 (q_pa_cons (q_pv 0) (q_pa_cons q_pe_int q_pa_nil star_Constant) star_Name))) q_pa_nil star_BinOp)) (blkOk_by (own := [("_law_k", 8)]) (N := ["_law_draw", "_law_rows_here", "_law_words_here", "_law_way", "_law_at", "_law_row", "_law_names", "_law_goods_here", "_law_k"]) (sc := defScope s_l_spoilt) (by decide +kernel)) (fun _ _ _ _ _ => (q_pg_name (i := 8) sc_l_spoilt.nd rfl (by first | exact Or.inl rfl | exact Or.inr (Or.inl rfl) | exact Or.inr rfl))) (fun _ _ _ _ _ => q_pts_nil) (fun _ _ _ _ _ => (q_pe_tup (q_pa_cons (q_pe_ix (ix_listK (K := K) rfl) (q_pv 2) (q_pe_op op_mod (q_pv 8) q_pe_int) (fun _ _ => rfl)) (q_pa_cons (q_pe_ix (ix_listK (K := K) rfl) (q_pv 2) (q_pe_op op_fdiv (q_pv 8) q_pe_int) (fun _ _ => rfl)) q_pa_nil star_Subscript) star_Subscript)))))
      (q_pss_one (q_ps_ret (q_pe_lc (own := [("_law_k", 8)]) (g := gName 8) (by rfl) sc_l_spoilt.nd (q_pi_range2 (by rfl) T.z_range (q_pa_cons q_pe_int (q_pa_cons (q_pe_callB call_len_seq (by rfl) T.z_len PySem.boot_len (q_pa_cons (q_pv 7) q_pa_nil star_Name)) q_pa_nil star_Call) star_Constant)) (blkOk_by (own := [("_law_k", 8)]) (N := ["_law_draw", "_law_rows_here", "_law_words_here", "_law_way", "_law_at", "_law_row", "_law_names", "_law_goods_here", "_law_k"]) (sc := defScope s_l_spoilt) (by decide +kernel)) (fun _ _ _ _ _ => (q_pg_name (i := 8) sc_l_spoilt.nd rfl (by first | exact Or.inl rfl | exact Or.inr (Or.inl rfl) | exact Or.inr rfl))) (fun _ _ _ _ _ => q_pts_nil) (fun _ _ _ _ _ => (q_pe_op (op_catTK (K := K) rfl) (q_pe_op (op_catTK (K := K) rfl) (q_pe_op (op_catTK (K := K) rfl) (q_pe_ix (ix_listK (K := K) rfl) (q_pv 7) (q_pe_op op_sub (q_pv 8) q_pe_int) (fun _ _ => rfl)) (q_pe_tup (q_pa_cons (q_pv 8) q_pa_nil star_Name))) (q_pe_ix (ix_listK (K := K) rfl) (q_pv 7) (q_pv 8) (fun _ _ => rfl))) (q_pe_tup (q_pa_cons q_pe_int q_pa_nil star_Constant)))))))) q_pss_nil)))))))))))
      (q_pss_one (q_ps_ret (q_pe_op op_cat (q_pe_op op_cat (q_pe_callTy call_list_of (by rfl) T.z_list (by decide +kernel) (q_pa_cons (q_pe_slice sl_list (q_pv 1) q_po_none (q_po_some (q_pv 4))) q_pa_nil star_Subscript)) (q_pe_lst (q_pa_cons (q_pe_callTy call_tuple_of (by rfl) T.z_tuple (by decide +kernel) (q_pa_cons (q_pv 5) q_pa_nil star_Name)) q_pa_nil star_Call))) (q_pe_callTy call_list_of (by rfl) T.z_list (by decide +kernel) (q_pa_cons (q_pe_slice sl_list (q_pv 1) (q_po_some (q_pe_op op_add (q_pv 4) q_pe_int)) q_po_none) q_pa_nil star_Subscript))))))))), ?_⟩
    have rl := ta.len
    have rm : (rs.map V.ref).length = rs.length := List.length_map _
    refine ⟨_, rfl, d, a, ns, _, rfl, D, by decide, fun wy H1 w0 w1 D1 k1 => ?_⟩
    have hL1 := k1 _ _ hL nL
    refine ⟨_, rfl, _, rfl, L, _, rfl, .inl (SqL.of hL1), d, a, ns, _, rfl, D1, by omega, fun at' H2 t0 t1 D2 k2 => ?_⟩
    have hL2 := k2 _ _ hL1 nL
    have k12 := k1.trans k2
    have ta2 := ta.mono (D.tups k12)
    have hat : at'.toNat < rs.length := by omega
    obtain ⟨u, hu, eu⟩ := ta2.at_ at'.toNat _ (List.getElem?_eq_getElem hat)
    have tu := tx u (List.mem_of_getElem? hu)
    refine ⟨_, rfl, _, rfl, L, _, at', .ref (rs[at'.toNat]'hat), rfl, rfl, SqL.of hL2, at_of (j := at'.toNat) (by omega) (by rw [List.getElem?_map, List.getElem?_eq_getElem hat]; rfl), _, rwV u, rfl, .inr (SqT.of eu), fun Lr hLr => ?_⟩
    have s3 := same_new (o := .lst (rwV u)) hLr
    have f3 := new_at (o := .lst (rwV u)) hLr
    have nLr := D2.ne hLr
    have D3 := D2.same s3
    have K3 := k12.trans (.of s3)
    have hL3 := s3 _ _ hL2
    have nLL : L ≠ Lr := ne_of_none hL2 hLr
    have ta3 := ta2.mono (.same s3)
    have hLrH : H Lr = none := by
      cases e : H Lr with
      | none => rfl
      | some o => rw [k12 _ _ e nLr] at hLr; cases hLr
    generalize (upd H2 Lr (.lst (rwV u))) = H3 at f3 D3 K3 hL3 ta3
    clear hL1 k1 k2 hL2 ta2 eu
    refine ⟨_, rfl, _, _, rfl, rfl, _, rfl, ?_⟩
    refine ite2 (fun c0 => ?w0) (fun c0 => ?n0)
    case' w0 =>
      clear c0
      have l1 := tu.1.1
      have l2 := tu.2.1.1
      have lz1 : u.1.length ≤ sizeLine := Nat.le_of_lt (small1000 (by omega))
      have lz2 : u.2.1.length ≤ sizeLine := Nat.le_of_lt (small1000 (by omega))
      have c1 := len_cut u.1 (some 1) none
      have c2 := len_cut u.1 none (some 1)
      have c3 := len_cut u.2.1 none (some 6)
      have c4 := len_cut u.1 none (some 3)
      refine ⟨_, rfl, Lr, _, 0, _, rfl, rfl, SqL.of f3, at_of (j := 0) (by decide) rfl, 1, rfl, u.1, rfl, lz1, _, _, rfl, rfl, Nat.le_of_lt (small1000 (by show 1 + _ ≤ _; omega)), ?_⟩
      refine ⟨_, rfl, Lr, _, 1, _, rfl, rfl, SqL.of f3, at_of (j := 1) (by decide) rfl, _, _, rfl, rfl, Nat.le_of_lt (small1000 (by show _ + 1 ≤ _; omega)), ?_⟩
      refine ⟨_, rfl, Lr, _, 0, _, rfl, rfl, SqL.of f3, at_of (j := 0) (by decide) rfl, 1, rfl, u.1, rfl, lz1, _, _, rfl, rfl, Nat.le_of_lt (small1000 (by show 8 + _ ≤ _; omega)), ?_⟩
      refine ⟨_, rfl, Lr, _, 1, _, rfl, rfl, SqL.of f3, at_of (j := 1) (by decide) rfl, 6, rfl, u.2.1, rfl, lz2, _, _, rfl, rfl, Nat.le_of_lt (small1000 (by show _ + 1 ≤ _; omega)), ?_⟩
      refine ⟨_, rfl, Lr, _, 0, _, rfl, rfl, SqL.of f3, at_of (j := 0) (by decide) rfl, 3, rfl, u.1, rfl, lz1, _, _, rfl, rfl, Nat.le_of_lt (small1000 (by show _ + 2 ≤ _; omega)), ?_⟩
      refine ⟨(by show 7 ≤ sizeLine; decide), fun p hp => ?_⟩
      have s4 := same_new (o := .lst ((nms7 u.1 u.2.1).map V.str)) hp
      have f4 : (upd H3 p (.lst ((nms7 u.1 u.2.1).map V.str))) p = _ := upd_same
      have D4 := D3.same s4
      have np := D3.ne hp
      refine ⟨_, rfl, _, rfl, d, a, ns, _, rfl, D4, by decide, fun j H5 j0 j1 D5 k5 => ?_⟩
      obtain ⟨v, hv, hm⟩ := at_bound (xs := (nms7 u.1 u.2.1).map V.str) j0 j1
      obtain ⟨nm, hnm, rfl⟩ := List.mem_map.mp hm
      have tnm := nms7_tx tu.1 tu.2.1 n9 hnm
      refine ⟨p, _, j, _, rfl, rfl, SqL.of (k5 _ _ f4 np), hv, ?_⟩
      have f5 := k5 _ _ (s4 _ _ f3) nLr
      refine ⟨_, rfl, (by show 4 ≤ sizeLine; decide), fun p6 hp6 => ?_⟩
      have s6 := same_new (o := .lst (([0, 1, 3, 4] : List Int).map V.int)) hp6
      have f6 : (upd H5 p6 (.lst (([0, 1, 3, 4] : List Int).map V.int))) p6 = _ := upd_same
      have D6 := D5.same s6
      refine ⟨_, rfl, d, a, ns, _, rfl, D6, by decide, fun z H7 z0 z1 D7 k7 => ?_⟩
      obtain ⟨v, hv, hm⟩ := at_bound (xs := ([0, 1, 3, 4] : List Int).map V.int) z0 z1
      obtain ⟨kz, hkz, rfl⟩ := List.mem_map.mp hm
      have k57 := ((Keep.of s4).trans k5).trans ((Keep.of s6).trans k7)
      have f7 := k57 _ _ f3 nLr
      obtain ⟨jz, u', ej, eu', tu'⟩ : ∃ jz u', ixN (rwV u).length kz = some jz ∧ (rwV u).set jz (.str nm) = rwV u' ∧ RTx (n + 1) u' := by
        have m := tu.mono (Nat.le_succ n)
        simp only [List.mem_cons, List.not_mem_nil, or_false] at hkz
        rcases hkz with rfl | rfl | rfl | rfl
        · exact ⟨0, (nm, u.2.1, u.2.2.1, u.2.2.2.1, u.2.2.2.2.1, u.2.2.2.2.2), rfl, rfl, tnm, m.2.1, m.2.2.1, m.2.2.2⟩
        · exact ⟨1, (u.1, nm, u.2.2.1, u.2.2.2.1, u.2.2.2.2.1, u.2.2.2.2.2), rfl, rfl, m.1, tnm, m.2.2.1, m.2.2.2⟩
        · exact ⟨3, (u.1, u.2.1, u.2.2.1, nm, u.2.2.2.2.1, u.2.2.2.2.2), rfl, rfl, m.1, m.2.1, tnm, m.2.2.2⟩
        · exact ⟨4, (u.1, u.2.1, u.2.2.1, u.2.2.2.1, nm, u.2.2.2.2.2), rfl, rfl, m.1, m.2.1, m.2.2.1, tnm⟩
      refine ⟨p6, _, z, _, rfl, rfl, SqL.of (k7 _ _ f6 (D5.ne hp6)), hv, Lr, _, kz, jz, rfl, rfl, f7, ej, ?_⟩
      rw [eu']
      have f9 : (upd H7 Lr (.lst (rwV u'))) Lr = some (.lst (rwV u')) := upd_same
      have D9 := D7.upd (o := .lst (rwV u')) nLr (nofrz f7)
      have K9 : Keep d H (upd H7 Lr (.lst (rwV u'))) := (K3.trans k57).updNew hLrH
      have hL9 : (upd H7 Lr (.lst (rwV u'))) L = some (.lst (rs.map V.ref)) := by rw [upd_ne nLL]; exact k57 _ _ hL3 nL
      have ta9 := (ta3.mono (D3.tups k57)).mono (Tups.upd (o := .lst (rwV u')) f7)
      generalize (upd H7 Lr (.lst (rwV u'))) = H9 at f9 D9 K9 hL9 ta9
    case w0 =>
      refine ⟨_, rfl, _, rfl, at', rfl, L, _, rfl, SqL.of hL9, fun q1 hq1 => ?_⟩
      rw [cut_take t0, ← List.map_take]
      have s1 := same_new (o := .lst ((rs.take at'.toNat).map V.ref)) hq1
      have g1 := new_at (o := .lst ((rs.take at'.toNat).map V.ref)) hq1
      refine ⟨q1, _, rfl, .inl (SqL.of g1), fun q2 hq2 => ?_⟩
      have s2 := same_new (o := .lst ((rs.take at'.toNat).map V.ref)) hq2
      have g2 := new_at (o := .lst ((rs.take at'.toNat).map V.ref)) hq2
      refine ⟨_, rfl, Lr, _, rfl, .inl ⟨SqL.of (s2 _ _ (s1 _ _ f9)), fun tq htq => ?_⟩⟩
      have s3' := same_new (o := .tup (rwV u')) htq
      have g3 := new_at (o := .tup (rwV u')) htq
      refine ⟨(by show 1 ≤ sizeLine; decide), fun q3 hq3 => ?_⟩
      have s4' := same_new (o := .lst ([tq].map V.ref)) hq3
      have g4 := new_at (o := .lst ([tq].map V.ref)) hq3
      refine ⟨q2, q3, _, _, rfl, rfl, s4' _ _ (s3' _ _ g2), g4, Nat.le_of_lt (small1000 (by rw [List.length_map, List.length_take]; show _ + 1 ≤ 1000; omega)), fun q4 hq4 => ?_⟩
      rw [← List.map_append]
      have s5' := same_new (o := .lst ((rs.take at'.toNat ++ [tq]).map V.ref)) hq4
      have g5 := new_at (o := .lst ((rs.take at'.toNat ++ [tq]).map V.ref)) hq4
      have sB := (((s1.trans s2).trans s3').trans s4').trans s5'
      refine ⟨_, rfl, _, rfl, _, _, rfl, rfl, at' + 1, rfl, L, _, rfl, SqL.of (sB _ _ hL9), fun q5 hq5 => ?_⟩
      rw [cut_drop (by omega) (by omega), ← List.map_drop]
      have s6' := same_new (o := .lst ((rs.drop (at' + 1).toNat).map V.ref)) hq5
      have g6 := new_at (o := .lst ((rs.drop (at' + 1).toNat).map V.ref)) hq5
      refine ⟨q5, _, rfl, .inl (SqL.of g6), fun q6 hq6 => ?_⟩
      have s7' := same_new (o := .lst ((rs.drop (at' + 1).toNat).map V.ref)) hq6
      have g7 := new_at (o := .lst ((rs.drop (at' + 1).toNat).map V.ref)) hq6
      refine ⟨q4, q6, _, _, rfl, rfl, s7' _ _ (s6' _ _ g5), g7, Nat.le_of_lt (small1000 (by rw [List.length_map, List.length_map, List.length_append, List.length_take, List.length_drop]; show _ + 1 + _ ≤ 1000; omega)), fun q8 hq8 => ?_⟩
      rw [← List.map_append]
      have s8' := same_new (o := .lst ((rs.take at'.toNat ++ [tq] ++ rs.drop (at' + 1).toNat).map V.ref)) hq8
      have sC := ((sB.trans s6').trans s7').trans s8'
      have taC := ta9.mono (.same sC)
      have DC := (((D9.same sB).same s6').same s7')
      have tq9 : TA rwV _ [tq] [u'] := (TA.nil rwV _).snoc (s8' _ _ (s7' _ _ (s6' _ _ (s5' _ _ (s4' _ _ g3)))))
      refine q q8 _ (rows.take at'.toNat ++ [u'] ++ rows.drop (at' + 1).toNat) _ upd_same (((taC.take _).app tq9).app (taC.drop _)) ?_ ?_ (DC.ne hq8) (D9.same sC) (K9.trans (.of sC))
      · rw [List.length_append, List.length_append, List.length_take, List.length_drop]
        show _ + 1 + _ ≤ _
        omega
      · intro v hv
        rcases List.mem_append.mp hv with z | z
        · rcases List.mem_append.mp z with z | z
          · exact (tx v (List.mem_of_mem_take z)).mono (Nat.le_succ n)
          · rw [List.mem_singleton.mp z]; exact tu'
        · exact (tx v (List.mem_of_mem_drop z)).mono (Nat.le_succ n)
    refine ⟨_, rfl, _, _, rfl, rfl, _, rfl, ?_⟩
    refine ite2 (fun c1 => ?w1) (fun c1 => ?n1)
    case' w1 =>
      clear c1
      refine ⟨_, rfl, _, _, rfl, rfl, ⟨by decide, by decide, by decide⟩, (by show 7 ≤ sizeLine; decide), fun p hp => ?_⟩
      have s4 := same_new (o := .lst [V.int 0, V.int (-1), V.int 1000001, V.bl true, V.int ((10 : Int) ^ (30 : Int).toNat), V.bl false, V.int 1000000]) hp
      have f4 := new_at (o := .lst [V.int 0, V.int (-1), V.int 1000001, V.bl true, V.int ((10 : Int) ^ (30 : Int).toNat), V.bl false, V.int 1000000]) hp
      have D4 := D3.same s4
      have np := D3.ne hp
      refine ⟨_, rfl, d, a, ns, _, rfl, D4, by decide, fun j H5 j0 j1 D5 k5 => ?_⟩
      obtain ⟨v, hv, hm⟩ := at_bound (xs := [V.int 0, V.int (-1), V.int 1000001, V.bl true, V.int ((10 : Int) ^ (30 : Int).toNat), V.bl false, V.int 1000000]) j0 j1
      obtain ⟨nm, rfl⟩ : ∃ nm : Nm, v = nV nm := by
        simp only [List.mem_cons, List.not_mem_nil, or_false] at hm
        rcases hm with rfl | rfl | rfl | rfl | rfl | rfl | rfl
        · exact ⟨.inl _, rfl⟩
        · exact ⟨.inl _, rfl⟩
        · exact ⟨.inl _, rfl⟩
        · exact ⟨.inr _, rfl⟩
        · exact ⟨.inl _, rfl⟩
        · exact ⟨.inr _, rfl⟩
        · exact ⟨.inl _, rfl⟩
      refine ⟨p, _, j, _, rfl, rfl, SqL.of (k5 _ _ f4 np), hv, ?_⟩
      have f5 := k5 _ _ (s4 _ _ f3) nLr
      refine ⟨_, rfl, (by show 2 ≤ sizeLine; decide), fun p6 hp6 => ?_⟩
      have s6 := same_new (o := .lst (([2, 5] : List Int).map V.int)) hp6
      have f6 : (upd H5 p6 (.lst (([2, 5] : List Int).map V.int))) p6 = _ := upd_same
      have D6 := D5.same s6
      refine ⟨_, rfl, d, a, ns, _, rfl, D6, by decide, fun z H7 z0 z1 D7 k7 => ?_⟩
      obtain ⟨v, hv, hm⟩ := at_bound (xs := ([2, 5] : List Int).map V.int) z0 z1
      obtain ⟨kz, hkz, rfl⟩ := List.mem_map.mp hm
      have k57 := ((Keep.of s4).trans k5).trans ((Keep.of s6).trans k7)
      have f7 := k57 _ _ f3 nLr
      obtain ⟨jz, u', ej, eu', tu'⟩ : ∃ jz u', ixN (rwV u).length kz = some jz ∧ (rwV u).set jz (nV nm) = rwV u' ∧ RTx (n + 1) u' := by
        have m := tu.mono (Nat.le_succ n)
        simp only [List.mem_cons, List.not_mem_nil, or_false] at hkz
        rcases hkz with rfl | rfl
        · exact ⟨2, (u.1, u.2.1, nm, u.2.2.2.1, u.2.2.2.2.1, u.2.2.2.2.2), rfl, rfl, m⟩
        · exact ⟨5, (u.1, u.2.1, u.2.2.1, u.2.2.2.1, u.2.2.2.2.1, nm), rfl, rfl, m⟩
      refine ⟨p6, _, z, _, rfl, rfl, SqL.of (k7 _ _ f6 (D5.ne hp6)), hv, Lr, _, kz, jz, rfl, rfl, f7, ej, ?_⟩
      rw [eu']
      have f9 : (upd H7 Lr (.lst (rwV u'))) Lr = some (.lst (rwV u')) := upd_same
      have D9 := D7.upd (o := .lst (rwV u')) nLr (nofrz f7)
      have K9 : Keep d H (upd H7 Lr (.lst (rwV u'))) := (K3.trans k57).updNew hLrH
      have hL9 : (upd H7 Lr (.lst (rwV u'))) L = some (.lst (rs.map V.ref)) := by rw [upd_ne nLL]; exact k57 _ _ hL3 nL
      have ta9 := (ta3.mono (D3.tups k57)).mono (Tups.upd (o := .lst (rwV u')) f7)
      generalize (upd H7 Lr (.lst (rwV u'))) = H9 at f9 D9 K9 hL9 ta9
    case w1 =>
      refine ⟨_, rfl, _, rfl, at', rfl, L, _, rfl, SqL.of hL9, fun q1 hq1 => ?_⟩
      rw [cut_take t0, ← List.map_take]
      have s1 := same_new (o := .lst ((rs.take at'.toNat).map V.ref)) hq1
      have g1 := new_at (o := .lst ((rs.take at'.toNat).map V.ref)) hq1
      refine ⟨q1, _, rfl, .inl (SqL.of g1), fun q2 hq2 => ?_⟩
      have s2 := same_new (o := .lst ((rs.take at'.toNat).map V.ref)) hq2
      have g2 := new_at (o := .lst ((rs.take at'.toNat).map V.ref)) hq2
      refine ⟨_, rfl, Lr, _, rfl, .inl ⟨SqL.of (s2 _ _ (s1 _ _ f9)), fun tq htq => ?_⟩⟩
      have s3' := same_new (o := .tup (rwV u')) htq
      have g3 := new_at (o := .tup (rwV u')) htq
      refine ⟨(by show 1 ≤ sizeLine; decide), fun q3 hq3 => ?_⟩
      have s4' := same_new (o := .lst ([tq].map V.ref)) hq3
      have g4 := new_at (o := .lst ([tq].map V.ref)) hq3
      refine ⟨q2, q3, _, _, rfl, rfl, s4' _ _ (s3' _ _ g2), g4, Nat.le_of_lt (small1000 (by rw [List.length_map, List.length_take]; show _ + 1 ≤ 1000; omega)), fun q4 hq4 => ?_⟩
      rw [← List.map_append]
      have s5' := same_new (o := .lst ((rs.take at'.toNat ++ [tq]).map V.ref)) hq4
      have g5 := new_at (o := .lst ((rs.take at'.toNat ++ [tq]).map V.ref)) hq4
      have sB := (((s1.trans s2).trans s3').trans s4').trans s5'
      refine ⟨_, rfl, _, rfl, _, _, rfl, rfl, at' + 1, rfl, L, _, rfl, SqL.of (sB _ _ hL9), fun q5 hq5 => ?_⟩
      rw [cut_drop (by omega) (by omega), ← List.map_drop]
      have s6' := same_new (o := .lst ((rs.drop (at' + 1).toNat).map V.ref)) hq5
      have g6 := new_at (o := .lst ((rs.drop (at' + 1).toNat).map V.ref)) hq5
      refine ⟨q5, _, rfl, .inl (SqL.of g6), fun q6 hq6 => ?_⟩
      have s7' := same_new (o := .lst ((rs.drop (at' + 1).toNat).map V.ref)) hq6
      have g7 := new_at (o := .lst ((rs.drop (at' + 1).toNat).map V.ref)) hq6
      refine ⟨q4, q6, _, _, rfl, rfl, s7' _ _ (s6' _ _ g5), g7, Nat.le_of_lt (small1000 (by rw [List.length_map, List.length_map, List.length_append, List.length_take, List.length_drop]; show _ + 1 + _ ≤ 1000; omega)), fun q8 hq8 => ?_⟩
      rw [← List.map_append]
      have s8' := same_new (o := .lst ((rs.take at'.toNat ++ [tq] ++ rs.drop (at' + 1).toNat).map V.ref)) hq8
      have sC := ((sB.trans s6').trans s7').trans s8'
      have taC := ta9.mono (.same sC)
      have DC := (((D9.same sB).same s6').same s7')
      have tq9 : TA rwV _ [tq] [u'] := (TA.nil rwV _).snoc (s8' _ _ (s7' _ _ (s6' _ _ (s5' _ _ (s4' _ _ g3)))))
      refine q q8 _ (rows.take at'.toNat ++ [u'] ++ rows.drop (at' + 1).toNat) _ upd_same (((taC.take _).app tq9).app (taC.drop _)) ?_ ?_ (DC.ne hq8) (D9.same sC) (K9.trans (.of sC))
      · rw [List.length_append, List.length_append, List.length_take, List.length_drop]
        show _ + 1 + _ ≤ _
        omega
      · intro v hv
        rcases List.mem_append.mp hv with z | z
        · rcases List.mem_append.mp z with z | z
          · exact (tx v (List.mem_of_mem_take z)).mono (Nat.le_succ n)
          · rw [List.mem_singleton.mp z]; exact tu'
        · exact (tx v (List.mem_of_mem_drop z)).mono (Nat.le_succ n)
    refine ⟨_, rfl, rfl, _, rfl, ?_⟩
    refine ite2 (fun c2 => ?w2) (fun c2 => ?n2)
    case' w2 =>
      clear c2
      refine ⟨_, rfl, 2, rfl, Lr, _, rfl, SqL.of f3, fun p hp => ?_⟩
      rw [cut_take (by decide)]
      have s4 := same_new (o := .lst [V.str u.1, V.str u.2.1]) hp
      have f4 : (upd H3 p (.lst ((rwV u).take (2 : Int).toNat))) p = some (.lst [V.str u.1, V.str u.2.1]) := upd_same
      have s4 : Same H3 (upd H3 p (.lst ((rwV u).take (2 : Int).toNat))) := same_new hp
      have npr : Lr ≠ p := ne_of_none f3 hp
      generalize (upd H3 p (.lst ((rwV u).take (2 : Int).toNat))) = H4 at f4 s4
      have f5 := s4 _ _ f3
      refine ⟨_, rfl, _, rfl, _, rfl, Lr, p, _, _, 3, 5, rfl, rfl, npr, f5, f4, rfl, rfl, by decide, by show 5 ≤ 6; decide, (by show 6 + 2 ≤ sizeLine; decide), ?_⟩
      obtain ⟨u', eu', tu'⟩ : ∃ u', (rwV u).take 3 ++ [V.str u.1, V.str u.2.1] ++ (rwV u).drop 5 = rwV u' ∧ RTx (n + 1) u' := by
        have m := tu.mono (Nat.le_succ n)
        exact ⟨(u.1, u.2.1, u.2.2.1, u.1, u.2.1, u.2.2.2.2.2), rfl, m.1, m.2.1, m.1, m.2.1⟩
      rw [eu']
      have k57 : Keep d H3 H4 := .of s4
      have D7 := D3.same s4
      have f9 : (upd H4 Lr (.lst (rwV u'))) Lr = some (.lst (rwV u')) := upd_same
      have D9 := D7.upd (o := .lst (rwV u')) nLr (nofrz f5)
      have K9 : Keep d H (upd H4 Lr (.lst (rwV u'))) := (K3.trans k57).updNew hLrH
      have hL9 : (upd H4 Lr (.lst (rwV u'))) L = some (.lst (rs.map V.ref)) := by rw [upd_ne nLL]; exact k57 _ _ hL3 nL
      have ta9 := (ta3.mono (D3.tups k57)).mono (Tups.upd (o := .lst (rwV u')) f5)
      generalize (upd H4 Lr (.lst (rwV u'))) = H9 at f9 D9 K9 hL9 ta9
    case w2 =>
      refine ⟨_, rfl, _, rfl, at', rfl, L, _, rfl, SqL.of hL9, fun q1 hq1 => ?_⟩
      rw [cut_take t0, ← List.map_take]
      have s1 := same_new (o := .lst ((rs.take at'.toNat).map V.ref)) hq1
      have g1 := new_at (o := .lst ((rs.take at'.toNat).map V.ref)) hq1
      refine ⟨q1, _, rfl, .inl (SqL.of g1), fun q2 hq2 => ?_⟩
      have s2 := same_new (o := .lst ((rs.take at'.toNat).map V.ref)) hq2
      have g2 := new_at (o := .lst ((rs.take at'.toNat).map V.ref)) hq2
      refine ⟨_, rfl, Lr, _, rfl, .inl ⟨SqL.of (s2 _ _ (s1 _ _ f9)), fun tq htq => ?_⟩⟩
      have s3' := same_new (o := .tup (rwV u')) htq
      have g3 := new_at (o := .tup (rwV u')) htq
      refine ⟨(by show 1 ≤ sizeLine; decide), fun q3 hq3 => ?_⟩
      have s4' := same_new (o := .lst ([tq].map V.ref)) hq3
      have g4 := new_at (o := .lst ([tq].map V.ref)) hq3
      refine ⟨q2, q3, _, _, rfl, rfl, s4' _ _ (s3' _ _ g2), g4, Nat.le_of_lt (small1000 (by rw [List.length_map, List.length_take]; show _ + 1 ≤ 1000; omega)), fun q4 hq4 => ?_⟩
      rw [← List.map_append]
      have s5' := same_new (o := .lst ((rs.take at'.toNat ++ [tq]).map V.ref)) hq4
      have g5 := new_at (o := .lst ((rs.take at'.toNat ++ [tq]).map V.ref)) hq4
      have sB := (((s1.trans s2).trans s3').trans s4').trans s5'
      refine ⟨_, rfl, _, rfl, _, _, rfl, rfl, at' + 1, rfl, L, _, rfl, SqL.of (sB _ _ hL9), fun q5 hq5 => ?_⟩
      rw [cut_drop (by omega) (by omega), ← List.map_drop]
      have s6' := same_new (o := .lst ((rs.drop (at' + 1).toNat).map V.ref)) hq5
      have g6 := new_at (o := .lst ((rs.drop (at' + 1).toNat).map V.ref)) hq5
      refine ⟨q5, _, rfl, .inl (SqL.of g6), fun q6 hq6 => ?_⟩
      have s7' := same_new (o := .lst ((rs.drop (at' + 1).toNat).map V.ref)) hq6
      have g7 := new_at (o := .lst ((rs.drop (at' + 1).toNat).map V.ref)) hq6
      refine ⟨q4, q6, _, _, rfl, rfl, s7' _ _ (s6' _ _ g5), g7, Nat.le_of_lt (small1000 (by rw [List.length_map, List.length_map, List.length_append, List.length_take, List.length_drop]; show _ + 1 + _ ≤ 1000; omega)), fun q8 hq8 => ?_⟩
      rw [← List.map_append]
      have s8' := same_new (o := .lst ((rs.take at'.toNat ++ [tq] ++ rs.drop (at' + 1).toNat).map V.ref)) hq8
      have sC := ((sB.trans s6').trans s7').trans s8'
      have taC := ta9.mono (.same sC)
      have DC := (((D9.same sB).same s6').same s7')
      have tq9 : TA rwV _ [tq] [u'] := (TA.nil rwV _).snoc (s8' _ _ (s7' _ _ (s6' _ _ (s5' _ _ (s4' _ _ g3)))))
      refine q q8 _ (rows.take at'.toNat ++ [u'] ++ rows.drop (at' + 1).toNat) _ upd_same (((taC.take _).app tq9).app (taC.drop _)) ?_ ?_ (DC.ne hq8) (D9.same sC) (K9.trans (.of sC))
      · rw [List.length_append, List.length_append, List.length_take, List.length_drop]
        show _ + 1 + _ ≤ _
        omega
      · intro v hv
        rcases List.mem_append.mp hv with z | z
        · rcases List.mem_append.mp z with z | z
          · exact (tx v (List.mem_of_mem_take z)).mono (Nat.le_succ n)
          · rw [List.mem_singleton.mp z]; exact tu'
        · exact (tx v (List.mem_of_mem_drop z)).mono (Nat.le_succ n)
    refine ⟨_, rfl, rfl, _, rfl, ?_⟩
    refine ite2 (fun c3 => ?_) (fun c3 => ?n3)
    · refine ⟨by decide, fun e1 he1 => ?_⟩
      have s4 := same_new (o := .lst []) he1
      have f4 := new_at (o := .lst []) he1
      refine ⟨_, rfl, 1, rfl, L, _, rfl, SqL.of (s4 _ _ hL3), fun e2 he2 => ?_⟩
      rw [cut_take (by decide), ← List.map_take]
      have s5 := same_new (o := .lst ((rs.take (1 : Int).toNat).map V.ref)) he2
      have f5 := new_at (o := .lst ((rs.take (1 : Int).toNat).map V.ref)) he2
      refine ⟨e2, _, rfl, .inl (SqL.of f5), fun e3 he3 => ?_⟩
      have s6 := same_new (o := .lst ((rs.take (1 : Int).toNat).map V.ref)) he3
      have f6 := new_at (o := .lst ((rs.take (1 : Int).toNat).map V.ref)) he3
      refine ⟨(by show 2 ≤ sizeLine; decide), fun e4 he4 => ?_⟩
      have s7 := same_new (o := .lst [V.ref e1, V.ref e3]) he4
      have f7 := new_at (o := .lst [V.ref e1, V.ref e3]) he4
      have sA := ((s4.trans s5).trans s6).trans s7
      have DA := D3.same sA
      refine ⟨_, rfl, d, a, ns, _, rfl, DA, by decide, fun j H8 j0 j1 D8 k8 => ?_⟩
      have n4 := (((D3.same s4).same s5).same s6).ne he4
      have n3 := ((D3.same s4).same s5).ne he3
      have n1 := D3.ne he1
      obtain ⟨v, hv, hm⟩ := at_bound (xs := [V.ref e1, V.ref e3]) j0 j1
      refine ⟨e4, _, j, v, rfl, rfl, SqL.of (k8 _ _ f7 n4), hv, ?_⟩
      have K8 := (K3.trans (.of sA)).trans k8
      simp only [List.mem_cons, List.not_mem_nil, or_false] at hm
      rcases hm with rfl | rfl
      · exact q e1 [] [] H8 (k8 _ _ (s7 _ _ (s6 _ _ (s5 _ _ f4))) n1) (.nil _ _) (by decide) (by simp) n1 D8 K8
      · refine q e3 (rs.take (1 : Int).toNat) (rows.take (1 : Int).toNat) H8 (k8 _ _ (s7 _ _ f6) n3) (((ta3.mono (.same sA)).mono (DA.tups k8)).take _) (by rw [List.length_take]; omega) (fun u hu => (tx u (List.mem_of_mem_take hu)).mono (Nat.le_succ n)) n3 D8 K8
    refine ⟨_, rfl, rfl, _, rfl, ?_⟩
    refine ite2 (fun c4 => ?_) (fun c4 => ?n4)
    · refine ⟨_, rfl, L, _, rfl, .inl (SqL.of hL3), fun e1 he1 => ?_⟩
      have s4 := same_new (o := .lst (rs.map V.ref)) he1
      have f4 := new_at (o := .lst (rs.map V.ref)) he1
      have b41 : (rs.map V.ref).length * (41 : Int).toNat ≤ sizeLine := by
        rw [sizeLine_eq, rm]
        have : (41 : Int).toNat = 41 := rfl
        rw [this]
        have : rs.length * 41 ≤ 41 * 41 := Nat.mul_le_mul (by omega) (Nat.le_refl _)
        omega
      refine ⟨e1, 41, _, rfl, rfl, f4, by decide, by decide, b41, fun e2 he2 => ?_⟩
      rw [rep_map]
      have s5 := same_new (o := .lst (((List.replicate (41 : Int).toNat rs).flatten).map V.ref)) he2
      have f5 := new_at (o := .lst (((List.replicate (41 : Int).toNat rs).flatten).map V.ref)) he2
      have n2 := (D3.same s4).ne he2
      have D5 := (D3.same s4).same s5
      refine ⟨_, rfl, d, a, ns, _, rfl, D5, by decide, fun j H6 j0 j1 D6 k6 => ⟨_, _, rfl, rfl, 40 + j, rfl, ?_⟩⟩
      refine ⟨e2, _, rfl, SqL.of (k6 _ _ f5 n2), fun e3 he3 => ?_⟩
      rw [cut_take (by omega), ← List.map_take]
      have s7 := same_new (o := .lst ((((List.replicate (41 : Int).toNat rs).flatten).take (40 + j).toNat).map V.ref)) he3
      have sA := s4.trans s5
      refine q e3 _ (((List.replicate (41 : Int).toNat rows).flatten).take (40 + j).toNat) _ upd_same (((((ta3.mono (.same sA)).mono (D5.tups k6)).mono (.same s7)).rep _).take _) ?_ (fun u hu => (tx u (rep_mem (List.mem_of_mem_take hu))).mono (Nat.le_succ n)) (D6.ne he3) (D6.same s7) (((K3.trans (.of sA)).trans k6).trans (.of s7))
      rw [List.length_take]
      omega
    refine ⟨_, rfl, rfl, _, rfl, ?_⟩
    refine ite2 (fun c5 => ?_) (fun c5 => ?n5)
    · have hw3 := K3 _ _ hw nW
      refine ⟨_, rfl, d, a, ns, _, rfl, D3, by decide, fun j H6 j0 j1 D6 k6 => ⟨_, _, rfl, rfl, _, rfl, by omega, by omega, fun Lg hLg => ?_⟩⟩
      have hw6 := k6 _ _ hw3 nW
      have nLg := D6.ne hLg
      have K6 := K3.trans k6
      have at5 : ∀ z : Int, 0 ≤ z → z < 5 → ∃ x, atI (ws.map V.str) z = some (.str x) ∧ x ∈ ws := by
        intro z z0 z1
        obtain ⟨v, hv, hm⟩ := at_bound (xs := ws.map V.str) z0 (by rw [List.length_map, lw]; exact z1)
        obtain ⟨x, hx, rfl⟩ := List.mem_map.mp hm
        exact ⟨x, hv, hx⟩
      refine lc_range (lo := 0) (n := (16 + j).toNat) (fun i H' => ∃ (gs : List Addr) (goods : List Gd), H' Lg = some (.lst (gs.map V.ref)) ∧ TA gdV H' gs goods ∧ goods.length = i ∧ (∀ g ∈ goods, GdOk g) ∧ Same H6 H') ?_ ?_ ?_
      · exact ⟨[], [], upd_same, .nil _ _, rfl, by simp, same_new hLg⟩
      · rintro i H7 hi ⟨gs, goods, h7, u7, l7, g7, z7⟩
        have hi : i < (16 + j).toNat := hi
        have gl := u7.len
        have hw7 := z7 _ _ hw6
        obtain ⟨x1, hx1, m1⟩ := at5 ((0 + (i : Int)) % 5) (Int.emod_nonneg _ (by decide)) (Int.emod_lt_of_pos _ (by decide))
        obtain ⟨x2, hx2, m2⟩ := at5 ((0 + (i : Int)) / 5) (by omega) (by omega)
        refine ⟨rfl, yes_i ?_⟩
        refine ⟨_, rfl, _, rfl, _, _, rfl, rfl, (by show (0 : Int) < 5; decide), Lw, _, _, _, rfl, rfl, SqL.of hw7, hx1, _, rfl, _, rfl, _, _, rfl, rfl, ⟨by decide, by decide⟩, Lw, _, _, _, rfl, rfl, SqL.of hw7, hx2, (by show 2 ≤ sizeLine; decide), fun p hp => ?_⟩
        have s8 := same_new (o := .tup (gdV (x1, x2))) hp
        have f8 := new_at (o := .tup (gdV (x1, x2))) hp
        have h8 := s8 _ _ h7
        have t8 : Tups _ (upd (upd H7 p (.tup (gdV (x1, x2)))) Lg (.lst (gs.map V.ref ++ [V.ref p]))) := Tups.upd h8
        refine ⟨_, h8, small1000 (by rw [List.length_map]; omega), gs ++ [p], goods ++ [(x1, x2)], by rw [upd_same, List.map_append]; rfl, ((u7.mono (.same s8)).mono t8).snoc (t8 _ _ f8), by rw [List.length_append, l7]; rfl, ?_, fun b o e => ?_⟩
        · intro g hg
          rcases List.mem_append.mp hg with z | z
          · exact g7 g z
          · rw [List.mem_singleton.mp z]; exact ⟨nw x1 m1, nw x2 m2⟩
        · rw [upd_ne (ne_of_none e hLg)]; exact s8 _ _ (z7 b o e)
      rintro H7 ⟨gs, goods, h7, u7, l7, g7, z7⟩
      have gl := u7.len
      have gm : (gs.map V.ref).length = gs.length := List.length_map _
      refine ⟨_, rfl, Lg, _, rfl, .inl (SqL.of h7), 1, _, rfl, ⟨by decide, by decide, by omega, by omega⟩, fun L8 hL8 => ?_⟩
      have D7 := D6.same z7
      have K7 := K6.trans (.of z7)
      have nL8 := D7.ne hL8
      refine lc_range (lo := 1) (n := (((gs.map V.ref).length : Int) - 1).toNat) (fun i H' => ∃ (rs' : List Addr) (rows' : List RW), H' L8 = some (.lst (rs'.map V.ref)) ∧ TA rwV H' rs' rows' ∧ rows'.length = i ∧ (∀ u ∈ rows', RTx (n + 1) u) ∧ Same H7 H') ?_ ?_ ?_
      · exact ⟨[], [], upd_same, .nil _ _, rfl, by simp, same_new hL8⟩
      · rintro i H8 hi ⟨rs', rows', h8, u8, l8, g8, z8⟩
        have hi : i < (((gs.map V.ref).length : Int) - 1).toNat := hi
        have h7' := z8 _ _ h7
        have u7' := u7.mono (.same z8)
        have pick : ∀ z : Nat, z < gs.length → ∃ p g, atI (gs.map V.ref) (z : Int) = some (.ref p) ∧ g ∈ goods ∧ ∀ {H' : Hp}, TA gdV H' gs goods → H' p = some (.tup (gdV g)) := by
          intro z hz
          obtain ⟨g, hg, _⟩ := u7.at_ z _ (List.getElem?_eq_getElem hz)
          refine ⟨gs[z]'hz, g, at_of (j := z) rfl (by rw [List.getElem?_map, List.getElem?_eq_getElem hz]; rfl), List.mem_of_getElem? hg, fun {H'} tt => ?_⟩
          obtain ⟨y, hy, ey⟩ := tt.at_ _ _ (List.getElem?_eq_getElem hz)
          rw [hg] at hy
          cases hy
          exact ey
        obtain ⟨p1, ga, at1, ma, c1⟩ := pick i (by omega)
        obtain ⟨p2, gb, at2, mb, c2⟩ := pick (i + 1) (by omega)
        have e1 : (1 + (i : Int)) - 1 = (i : Int) := by omega
        have e2 : (1 + (i : Int)) = ((i + 1 : Nat) : Int) := by omega
        refine ⟨rfl, yes_i ?_⟩
        refine ⟨_, rfl, _, rfl, _, _, rfl, rfl, Lg, _, _, _, rfl, rfl, SqL.of h7', by rw [e1]; exact at1, _, rfl, (by show 1 ≤ sizeLine; decide), fun q1 hq1 => ?_⟩
        have s9 := same_new (o := .tup [V.int (1 + (i : Int))]) hq1
        have f9 := new_at (o := .tup [V.int (1 + (i : Int))]) hq1
        refine ⟨p1, q1, _, _, rfl, rfl, SqT.of (s9 _ _ (c1 u7')), SqT.of f9, (fun z => by cases z), (by show 2 + 1 ≤ sizeLine; decide), (fun z => by cases z), fun _ r1 hr1 => ?_⟩
        have s10 := same_new (o := .tup (gdV ga ++ [V.int (1 + (i : Int))])) hr1
        have f10 := new_at (o := .tup (gdV ga ++ [V.int (1 + (i : Int))])) hr1
        have s910 := s9.trans s10
        refine ⟨_, rfl, _, rfl, Lg, _, _, _, rfl, rfl, SqL.of (s910 _ _ h7'), by rw [e2]; exact at2, ?_⟩
        refine ⟨r1, p2, _, _, rfl, rfl, SqT.of f10, SqT.of (s910 _ _ (c2 u7')), (fun z => by cases z), (by show 3 + 2 ≤ sizeLine; decide), (fun z => by cases z), fun _ r2 hr2 => ?_⟩
        have s11 := same_new (o := .tup (gdV ga ++ [V.int (1 + (i : Int))] ++ gdV gb)) hr2
        have f11 := new_at (o := .tup (gdV ga ++ [V.int (1 + (i : Int))] ++ gdV gb)) hr2
        refine ⟨(by show 1 ≤ sizeLine; decide), fun q2 hq2 => ?_⟩
        have s12 := same_new (o := .tup [V.int 1]) hq2
        refine ⟨r2, q2, _, _, rfl, rfl, SqT.of (s12 _ _ f11), SqT.of upd_same, (fun z => by cases z), (by show 5 + 1 ≤ sizeLine; decide), (fun z => by cases z), fun _ r3 hr3 => ?_⟩
        have s13 := same_new (o := .tup (rwV (ga.1, ga.2, .inl (1 + (i : Int)), gb.1, gb.2, .inl 1))) hr3
        have f13 := new_at (o := .tup (rwV (ga.1, ga.2, .inl (1 + (i : Int)), gb.1, gb.2, .inl 1))) hr3
        have sB := ((s910.trans s11).trans s12).trans s13
        have h13 := sB _ _ h8
        have rl8 := u8.len
        have t14 := Tups.upd (o := .lst (rs'.map V.ref ++ [V.ref r3])) h13
        refine ⟨_, h13, small1000 (by rw [List.length_map]; omega), rs' ++ [r3], rows' ++ [(ga.1, ga.2, .inl (1 + (i : Int)), gb.1, gb.2, .inl 1)], by rw [upd_same, List.map_append]; rfl, ((u8.mono (.same sB)).mono t14).snoc (t14 _ _ f13), by rw [List.length_append, l8]; rfl, ?_, fun b o e => ?_⟩
        · intro v hv
          rcases List.mem_append.mp hv with z | z
          · exact g8 v z
          · rw [List.mem_singleton.mp z]
            have ga' := g7 ga ma
            have gb' := g7 gb mb
            exact ⟨(Tx.name ga'.1).mono (by omega), (Tx.name ga'.2).mono (by omega), (Tx.name gb'.1).mono (by omega), (Tx.name gb'.2).mono (by omega)⟩
        · rw [upd_ne (ne_of_none e hL8)]; exact sB _ _ (z8 b o e)
      rintro H8 ⟨rs', rows', h8, u8, l8, g8, z8⟩
      exact q L8 rs' rows' H8 h8 u8 (by omega) g8 nL8 (D7.same z8) (K7.trans (.of z8))
    obtain ⟨u', H9, e9, eu', tu'⟩ : ∃ u' H9, H9 = H3 ∧ u' = u ∧ RTx (n + 1) u' := ⟨u, H3, rfl, rfl, tu.mono (Nat.le_succ n)⟩
    subst e9 eu'
    have f9 := f3
    have D9 := D3
    have K9 := K3
    have hL9 := hL3
    have ta9 := ta3
    refine ⟨_, rfl, _, rfl, at', rfl, L, _, rfl, SqL.of hL9, fun q1 hq1 => ?_⟩
    rw [cut_take t0, ← List.map_take]
    have s1 := same_new (o := .lst ((rs.take at'.toNat).map V.ref)) hq1
    have g1 := new_at (o := .lst ((rs.take at'.toNat).map V.ref)) hq1
    refine ⟨q1, _, rfl, .inl (SqL.of g1), fun q2 hq2 => ?_⟩
    have s2 := same_new (o := .lst ((rs.take at'.toNat).map V.ref)) hq2
    have g2 := new_at (o := .lst ((rs.take at'.toNat).map V.ref)) hq2
    refine ⟨_, rfl, Lr, _, rfl, .inl ⟨SqL.of (s2 _ _ (s1 _ _ f9)), fun tq htq => ?_⟩⟩
    have s3' := same_new (o := .tup (rwV u')) htq
    have g3 := new_at (o := .tup (rwV u')) htq
    refine ⟨(by show 1 ≤ sizeLine; decide), fun q3 hq3 => ?_⟩
    have s4' := same_new (o := .lst ([tq].map V.ref)) hq3
    have g4 := new_at (o := .lst ([tq].map V.ref)) hq3
    refine ⟨q2, q3, _, _, rfl, rfl, s4' _ _ (s3' _ _ g2), g4, Nat.le_of_lt (small1000 (by rw [List.length_map, List.length_take]; show _ + 1 ≤ 1000; omega)), fun q4 hq4 => ?_⟩
    rw [← List.map_append]
    have s5' := same_new (o := .lst ((rs.take at'.toNat ++ [tq]).map V.ref)) hq4
    have g5 := new_at (o := .lst ((rs.take at'.toNat ++ [tq]).map V.ref)) hq4
    have sB := (((s1.trans s2).trans s3').trans s4').trans s5'
    refine ⟨_, rfl, _, rfl, _, _, rfl, rfl, at' + 1, rfl, L, _, rfl, SqL.of (sB _ _ hL9), fun q5 hq5 => ?_⟩
    rw [cut_drop (by omega) (by omega), ← List.map_drop]
    have s6' := same_new (o := .lst ((rs.drop (at' + 1).toNat).map V.ref)) hq5
    have g6 := new_at (o := .lst ((rs.drop (at' + 1).toNat).map V.ref)) hq5
    refine ⟨q5, _, rfl, .inl (SqL.of g6), fun q6 hq6 => ?_⟩
    have s7' := same_new (o := .lst ((rs.drop (at' + 1).toNat).map V.ref)) hq6
    have g7 := new_at (o := .lst ((rs.drop (at' + 1).toNat).map V.ref)) hq6
    refine ⟨q4, q6, _, _, rfl, rfl, s7' _ _ (s6' _ _ g5), g7, Nat.le_of_lt (small1000 (by rw [List.length_map, List.length_map, List.length_append, List.length_take, List.length_drop]; show _ + 1 + _ ≤ 1000; omega)), fun q8 hq8 => ?_⟩
    rw [← List.map_append]
    have s8' := same_new (o := .lst ((rs.take at'.toNat ++ [tq] ++ rs.drop (at' + 1).toNat).map V.ref)) hq8
    have sC := ((sB.trans s6').trans s7').trans s8'
    have taC := ta9.mono (.same sC)
    have DC := (((D9.same sB).same s6').same s7')
    have tq9 : TA rwV _ [tq] [u'] := (TA.nil rwV _).snoc (s8' _ _ (s7' _ _ (s6' _ _ (s5' _ _ (s4' _ _ g3)))))
    refine q q8 _ (rows.take at'.toNat ++ [u'] ++ rows.drop (at' + 1).toNat) _ upd_same (((taC.take _).app tq9).app (taC.drop _)) ?_ ?_ (DC.ne hq8) (D9.same sC) (K9.trans (.of sC))
    · rw [List.length_append, List.length_append, List.length_take, List.length_drop]
      show _ + 1 + _ ≤ _
      omega
    · intro v hv
      rcases List.mem_append.mp hv with z | z
      · rcases List.mem_append.mp z with z | z
        · exact (tx v (List.mem_of_mem_take z)).mono (Nat.le_succ n)
        · rw [List.mem_singleton.mp z]; exact tu'
      · exact (tx v (List.mem_of_mem_drop z)).mono (Nat.le_succ n)
end
end Ck
set_option Elab.async false
set_option linter.all false
set_option pp.maxSteps 1500
set_option maxRecDepth 100000
set_option maxHeartbeats 4000000
namespace Ck
open PySem L2
theorem gAdd_nodup {gs : List Gd} {g : Gd} (h : gs.Nodup) : (gAdd gs g).Nodup := by
  unfold gAdd
  split
  · exact h
  · next c =>
    rw [List.nodup_append]
    refine ⟨h, by simp, ?_⟩
    rintro x hx y hy rfl
    rw [List.mem_singleton.mp hy] at hx
    exact c hx
theorem gOf_nodup (rows : List RW) : (gOf rows).Nodup := by
  refine snoc_ind (P := fun rows => (gOf rows).Nodup) List.nodup_nil (fun l u ih => ?_) rows
  rw [gOf_snoc]
  exact gAdd_nodup (gAdd_nodup ih)
theorem nodup_le {α : Type} [DecidableEq α] : ∀ {l m : List α}, l.Nodup → (∀ x ∈ l, x ∈ m) → l.length ≤ m.length
  | [], _, _, _ => Nat.zero_le _
  | a :: r, m, h, s => by
    rw [List.nodup_cons] at h
    have ha := s a List.mem_cons_self
    have := nodup_le (m := m.erase a) h.2 fun x hx => (List.mem_erase_of_ne (fun z : x = a => h.1 (by rw [← z]; exact hx))).mpr (s x (List.mem_cons_of_mem _ hx))
    rw [List.length_erase_of_mem ha] at this
    have := List.length_pos_of_mem ha
    rw [List.length_cons]
    omega
theorem goodT_of {goods : List Gd} {rows : List RW} (h : ∀ u ∈ rows, RowIn goods u) (l1 : 1 ≤ rows.length) (l2 : rows.length ≤ 40) (l3 : goods.length ≤ 16) : GoodT rows := by
  refine ⟨fun u hu => (h u hu).1, fun u hu => (h u hu).2.1, l1, l2, ?_⟩
  refine Nat.le_trans (nodup_le (gOf_nodup rows) (m := goods) fun g hg => ?_) l3
  obtain ⟨u, hu, e⟩ := gOf_mem hg
  rcases e with rfl | rfl
  · exact (h u hu).2.2.1
  · exact (h u hu).2.2.2
theorem rtx_of {goods : List Gd} {rows : List RW} (h : ∀ u ∈ rows, RowIn goods u) : ∀ u ∈ rows, RTx 9 u := fun u hu => by
  have := (h u hu).1
  exact ⟨(Tx.name this.1).mono (by decide), (Tx.name this.2.1).mono (by decide), (Tx.name this.2.2.1).mono (by decide), (Tx.name this.2.2.2).mono (by decide)⟩
section
variable {P : Program} {w : World} {K : PySem.W.Frag} {mg : Str → Option Value} {base : Heap} {t : Ad}
def spTR (t : Ad) : Sp := fun vs H Q _ => ∃ (x O L p : Addr) (os rs qs : List Addr) (rows : List RW), vs = [.ref x, .ref L, .ref p] ∧ TableAt t.C_Changers H x O os rows ∧ H L = some (.lst (rs.map V.ref)) ∧ TA rwV H rs rows ∧ H p = some (.tup (qs.map V.ref)) ∧ TA gdV H qs (gOf rows) ∧ rows.length ≤ 60 ∧ (∀ u ∈ rows, RTx 1000 u) ∧ ∀ H', Same H H' → Q (.bl true) H'
theorem ok_tr (T : Env K mg t) : FnOk P w K mg base CX0 4 t.a_l_told_right t.fd_l_told_right ["_law_table", "_law_rows_here", "_law_goods_here"] (spTR t) := by
  have G_Changers_goods : FnOk P w K mg base CX0 3 t.a_Changers_goods t.fd_Changers_goods ["self"] (spTGoods t) := ok_tgoods T
  refine T.f_l_told_right.okQ sc_l_told_right (fun vs H Q E h => ?_) (fun cdv A outer s H vs Q E hr h => ?_)
  · obtain ⟨x, O, L, p, os, rs, qs, rows, rfl, _⟩ := h
    rfl
  · obtain ⟨x, O, L, p, os, rs, qs, rows, rfl, tb, hL, ta, hp, tg, l60, tx, q⟩ := h
    have hr_Changers_goods := hr
    refine ⟨_, (q_pss_cons (q_ps_set (i := 3) sc_l_told_right.nd rfl (by first | exact Or.inl rfl | exact Or.inr (Or.inl rfl) | exact Or.inr rfl) (q_pe_meth0 (q_pv 0) T.cl_Changers T.m_Changers_goods G_Changers_goods hr_Changers_goods T.b_Changers_goods .nil pass0))
      (q_pss_cons (q_ps_if (QW.pt (q_pw_or (q_pt_not (q_pt_val (q_pe_callB call_isinst (by rfl) T.z_isinstance (by decide +kernel) (q_pa_cons (q_pv 3) (q_pa_cons (q_pe_bltn (v := .ty "tuple") (by rfl) T.z_tuple (by decide +kernel) rfl) q_pa_nil star_Name) star_Name)))) (q_pw_or (q_pt_cmpR (op_neD hr.units) (q_pv 3) (q_pv 2) (nomark _)) (q_pw_or1 (q_pt_not (q_pt_val (q_pe_callB call_isinst (by rfl) T.z_isinstance (by decide +kernel) (q_pa_cons (q_pe_fld (q_pv 0) rfl) (q_pa_cons (q_pe_bltn (v := .ty "tuple") (by rfl) T.z_tuple (by decide +kernel) rfl) q_pa_nil star_Name) star_Attribute)))))))) (q_pss_one (q_ps_ret q_pe_bl)) q_pss_nil)
      (q_pss_cons (q_ps_if (q_pt_cmpR (op_neD hr.units) (q_pe_lc (own := [("_law_good", 4)]) (g := gName 4) (by rfl) sc_l_told_right.nd (q_pi_tup (q_pv 3)) (blkOk_by (own := [("_law_good", 4)]) (N := ["_law_table", "_law_rows_here", "_law_goods_here", "_law_found", "_law_good", "_law_row"]) (sc := defScope s_l_told_right) (by decide +kernel)) (fun _ _ _ _ _ => (q_pg_name (i := 4) sc_l_told_right.nd rfl (by first | exact Or.inl rfl | exact Or.inr (Or.inl rfl) | exact Or.inr rfl))) (fun _ _ _ _ _ => (q_pts_one (q_pt_not (q_pt_val (q_pe_callB (call_isinstK (K := K) rfl) (by rfl) T.z_isinstance (by decide +kernel) (q_pa_cons (q_pv 4) (q_pa_cons (q_pe_bltn (v := .ty "tuple") (by rfl) T.z_tuple (by decide +kernel) rfl) q_pa_nil star_Name) star_Name)))))) (fun _ _ _ _ _ => (q_pv 4))) (q_pe_lst q_pa_nil) (nomark _)) (q_pss_one (q_ps_ret q_pe_bl)) q_pss_nil)
      (q_pss_one (q_ps_ret (q_pe_and (q_pe_cmpR (op_eqD hr.units) (q_pe_fld (q_pv 0) rfl) (q_pe_callTy call_tuple_of (by rfl) T.z_tuple (by decide +kernel) (q_pa_cons (q_pv 1) q_pa_nil star_Name)) (nomark _)) (q_pe_one (q_pe_cmpR (op_eqD hr.units) (q_pe_lc (own := [("_law_row", 5)]) (g := gName 5) (by rfl) sc_l_told_right.nd (q_pi_tup (q_pe_fld (q_pv 0) rfl)) (blkOk_by (own := [("_law_row", 5)]) (N := ["_law_table", "_law_rows_here", "_law_goods_here", "_law_found", "_law_good", "_law_row"]) (sc := defScope s_l_told_right) (by decide +kernel)) (fun _ _ _ _ _ => (q_pg_name (i := 5) sc_l_told_right.nd rfl (by first | exact Or.inl rfl | exact Or.inr (Or.inl rfl) | exact Or.inr rfl))) (fun _ _ _ _ _ => (q_pts_one (q_pt_not (q_pt_val (q_pe_callB (call_isinstK (K := K) rfl) (by rfl) T.z_isinstance (by decide +kernel) (q_pa_cons (q_pv 5) (q_pa_cons (q_pe_bltn (v := .ty "tuple") (by rfl) T.z_tuple (by decide +kernel) rfl) q_pa_nil star_Name) star_Name)))))) (fun _ _ _ _ _ => (q_pv 5))) (q_pe_lst q_pa_nil) (nomark _))))))))), ?_⟩
    have lg := Lay.tuple (gds_lay (gOf_tx tx))
    have lr := Lay.tuple (rws_lay tx)
    obtain ⟨dx, hx, _, _⟩ := id tb
    refine ⟨_, rfl, x, dx, _, rfl, hx, rfl, x, O, os, rows, rfl, tb, l60, fun f fs H1 hf tf z1 => ?_⟩
    have tb1 := tb.same z1
    obtain ⟨dx1, hx1, hO1, to1⟩ := id tb1
    refine ⟨_, rfl, _, "tuple", _, _, rfl, .tup hf, kit_same, _, rfl, iteF ?_⟩
    refine ⟨_, rfl, _, rfl, _, _, .tup (SqT.of hf) (TA.dp dp_gd tf), .tup (SqT.of (z1 _ _ hp)) (TA.dp dp_gd (tg.mono (.same z1))), lg.shaped (by decide), lg.shaped (by decide), _, rfl, ?_⟩
    rw [lg.refl]
    refine iteF ?_
    refine ⟨_, rfl, x, _, dx1, _, _, rfl, hx1, T.cl_Changers, T.no_Changers_rows, rfl, _, "tuple", _, _, rfl, .tup hO1, kit_same, _, rfl, iteF ?_⟩
    refine ⟨_, rfl, f, rfl, ⟨_, SqT.of hf⟩, fun Lc hLc => ?_⟩
    refine lc_tup (xs := fs.map V.ref) (fun i H' => H' Lc = some (.lst []) ∧ Same H1 H') ?_ ?_ ?_ ?_
    · exact ⟨upd_same, same_new hLc⟩
    · rintro i H2 hi ⟨h2, z2⟩
      exact SqT.of (z2 _ _ hf)
    · rintro i y H2 hy ⟨h2, z2⟩
      obtain ⟨r, hr', rfl⟩ := ref_at hy
      obtain ⟨g, hg, e⟩ := tf.at_ i r hr'
      exact ⟨rfl, _, rfl, _, "tuple", _, _, rfl, .tup (z2 _ _ e), kit_same, _, rfl, iteF ⟨h2, z2⟩⟩
    rintro H2 ⟨h2, z2⟩
    refine ⟨(by decide), fun l3 hl3 => ?_⟩
    have s3 := same_new (o := .lst []) hl3
    refine ⟨.list [], .list [], .lst (SqL.of (s3 _ _ h2)) .nil, .lst (SqL.of upd_same) .nil, rfl, rfl, _, rfl, ?_⟩
    rw [eqv_nil]
    refine iteF ?_
    have z3 := (z1.trans z2).trans s3
    have tb3 := tb.same z3
    obtain ⟨dx3, hx3, hO3, to3⟩ := id tb3
    generalize (upd H2 l3 (.lst [])) = H3 at z3 tb3 hx3 hO3 to3
    refine ⟨_, rfl, x, _, dx3, _, _, rfl, hx3, T.cl_Changers, T.no_Changers_rows, rfl, _, rfl, L, _, rfl, .inl ⟨SqL.of (z3 _ _ hL), fun tp htp => ?_⟩⟩
    have s4 := same_new (o := .tup (rs.map V.ref)) htp
    refine ⟨_, _, .tup (SqT.of (s4 _ _ hO3)) (TA.dp dp_rw (to3.mono (.same s4))), .tup (SqT.of upd_same) (TA.dp dp_rw ((ta.mono (.same z3)).mono (.same s4))), lr.shaped (by decide), lr.shaped (by decide), _, rfl, ?_⟩
    rw [lr.refl]
    refine iteT ?_
    have tb4 := tb3.same s4
    obtain ⟨dx4, hx4, hO4, to4⟩ := id tb4
    have z4 := z3.trans s4
    generalize (upd H3 tp (.tup (rs.map V.ref))) = H4 at z4 hx4 hO4 to4
    refine ⟨_, rfl, x, _, dx4, _, _, rfl, hx4, T.cl_Changers, T.no_Changers_rows, rfl, O, rfl, ⟨_, SqT.of hO4⟩, fun Ld hLd => ?_⟩
    refine lc_tup (xs := os.map V.ref) (fun i H' => H' Ld = some (.lst []) ∧ Same H4 H') ?_ ?_ ?_ ?_
    · exact ⟨upd_same, same_new hLd⟩
    · rintro i H5 hi ⟨h5, z5⟩
      exact SqT.of (z5 _ _ hO4)
    · rintro i y H5 hy ⟨h5, z5⟩
      obtain ⟨r, hr', rfl⟩ := ref_at hy
      obtain ⟨g, hg, e⟩ := to4.at_ i r hr'
      exact ⟨rfl, _, rfl, _, "tuple", _, _, rfl, .tup (z5 _ _ e), kit_same, _, rfl, iteF ⟨h5, z5⟩⟩
    rintro H5 ⟨h5, z5⟩
    refine ⟨(by decide), fun l6 hl6 => ?_⟩
    have s6 := same_new (o := .lst []) hl6
    refine ⟨.list [], .list [], .lst (SqL.of (s6 _ _ h5)) .nil, .lst (SqL.of upd_same) .nil, rfl, rfl, ?_⟩
    rw [eqv_nil]
    exact q _ ((z4.trans z5).trans s6)
end
end Ck
set_option Elab.async false
set_option linter.all false
set_option pp.maxSteps 1500
set_option maxRecDepth 100000
set_option maxHeartbeats 4000000
namespace Ck
open PySem L2
theorem made_sameN {H H' : Hp} {x dx : Addr} {o1 o2 : HO} (hx : H x = none) (hdx : H dx = none) (s : Same (upd (upd H dx o1) x o2) H') : Same H H' := fun b o e => s b o (by rw [upd_ne (ne_of_none e hx), upd_ne (ne_of_none e hdx)]; exact e)
theorem made_new {H : Hp} {x dx : Addr} {o1 o2 : HO} (hx : H x = none) (hdx : H dx = none) : Same H (upd (upd H dx o1) x o2) := made_sameN hx hdx (Same.refl _)
theorem frz_ne_lst {H : Hp} {p q : Addr} {o : Obj} {u : HO} {xs : List V} (hp : H p = some (.frz o u)) (hq : H q = some (.lst xs)) : p ≠ q := by
  rintro rfl
  rw [hp] at hq
  cases hq
theorem new_before {H H' : Hp} {p : Addr} (s : Same H H') (h : H' p = none) : H p = none := by
  cases e : H p with
  | none => rfl
  | some o => rw [s _ _ e] at h; cases h
section
variable {P : Program} {w : World} {K : PySem.W.Frag} {mg : Str → Option Value} {base : Heap} {t : Ad}
theorem BadT.word {rows : List RW} {C : Addr} {wd : Str} (b : BadT t rows C wd) : WordOf t C wd := by
  rcases b with ⟨_, h1, h2⟩ | ⟨_, _, h1, h2⟩
  · exact .inl ⟨h1, h2⟩
  · exact .inr ⟨h1, h2⟩
theorem GoodT.not_bad {rows : List RW} {C : Addr} {wd : Str} (g : GoodT rows) (b : BadT t rows C wd) : False := by
  rcases b with ⟨⟨u, hu, z⟩, _⟩ | ⟨_, z, _⟩
  · exact z (g.1 u hu)
  · exact z g.2
theorem caught (T : Env K mg t) {C : Addr} {wd : Str} (wo : WordOf t C wd) : PySem.W.exmOne K (.ref C) (.ref t.C_CoinError) = some true := by
  rcases wo with ⟨rfl, _⟩ | ⟨rfl, _⟩
  · exact T.ca_NoName_CoinError
  · exact T.ca_NoRow_CoinError
def DuP (H : Hp) (rows : List RW) (v : V) : Prop := ∃ p qs, v = .ref p ∧ H p = some (.tup (qs.map V.ref)) ∧ TA gdV H qs (gOf rows)
theorem DuP.mono {H H' : Hp} {rows : List RW} {v : V} (h : DuP H rows v) (s : Tups H H') : DuP H' rows v := let ⟨p, qs, e, a, b⟩ := h; ⟨p, qs, e, s _ _ a, b.mono s⟩
theorem DueV.good {H : Hp} {rows : List RW} {v : V} (h : DueV t rows H v) (g : GoodT rows) : DuP H rows v := by
  rcases h with ⟨_, z⟩ | ⟨C, wd, b, _⟩
  · exact z
  · exact (g.not_bad b).elim
theorem DueV.bad {H : Hp} {rows : List RW} {v : V} {C : Addr} {wd : Str} (h : DueV t rows H v) (b : BadT t rows C wd) : v = .str wd := by
  rcases h with ⟨g, _⟩ | ⟨C', wd', b', e⟩
  · exact (g.not_bad b).elim
  · rw [e]
    rcases b with ⟨⟨u, hu, z⟩, _, rfl⟩ | ⟨z, _, _, rfl⟩
    · rcases b' with ⟨_, _, rfl⟩ | ⟨y, _⟩
      · rfl
      · exact absurd (y u hu) z
    · rcases b' with ⟨⟨u, hu, y⟩, _⟩ | ⟨_, _, _, rfl⟩
      · exact absurd (z u hu) y
      · rfl
structure LA (H : Hp) (qs : List Addr) (rows : List RW) : Prop where
  len : qs.length = rows.length
  at_ : ∀ (i : Nat) (q : Addr), qs[i]? = some q → ∃ u, rows[i]? = some u ∧ H q = some (.lst (rwV u))
theorem LA.same {H H' : Hp} {qs : List Addr} {rows : List RW} (h : LA H qs rows) (s : Same H H') : LA H' qs rows := ⟨h.len, fun i q e => let ⟨u, a, b⟩ := h.at_ i q e; ⟨u, a, s _ _ b⟩⟩
theorem LA.ra {H : Hp} {qs : List Addr} {rows : List RW} (h : LA H qs rows) : RA H qs rows := ⟨h.len, fun i q e => let ⟨u, a, b⟩ := h.at_ i q e; ⟨u, a, .inl b⟩⟩
theorem LA.snoc {H : Hp} {qs : List Addr} {rows : List RW} {q : Addr} {u : RW} (h : LA H qs rows) (e : H q = some (.lst (rwV u))) : LA H (qs ++ [q]) (rows ++ [u]) := by
  refine ⟨by rw [List.length_append, List.length_append, h.len]; rfl, fun i p hp => ?_⟩
  rw [List.getElem?_append] at hp ⊢
  rw [h.len] at hp
  split at hp
  · next c => rw [if_pos c]; exact h.at_ i p hp
  · next c =>
    rw [if_neg c]
    cases hi : i - rows.length with
    | zero =>
      rw [hi] at hp
      have : q = p := by simpa using hp
      exact ⟨u, rfl, this ▸ e⟩
    | succ n => rw [hi] at hp; cases hp
structure S51 (H : Hp) (c Lg Lr : Addr) (ns : List Int) (od : Obj) (rs : List Addr) (rows : List RW) (rs' : List Addr) (rows' : List RW) : Prop where
  fz : H c = some (.frz od (.lst (ns.map V.int)))
  g : H Lg = some (.lst (rs.map V.ref))
  tg : TA rwV H rs rows
  r : H Lr = some (.lst (rs'.map V.ref))
  tr : TA rwV H rs' rows'
section
variable {H H' : Hp} {c Lg Lr : Addr} {ns : List Int} {od : Obj} {rs rs' : List Addr} {rows rows' : List RW}
theorem S51.same (S : S51 H c Lg Lr ns od rs rows rs' rows') (s : Same H H') : S51 H' c Lg Lr ns od rs rows rs' rows' := ⟨s _ _ S.fz, s _ _ S.g, S.tg.mono (.same s), s _ _ S.r, S.tr.mono (.same s)⟩
theorem S51.keep {p : Addr} {xs : List V} (S : S51 H c Lg Lr ns od rs rows rs' rows') (k : Keep p H H') (hp : H p = some (.lst xs)) (n1 : Lg ≠ p) (n2 : Lr ≠ p) : S51 H' c Lg Lr ns od rs rows rs' rows' :=
  ⟨k _ _ S.fz (frz_ne_lst S.fz hp), k _ _ S.g n1, S.tg.mono (k.tups hp), k _ _ S.r n2, S.tr.mono (k.tups hp)⟩
end
theorem shN : (SeqAt.shaped (.str "name")) = true := by decide +kernel
theorem shR : (SeqAt.shaped (.str "row")) = true := by decide +kernel
def spLaw (K : PySem.W.Frag) : Sp := fun vs H Q _ => ∃ (a : Addr) (ns : List Int), vs = [.ref a] ∧ Scr K H a ns ∧ ns.length ≤ 63 ∧ ∀ H', Q (.bl true) H'
theorem ok_law (T : Env K mg t) : FnOk P w K mg base CX0 9 t.a_law t.fd_law ["_law_script"] (spLaw K) := by
  have G_l_next : FnOk P w K mg base CX0 2 t.a_l_next t.fd_l_next ["_law_draw", "_law_size"] (spNext K) := ok_next T
  have G_l_words : FnOk P w K mg base CX0 4 t.a_l_words t.fd_l_words ["_law_draw", "_law_many"] (spWords K) := ok_words T
  have G_l_goods : FnOk P w K mg base CX0 5 t.a_l_goods t.fd_l_goods ["_law_draw", "_law_many"] (spLGoods K) := ok_lgoods T
  have G_l_rows : FnOk P w K mg base CX0 4 t.a_l_rows t.fd_l_rows ["_law_draw", "_law_goods_here", "_law_many"] (spLRows K) := ok_lrows T
  have G_l_spoilt : FnOk P w K mg base CX0 3 t.a_l_spoilt t.fd_l_spoilt ["_law_draw", "_law_rows_here", "_law_words_here"] (spSpoilt K) := ok_spoilt T
  have G_l_due : FnOk P w K mg base CX0 2 t.a_l_due t.fd_l_due ["_law_rows_here"] (spDue t) := ok_due T
  have G_l_class : FnOk P w K mg base CX0 1 t.a_l_class t.fd_l_class ["_law_e"] (spClassA t) := ok_class T
  have G_l_told_right : FnOk P w K mg base CX0 4 t.a_l_told_right t.fd_l_told_right ["_law_table", "_law_rows_here", "_law_goods_here"] (spTR t) := ok_tr T
  have G_Changers_init : FnOk P w K mg base (CX1 P w) 7 t.a_Changers_init t.fd_Changers_init ["self", "rows"] _ := or1 (ok_initL T) (ok_initT T)
  refine T.f_law.okQ sc_law (fun vs H Q E h => ?_) (fun cdv A outer s H vs Q E hr h => ?_)
  · obtain ⟨a, ns, rfl, _⟩ := h
    rfl
  · obtain ⟨a, ns, rfl, hS, hlen, k⟩ := h
    have hr_l_next : Room 2 _ := hr.mono (by decide)
    have hr_l_words : Room 4 _ := hr.mono (by decide)
    have hr_l_goods : Room 5 _ := hr.mono (by decide)
    have hr_l_rows : Room 4 _ := hr.mono (by decide)
    have hr_l_spoilt : Room 3 _ := hr.mono (by decide)
    have hr_l_due : Room 2 _ := hr.mono (by decide)
    have hr_l_class : Room 1 _ := hr.mono (by decide)
    have hr_l_told_right : Room 4 _ := hr.mono (by decide)
    have hr_Changers_init : Room 8 _ := hr
    refine ⟨_, (q_pss_cons (q_ps_set (i := 1) sc_law.nd rfl (by first | exact Or.inl rfl | exact Or.inr (Or.inl rfl) | exact Or.inr rfl) (q_pe_lst (q_pa_cons (q_pe_callTy call_list_of (by rfl) T.z_list (by decide +kernel) (q_pa_cons (q_pv 0) q_pa_nil star_Name)) (q_pa_cons q_pe_int q_pa_nil star_Constant) star_Call)))
      (q_pss_lock (q_pss_cons (q_ps_set (i := 2) sc_law.nd rfl (by first | exact Or.inl rfl | exact Or.inr (Or.inl rfl) | exact Or.inr rfl) (q_pe_ix ix_list (q_pe_lst (q_pa_cons q_pe_int (q_pa_cons q_pe_int (q_pa_cons q_pe_int (q_pa_cons q_pe_int (q_pa_cons q_pe_int (q_pa_cons q_pe_int q_pa_nil star_Constant) star_Constant) star_Constant) star_Constant) star_Constant) star_Constant)) (q_pe_call G_l_next hr_l_next (by rfl) T.mg_l_next T.kp_l_next T.b_l_next .nil pass0 (q_pa_cons (q_pv 1) (q_pa_cons q_pe_int q_pa_nil star_Constant) star_Name)) (fun _ _ => rfl)))
      (q_pss_cons (q_ps_set (i := 3) sc_law.nd rfl (by first | exact Or.inl rfl | exact Or.inr (Or.inl rfl) | exact Or.inr rfl) (q_pe_cmpR op_eq (q_pe_call G_l_next hr_l_next (by rfl) T.mg_l_next T.kp_l_next T.b_l_next .nil pass0 (q_pa_cons (q_pv 1) (q_pa_cons q_pe_int q_pa_nil star_Constant) star_Name)) q_pe_int (nomark _)))
      (q_pss_cons (q_ps_set (i := 4) sc_law.nd rfl (by first | exact Or.inl rfl | exact Or.inr (Or.inl rfl) | exact Or.inr rfl) (q_pe_ix ix_list (q_pe_lst (q_pa_cons (q_pe_op op_add q_pe_int (q_pe_call G_l_next hr_l_next (by rfl) T.mg_l_next T.kp_l_next T.b_l_next .nil pass0 (q_pa_cons (q_pv 1) (q_pa_cons q_pe_int q_pa_nil star_Constant) star_Name))) (q_pa_cons q_pe_int q_pa_nil star_Constant) star_BinOp)) (q_pe_callTy call_int1 (by rfl) T.z_int (by decide +kernel) (q_pa_cons (q_pe_cmpR op_eq (q_pe_call G_l_next hr_l_next (by rfl) T.mg_l_next T.kp_l_next T.b_l_next .nil pass0 (q_pa_cons (q_pv 1) (q_pa_cons q_pe_int q_pa_nil star_Constant) star_Name)) q_pe_int (nomark _)) q_pa_nil star_Compare)) (fun _ _ => rfl)))
      (q_pss_cons (q_ps_set (i := 5) sc_law.nd rfl (by first | exact Or.inl rfl | exact Or.inr (Or.inl rfl) | exact Or.inr rfl) (q_pe_call G_l_goods hr_l_goods (by rfl) T.mg_l_goods T.kp_l_goods T.b_l_goods .nil pass0 (q_pa_cons (q_pv 1) (q_pa_cons (q_pe_op op_add q_pe_int (q_pe_call G_l_next hr_l_next (by rfl) T.mg_l_next T.kp_l_next T.b_l_next .nil pass0 (q_pa_cons (q_pv 1) (q_pa_cons q_pe_int q_pa_nil star_Constant) star_Name))) q_pa_nil star_BinOp) star_Name)))
      (q_pss_cons (q_ps_set (i := 6) sc_law.nd rfl (by first | exact Or.inl rfl | exact Or.inr (Or.inl rfl) | exact Or.inr rfl) (q_pe_call G_l_rows hr_l_rows (by rfl) T.mg_l_rows T.kp_l_rows T.b_l_rows .nil pass0 (q_pa_cons (q_pv 1) (q_pa_cons (q_pv 5) (q_pa_cons (q_pv 4) q_pa_nil star_Name) star_Name) star_Name)))
      (q_pss_cons (q_ps_set (i := 7) sc_law.nd rfl (by first | exact Or.inl rfl | exact Or.inr (Or.inl rfl) | exact Or.inr rfl) (q_pe_call G_l_words hr_l_words (by rfl) T.mg_l_words T.kp_l_words T.b_l_words .nil pass0 (q_pa_cons (q_pv 1) (q_pa_cons q_pe_int q_pa_nil star_Constant) star_Name)))
      (q_pss_cons (q_ps_set (i := 8) sc_law.nd rfl (by first | exact Or.inl rfl | exact Or.inr (Or.inl rfl) | exact Or.inr rfl) (q_pe_callTy call_list_of (by rfl) T.z_list (by decide +kernel) (q_pa_cons (q_pv 6) q_pa_nil star_Name)))
      (q_pss_cons (q_ps_for PassesOwn.never rfl (q_pi_range1 (by rfl) T.z_range (q_pa_cons (q_pv 2) q_pa_nil star_Name)) (q_pg_name (i := 9) sc_law.nd rfl (by first | exact Or.inl rfl | exact Or.inr (Or.inl rfl) | exact Or.inr rfl))
      (q_pss_one (q_ps_if (q_pt_cmpR (op_neD hr.units) (q_pv 8) (q_pe_lst q_pa_nil) (nomark _)) (q_pss_one (q_ps_set (i := 8) sc_law.nd rfl (by first | exact Or.inl rfl | exact Or.inr (Or.inl rfl) | exact Or.inr rfl) (q_pe_call G_l_spoilt hr_l_spoilt (by rfl) T.mg_l_spoilt T.kp_l_spoilt T.b_l_spoilt .nil pass0 (q_pa_cons (q_pv 1) (q_pa_cons (q_pv 8) (q_pa_cons (q_pv 7) q_pa_nil star_Name) star_Name) star_Name)))) q_pss_nil)))
      (q_pss_cons (q_ps_set (i := 10) sc_law.nd rfl (by first | exact Or.inl rfl | exact Or.inr (Or.inl rfl) | exact Or.inr rfl) (q_pe_callTy call_tuple_of (by rfl) T.z_tuple (by decide +kernel) (q_pa_cons (q_pv 8) q_pa_nil star_Name)))
      (q_pss_cons (q_ps_if (q_pt_val (q_pv 3)) (q_pss_one ((q_ps_setLc (i := 10) (own := [("_law_row", 16)]) (g := gName 16) (by rfl) sc_law.nd rfl rfl (sw_true rfl rfl rfl (by decide +kernel)) (q_pi_list (q_pv 8)) (blkOk_by (own := [("_law_row", 16)]) (N := ["_law_script", "_law_draw", "_law_spoils", "_law_as_lists", "_law_many", "_law_goods_here", "_law_good_rows", "_law_words_here", "_law_rows_here", "_law_k", "_law_handed", "_law_other", "_law_due_here", "_law_table", "_law_error", "_law_e", "_law_row"]) (sc := defScope s_law) (by decide +kernel)) (fun _ _ _ _ _ => (q_pg_name (i := 16) sc_law.nd rfl (by first | exact Or.inl rfl | exact Or.inr (Or.inl rfl) | exact Or.inr rfl))) (fun _ _ _ _ _ => q_pts_nil) (fun _ _ _ _ _ => (q_pe_callTy (call_list_ofK (K := K) rfl) (by rfl) T.z_list (by decide +kernel) (q_pa_cons (q_pv 16) q_pa_nil star_Name)))))) q_pss_nil)
      (q_pss_cons (q_ps_set (i := 11) sc_law.nd rfl (by first | exact Or.inl rfl | exact Or.inr (Or.inl rfl) | exact Or.inr rfl) (q_pe_make T.mk_Changers G_Changers_init hr_Changers_init (by rfl) T.mg_Changers T.b_Changers_init .nil pass1 (q_pa_cons (q_pv 6) q_pa_nil star_Name)))
      (q_pss_cons (q_ps_set (i := 12) sc_law.nd rfl (by first | exact Or.inl rfl | exact Or.inr (Or.inl rfl) | exact Or.inr rfl) (q_pe_call G_l_due hr_l_due (by rfl) T.mg_l_due T.kp_l_due T.b_l_due .nil pass0 (q_pa_cons (q_pv 8) q_pa_nil star_Name)))
      (q_pss_cons (q_ps_set (i := 13) sc_law.nd rfl (by first | exact Or.inl rfl | exact Or.inr (Or.inl rfl) | exact Or.inr rfl) q_pe_non)
      (q_pss_cons (q_ps_set (i := 14) sc_law.nd rfl (by first | exact Or.inl rfl | exact Or.inr (Or.inl rfl) | exact Or.inr rfl) q_pe_non)
      (q_pss_cons (q_ps_tryAs (i := 15) sc_law.nd rfl rfl (by rfl) T.mg_CoinError (qsx_set (i := 13) sc_law.nd rfl (by first | exact Or.inl rfl | exact Or.inr (Or.inl rfl) | exact Or.inr rfl) (qx_make T.mk_Changers G_Changers_init hr_Changers_init (by rfl) T.mg_Changers T.b_Changers_init .nil (q_pa_cons (q_pv 10) q_pa_nil star_Name))) (fun _ => (q_pss_one (q_ps_set (i := 14) sc_law.nd rfl (by first | exact Or.inl rfl | exact Or.inr (Or.inl rfl) | exact Or.inr rfl) (q_pv 15)))))
      (q_pss_cons (q_ps_if (QW.pt (q_pw_or (q_pt_cmpR (op_neD hr.units) (q_pe_lc (own := [("_law_row", 16)]) (g := gName 16) (by rfl) sc_law.nd (q_pi_eit (q_pv 10)) (blkOk_by (own := [("_law_row", 16)]) (N := ["_law_script", "_law_draw", "_law_spoils", "_law_as_lists", "_law_many", "_law_goods_here", "_law_good_rows", "_law_words_here", "_law_rows_here", "_law_k", "_law_handed", "_law_other", "_law_due_here", "_law_table", "_law_error", "_law_e", "_law_row"]) (sc := defScope s_law) (by decide +kernel)) (fun _ _ _ _ _ => (q_pg_name (i := 16) sc_law.nd rfl (by first | exact Or.inl rfl | exact Or.inr (Or.inl rfl) | exact Or.inr rfl))) (fun _ _ _ _ _ => q_pts_nil) (fun _ _ _ _ _ => (q_pe_callTy (call_tuple_ofK (K := K) rfl) (by rfl) T.z_tuple (by decide +kernel) (q_pa_cons (q_pv 16) q_pa_nil star_Name)))) (q_pv 8) (nomark _)) (q_pw_or1 (q_pt_not (q_pt_val (q_pe_call G_l_told_right hr_l_told_right (by rfl) T.mg_l_told_right T.kp_l_told_right T.b_l_told_right .nil pass0 (q_pa_cons (q_pv 11) (q_pa_cons (q_pv 6) (q_pa_cons (q_pe_call G_l_due hr_l_due (by rfl) T.mg_l_due T.kp_l_due T.b_l_due .nil pass0 (q_pa_cons (q_pv 6) q_pa_nil star_Name)) q_pa_nil star_Call) star_Name) star_Name))))))) (q_pss_one (q_ps_ret q_pe_bl)) q_pss_nil)
      (q_pss_cons (q_ps_if (QW.pt (q_pw_or (q_pt_cmpR (op_eqD hr.units) (q_pv 12) q_pe_str (nomark _)) (q_pw_or1 (q_pt_cmpR (op_eqD hr.units) (q_pv 12) q_pe_str (nomark _))))) (q_pss_one (q_ps_ret (q_pe_and (q_pe_cmpR op_notN (q_pv 14) q_pe_non (nomark _)) (q_pe_one (q_pe_cmpR op_eq (q_pe_call G_l_class hr_l_class (by rfl) T.mg_l_class T.kp_l_class T.b_l_class .nil pass0 (q_pa_cons (q_pv 14) q_pa_nil star_Name)) (q_pv 12) (nomark _)))))) q_pss_nil)
      (q_pss_cons (q_ps_if (QW.pt (q_pw_or (q_pt_cmpR op_notN (q_pv 14) q_pe_non (nomark _)) (q_pw_or1 (q_pt_not (q_pt_val (q_pe_call G_l_told_right hr_l_told_right (by rfl) T.mg_l_told_right T.kp_l_told_right T.b_l_told_right .nil pass0 (q_pa_cons (q_pv 13) (q_pa_cons (q_pv 8) (q_pa_cons (q_pv 12) q_pa_nil star_Name) star_Name) star_Name))))))) (q_pss_one (q_ps_ret q_pe_bl)) q_pss_nil)
      (q_pss_cons (q_ps_if (q_pt_val (q_pv 3)) (q_pss_cons (q_ps_asg q_pe_int (q_pg_sub (q_pe_ix ix_list (q_pv 10) q_pe_int (fun _ _ => rfl)) q_pe_int set_list))
      (q_pss_cons (q_ps_asg q_pe_str (q_pg_sub (q_pe_ix ix_list (q_pv 10) (q_pe_un un_neg q_pe_int) (fun _ _ => rfl)) q_pe_int set_list))
      (q_pss_one (q_ps_expr (q_pe_bm PySem.F.plainAttrs_list PySem.F.slot_list_append PySem.F.type_list_append mt_append (q_pv 10) (q_pa_cons (q_pe_lst q_pa_nil) q_pa_nil star_List)))))) q_pss_nil)
      (q_pss_one (q_ps_ret (q_pe_and (q_pe_call G_l_told_right hr_l_told_right (by rfl) T.mg_l_told_right T.kp_l_told_right T.b_l_told_right .nil pass0 (q_pa_cons (q_pv 13) (q_pa_cons (q_pv 8) (q_pa_cons (q_pv 12) q_pa_nil star_Name) star_Name) star_Name)) (q_pe_one (q_pe_call G_l_told_right hr_l_told_right (by rfl) T.mg_l_told_right T.kp_l_told_right T.b_l_told_right .nil pass0 (q_pa_cons (q_pv 11) (q_pa_cons (q_pv 6) (q_pa_cons (q_pe_call G_l_due hr_l_due (by rfl) T.mg_l_due T.kp_l_due T.b_l_due .nil pass0 (q_pa_cons (q_pv 6) q_pa_nil star_Name)) q_pa_nil star_Call) star_Name) star_Name))))))))))))))))))))))))))), ?_⟩
    refine ⟨_, rfl, a, _, rfl, .inl hS.sq, fun c hc => ⟨(by show 2 ≤ sizeLine; decide), fun d hd => ?_⟩⟩
    have sd := same_new (o := .lst [V.ref c, V.int 0]) hd
    have fd := new_at (o := .lst [V.ref c, V.int 0]) hd
    have fc := sd _ _ (new_at (o := .lst (ns.map V.int)) hc)
    have ncd : c ≠ d := ne_of_none (new_at (o := .lst (ns.map V.int)) hc) hd
    generalize (upd (upd H c (.lst (ns.map V.int))) d (.lst [V.ref c, V.int 0])) = H0 at fd fc
    refine ⟨c, .lst (ns.map V.int), fc, trivial, fun od => ?_⟩
    have fz0 : (upd H0 c (.frz od (.lst (ns.map V.int)))) c = some (.frz od (.lst (ns.map V.int))) := upd_same
    have D0 : DrawAt K (upd H0 c (.frz od (.lst (ns.map V.int)))) d c ns := ⟨⟨0, by decide, by rw [upd_ne ncd.symm]; exact fd⟩, .inl ⟨od, upd_same⟩, hlen⟩
    generalize (upd H0 c (.frz od (.lst (ns.map V.int)))) = H1 at fz0 D0
    refine ⟨(by show 6 ≤ sizeLine; decide), fun p hp => ?_⟩
    have s2 := same_new (o := .lst (([0, 1, 1, 1, 2, 2] : List Int).map V.int)) hp
    have D2 := D0.same s2
    have np := D0.ne hp
    refine ⟨_, rfl, d, c, ns, _, rfl, D2, by decide, fun r H3 r0 r1 D3 k3 => ?_⟩
    obtain ⟨v, hv, hm⟩ := at_bound (xs := ([0, 1, 1, 1, 2, 2] : List Int).map V.int) r0 r1
    obtain ⟨sp, hsp, rfl⟩ := List.mem_map.mp hm
    have sp2 : 0 ≤ sp ∧ sp ≤ 2 := by
      simp only [List.mem_cons, List.not_mem_nil, or_false] at hsp
      omega
    have K3 : Keep d H1 H3 := (Keep.of s2).trans k3
    refine ⟨p, _, r, _, rfl, rfl, SqL.of (k3 _ _ upd_same np), hv, ?_⟩
    refine ⟨_, rfl, d, c, ns, _, rfl, D3, by decide, fun r4 H4 _ _ D4 k4 => ⟨rfl, ?_⟩⟩
    generalize decide (V.int r4 = V.int 1) = bt
    refine ⟨_, rfl, d, c, ns, _, rfl, D4, by decide, fun m1 H5 m10 m11 D5 k5 => ⟨_, _, rfl, rfl, (by show 2 ≤ sizeLine; decide), fun Lm hLm => ?_⟩⟩
    have s6 := same_new (o := .lst (([1 + m1, 40] : List Int).map V.int)) hLm
    have f6 := new_at (o := .lst (([1 + m1, 40] : List Int).map V.int)) hLm
    have nLm := D5.ne hLm
    have D6 := D5.same s6
    refine ⟨_, rfl, d, c, ns, _, rfl, D6, by decide, fun r7 H7 _ _ D7 k7 => ⟨rfl, .inr ⟨_, rfl, ?_⟩⟩⟩
    generalize decide (V.int r7 = V.int 0) = bm
    obtain ⟨mn, hmn, mn1, mn2⟩ : ∃ mn : Int, atI (([1 + m1, 40] : List Int).map V.int) (if bm then 1 else 0) = some (V.int mn) ∧ 1 ≤ mn ∧ mn ≤ 40 := by
      cases bm with
      | false => exact ⟨1 + m1, at_of (j := 0) rfl rfl, by omega, by omega⟩
      | true => exact ⟨40, at_of (j := 1) rfl rfl, by decide, by decide⟩
    refine ⟨Lm, _, _, _, rfl, rfl, SqL.of (k7 _ _ f6 nLm), hmn, ?_⟩
    have K7 := (((K3.trans k4).trans k5).trans (.of s6)).trans k7
    refine ⟨_, rfl, _, rfl, d, c, ns, _, rfl, D7, by decide, fun g8 H8 g80 g81 D8 k8 => ⟨_, _, rfl, rfl, ?_⟩⟩
    refine ⟨d, c, ns, _, rfl, D8, by omega, by omega, fun Lgo gs goods H9 h9 tg9 lg9 nd9 gok9 nLgo D9 k9 => ?_⟩
    have K9 := (K7.trans k8).trans k9
    refine ⟨_, rfl, _, rfl, _, rfl, d, c, Lgo, ns, gs, goods, mn, rfl, D9, h9, tg9, nLgo, by omega, by omega, nd9, gok9, by omega, by omega, fun Lg rs rows H10 h10 tr10 lr10 ri nLg D10 k10 => ?_⟩
    have K10 := K9.trans k10
    have gT : GoodT rows := goodT_of ri (by omega) (by omega) (by omega)
    have tx9 := rtx_of ri
    refine ⟨_, rfl, d, c, ns, 5, rfl, D10, by decide, by decide, fun Lw ws H11 lw nw aw hw nLw D11 k11 => ?_⟩
    have nLw' : Lw ≠ d := D10.ne nLw
    have K11 := K10.trans k11
    have h11 := k11 _ _ h10 nLg
    have tr11 := tr10.mono (D10.tups k11)
    refine ⟨_, rfl, Lg, _, rfl, .inl (SqL.of h11), fun L0 hL0 => ?_⟩
    have s12 := same_new (o := .lst (rs.map V.ref)) hL0
    have f12 := new_at (o := .lst (rs.map V.ref)) hL0
    have D12 := D11.same s12
    have nL0 := D11.ne hL0
    have K12 := K11.trans (.of s12)
    have h12 := s12 _ _ h11
    have tr12 := tr11.mono (.same s12)
    have hw12 := s12 _ _ hw
    generalize (upd H11 L0 (.lst (rs.map V.ref))) = H12 at f12 D12 K12 h12 tr12 hw12
    refine ⟨_, rfl, sp, rfl, by omega, by omega, ?_⟩
    refine for_range (lo := 0) (n := sp.toNat) (fun i σ H' => ∃ (o9 : Option V) (Lr : Addr) (rs' : List Addr) (rows' : List RW), σ = [some (.ref a), some (.ref d), some (.int sp), some (.bl bt), some (.int mn), some (.ref Lgo), some (.ref Lg), some (.ref Lw), some (.ref Lr), o9, none, none, none, none, none, none, none] ∧ H' Lr = some (.lst (rs'.map V.ref)) ∧ TA rwV H' rs' rows' ∧ rows'.length ≤ 41 ∧ (∀ u ∈ rows', RTx (9 + i) u) ∧ Lr ≠ d ∧ DrawAt K H' d c ns ∧ Keep d H12 H') ?_ ?_ ?_
    · exact ⟨_, L0, rs, rows, rfl, f12, tr12, by omega, tx9, nL0, D12, .of (Same.refl _)⟩
    · rintro i σ H13 hi ⟨o9, Lr, rs', rows', rfl, h13, t13, l13, x13, nLr, D13, k13⟩
      have hi : i < sp.toNat := hi
      have hw13 := k13 _ _ hw12 nLw'
      have lay := rws_lay x13
      refine ⟨_, rfl, by decide, fun l0 hl0 => ?_⟩
      have s14 := same_new (o := .lst []) hl0
      refine ⟨_, .list [], .lst (SqL.of (s14 _ _ h13)) (TA.dp dp_rw (t13.mono (.same s14))), .lst (SqL.of upd_same) .nil, (Lay.list lay).shaped (by decide), rfl, _, rfl, ?_⟩
      rw [eqv_nil]
      have h14 := s14 _ _ h13
      have t14 := t13.mono (.same s14)
      have D14 := D13.same s14
      have k14 := k13.trans (.of s14)
      have hw14 := s14 _ _ hw13
      generalize (upd H13 l0 (.lst [])) = H14 at h14 t14 D14 k14 hw14
      refine ite2 (fun ce => ?_) (fun ce => ?_)
      · have ne0 : rows'.length ≠ 0 := by
          intro z
          have : rows' = [] := List.length_eq_zero_iff.mp z
          rw [this] at ce
          cases ce
        refine ⟨_, rfl, _, rfl, _, rfl, d, c, Lr, Lw, ns, rs', rows', ws, 9 + i, rfl, D14, h14, t14, ne0, l13, x13, by omega, by omega, hw14, lw, aw, nLr, nLw', fun L' rs2 rows2 H15 h15 t15 l15 x15 nL' D15 k15 => ?_⟩
        exact ⟨_, L', rs2, rows2, rfl, h15, t15, l15, x15, nL', D15, k14.trans k15⟩
      · exact ⟨_, Lr, rs', rows', rfl, h14, t14, l13, fun u hu => (x13 u hu).mono (by omega), nLr, D14, k14⟩
    rintro σ H13 ⟨o9, Lr, rs', rows', rfl, h13, t13, l13, x13, nLr, D13, k13⟩
    have S13 : S51 H13 c Lg Lr ns od rs rows rs' rows' := ⟨k13 _ _ (K12 _ _ fz0 ncd) ncd, k13 _ _ h12 nLg, tr12.mono (D12.tups k13), h13, t13⟩
    have txg : ∀ u ∈ rows, RTx 1000 u := fun u hu => (tx9 u hu).mono (by decide)
    have txr : ∀ u ∈ rows', RTx 1000 u := fun u hu => (x13 u hu).mono (by omega)
    have lg60 : rows.length ≤ 60 := by omega
    have lr60 : rows'.length ≤ 60 := by omega
    clear h13 t13 l13 x13 D13 k13 h12 tr12 hw12 D12 K12 f12 h11 tr11 K11 D11 hw K10 D10 tr10 h10 ri
    refine ⟨_, rfl, Lr, _, rfl, .inl ⟨SqL.of S13.r, fun Ht hHt => ?_⟩⟩
    have s14 := same_new (o := .tup (rs'.map V.ref)) hHt
    have f14 := new_at (o := .tup (rs'.map V.ref)) hHt
    have S14 := S13.same s14
    generalize (upd H13 Ht (.tup (rs'.map V.ref))) = H14 at f14 S14
    cases bt with
    | false =>
      refine ⟨_, rfl, _, rfl, iteF ?_⟩
      have hd14 : H14 Ht = some (.tup (rs'.map V.ref)) ∧ TA rwV H14 rs' rows' := ⟨f14, S14.tr⟩
      refine ⟨_, rfl, fun xo dxo hxo hdxo nxo => ?_⟩
      have so := made_new (o1 := .own xo) (o2 := .ins t.C_Changers dxo []) hxo hdxo
      refine .inl ⟨xo, dxo, Lg, rs, rows, rfl, upd_same, so _ _ S14.g, .of (S14.tg.mono (.same so)), lg60, txg, .inl ⟨gT, fun Oo oso H15 tb15 k15 => ⟨rfl, ?_⟩⟩⟩
      have s15 := made_same hxo hdxo k15
      have S15 := S14.same s15
      have hd15 := (⟨s15 _ _ hd14.1, hd14.2.mono (.same s15)⟩ : _ ∧ TA rwV _ rs' rows')
      refine ⟨_, rfl, Lr, rs', rows', rfl, S15.r, S15.tr, lr60, txr, fun du H16 s16 dv16 => ?_⟩
      have S16 := S15.same s16
      have tb16 := tb15.same s16
      have hd16 := (⟨s16 _ _ hd15.1, hd15.2.mono (.same s16)⟩ : _ ∧ TA rwV _ rs' rows')
      refine ⟨_, rfl, fun xt dxt hxt hdxt nxt => ?_⟩
      have st := made_new (o1 := .own xt) (o2 := .ins t.C_Changers dxt []) hxt hdxt
      have hdt := (⟨st _ _ hd16.1, hd16.2.mono (.same st)⟩ : _ ∧ TA rwV _ rs' rows')
      refine .inr ⟨xt, dxt, Ht, rs', rows', rfl, upd_same, hdt.1, .of hdt.2, lr60, txr, ?_⟩
      rcases good_or_badT t rows' with g | ⟨C, wd, b⟩
      case inr =>
        refine .inr ⟨C, wd, b, fun H17 s17 => ⟨C, rfl, caught T b.word, fun ea hea => ?_⟩⟩
        have s18 := (made_sameN hxt hdxt s17).trans (same_new (o := .ext (excAt ea C)) hea)
        have he : (upd H17 ea (.ext (excAt ea C))) ea = some (.ext (excAt ea C)) := upd_same
        have S18 := S16.same s18
        have tb18 := tb16.same s18
        have hd18 := (⟨s18 _ _ hd16.1, hd16.2.mono (.same s18)⟩ : _ ∧ TA rwV _ rs' rows')
        generalize (upd H17 ea (.ext (excAt ea C))) = H18 at S18 tb18 hd18 he
        refine ⟨_, rfl, ?_⟩
        refine ⟨_, rfl, Ht, rfl, .inr ⟨⟨_, SqT.of hd18.1⟩, fun Lc hLc => ?_⟩⟩
        refine lc_tup (xs := (rs').map V.ref) (fun i H' => ∃ os : List Addr, H' Lc = some (.lst (os.map V.ref)) ∧ TA rwV H' os (rows'.take i) ∧ Same H18 H') ?_ ?_ ?_ ?_
        · exact ⟨[], upd_same, .nil _ _, same_new hLc⟩
        · rintro i H19 hi ⟨os, h19, u19, z19⟩
          exact SqT.of (z19 _ _ hd18.1)
        · rintro i y H19 hy ⟨os, h19, u19, z19⟩
          obtain ⟨q, hq, rfl⟩ := ref_at hy
          obtain ⟨u, hu, e⟩ := hd18.2.at_ i q hq
          have hi := (List.getElem?_eq_some_iff.mp hu).1
          have ol := u19.len
          rw [List.length_take] at ol
          have et : rows'.take (i + 1) = rows'.take i ++ [u] := by rw [List.take_succ, hu]; rfl
          refine ⟨rfl, yes_i ?_⟩
          have t2 : Tups H19 (upd H19 Lc (.lst (os.map V.ref ++ [V.ref q]))) := Tups.upd h19
          refine ⟨_, rfl, q, rwV u, rfl, .inr ⟨SqT.of (z19 _ _ e), _, h19, small1000 (by rw [List.length_map]; omega), os ++ [q], by rw [upd_same, List.map_append]; rfl, ?_, fun b o eb => ?_⟩⟩
          · rw [et]
            exact (u19.mono t2).snoc (t2 _ _ (z19 _ _ e))
          · rw [upd_ne (ne_of_none eb hLc)]; exact z19 b o eb
        rintro H19 ⟨os, h19, u19, z19⟩
        have u19 : TA rwV H19 os rows' := by
          rw [List.length_map, hd18.2.len, List.take_length] at u19
          exact u19
        have S19 := S18.same z19
        have lyr := Lay.list (rws_lay txr)
        refine ⟨_, rfl, _, _, .lst (SqL.of h19) (TA.dp dp_rw u19), .lst (SqL.of S19.r) (TA.dp dp_rw S19.tr), lyr.shaped (by decide), lyr.shaped (by decide), _, rfl, ?_⟩
        rw [lyr.refl]
        refine iteF ?_
        refine ⟨_, rfl, _, rfl, _, rfl, Lg, rs, rows, rfl, S19.g, S19.tg, lg60, txg, fun dg H20 s20 dv20 => ?_⟩
        obtain ⟨ph, qh, rfl, hph, tph⟩ := dv20.good gT
        have S20 := S19.same s20
        refine ⟨xo, Oo, Lg, ph, oso, rs, qh, rows, rfl, (tb18.same z19).same s20, S20.g, S20.tg, hph, tph, lg60, txg, fun H21 s21 => ⟨_, rfl, iteF ?_⟩⟩
        have z21 := (z19.trans s20).trans s21
        have S18 := S18.same z21
        have tb18 := tb18.same z21
        have hd18 := (⟨z21 _ _ hd18.1, hd18.2.mono (.same z21)⟩ : _ ∧ TA rwV _ rs' rows')
        have he := z21 _ _ he
        rw [dv16.bad b]
        rcases b.word with ⟨rfl, rfl⟩ | ⟨rfl, rfl⟩
        · refine ⟨_, rfl, _, _, .str _, .str _, shN, shN, _, rfl, iteT (iteT ?_)⟩
          refine ⟨_, rfl, rfl, _, rfl, iteT ?_⟩
          refine ⟨_, rfl, _, _, .inl ⟨rfl, rfl⟩, ea, rfl, he, fun H30 s30 => ?_⟩
          exact ⟨_, rfl, rfl, s30 _ _ S18.fz, k _⟩
        · refine ⟨_, rfl, _, _, .str _, .str _, shR, shN, _, rfl, iteF ?_⟩
          refine ⟨_, rfl, _, _, .str _, .str _, shR, shR, _, rfl, iteT ?_⟩
          refine ⟨_, rfl, rfl, _, rfl, iteT ?_⟩
          refine ⟨_, rfl, _, _, .inr ⟨rfl, rfl⟩, ea, rfl, he, fun H30 s30 => ?_⟩
          exact ⟨_, rfl, rfl, s30 _ _ S18.fz, k _⟩
      refine .inl ⟨g, fun Ot ost H17 tt17 k17 => ⟨rfl, ?_⟩⟩
      have s17 := made_same hxt hdxt k17
      have S18 := S16.same s17
      have tb18 := tb16.same s17
      have hd18 := (⟨s17 _ _ hd16.1, hd16.2.mono (.same s17)⟩ : _ ∧ TA rwV _ rs' rows')
      have du18 := (dv16.good g).mono (.same s17)
      have tt18 := tt17
      generalize hH18 : H17 = H18 at S18 tb18 hd18 du18 tt18
      refine ⟨_, rfl, Ht, rfl, .inr ⟨⟨_, SqT.of hd18.1⟩, fun Lc hLc => ?_⟩⟩
      refine lc_tup (xs := (rs').map V.ref) (fun i H' => ∃ os : List Addr, H' Lc = some (.lst (os.map V.ref)) ∧ TA rwV H' os (rows'.take i) ∧ Same H18 H') ?_ ?_ ?_ ?_
      · exact ⟨[], upd_same, .nil _ _, same_new hLc⟩
      · rintro i H19 hi ⟨os, h19, u19, z19⟩
        exact SqT.of (z19 _ _ hd18.1)
      · rintro i y H19 hy ⟨os, h19, u19, z19⟩
        obtain ⟨q, hq, rfl⟩ := ref_at hy
        obtain ⟨u, hu, e⟩ := hd18.2.at_ i q hq
        have hi := (List.getElem?_eq_some_iff.mp hu).1
        have ol := u19.len
        rw [List.length_take] at ol
        have et : rows'.take (i + 1) = rows'.take i ++ [u] := by rw [List.take_succ, hu]; rfl
        refine ⟨rfl, yes_i ?_⟩
        have t2 : Tups H19 (upd H19 Lc (.lst (os.map V.ref ++ [V.ref q]))) := Tups.upd h19
        refine ⟨_, rfl, q, rwV u, rfl, .inr ⟨SqT.of (z19 _ _ e), _, h19, small1000 (by rw [List.length_map]; omega), os ++ [q], by rw [upd_same, List.map_append]; rfl, ?_, fun b o eb => ?_⟩⟩
        · rw [et]
          exact (u19.mono t2).snoc (t2 _ _ (z19 _ _ e))
        · rw [upd_ne (ne_of_none eb hLc)]; exact z19 b o eb
      rintro H19 ⟨os, h19, u19, z19⟩
      have u19 : TA rwV H19 os rows' := by
        rw [List.length_map, hd18.2.len, List.take_length] at u19
        exact u19
      have S19 := S18.same z19
      have lyr := Lay.list (rws_lay txr)
      refine ⟨_, rfl, _, _, .lst (SqL.of h19) (TA.dp dp_rw u19), .lst (SqL.of S19.r) (TA.dp dp_rw S19.tr), lyr.shaped (by decide), lyr.shaped (by decide), _, rfl, ?_⟩
      rw [lyr.refl]
      refine iteF ?_
      refine ⟨_, rfl, _, rfl, _, rfl, Lg, rs, rows, rfl, S19.g, S19.tg, lg60, txg, fun dg H20 s20 dv20 => ?_⟩
      obtain ⟨ph, qh, rfl, hph, tph⟩ := dv20.good gT
      have S20 := S19.same s20
      refine ⟨xo, Oo, Lg, ph, oso, rs, qh, rows, rfl, (tb18.same z19).same s20, S20.g, S20.tg, hph, tph, lg60, txg, fun H21 s21 => ⟨_, rfl, iteF ?_⟩⟩
      have z21 := (z19.trans s20).trans s21
      have S18 := S18.same z21
      have tb18 := tb18.same z21
      have hd18 := (⟨z21 _ _ hd18.1, hd18.2.mono (.same z21)⟩ : _ ∧ TA rwV _ rs' rows')
      have du18 := du18.mono (.same z21)
      have tt18 := tt18.same z21
      obtain ⟨pd, qd, rfl, hpd, tpd⟩ := id du18
      have lg := Lay.tuple (gds_lay (gOf_tx txr))
      refine ⟨_, rfl, _, _, .tup (SqT.of hpd) (TA.dp dp_gd tpd), .str _, lg.shaped (by decide), shN, _, rfl, iteF ?_⟩
      refine ⟨_, rfl, _, _, .tup (SqT.of hpd) (TA.dp dp_gd tpd), .str _, lg.shaped (by decide), shR, _, rfl, iteF ?_⟩
      refine ⟨_, rfl, rfl, _, rfl, iteF ?_⟩
      refine ⟨_, rfl, _, rfl, _, rfl, xt, Ot, Lr, pd, ost, rs', qd, rows', rfl, tt18, S18.r, S18.tr, hpd, tpd, lr60, txr, fun H19 s19 => ⟨_, rfl, iteF ?_⟩⟩
      have S19 := S18.same s19
      have tb19 := tb18.same s19
      have tt19 := tt18.same s19
      have hd19 := (⟨s19 _ _ hd18.1, hd18.2.mono (.same s19)⟩ : _ ∧ TA rwV _ rs' rows')
      have du19 := du18.mono (.same s19)
      refine ⟨_, rfl, _, rfl, iteF ?_⟩
      obtain ⟨pe, qe, epe, hpe, tpe⟩ := id du19
      cases epe
      refine ⟨_, rfl, _, rfl, _, rfl, xt, Ot, Lr, _, ost, rs', qe, rows', rfl, tt19, S19.r, S19.tr, hpe, tpe, lr60, txr, fun H20 s20 => ⟨_, rfl, iteT ?_⟩⟩
      have S20 := S19.same s20
      have tb20 := tb19.same s20
      refine ⟨_, rfl, _, rfl, _, rfl, Lg, rs, rows, rfl, S20.g, S20.tg, lg60, txg, fun dg H21 s21 dv21 => ?_⟩
      obtain ⟨ph, qh, rfl, hph, tph⟩ := dv21.good gT
      have S21 := S20.same s21
      refine ⟨xo, Oo, Lg, ph, oso, rs, qh, rows, rfl, tb20.same s21, S21.g, S21.tg, hph, tph, lg60, txg, fun H22 s22 => ?_⟩
      exact ⟨s22 _ _ S21.fz, k _⟩
    | true =>
      refine ⟨_, rfl, _, rfl, iteT ?_⟩
      refine ⟨_, rfl, Lr, rfl, ⟨_, SqL.of S14.r⟩, fun Lh hLh => ?_⟩
      refine lc_list (xs := rs'.map V.ref) (fun i H' => ∃ qs : List Addr, H' Lh = some (.lst (qs.map V.ref)) ∧ LA H' qs (rows'.take i) ∧ (∀ q ∈ qs, H14 q = none ∧ q ≠ Lh) ∧ Same H14 H') ?_ ?_ ?_ ?_
      · exact ⟨[], upd_same, ⟨rfl, fun i q e => by cases e⟩, by simp, same_new hLh⟩
      · rintro i H15 hi ⟨qs, h15, u15, nq, z15⟩
        exact SqL.of (z15 _ _ S14.r)
      · rintro i y H15 hy ⟨qs, h15, u15, nq, z15⟩
        obtain ⟨q, hq, rfl⟩ := ref_at hy
        obtain ⟨u, hu, e⟩ := S14.tr.at_ i q hq
        have hi := (List.getElem?_eq_some_iff.mp hu).1
        have ol := u15.len
        rw [List.length_take] at ol
        have et : rows'.take (i + 1) = rows'.take i ++ [u] := by rw [List.take_succ, hu]; rfl
        refine ⟨rfl, yes_i ?_⟩
        refine ⟨_, rfl, q, rwV u, rfl, .inr (SqT.of (z15 _ _ e)), fun l hl => ?_⟩
        have s2 := same_new (o := .lst (rwV u)) hl
        have f2 := new_at (o := .lst (rwV u)) hl
        have h2 := s2 _ _ h15
        have nl : l ≠ Lh := (ne_of_none h15 hl).symm
        have l14 := new_before z15 hl
        refine ⟨_, h2, small1000 (by rw [List.length_map]; omega), qs ++ [l], by rw [upd_same, List.map_append]; rfl, ?_, ?_, fun b o eb => ?_⟩
        · rw [et]
          have k3 : ∀ q' ∈ qs ++ [l], (upd (upd H15 l (.lst (rwV u))) Lh (.lst (qs.map V.ref ++ [V.ref l]))) q' = (upd H15 l (.lst (rwV u))) q' := fun q' hq' => by
            refine upd_ne ?_
            rcases List.mem_append.mp hq' with z | z
            · exact (nq q' z).2
            · rw [List.mem_singleton.mp z]; exact nl
          have la := (u15.same s2).snoc f2
          exact ⟨la.len, fun j q' e' => by rw [k3 q' (List.mem_of_getElem? e')]; exact la.at_ j q' e'⟩
        · intro q' hq'
          rcases List.mem_append.mp hq' with z | z
          · exact nq q' z
          · rw [List.mem_singleton.mp z]; exact ⟨l14, nl⟩
        · rw [upd_ne (ne_of_none eb hLh)]; exact s2 _ _ (z15 b o eb)
      rintro H14' ⟨qs, h15, u15, nq, z15⟩
      rw [List.length_map, S14.tr.len, List.take_length] at u15
      have nLgh : Lg ≠ Lh := ne_of_none S14.g hLh
      have nLrh : Lr ≠ Lh := ne_of_none S14.r hLh
      have nqg : ∀ q ∈ qs, Lg ≠ q := fun q hq => ne_of_none S14.g (nq q hq).1
      have nqr : ∀ q ∈ qs, Lr ≠ q := fun q hq => ne_of_none S14.r (nq q hq).1
      have nqh : ∀ q ∈ qs, q ≠ Lh := fun q hq => (nq q hq).2
      have S14 := S14.same z15
      have hd14 : H14' Lh = some (.lst (qs.map V.ref)) ∧ LA H14' qs rows' ∧ True := ⟨h15, u15, trivial⟩
      clear nq h15 u15 z15 f14
      generalize H14' = H14 at S14 hd14
      refine ⟨_, rfl, fun xo dxo hxo hdxo nxo => ?_⟩
      have so := made_new (o1 := .own xo) (o2 := .ins t.C_Changers dxo []) hxo hdxo
      refine .inl ⟨xo, dxo, Lg, rs, rows, rfl, upd_same, so _ _ S14.g, .of (S14.tg.mono (.same so)), lg60, txg, .inl ⟨gT, fun Oo oso H15 tb15 k15 => ⟨rfl, ?_⟩⟩⟩
      have s15 := made_same hxo hdxo k15
      have S15 := S14.same s15
      have hd15 := (⟨s15 _ _ hd14.1, hd14.2.1.same s15, trivial⟩ : _ ∧ LA _ qs rows' ∧ True)
      refine ⟨_, rfl, Lr, rs', rows', rfl, S15.r, S15.tr, lr60, txr, fun du H16 s16 dv16 => ?_⟩
      have S16 := S15.same s16
      have tb16 := tb15.same s16
      have hd16 := (⟨s16 _ _ hd15.1, hd15.2.1.same s16, trivial⟩ : _ ∧ LA _ qs rows' ∧ True)
      refine ⟨_, rfl, fun xt dxt hxt hdxt nxt => ?_⟩
      have st := made_new (o1 := .own xt) (o2 := .ins t.C_Changers dxt []) hxt hdxt
      have hdt := (⟨st _ _ hd16.1, hd16.2.1.same st, trivial⟩ : _ ∧ LA _ qs rows' ∧ True)
      refine .inl ⟨xt, dxt, Lh, qs, rows', rfl, upd_same, hdt.1, hdt.2.1.ra, lr60, txr, ?_⟩
      rcases good_or_badT t rows' with g | ⟨C, wd, b⟩
      case inr =>
        refine .inr ⟨C, wd, b, fun H17 s17 => ⟨C, rfl, caught T b.word, fun ea hea => ?_⟩⟩
        have s18 := (made_sameN hxt hdxt s17).trans (same_new (o := .ext (excAt ea C)) hea)
        have he : (upd H17 ea (.ext (excAt ea C))) ea = some (.ext (excAt ea C)) := upd_same
        have S18 := S16.same s18
        have tb18 := tb16.same s18
        have hd18 := (⟨s18 _ _ hd16.1, hd16.2.1.same s18, trivial⟩ : _ ∧ LA _ qs rows' ∧ True)
        generalize (upd H17 ea (.ext (excAt ea C))) = H18 at S18 tb18 hd18 he
        refine ⟨_, rfl, ?_⟩
        refine ⟨_, rfl, Lh, rfl, .inl ⟨⟨_, SqL.of hd18.1⟩, fun Lc hLc => ?_⟩⟩
        refine lc_list (xs := (qs).map V.ref) (fun i H' => ∃ os : List Addr, H' Lc = some (.lst (os.map V.ref)) ∧ TA rwV H' os (rows'.take i) ∧ Same H18 H') ?_ ?_ ?_ ?_
        · exact ⟨[], upd_same, .nil _ _, same_new hLc⟩
        · rintro i H19 hi ⟨os, h19, u19, z19⟩
          exact SqL.of (z19 _ _ hd18.1)
        · rintro i y H19 hy ⟨os, h19, u19, z19⟩
          obtain ⟨q, hq, rfl⟩ := ref_at hy
          obtain ⟨u, hu, e⟩ := hd18.2.1.at_ i q hq
          have hi := (List.getElem?_eq_some_iff.mp hu).1
          have ol := u19.len
          rw [List.length_take] at ol
          have et : rows'.take (i + 1) = rows'.take i ++ [u] := by rw [List.take_succ, hu]; rfl
          refine ⟨rfl, yes_i ?_⟩
          refine ⟨_, rfl, q, rwV u, rfl, .inl ⟨SqL.of (z19 _ _ e), fun l hl => ?_⟩⟩
          have s2 := same_new (o := .tup (rwV u)) hl
          have f2 := new_at (o := .tup (rwV u)) hl
          have h2 := s2 _ _ h19
          have t2 : Tups _ (upd (upd H19 l (.tup (rwV u))) Lc (.lst (os.map V.ref ++ [V.ref l]))) := Tups.upd h2
          refine ⟨_, h2, small1000 (by rw [List.length_map]; omega), os ++ [l], by rw [upd_same, List.map_append]; rfl, ?_, fun b o eb => ?_⟩
          · rw [et]
            exact ((u19.mono (.same s2)).mono t2).snoc (t2 _ _ f2)
          · rw [upd_ne (ne_of_none eb hLc)]; exact s2 _ _ (z19 b o eb)
        rintro H19 ⟨os, h19, u19, z19⟩
        have u19 : TA rwV H19 os rows' := by
          rw [List.length_map, hd18.2.1.len, List.take_length] at u19
          exact u19
        have S19 := S18.same z19
        have lyr := Lay.list (rws_lay txr)
        refine ⟨_, rfl, _, _, .lst (SqL.of h19) (TA.dp dp_rw u19), .lst (SqL.of S19.r) (TA.dp dp_rw S19.tr), lyr.shaped (by decide), lyr.shaped (by decide), _, rfl, ?_⟩
        rw [lyr.refl]
        refine iteF ?_
        refine ⟨_, rfl, _, rfl, _, rfl, Lg, rs, rows, rfl, S19.g, S19.tg, lg60, txg, fun dg H20 s20 dv20 => ?_⟩
        obtain ⟨ph, qh, rfl, hph, tph⟩ := dv20.good gT
        have S20 := S19.same s20
        refine ⟨xo, Oo, Lg, ph, oso, rs, qh, rows, rfl, (tb18.same z19).same s20, S20.g, S20.tg, hph, tph, lg60, txg, fun H21 s21 => ⟨_, rfl, iteF ?_⟩⟩
        have z21 := (z19.trans s20).trans s21
        have S18 := S18.same z21
        have tb18 := tb18.same z21
        have hd18 := (⟨z21 _ _ hd18.1, hd18.2.1.same z21, trivial⟩ : _ ∧ LA _ qs rows' ∧ True)
        have he := z21 _ _ he
        rw [dv16.bad b]
        rcases b.word with ⟨rfl, rfl⟩ | ⟨rfl, rfl⟩
        · refine ⟨_, rfl, _, _, .str _, .str _, shN, shN, _, rfl, iteT (iteT ?_)⟩
          refine ⟨_, rfl, rfl, _, rfl, iteT ?_⟩
          refine ⟨_, rfl, _, _, .inl ⟨rfl, rfl⟩, ea, rfl, he, fun H30 s30 => ?_⟩
          exact ⟨_, rfl, rfl, s30 _ _ S18.fz, k _⟩
        · refine ⟨_, rfl, _, _, .str _, .str _, shR, shN, _, rfl, iteF ?_⟩
          refine ⟨_, rfl, _, _, .str _, .str _, shR, shR, _, rfl, iteT ?_⟩
          refine ⟨_, rfl, rfl, _, rfl, iteT ?_⟩
          refine ⟨_, rfl, _, _, .inr ⟨rfl, rfl⟩, ea, rfl, he, fun H30 s30 => ?_⟩
          exact ⟨_, rfl, rfl, s30 _ _ S18.fz, k _⟩
      refine .inl ⟨g, fun Ot ost H17 tt17 k17 => ⟨rfl, ?_⟩⟩
      have s17 := made_same hxt hdxt k17
      have S18 := S16.same s17
      have tb18 := tb16.same s17
      have hd18 := (⟨s17 _ _ hd16.1, hd16.2.1.same s17, trivial⟩ : _ ∧ LA _ qs rows' ∧ True)
      have du18 := (dv16.good g).mono (.same s17)
      have tt18 := tt17
      generalize hH18 : H17 = H18 at S18 tb18 hd18 du18 tt18
      refine ⟨_, rfl, Lh, rfl, .inl ⟨⟨_, SqL.of hd18.1⟩, fun Lc hLc => ?_⟩⟩
      refine lc_list (xs := (qs).map V.ref) (fun i H' => ∃ os : List Addr, H' Lc = some (.lst (os.map V.ref)) ∧ TA rwV H' os (rows'.take i) ∧ Same H18 H') ?_ ?_ ?_ ?_
      · exact ⟨[], upd_same, .nil _ _, same_new hLc⟩
      · rintro i H19 hi ⟨os, h19, u19, z19⟩
        exact SqL.of (z19 _ _ hd18.1)
      · rintro i y H19 hy ⟨os, h19, u19, z19⟩
        obtain ⟨q, hq, rfl⟩ := ref_at hy
        obtain ⟨u, hu, e⟩ := hd18.2.1.at_ i q hq
        have hi := (List.getElem?_eq_some_iff.mp hu).1
        have ol := u19.len
        rw [List.length_take] at ol
        have et : rows'.take (i + 1) = rows'.take i ++ [u] := by rw [List.take_succ, hu]; rfl
        refine ⟨rfl, yes_i ?_⟩
        refine ⟨_, rfl, q, rwV u, rfl, .inl ⟨SqL.of (z19 _ _ e), fun l hl => ?_⟩⟩
        have s2 := same_new (o := .tup (rwV u)) hl
        have f2 := new_at (o := .tup (rwV u)) hl
        have h2 := s2 _ _ h19
        have t2 : Tups _ (upd (upd H19 l (.tup (rwV u))) Lc (.lst (os.map V.ref ++ [V.ref l]))) := Tups.upd h2
        refine ⟨_, h2, small1000 (by rw [List.length_map]; omega), os ++ [l], by rw [upd_same, List.map_append]; rfl, ?_, fun b o eb => ?_⟩
        · rw [et]
          exact ((u19.mono (.same s2)).mono t2).snoc (t2 _ _ f2)
        · rw [upd_ne (ne_of_none eb hLc)]; exact s2 _ _ (z19 b o eb)
      rintro H19 ⟨os, h19, u19, z19⟩
      have u19 : TA rwV H19 os rows' := by
        rw [List.length_map, hd18.2.1.len, List.take_length] at u19
        exact u19
      have S19 := S18.same z19
      have lyr := Lay.list (rws_lay txr)
      refine ⟨_, rfl, _, _, .lst (SqL.of h19) (TA.dp dp_rw u19), .lst (SqL.of S19.r) (TA.dp dp_rw S19.tr), lyr.shaped (by decide), lyr.shaped (by decide), _, rfl, ?_⟩
      rw [lyr.refl]
      refine iteF ?_
      refine ⟨_, rfl, _, rfl, _, rfl, Lg, rs, rows, rfl, S19.g, S19.tg, lg60, txg, fun dg H20 s20 dv20 => ?_⟩
      obtain ⟨ph, qh, rfl, hph, tph⟩ := dv20.good gT
      have S20 := S19.same s20
      refine ⟨xo, Oo, Lg, ph, oso, rs, qh, rows, rfl, (tb18.same z19).same s20, S20.g, S20.tg, hph, tph, lg60, txg, fun H21 s21 => ⟨_, rfl, iteF ?_⟩⟩
      have z21 := (z19.trans s20).trans s21
      have S18 := S18.same z21
      have tb18 := tb18.same z21
      have hd18 := (⟨z21 _ _ hd18.1, hd18.2.1.same z21, trivial⟩ : _ ∧ LA _ qs rows' ∧ True)
      have du18 := du18.mono (.same z21)
      have tt18 := tt18.same z21
      obtain ⟨pd, qd, rfl, hpd, tpd⟩ := id du18
      have lg := Lay.tuple (gds_lay (gOf_tx txr))
      refine ⟨_, rfl, _, _, .tup (SqT.of hpd) (TA.dp dp_gd tpd), .str _, lg.shaped (by decide), shN, _, rfl, iteF ?_⟩
      refine ⟨_, rfl, _, _, .tup (SqT.of hpd) (TA.dp dp_gd tpd), .str _, lg.shaped (by decide), shR, _, rfl, iteF ?_⟩
      refine ⟨_, rfl, rfl, _, rfl, iteF ?_⟩
      refine ⟨_, rfl, _, rfl, _, rfl, xt, Ot, Lr, pd, ost, rs', qd, rows', rfl, tt18, S18.r, S18.tr, hpd, tpd, lr60, txr, fun H19 s19 => ⟨_, rfl, iteF ?_⟩⟩
      have S19 := S18.same s19
      have tb19 := tb18.same s19
      have tt19 := tt18.same s19
      have hd19 := (⟨s19 _ _ hd18.1, hd18.2.1.same s19, trivial⟩ : _ ∧ LA _ qs rows' ∧ True)
      have du19 := du18.mono (.same s19)
      refine ⟨_, rfl, _, rfl, iteT ?_⟩
      have ql := hd19.2.1.len
      have q0l : 0 < qs.length := by have := g.2.2.1; omega
      obtain ⟨u0, hu0, e0⟩ := hd19.2.1.at_ 0 _ (List.getElem?_eq_getElem q0l)
      obtain ⟨ul, hul, el⟩ := hd19.2.1.at_ (qs.length - 1) _ (List.getElem?_eq_getElem (by omega))
      have m0 : qs[0]'q0l ∈ qs := List.getElem_mem q0l
      have ml : qs[qs.length - 1]'(by omega) ∈ qs := List.getElem_mem (by omega)
      have last : (qs.map V.ref).getLast? = some (V.ref (qs[qs.length - 1]'(by omega))) := by
        rw [List.getLast?_eq_getElem?, List.length_map, List.getElem?_map, List.getElem?_eq_getElem (by omega)]; rfl
      have first : (qs.map V.ref)[0]? = some (V.ref (qs[0]'q0l)) := by rw [List.getElem?_map, List.getElem?_eq_getElem q0l]; rfl
      generalize qs[0]'q0l = q0 at e0 m0 first
      generalize qs[qs.length - 1]'(by omega) = ql' at el ml last
      refine ⟨_, rfl, Lh, _, 0, _, rfl, rfl, SqL.of hd19.1, at_of (j := 0) (by decide) first, q0, _, _, 2, rfl, rfl, e0, rfl, ?_⟩
      have kA : Keep q0 H19 (upd H19 q0 (.lst [.str u0.1, .str u0.2.1, .int 7, .str u0.2.2.2.1, .str u0.2.2.2.2.1, nV u0.2.2.2.2.2])) := keep_upd
      have eA : (upd H19 q0 (.lst [.str u0.1, .str u0.2.1, .int 7, .str u0.2.2.2.1, .str u0.2.2.2.2.1, nV u0.2.2.2.2.2])) q0 = some (.lst [.str u0.1, .str u0.2.1, .int 7, .str u0.2.2.2.1, .str u0.2.2.2.2.1, nV u0.2.2.2.2.2]) := upd_same
      have SA := S19.keep kA e0 (nqg q0 m0) (nqr q0 m0)
      have tbA := tb19.keep kA e0
      have ttA := tt19.keep kA e0
      have duA := du19.mono (kA.tups e0)
      have hA := kA _ _ hd19.1 (nqh q0 m0).symm
      obtain ⟨a0, a1, a2, a3, a4, a5, eB⟩ : ∃ a0 a1 a2 a3 a4 a5, (upd H19 q0 (.lst [.str u0.1, .str u0.2.1, .int 7, .str u0.2.2.2.1, .str u0.2.2.2.2.1, nV u0.2.2.2.2.2])) ql' = some (.lst [a0, a1, a2, a3, a4, a5]) := by
        by_cases z : ql' = q0
        · rw [z]; exact ⟨_, _, _, _, _, _, eA⟩
        · exact ⟨_, _, _, _, _, _, kA _ _ el z⟩
      refine ⟨_, rfl, _, rfl, Lh, _, -1, _, rfl, rfl, SqL.of hA, at_last last, ql', _, _, 3, rfl, rfl, eB, rfl, ?_⟩
      have kB := keep_upd (H := upd H19 q0 (.lst [.str u0.1, .str u0.2.1, .int 7, .str u0.2.2.2.1, .str u0.2.2.2.2.1, nV u0.2.2.2.2.2])) (p := ql') (o := .lst [a0, a1, a2, .str "q", a4, a5])
      have SB := SA.keep kB eB (nqg ql' ml) (nqr ql' ml)
      have tbB := tbA.keep kB eB
      have ttB := ttA.keep kB eB
      have duB := duA.mono (kB.tups eB)
      have hB := kB _ _ hA (nqh ql' ml).symm
      refine ⟨_, rfl, .inl ⟨rfl, _, SqL.of hB⟩, (by decide), fun p8 hp8 => ?_⟩
      have s8 := same_new (o := .lst []) hp8
      have hC := s8 _ _ hB
      have SC := SB.same s8
      have tbC := tbB.same s8
      have ttC := ttB.same s8
      have duC := duB.mono (.same s8)
      refine ⟨Lh, _, _, rfl, rfl, hC, small1000 (by rw [List.length_map]; omega), ?_⟩
      have kD := keep_upd (H := upd (upd (upd H19 q0 (.lst [.str u0.1, .str u0.2.1, .int 7, .str u0.2.2.2.1, .str u0.2.2.2.2.1, nV u0.2.2.2.2.2])) ql' (.lst [a0, a1, a2, .str "q", a4, a5])) p8 (.lst [])) (p := Lh) (o := .lst (qs.map V.ref ++ [V.ref p8]))
      have S19 := SC.keep kD hC nLgh nLrh
      have tb19 := tbC.keep kD hC
      have tt19 := ttC.keep kD hC
      have du19 := duC.mono (kD.tups hC)
      obtain ⟨pe, qe, epe, hpe, tpe⟩ := id du19
      cases epe
      refine ⟨_, rfl, _, rfl, _, rfl, xt, Ot, Lr, _, ost, rs', qe, rows', rfl, tt19, S19.r, S19.tr, hpe, tpe, lr60, txr, fun H20 s20 => ⟨_, rfl, iteT ?_⟩⟩
      have S20 := S19.same s20
      have tb20 := tb19.same s20
      refine ⟨_, rfl, _, rfl, _, rfl, Lg, rs, rows, rfl, S20.g, S20.tg, lg60, txg, fun dg H21 s21 dv21 => ?_⟩
      obtain ⟨ph, qh, rfl, hph, tph⟩ := dv21.good gT
      have S21 := S20.same s21
      refine ⟨xo, Oo, Lg, ph, oso, rs, qh, rows, rfl, tb20.same s21, S21.g, S21.tg, hph, tph, lg60, txg, fun H22 s22 => ?_⟩
      exact ⟨s22 _ _ S21.fz, k _⟩
end
end Ck
set_option Elab.async false
set_option linter.all false
set_option pp.maxSteps 1500
set_option maxRecDepth 100000
set_option maxHeartbeats 4000000
namespace Ck
open PySem L2
theorem walk {l : PySem.W.OpenLaw} {q : Program} {loose : List Str} {XP : (Str → Option Value) → Heap → Prop} {YP : World → Heap → Prop} {d : DefRec} {K : Params → PySem.W.Frag} (hn : l.most = some 63) (hdf : d.params.defaults = [])
    (hnm : d.name = "law") (hY : ∀ (w : World) (h : Heap), YP w h → (K w.params).In h)
    (F : ∀ (w : World) (mg : Str → Option Value) (h : Heap), (K w.params).In h → h.Ns mainGlobals mg → ∃ t : Ad, Env (K w.params) mg t) :
    PySem.W.WalkO q loose XP YP l.row.toRowW d [] (fun f vs => PySem.call f vs) := by
  refine L2.walk_of (n := 63) (k := 9) (x := "_law_script") (CX := fun _ => CX0) (sp := fun w => spLaw (K w.params)) hn (by decide) hdf ⟨rfl, by decide, by decide⟩ hY ?_ (fun _ _ a ns hl hO hS => ⟨a, ns, rfl, Scr.of hS hO, hl, fun _ => rfl⟩) fun _ _ _ _ _ z => z
  intro w mg fa h KX G hmg
  obtain ⟨t, T⟩ := F w mg h KX G
  have e := hmg.symm.trans ((congrArg mg hnm).trans T.mg_law)
  cases e
  refine ⟨t.fd_law, ?_, fun base _ _ => ok_law T⟩
  obtain ⟨oc, od, kV, doc, pm, an, cdv, ct, osl, e, lk, hcd⟩ := T.f_law.ex
  rw [e]
  exact fun s v => .of_eq rfl
end Ck
open PySem PySem.W PyProof.Rows
set_option maxRecDepth 100000 in
set_option maxHeartbeats 0 in
theorem PySem.Challenge.cw_callcoin_k51_tables_made_holds : PySem.Challenge.rw_callcoin_k51_tables_made.Holds := by
  w_on; o_law; k_head; (case hw => w_witness2)
  k_fill
  refine Ck.walk (l := PySem.Challenge.rw_callcoin_k51_tables_made) rfl rfl rfl (fun w h Y => PySem.W.kIn_of Y) ?F
  case F =>
    intro w mg h KX G
    refine' Ck.env_mk KX G ?n_Changers ?pg_Changers ?hd_Changers ?po_Changers ?sa_Changers ?mk_Changers ?kc_Changers ?no_Changers_rows ?n_NoName ?n_NoRow ?n_NoMoney ?n_NoAmount ?n_NoText ?n_NoBridge ?n_NoDay ?n_NoWorth ?n_NoBook ?n_NoTerm ?n_NoWeight ?n_NoMany ?n_NoKinds ?n_Lacking ?n_NoStock ?n_NoDebt ?n_NoPeople ?n_NoDeed ?n_Shut ?n_TooMany ?n_CoinError ?e0_NoName ?e1_NoName ?e2_NoName ?e3_NoName ?is_NoName_NoName ?is_NoName_NoMoney ?is_NoName_NoAmount ?is_NoName_NoText ?is_NoName_NoBridge ?is_NoName_NoDay ?is_NoName_NoWorth ?is_NoName_NoBook ?is_NoName_NoTerm ?is_NoName_NoWeight ?is_NoName_NoMany ?is_NoName_NoKinds ?is_NoName_Lacking ?is_NoName_NoRow ?is_NoName_NoStock ?is_NoName_NoDebt ?is_NoName_NoPeople ?is_NoName_NoDeed ?is_NoName_Shut ?is_NoName_TooMany ?is_NoName_ValueError ?ca_NoName_CoinError ?e0_NoRow ?e1_NoRow ?e2_NoRow ?e3_NoRow ?is_NoRow_NoName ?is_NoRow_NoMoney ?is_NoRow_NoAmount ?is_NoRow_NoText ?is_NoRow_NoBridge ?is_NoRow_NoDay ?is_NoRow_NoWorth ?is_NoRow_NoBook ?is_NoRow_NoTerm ?is_NoRow_NoWeight ?is_NoRow_NoMany ?is_NoRow_NoKinds ?is_NoRow_Lacking ?is_NoRow_NoRow ?is_NoRow_NoStock ?is_NoRow_NoDebt ?is_NoRow_NoPeople ?is_NoRow_NoDeed ?is_NoRow_Shut ?is_NoRow_TooMany ?is_NoRow_ValueError ?ca_NoRow_CoinError ?n_is_made_of ?l_is_made_of ?c_is_made_of ?k_is_made_of ?n_is_word ?l_is_word ?c_is_word ?k_is_word ?n_is_name ?l_is_name ?c_is_name ?k_is_name ?n_is_number ?l_is_number ?c_is_number ?k_is_number ?n_is_within ?l_is_within ?c_is_within ?k_is_within ?n_check_name ?l_check_name ?c_check_name ?k_check_name ?n_check_names ?l_check_names ?c_check_names ?k_check_names ?n_sides ?l_sides ?c_sides ?k_sides ?n_goods_of ?l_goods_of ?c_goods_of ?k_goods_of ?n_check_rows ?l_check_rows ?c_check_rows ?k_check_rows ?n_Changers_init ?i_Changers_init ?l_Changers_init ?c_Changers_init ?k_Changers_init ?n_Changers_goods ?i_Changers_goods ?l_Changers_goods ?c_Changers_goods ?k_Changers_goods ?n_l_mixed ?l_l_mixed ?c_l_mixed ?k_l_mixed ?n_l_next ?l_l_next ?c_l_next ?k_l_next ?n_l_word ?l_l_word ?c_l_word ?k_l_word ?n_l_words ?l_l_words ?c_l_words ?k_l_words ?n_l_goods ?l_l_goods ?c_l_goods ?k_l_goods ?n_l_number ?l_l_number ?c_l_number ?k_l_number ?n_l_rows ?l_l_rows ?c_l_rows ?k_l_rows ?n_l_is_name ?l_l_is_name ?c_l_is_name ?k_l_is_name ?n_l_spoilt ?l_l_spoilt ?c_l_spoilt ?k_l_spoilt ?n_l_due ?l_l_due ?c_l_due ?k_l_due ?n_l_class ?l_l_class ?c_l_class ?k_l_class ?n_l_told_right ?l_l_told_right ?c_l_told_right ?k_l_told_right ?n_law ?l_law ?c_law ?k_law ?n_SMALL_LETTERS ?n_LONGEST_NAME ?n_MOST_ROWS ?n_MOST_GOODS ?n_MOST_MANY ?z_len ?z_range ?z_max ?z_min ?z_isinstance ?z_all ?z_str ?z_bool ?z_int ?z_list ?z_tuple ?z_ValueError
    (case n_Changers => first | k_is | k_exc | kit_is | kts_exm | kernel_rfl)
    (case pg_Changers => first | k_is | k_exc | kit_is | kts_exm | kernel_rfl)
    (case hd_Changers => first | k_is | k_exc | kit_is | kts_exm | kernel_rfl)
    (case po_Changers => first | k_is | k_exc | kit_is | kts_exm | kernel_rfl)
    (case sa_Changers => first | k_is | k_exc | kit_is | kts_exm | kernel_rfl)
    (case mk_Changers => first | k_is | k_exc | kit_is | kts_exm | kernel_rfl)
    (case kc_Changers => first | k_is | k_exc | kit_is | kts_exm | kernel_rfl)
    (case no_Changers_rows => first | k_is | k_exc | kit_is | kts_exm | kernel_rfl)
    (case n_NoName => first | k_is | k_exc | kit_is | kts_exm | kernel_rfl)
    (case n_NoRow => first | k_is | k_exc | kit_is | kts_exm | kernel_rfl)
    (case n_NoMoney => first | k_is | k_exc | kit_is | kts_exm | kernel_rfl)
    (case n_NoAmount => first | k_is | k_exc | kit_is | kts_exm | kernel_rfl)
    (case n_NoText => first | k_is | k_exc | kit_is | kts_exm | kernel_rfl)
    (case n_NoBridge => first | k_is | k_exc | kit_is | kts_exm | kernel_rfl)
    (case n_NoDay => first | k_is | k_exc | kit_is | kts_exm | kernel_rfl)
    (case n_NoWorth => first | k_is | k_exc | kit_is | kts_exm | kernel_rfl)
    (case n_NoBook => first | k_is | k_exc | kit_is | kts_exm | kernel_rfl)
    (case n_NoTerm => first | k_is | k_exc | kit_is | kts_exm | kernel_rfl)
    (case n_NoWeight => first | k_is | k_exc | kit_is | kts_exm | kernel_rfl)
    (case n_NoMany => first | k_is | k_exc | kit_is | kts_exm | kernel_rfl)
    (case n_NoKinds => first | k_is | k_exc | kit_is | kts_exm | kernel_rfl)
    (case n_Lacking => first | k_is | k_exc | kit_is | kts_exm | kernel_rfl)
    (case n_NoStock => first | k_is | k_exc | kit_is | kts_exm | kernel_rfl)
    (case n_NoDebt => first | k_is | k_exc | kit_is | kts_exm | kernel_rfl)
    (case n_NoPeople => first | k_is | k_exc | kit_is | kts_exm | kernel_rfl)
    (case n_NoDeed => first | k_is | k_exc | kit_is | kts_exm | kernel_rfl)
    (case n_Shut => first | k_is | k_exc | kit_is | kts_exm | kernel_rfl)
    (case n_TooMany => first | k_is | k_exc | kit_is | kts_exm | kernel_rfl)
    (case n_CoinError => first | k_is | k_exc | kit_is | kts_exm | kernel_rfl)
    (case e0_NoName => first | k_is | k_exc | kit_is | kts_exm | kernel_rfl)
    (case e1_NoName => first | k_is | k_exc | kit_is | kts_exm | kernel_rfl)
    (case e2_NoName => first | k_is | k_exc | kit_is | kts_exm | kernel_rfl)
    (case e3_NoName => first | k_is | k_exc | kit_is | kts_exm | kernel_rfl)
    (case is_NoName_NoName => first | k_is | k_exc | kit_is | kts_exm | kernel_rfl)
    (case is_NoName_NoMoney => first | k_is | k_exc | kit_is | kts_exm | kernel_rfl)
    (case is_NoName_NoAmount => first | k_is | k_exc | kit_is | kts_exm | kernel_rfl)
    (case is_NoName_NoText => first | k_is | k_exc | kit_is | kts_exm | kernel_rfl)
    (case is_NoName_NoBridge => first | k_is | k_exc | kit_is | kts_exm | kernel_rfl)
    (case is_NoName_NoDay => first | k_is | k_exc | kit_is | kts_exm | kernel_rfl)
    (case is_NoName_NoWorth => first | k_is | k_exc | kit_is | kts_exm | kernel_rfl)
    (case is_NoName_NoBook => first | k_is | k_exc | kit_is | kts_exm | kernel_rfl)
    (case is_NoName_NoTerm => first | k_is | k_exc | kit_is | kts_exm | kernel_rfl)
    (case is_NoName_NoWeight => first | k_is | k_exc | kit_is | kts_exm | kernel_rfl)
    (case is_NoName_NoMany => first | k_is | k_exc | kit_is | kts_exm | kernel_rfl)
    (case is_NoName_NoKinds => first | k_is | k_exc | kit_is | kts_exm | kernel_rfl)
    (case is_NoName_Lacking => first | k_is | k_exc | kit_is | kts_exm | kernel_rfl)
    (case is_NoName_NoRow => first | k_is | k_exc | kit_is | kts_exm | kernel_rfl)
    (case is_NoName_NoStock => first | k_is | k_exc | kit_is | kts_exm | kernel_rfl)
    (case is_NoName_NoDebt => first | k_is | k_exc | kit_is | kts_exm | kernel_rfl)
    (case is_NoName_NoPeople => first | k_is | k_exc | kit_is | kts_exm | kernel_rfl)
    (case is_NoName_NoDeed => first | k_is | k_exc | kit_is | kts_exm | kernel_rfl)
    (case is_NoName_Shut => first | k_is | k_exc | kit_is | kts_exm | kernel_rfl)
    (case is_NoName_TooMany => first | k_is | k_exc | kit_is | kts_exm | kernel_rfl)
    (case is_NoName_ValueError => first | k_is | k_exc | kit_is | kts_exm | kernel_rfl)
    (case ca_NoName_CoinError => first | k_is | k_exc | kit_is | kts_exm | kernel_rfl)
    (case e0_NoRow => first | k_is | k_exc | kit_is | kts_exm | kernel_rfl)
    (case e1_NoRow => first | k_is | k_exc | kit_is | kts_exm | kernel_rfl)
    (case e2_NoRow => first | k_is | k_exc | kit_is | kts_exm | kernel_rfl)
    (case e3_NoRow => first | k_is | k_exc | kit_is | kts_exm | kernel_rfl)
    (case is_NoRow_NoName => first | k_is | k_exc | kit_is | kts_exm | kernel_rfl)
    (case is_NoRow_NoMoney => first | k_is | k_exc | kit_is | kts_exm | kernel_rfl)
    (case is_NoRow_NoAmount => first | k_is | k_exc | kit_is | kts_exm | kernel_rfl)
    (case is_NoRow_NoText => first | k_is | k_exc | kit_is | kts_exm | kernel_rfl)
    (case is_NoRow_NoBridge => first | k_is | k_exc | kit_is | kts_exm | kernel_rfl)
    (case is_NoRow_NoDay => first | k_is | k_exc | kit_is | kts_exm | kernel_rfl)
    (case is_NoRow_NoWorth => first | k_is | k_exc | kit_is | kts_exm | kernel_rfl)
    (case is_NoRow_NoBook => first | k_is | k_exc | kit_is | kts_exm | kernel_rfl)
    (case is_NoRow_NoTerm => first | k_is | k_exc | kit_is | kts_exm | kernel_rfl)
    (case is_NoRow_NoWeight => first | k_is | k_exc | kit_is | kts_exm | kernel_rfl)
    (case is_NoRow_NoMany => first | k_is | k_exc | kit_is | kts_exm | kernel_rfl)
    (case is_NoRow_NoKinds => first | k_is | k_exc | kit_is | kts_exm | kernel_rfl)
    (case is_NoRow_Lacking => first | k_is | k_exc | kit_is | kts_exm | kernel_rfl)
    (case is_NoRow_NoRow => first | k_is | k_exc | kit_is | kts_exm | kernel_rfl)
    (case is_NoRow_NoStock => first | k_is | k_exc | kit_is | kts_exm | kernel_rfl)
    (case is_NoRow_NoDebt => first | k_is | k_exc | kit_is | kts_exm | kernel_rfl)
    (case is_NoRow_NoPeople => first | k_is | k_exc | kit_is | kts_exm | kernel_rfl)
    (case is_NoRow_NoDeed => first | k_is | k_exc | kit_is | kts_exm | kernel_rfl)
    (case is_NoRow_Shut => first | k_is | k_exc | kit_is | kts_exm | kernel_rfl)
    (case is_NoRow_TooMany => first | k_is | k_exc | kit_is | kts_exm | kernel_rfl)
    (case is_NoRow_ValueError => first | k_is | k_exc | kit_is | kts_exm | kernel_rfl)
    (case ca_NoRow_CoinError => first | k_is | k_exc | kit_is | kts_exm | kernel_rfl)
    (case n_is_made_of => first | k_is | k_exc | kit_is | kts_exm | kernel_rfl)
    (case l_is_made_of => first | k_is | k_exc | kit_is | kts_exm | kernel_rfl)
    (case c_is_made_of => first | k_is | k_exc | kit_is | kts_exm | kernel_rfl)
    (case k_is_made_of => first | k_is | k_exc | kit_is | kts_exm | kernel_rfl)
    (case n_is_word => first | k_is | k_exc | kit_is | kts_exm | kernel_rfl)
    (case l_is_word => first | k_is | k_exc | kit_is | kts_exm | kernel_rfl)
    (case c_is_word => first | k_is | k_exc | kit_is | kts_exm | kernel_rfl)
    (case k_is_word => first | k_is | k_exc | kit_is | kts_exm | kernel_rfl)
    (case n_is_name => first | k_is | k_exc | kit_is | kts_exm | kernel_rfl)
    (case l_is_name => first | k_is | k_exc | kit_is | kts_exm | kernel_rfl)
    (case c_is_name => first | k_is | k_exc | kit_is | kts_exm | kernel_rfl)
    (case k_is_name => first | k_is | k_exc | kit_is | kts_exm | kernel_rfl)
    (case n_is_number => first | k_is | k_exc | kit_is | kts_exm | kernel_rfl)
    (case l_is_number => first | k_is | k_exc | kit_is | kts_exm | kernel_rfl)
    (case c_is_number => first | k_is | k_exc | kit_is | kts_exm | kernel_rfl)
    (case k_is_number => first | k_is | k_exc | kit_is | kts_exm | kernel_rfl)
    (case n_is_within => first | k_is | k_exc | kit_is | kts_exm | kernel_rfl)
    (case l_is_within => first | k_is | k_exc | kit_is | kts_exm | kernel_rfl)
    (case c_is_within => first | k_is | k_exc | kit_is | kts_exm | kernel_rfl)
    (case k_is_within => first | k_is | k_exc | kit_is | kts_exm | kernel_rfl)
    (case n_check_name => first | k_is | k_exc | kit_is | kts_exm | kernel_rfl)
    (case l_check_name => first | k_is | k_exc | kit_is | kts_exm | kernel_rfl)
    (case c_check_name => first | k_is | k_exc | kit_is | kts_exm | kernel_rfl)
    (case k_check_name => first | k_is | k_exc | kit_is | kts_exm | kernel_rfl)
    (case n_check_names => first | k_is | k_exc | kit_is | kts_exm | kernel_rfl)
    (case l_check_names => first | k_is | k_exc | kit_is | kts_exm | kernel_rfl)
    (case c_check_names => first | k_is | k_exc | kit_is | kts_exm | kernel_rfl)
    (case k_check_names => first | k_is | k_exc | kit_is | kts_exm | kernel_rfl)
    (case n_sides => first | k_is | k_exc | kit_is | kts_exm | kernel_rfl)
    (case l_sides => first | k_is | k_exc | kit_is | kts_exm | kernel_rfl)
    (case c_sides => first | k_is | k_exc | kit_is | kts_exm | kernel_rfl)
    (case k_sides => first | k_is | k_exc | kit_is | kts_exm | kernel_rfl)
    (case n_goods_of => first | k_is | k_exc | kit_is | kts_exm | kernel_rfl)
    (case l_goods_of => first | k_is | k_exc | kit_is | kts_exm | kernel_rfl)
    (case c_goods_of => first | k_is | k_exc | kit_is | kts_exm | kernel_rfl)
    (case k_goods_of => first | k_is | k_exc | kit_is | kts_exm | kernel_rfl)
    (case n_check_rows => first | k_is | k_exc | kit_is | kts_exm | kernel_rfl)
    (case l_check_rows => first | k_is | k_exc | kit_is | kts_exm | kernel_rfl)
    (case c_check_rows => first | k_is | k_exc | kit_is | kts_exm | kernel_rfl)
    (case k_check_rows => first | k_is | k_exc | kit_is | kts_exm | kernel_rfl)
    (case n_Changers_init => first | k_is | k_exc | kit_is | kts_exm | kernel_rfl)
    (case i_Changers_init => first | k_is | k_exc | kit_is | kts_exm | kernel_rfl)
    (case l_Changers_init => first | k_is | k_exc | kit_is | kts_exm | kernel_rfl)
    (case c_Changers_init => first | k_is | k_exc | kit_is | kts_exm | kernel_rfl)
    (case k_Changers_init => first | k_is | k_exc | kit_is | kts_exm | kernel_rfl)
    (case n_Changers_goods => first | k_is | k_exc | kit_is | kts_exm | kernel_rfl)
    (case i_Changers_goods => first | k_is | k_exc | kit_is | kts_exm | kernel_rfl)
    (case l_Changers_goods => first | k_is | k_exc | kit_is | kts_exm | kernel_rfl)
    (case c_Changers_goods => first | k_is | k_exc | kit_is | kts_exm | kernel_rfl)
    (case k_Changers_goods => first | k_is | k_exc | kit_is | kts_exm | kernel_rfl)
    (case n_l_mixed => first | k_is | k_exc | kit_is | kts_exm | kernel_rfl)
    (case l_l_mixed => first | k_is | k_exc | kit_is | kts_exm | kernel_rfl)
    (case c_l_mixed => first | k_is | k_exc | kit_is | kts_exm | kernel_rfl)
    (case k_l_mixed => first | k_is | k_exc | kit_is | kts_exm | kernel_rfl)
    (case n_l_next => first | k_is | k_exc | kit_is | kts_exm | kernel_rfl)
    (case l_l_next => first | k_is | k_exc | kit_is | kts_exm | kernel_rfl)
    (case c_l_next => first | k_is | k_exc | kit_is | kts_exm | kernel_rfl)
    (case k_l_next => first | k_is | k_exc | kit_is | kts_exm | kernel_rfl)
    (case n_l_word => first | k_is | k_exc | kit_is | kts_exm | kernel_rfl)
    (case l_l_word => first | k_is | k_exc | kit_is | kts_exm | kernel_rfl)
    (case c_l_word => first | k_is | k_exc | kit_is | kts_exm | kernel_rfl)
    (case k_l_word => first | k_is | k_exc | kit_is | kts_exm | kernel_rfl)
    (case n_l_words => first | k_is | k_exc | kit_is | kts_exm | kernel_rfl)
    (case l_l_words => first | k_is | k_exc | kit_is | kts_exm | kernel_rfl)
    (case c_l_words => first | k_is | k_exc | kit_is | kts_exm | kernel_rfl)
    (case k_l_words => first | k_is | k_exc | kit_is | kts_exm | kernel_rfl)
    (case n_l_goods => first | k_is | k_exc | kit_is | kts_exm | kernel_rfl)
    (case l_l_goods => first | k_is | k_exc | kit_is | kts_exm | kernel_rfl)
    (case c_l_goods => first | k_is | k_exc | kit_is | kts_exm | kernel_rfl)
    (case k_l_goods => first | k_is | k_exc | kit_is | kts_exm | kernel_rfl)
    (case n_l_number => first | k_is | k_exc | kit_is | kts_exm | kernel_rfl)
    (case l_l_number => first | k_is | k_exc | kit_is | kts_exm | kernel_rfl)
    (case c_l_number => first | k_is | k_exc | kit_is | kts_exm | kernel_rfl)
    (case k_l_number => first | k_is | k_exc | kit_is | kts_exm | kernel_rfl)
    (case n_l_rows => first | k_is | k_exc | kit_is | kts_exm | kernel_rfl)
    (case l_l_rows => first | k_is | k_exc | kit_is | kts_exm | kernel_rfl)
    (case c_l_rows => first | k_is | k_exc | kit_is | kts_exm | kernel_rfl)
    (case k_l_rows => first | k_is | k_exc | kit_is | kts_exm | kernel_rfl)
    (case n_l_is_name => first | k_is | k_exc | kit_is | kts_exm | kernel_rfl)
    (case l_l_is_name => first | k_is | k_exc | kit_is | kts_exm | kernel_rfl)
    (case c_l_is_name => first | k_is | k_exc | kit_is | kts_exm | kernel_rfl)
    (case k_l_is_name => first | k_is | k_exc | kit_is | kts_exm | kernel_rfl)
    (case n_l_spoilt => first | k_is | k_exc | kit_is | kts_exm | kernel_rfl)
    (case l_l_spoilt => first | k_is | k_exc | kit_is | kts_exm | kernel_rfl)
    (case c_l_spoilt => first | k_is | k_exc | kit_is | kts_exm | kernel_rfl)
    (case k_l_spoilt => first | k_is | k_exc | kit_is | kts_exm | kernel_rfl)
    (case n_l_due => first | k_is | k_exc | kit_is | kts_exm | kernel_rfl)
    (case l_l_due => first | k_is | k_exc | kit_is | kts_exm | kernel_rfl)
    (case c_l_due => first | k_is | k_exc | kit_is | kts_exm | kernel_rfl)
    (case k_l_due => first | k_is | k_exc | kit_is | kts_exm | kernel_rfl)
    (case n_l_class => first | k_is | k_exc | kit_is | kts_exm | kernel_rfl)
    (case l_l_class => first | k_is | k_exc | kit_is | kts_exm | kernel_rfl)
    (case c_l_class => first | k_is | k_exc | kit_is | kts_exm | kernel_rfl)
    (case k_l_class => first | k_is | k_exc | kit_is | kts_exm | kernel_rfl)
    (case n_l_told_right => first | k_is | k_exc | kit_is | kts_exm | kernel_rfl)
    (case l_l_told_right => first | k_is | k_exc | kit_is | kts_exm | kernel_rfl)
    (case c_l_told_right => first | k_is | k_exc | kit_is | kts_exm | kernel_rfl)
    (case k_l_told_right => first | k_is | k_exc | kit_is | kts_exm | kernel_rfl)
    (case n_law => first | k_is | k_exc | kit_is | kts_exm | kernel_rfl)
    (case l_law => first | k_is | k_exc | kit_is | kts_exm | kernel_rfl)
    (case c_law => first | k_is | k_exc | kit_is | kts_exm | kernel_rfl)
    (case k_law => first | k_is | k_exc | kit_is | kts_exm | kernel_rfl)
    (case n_SMALL_LETTERS => first | k_is | k_exc | kit_is | kts_exm | kernel_rfl)
    (case n_LONGEST_NAME => first | k_is | k_exc | kit_is | kts_exm | kernel_rfl)
    (case n_MOST_ROWS => first | k_is | k_exc | kit_is | kts_exm | kernel_rfl)
    (case n_MOST_GOODS => first | k_is | k_exc | kit_is | kts_exm | kernel_rfl)
    (case n_MOST_MANY => first | k_is | k_exc | kit_is | kts_exm | kernel_rfl)
    (case z_len => first | k_is | k_exc | kit_is | kts_exm | kernel_rfl)
    (case z_range => first | k_is | k_exc | kit_is | kts_exm | kernel_rfl)
    (case z_max => first | k_is | k_exc | kit_is | kts_exm | kernel_rfl)
    (case z_min => first | k_is | k_exc | kit_is | kts_exm | kernel_rfl)
    (case z_isinstance => first | k_is | k_exc | kit_is | kts_exm | kernel_rfl)
    (case z_all => first | k_is | k_exc | kit_is | kts_exm | kernel_rfl)
    (case z_str => first | k_is | k_exc | kit_is | kts_exm | kernel_rfl)
    (case z_bool => first | k_is | k_exc | kit_is | kts_exm | kernel_rfl)
    (case z_int => first | k_is | k_exc | kit_is | kts_exm | kernel_rfl)
    (case z_list => first | k_is | k_exc | kit_is | kts_exm | kernel_rfl)
    (case z_tuple => first | k_is | k_exc | kit_is | kts_exm | kernel_rfl)
    (case z_ValueError => first | k_is | k_exc | kit_is | kts_exm | kernel_rfl)
