import PyProof.Rows.All
import Wide.All
import OpenK.AllK
import Wide.FinOn
import PyProof.EqAt
import PyProof.EqKinds
import PyProof.TupleCall
import KE.BitLaws
import PySem.Challenge.RW_callcoin_k06_texts_read_or_refused
set_option Elab.async false
set_option linter.all false
set_option maxRecDepth 100000
namespace L2
open PySem PySem.Spec PyProof.Rows
abbrev Key := Sum Int Str
def keyIs : Key → Value → Bool
  | .inl k, v => Value.isInt k v
  | .inr x, v => Value.isStrOf x v
def keyH (w : World) : Key → Int
  | .inl k => hashInt k
  | .inr x => hashStr w x
theorem keyIs_shape : ∀ {k : Key} {v : Value}, keyIs k v = true → (∃ i t, k = Sum.inl i ∧ v = Value.int i t) ∨ (∃ x t, k = Sum.inr x ∧ v = Value.str x t)
  | .inl i, v, h => by
    obtain ⟨t, e⟩ := Value.isInt_shape (k := i) (v := v) h
    exact .inl ⟨i, t, rfl, e⟩
  | .inr x, v, h => by
    obtain ⟨t, e⟩ := Value.isStrOf_shape (x := x) (v := v) h
    exact .inr ⟨x, t, rfl, e⟩
theorem keyIs_int (i : Int) (t : Tok) : keyIs (.inl i) (.int i t) = true := by simp [keyIs, Value.isInt]
theorem keyIs_str (x : Str) (t : Tok) : keyIs (.inr x) (.str x t) = true := by simp [keyIs, Value.isStrOf]
theorem key_ll (a b : Int) : decide ((Sum.inl a : Key) = Sum.inl b) = (a == b) := by
  by_cases e : a = b
  · subst e; simp
  · have h : ¬ (Sum.inl a : Key) = Sum.inl b := fun q => e (Sum.inl.inj q)
    rw [decide_eq_false h]
    exact (beq_eq_false_iff_ne.mpr e).symm
theorem key_rr (a b : Str) : decide ((Sum.inr a : Key) = Sum.inr b) = decide (a = b) := by
  by_cases e : a = b
  · subst e; simp
  · have h : ¬ (Sum.inr a : Key) = Sum.inr b := fun q => e (Sum.inr.inj q)
    rw [decide_eq_false h, decide_eq_false e]
theorem key_lr (a : Int) (b : Str) : decide ((Sum.inl a : Key) = Sum.inr b) = false := decide_eq_false (fun q => nomatch q)
theorem key_rl (a : Str) (b : Int) : decide ((Sum.inr a : Key) = Sum.inl b) = false := decide_eq_false (fun q => nomatch q)
def mixKind (prog : Program) (w : World) : PySem.KeyKind prog w Key where
  is := keyIs
  hash := keyH w
  inj := fun v a b ha hb => by
    rcases keyIs_shape ha with ⟨i, t, rfl, rfl⟩ | ⟨x, t, rfl, rfl⟩
    · rcases keyIs_shape hb with ⟨j, u, rfl, e⟩ | ⟨y, u, rfl, e⟩
      · injection e with e1 _; rw [e1]
      · exact nomatch e
    · rcases keyIs_shape hb with ⟨j, u, rfl, e⟩ | ⟨y, u, rfl, e⟩
      · exact nomatch e
      · injection e with e1 _; rw [e1]
  byValue := fun k v h => by
    rcases keyIs_shape h with ⟨i, t, rfl, rfl⟩ | ⟨x, t, rfl, rfl⟩ <;> rfl
  pyHash := fun hv h => by
    rcases keyIs_shape hv with ⟨i, t, rfl, rfl⟩ | ⟨x, t, rfl, rfl⟩
    · exact wpAny_pyHash_int h
    · exact wpAny_pyHash_str h
  eqBool := fun hu hv h => by
    rcases keyIs_shape hu with ⟨i, t, rfl, rfl⟩ | ⟨x, t, rfl, rfl⟩
    · rcases keyIs_shape hv with ⟨j, u, rfl, rfl⟩ | ⟨y, u, rfl, rfl⟩
      · rw [key_ll] at h; exact wpAny_eqBool_int h
      · rw [key_lr] at h; exact SeqAt.EqAt.int_str i t y u _ _ _ _ h
    · rcases keyIs_shape hv with ⟨j, u, rfl, rfl⟩ | ⟨y, u, rfl, rfl⟩
      · rw [key_rl] at h; exact SeqAt.EqAt.str_int x t j u _ _ _ _ h
      · rw [key_rr] at h; exact wpAny_eqBool_str h
  «strs» := fun k x t v h => by
    rcases keyIs_shape h with ⟨i, u, rfl, e⟩ | ⟨y, u, rfl, e⟩
    · exact nomatch e
    · injection e with e1 _
      subst e1
      cases v <;> rfl
theorem mixKind_int (prog : Program) (w : World) (i : Int) (t : Tok) : (mixKind prog w).is (.inl i) (.int i t) = true := keyIs_int i t
theorem mixKind_str (prog : Program) (w : World) (x : Str) (t : Tok) : (mixKind prog w).is (.inr x) (.str x t) = true := keyIs_str x t
end L2
namespace L2
open PySem PySem.Spec PyProof.Rows
inductive V where
  | non | bl (b : Bool) | int (i : Int) | str (x : Str) | byt (b : Array UInt8) | flt (b : UInt64) | ref (a : Addr) | ty (n : String)
  deriving DecidableEq
def RelV : V → Value → Prop
  | .non, u => u = Value.none
  | .bl b, u => u = Value.bool b
  | .int i, u => ∃ t, u = Value.int i t
  | .str x, u => ∃ t, u = Value.str x t
  | .byt b, u => ∃ t, u = Value.bytes b t
  | .flt b, u => ∃ t, u = Value.float b t
  | .ref a, u => u = Value.ref a
  | .ty n, u => u = Value.type n
abbrev Vals : List V → List Value → Prop := Paired RelV
theorem Vals.length {xs : List V} {us : List Value} (r : Vals xs us) : xs.length = us.length := Paired.length r
theorem Vals.get : ∀ {xs : List V} {us : List Value} {i : Nat} {x : V}, Vals xs us → xs[i]? = some x → ∃ u, us[i]? = some u ∧ RelV x u
  | _, _, _, _, .nil, e => by simp at e
  | _, _, 0, _, .cons r _, e => by simp at e; subst e; exact ⟨_, rfl, r⟩
  | _, _, i + 1, x, .cons _ t, e => by
    obtain ⟨u, h1, h2⟩ := Vals.get (i := i) (x := x) t (by simpa using e)
    exact ⟨u, by simpa using h1, h2⟩
theorem Vals.set {x : V} {u : Value} (r : RelV x u) : ∀ {xs : List V} {us : List Value} (i : Nat), Vals xs us → Vals (xs.set i x) (us.set i u)
  | _, _, _, .nil => .nil
  | _, _, 0, .cons _ t => .cons r t
  | _, _, i + 1, .cons q t => .cons q (Vals.set r i t)
theorem Vals.append : ∀ {xs ys : List V} {us ws : List Value}, Vals xs us → Vals ys ws → Vals (xs ++ ys) (us ++ ws)
  | _, _, _, _, .nil, s => s
  | _, _, _, _, .cons r t, s => .cons r (Vals.append t s)
theorem Vals.take : ∀ {xs : List V} {us : List Value} (n : Nat), Vals xs us → Vals (xs.take n) (us.take n)
  | _, _, 0, _ => .nil
  | _, _, _ + 1, .nil => .nil
  | _, _, n + 1, .cons r t => .cons r (Vals.take n t)
theorem Vals.drop : ∀ {xs : List V} {us : List Value} (n : Nat), Vals xs us → Vals (xs.drop n) (us.drop n)
  | _, _, 0, r => r
  | _, _, _ + 1, .nil => .nil
  | _, _, n + 1, .cons _ t => Vals.drop n t
theorem Vals.none_of : ∀ {xs : List V} {us : List Value} {i : Nat}, Vals xs us → xs[i]? = none → us[i]? = none := fun {xs us i} r e => by
  have h1 := r.length
  have h2 : xs.length ≤ i := List.getElem?_eq_none_iff.mp e
  exact List.getElem?_eq_none_iff.mpr (by omega)
def RelO : Option V → Option Value → Prop
  | some v, some u => RelV v u
  | none, none => True
  | _, _ => False
def KV {κ : Type} : List (κ × V) → List (κ × Value) → Prop := Paired fun (p : κ × V) (q : κ × Value) => p.1 = q.1 ∧ RelV p.2 q.2
def kV : Key → V
  | .inl i => .int i
  | .inr x => .str x
inductive HO where
  | lst (xs : List V)
  | tup (xs : List V)
  | dK (kvs : List (Key × V)) | dT (kvs : List (List Key × V))
  | set (S : Int → Bool) (n : Nat)
  | ins (C dx : Addr) (fs : List (Str × V))
  | own (x : Addr)
  | xd (fs : List (Str × V))
  | met (f x : Addr)
  | rng (lo hi : Int)
  | frz (o : Obj) (u : HO)
  | tbl (ps : Array Value)
  | ext (φ : Heap → Prop)
abbrev Hp := Addr → Option HO
def upd (H : Hp) (a : Addr) (o : HO) : Hp := fun b => if b = a then some o else H b
theorem upd_same {H : Hp} {a : Addr} {o : HO} : upd H a o a = some o := by unfold upd; rw [if_pos rfl]
theorem upd_ne {H : Hp} {a b : Addr} {o : HO} (h : b ≠ a) : upd H a o b = H b := by unfold upd; rw [if_neg h]
theorem ne_of_none {H : Hp} {a b : Addr} {o : HO} (h : H a = some o) (h' : H b = none) : a ≠ b := by
  intro e; subst e; rw [h] at h'; cases h'
section
variable (P : Program) (w : World)
def ObjOk (H : Hp) (h : Heap) (a : Addr) : HO → Prop
  | .lst xs => xs.length ≤ sizeLine ∧ ∃ (its : List Value) (n : Nat), Vals xs its ∧ h.get? a = some { cls := .type "list", data := .seq its.toArray n }
  | .tup xs => xs.length ≤ sizeLine ∧ ∃ its : List Value, Vals xs its ∧ IsTup h a its.toArray
  | .dK kvs => kvs.length ≤ sizeLine ∧ (a == sysModules) = false ∧ ∃ vs, KV kvs vs ∧ h.DictOf (mixKind P w) a vs
  | .dT kvs => kvs.length ≤ sizeLine ∧ (a == sysModules) = false ∧ ∃ xs : List (List Key × Addr × Value),
      Paired (fun (p : List Key × V) (q : List Key × Addr × Value) => p.1 = q.1 ∧ H q.2.1 = some (.tup (p.1.map kV)) ∧ RelV p.2 q.2.2) kvs xs ∧
      ∃ o es ep, h.get? a = some o ∧ o.ExactDict ∧ o.data = .dict es ep ∧ es.toList = xs.map (entryOfKey (tupleKind (mixKind P w))) ∧ (xs.map (·.1)).Nodup
  | .set S n => h.SetOf (intKind P w) a S n
  | .ins C dx fs => H dx = some (.own a) ∧ fs.length ≤ 1000 ∧ dx ≠ a ∧ h.get? a = some (PySem.W.instObj C dx) ∧
      ∃ mA, h.Ns1 dx mA ∧ (∀ f, RelO (fs.lookup f) (mA f)) ∧ PySem.Within mA (fs.map (·.1))
  | .own _ => ∃ o, h.get? a = some o
  | .xd fs => ∃ mA, h.Ns1 a mA ∧ ∀ f, RelO (fs.lookup f) (mA f)
  | .rng lo hi => ∃ t u v, h.get? a = some { cls := .type "range", data := .fields #[.int lo t, .int hi u, .int 1 v] }
  | .frz o u => h.get? a = some o ∧ ObjOk H h a u
  | .tbl ps => h.get? a = some { cls := .none, data := .fields ps }
  | .met f x => h.get? a = some (PySem.W.methodObj (.ref f) (.ref x))
  | .ext φ => φ h ∧ (∃ o, h.get? a = some o) ∧ ∀ h1 h2 : Heap, φ h1 → (∀ o, h1.get? a = some o → h2.get? a = some o) → φ h2
def HOk (H : Hp) (h : Heap) : Prop := ∀ a o, H a = some o → ObjOk P w H h a o
end
section
variable {P : Program} {w : World} {H H' : Hp} {h h' : Heap} {a : Addr} {o : HO}
theorem ObjOk.lt (x : ObjOk P w H h a o) : a < h.objs.size := by
  cases o with
  | lst xs => obtain ⟨_, _, _, _, e⟩ := x; exact Heap.lt_size e
  | tup xs => obtain ⟨_, _, _, p⟩ := x; exact p.lt
  | dK kvs => obtain ⟨_, _, _, _, o, _, _, e, _⟩ := x; exact Heap.lt_size e
  | dT kvs => obtain ⟨_, _, _, _, o, _, _, e, _⟩ := x; exact Heap.lt_size e
  | set S n => obtain ⟨o, _, _, _, e, _⟩ := x; exact Heap.lt_size e
  | ins C dx fs => obtain ⟨_, _, _, e, _⟩ := x; exact Heap.lt_size e
  | own y => obtain ⟨_, e⟩ := x; exact Heap.lt_size e
  | xd fs => obtain ⟨_, ⟨_, _, _, e, _⟩, _⟩ := x; exact Heap.lt_size e
  | rng lo hi => obtain ⟨_, _, _, e⟩ := x; exact Heap.lt_size e
  | frz ob u => obtain ⟨e, _⟩ := x; exact Heap.lt_size e
  | tbl ps => exact Heap.lt_size (show h.get? a = some _ from x)
  | met f y => exact Heap.lt_size (show h.get? a = some _ from x)
  | ext φ => obtain ⟨_, ⟨_, e⟩, _⟩ := x; exact Heap.lt_size e
theorem Paired.mapP {α β : Type} {F G : α → β → Prop} : ∀ {l₁ : List α} {l₂ : List β}, Paired F l₁ l₂ → (∀ a b, F a b → G a b) → Paired G l₁ l₂
  | _, _, .nil, _ => .nil
  | _, _, .cons r t, f => .cons (f _ _ r) (Paired.mapP t f)
theorem ObjOk.stay (x : ObjOk P w H h a o) (k : ∀ b u, (b = a ∨ H b = some (.own a)) → h.get? b = some u → h'.get? b = some u)
    (ho : ∀ b, H b = some (.own a) → H' b = some (.own a)) (ht : ∀ b xs, H b = some (.tup xs) → H' b = some (.tup xs)) : ObjOk P w H' h' a o := by
  induction o with
  | lst xs => obtain ⟨z, its, n, r, e⟩ := x; exact ⟨z, its, n, r, k _ _ (.inl rfl) e⟩
  | tup xs => obtain ⟨z, its, r, ob, e, c⟩ := x; exact ⟨z, its, r, ob, k _ _ (.inl rfl) e, c⟩
  | dK kvs => obtain ⟨z, y, vs, r, ob, es, ep, e, c⟩ := x; exact ⟨z, y, vs, r, ob, es, ep, k _ _ (.inl rfl) e, c⟩
  | dT kvs =>
    obtain ⟨z, y, xs, r, ob, es, ep, e, c⟩ := x
    exact ⟨z, y, xs, Paired.mapP r fun p q z => ⟨z.1, ht _ _ z.2.1, z.2.2⟩, ob, es, ep, k _ _ (.inl rfl) e, c⟩
  | set S n => obtain ⟨ob, es, ep, t, e, c⟩ := x; exact ⟨ob, es, ep, t, k _ _ (.inl rfl) e, c⟩
  | ins C dx fs =>
    obtain ⟨d, z, ne, e, mA, ⟨od, es, ep, e2, c⟩, r⟩ := x
    exact ⟨ho _ d, z, ne, k _ _ (.inl rfl) e, mA, ⟨od, es, ep, k _ _ (.inr d) e2, c⟩, r⟩
  | own y => obtain ⟨ob, e⟩ := x; exact ⟨ob, k _ _ (.inl rfl) e⟩
  | xd fs => obtain ⟨mA, ⟨od, es, ep, e, c⟩, r⟩ := x; exact ⟨mA, ⟨od, es, ep, k _ _ (.inl rfl) e, c⟩, r⟩
  | rng lo hi => obtain ⟨t, u, v, e⟩ := x; exact ⟨t, u, v, k _ _ (.inl rfl) e⟩
  | frz ob u ih => obtain ⟨e, q⟩ := x; exact ⟨k _ _ (.inl rfl) e, ih q⟩
  | tbl ps =>
    have e : h.get? a = some { cls := .none, data := .fields ps } := x
    show h'.get? a = some { cls := .none, data := .fields ps }
    exact k a _ (.inl rfl) e
  | met f y =>
    have e : h.get? a = some (PySem.W.methodObj (.ref f) (.ref y)) := x
    show h'.get? a = some (PySem.W.methodObj (.ref f) (.ref y))
    exact k a _ (.inl rfl) e
  | ext φ => obtain ⟨p, ⟨o, e⟩, st⟩ := x; exact ⟨st _ _ p fun o q => k _ _ (.inl rfl) q, ⟨o, k _ _ (.inl rfl) e⟩, st⟩
theorem HOk.lt (x : HOk P w H h) (e : H a = some o) : a < h.objs.size := (x a o e).lt
theorem HOk.fresh (x : HOk P w H h) (e : h.objs.size ≤ a) : H a = none := by
  cases q : H a with
  | none => rfl
  | some u => exact absurd (Nat.lt_of_lt_of_le (x.lt q) e) (Nat.lt_irrefl _)
theorem HOk.kept (x : HOk P w H h) (k : ∀ b u, h.get? b = some u → h'.get? b = some u) : HOk P w H h' := fun a o e =>
  (x a o e).stay (fun b u _ q => k b u q) (fun _ q => q) fun _ _ q => q
theorem HOk.laid (x : HOk P w H h) (k : ∀ b u, h.get? b = some u → h'.get? b = some u) (hp : h.objs.size ≤ a) (new : ObjOk P w (upd H a o) h' a o) : HOk P w (upd H a o) h' := fun b u e => by
  have hn := x.fresh hp
  by_cases hb : b = a
  · subst hb; rw [upd_same] at e; cases e; exact new
  · rw [upd_ne hb] at e
    exact (x b u e).stay (fun c v _ q => k c v q) (fun c q => by rw [upd_ne (ne_of_none q hn)]; exact q) fun c xs q => by rw [upd_ne (ne_of_none q hn)]; exact q
end
def Rd (H : Hp) (a : Addr) (u : HO) : Prop := H a = some u ∨ ∃ o, H a = some (.frz o u)
theorem Rd.of {H : Hp} {a : Addr} {u : HO} (h : H a = some u) : Rd H a u := .inl h
theorem Rd.ok {P : Program} {w : World} {H : Hp} {h : Heap} {a : Addr} {u : HO} (r : Rd H a u) (x : HOk P w H h) : ObjOk P w H h a u := by
  rcases r with r | ⟨o, r⟩
  · exact x a u r
  · obtain ⟨_, q⟩ := x a _ r
    exact q
def Mut : Option HO → Prop
  | some (.lst _) => True
  | some (.dK _) => True
  | some (.dT _) => True
  | some (.set _ _) => True
  | some (.ins _ _ _) => True
  | some (.ext _) => True
  | _ => False
section
variable {P : Program} {w : World} {H : Hp} {h h' : Heap} {x e : Addr} {o' : HO}
theorem HOk.write (ok : HOk P w H h) (mu : Mut (H x)) (he : e = x ∨ H e = some (.own x)) (k : ∀ b u, b ≠ e → h.get? b = some u → h'.get? b = some u) (heo : ∃ u, h'.get? e = some u)
    (new : ObjOk P w (upd H x o') h' x o') : HOk P w (upd H x o') h' := fun b u q => by
  have nown : ∀ c y, H c = some (.own y) → c ≠ x := fun c y r z => by subst z; rw [r] at mu; exact mu
  have ntup : ∀ c xs, H c = some (.tup xs) → c ≠ x := fun c xs r z => by subst z; rw [r] at mu; exact mu
  by_cases hb : b = x
  · subst hb; rw [upd_same] at q; cases q; exact new
  · rw [upd_ne hb] at q
    by_cases hbe : b = e
    · have q' : H b = some (.own x) := by
        rcases he with z | z
        · exact absurd (hbe.trans z) hb
        · rw [hbe]; exact z
      rw [q] at q'; cases q'
      obtain ⟨v, hv⟩ := heo
      exact ⟨v, by rw [hbe]; exact hv⟩
    · refine (ok b u q).stay (fun c v hc r => k c v ?_ r) (fun c r => by rw [upd_ne (nown c b r)]; exact r) fun c xs r => by rw [upd_ne (ntup c xs r)]; exact r
      rcases hc with rfl | hc
      · exact hbe
      · rintro rfl
        rcases he with z | z
        · exact nown c b hc z
        · rw [hc] at z; cases z; exact hb rfl
end
structure Un (fs ex : List Addr) (H H' : Hp) (h h' : Heap) : Prop where
  keep : ∀ b o, h.get? b = some o → H b = none → b ∉ fs → b ∉ ex → h'.get? b = some o
  slot : ∀ b o, h.get? b = some o → H b = none → b ∈ fs → b ∉ ex → ∃ sl, h'.get? b = some { o with slots := sl }
  free : ∀ b o, h.get? b = some o → H b = none → b ∉ ex → H' b = none
  there : ∀ b o, h.get? b = some o → b ∉ ex → ∃ o', h'.get? b = some o'
  tups : ∀ b xs, H b = some (.tup xs) → H' b = some (.tup xs)
  frzs : ∀ b o u, H b = some (.frz o u) → H' b = some (.frz o u)
  tbls : ∀ b ps, H b = some (.tbl ps) → ∃ more, H' b = some (.tbl (ps ++ more))
section
variable {fs fs' ex ex' : List Addr} {H H1 H2 : Hp} {h h1 h2 h' : Heap} {a x e : Addr} {o : HO}
theorem Un.any (u : Un fs ex H H1 h h1) {b : Addr} {ob : Obj} (q : h.get? b = some ob) (n : H b = none) (hx : b ∉ ex) : ∃ sl, h1.get? b = some { ob with slots := sl } := by
  by_cases hb : b ∈ fs
  · exact u.slot b ob q n hb hx
  · exact ⟨ob.slots, u.keep b ob q n hb hx⟩
theorem Un.trans (a : Un fs ex H H1 h h1) (b : Un fs ex H1 H2 h1 h2) : Un fs ex H H2 h h2 where
  keep := fun c ob q n hc hx => b.keep c ob (a.keep c ob q n hc hx) (a.free c ob q n hx) hc hx
  slot := fun c ob q n hc hx => by
    obtain ⟨sl, e1⟩ := a.slot c ob q n hc hx
    obtain ⟨sl', e2⟩ := b.slot c _ e1 (a.free c ob q n hx) hc hx
    exact ⟨sl', e2⟩
  free := fun c ob q n hx => by
    obtain ⟨o', e1⟩ := a.there c ob q hx
    exact b.free c o' e1 (a.free c ob q n hx) hx
  there := fun c ob q hx => by
    obtain ⟨o', e1⟩ := a.there c ob q hx
    exact b.there c o' e1 hx
  tups := fun c xs q => b.tups c xs (a.tups c xs q)
  frzs := fun c ob xs q => b.frzs c ob xs (a.frzs c ob xs q)
  tbls := fun c ps q => by
    obtain ⟨m1, e1⟩ := a.tbls c ps q
    obtain ⟨m2, e2⟩ := b.tbls c _ e1
    exact ⟨m1 ++ m2, by rw [e2, Array.append_assoc]⟩
theorem Un.kept (k : ∀ b u, h.get? b = some u → h'.get? b = some u) : Un fs ex H H h h' :=
  ⟨fun b ob q _ _ _ => k b ob q, fun b ob q _ _ _ => ⟨ob.slots, k b ob q⟩, fun _ _ _ n _ => n, fun b ob q _ => ⟨ob, k b ob q⟩, fun _ _ q => q, fun _ _ _ q => q, fun _ ps q => ⟨#[], by rw [q]; simp⟩⟩
theorem Un.refl : Un fs ex H H h h := Un.kept fun _ _ q => q
theorem Un.laid (k : ∀ b u, h.get? b = some u → h'.get? b = some u) (hp : h.objs.size ≤ a) (hn : H a = none) : Un fs ex H (upd H a o) h h' where
  keep := fun b u q _ _ _ => k b u q
  slot := fun b u q _ _ _ => ⟨u.slots, k b u q⟩
  free := fun b u q n _ => by rw [upd_ne (Nat.ne_of_lt (Nat.lt_of_lt_of_le (Heap.lt_size q) hp))]; exact n
  there := fun b u q _ => ⟨u, k b u q⟩
  tups := fun b xs q => by rw [upd_ne (ne_of_none q hn)]; exact q
  frzs := fun b u xs q => by rw [upd_ne (ne_of_none q hn)]; exact q
  tbls := fun b ps q => ⟨#[], by rw [upd_ne (ne_of_none q hn), q]; simp⟩
theorem Un.write (mu : Mut (H x)) (he : e = x ∨ H e = some (.own x)) (k : ∀ b u, b ≠ e → h.get? b = some u → h'.get? b = some u) (heo : ∃ u, h'.get? e = some u) : Un fs ex H (upd H x o) h h' := by
  have hx : ∀ b, H b = none → b ≠ x := fun b n z => by subst z; rw [n] at mu; exact mu
  have hb : ∀ b, H b = none → b ≠ e := fun b n z => by
    subst z
    rcases he with r | r
    · exact hx b n r
    · rw [n] at r; cases r
  have hm : ∀ b u, H b = some u → ¬ Mut (some u) → b ≠ x := fun b u q nm z => by subst z; rw [q] at mu; exact nm mu
  refine ⟨fun b u q n _ _ => k b u (hb b n) q, fun b u q n _ _ => ⟨u.slots, k b u (hb b n) q⟩, fun b u q n _ => by rw [upd_ne (hx b n)]; exact n, fun b u q _ => ?_,
    fun b xs q => by rw [upd_ne (hm b _ q fun z => z)]; exact q, fun b u xs q => by rw [upd_ne (hm b _ q fun z => z)]; exact q, fun b ps q => ⟨#[], by rw [upd_ne (hm b _ q fun z => z), q]; simp⟩⟩
  by_cases hbe : b = e
  · subst hbe; exact heo
  · exact ⟨u, k b u hbe q⟩
theorem Un.mono (u : Un fs ex H H1 h h1) (hs : ∀ b ∈ fs, b ∈ fs') (hx : ∀ b ∈ ex, b ∈ ex') : Un fs' ex' H H1 h h1 :=
  ⟨fun b ob q n hb he => u.keep b ob q n (fun z => hb (hs b z)) fun z => he (hx b z), fun _ _ q n _ he => u.any q n fun z => he (hx _ z), fun b ob q n he => u.free b ob q n fun z => he (hx b z), fun b ob q he => u.there b ob q fun z => he (hx b z), u.tups, u.frzs, u.tbls⟩
end
def trk (h : Heap) (H : Hp) : List Addr := (List.range h.objs.size).filter fun a => (H a).isSome
def hidT (h : Heap) (H : Hp) : Heap := PySem.W.hideAll h (trk h H)
theorem hidT_size (h : Heap) (H : Hp) : (hidT h H).objs.size = h.objs.size := PySem.W.hideAll_size _ _
theorem hidT_get {h : Heap} {H : Hp} {b : Addr} {o : Obj} (e : h.get? b = some o) (n : H b = none) : (hidT h H).get? b = some o :=
  PySem.W.hideAll_get _ e fun hm => by
    have q : (H b).isSome = true := (List.mem_filter.mp hm).2
    rw [n] at q; simp at q
theorem of_hidT {h : Heap} {H : Hp} {b : Addr} {o : Obj} (e : (hidT h H).get? b = some o) : h.get? b = some o ∧ H b = none := by
  have e' : h.get? b = some o := PySem.W.of_hideAll (trk h H) e
  refine ⟨e', ?_⟩
  cases q : H b with
  | none => rfl
  | some x =>
    have hm : b ∈ trk h H := List.mem_filter.mpr ⟨List.mem_range.mpr (Heap.lt_size e'), by simp [q]⟩
    have z : (hidT h H).get? b = none := PySem.W.hideAll_none (trk h H) hm
    rw [z] at e; cases e
def allNews (g h : Heap) (L : Addr) : List (Addr × Obj) := (List.range h.objs.size).filterMap fun a => if a = L ∨ (g.get? a).isSome = true then none else (h.get? a).map fun o => (a, o)
def rest (g h : Heap) (L d : Addr) : List (Addr × Obj) := (allNews g h L).filter fun p => decide (p.1 ≠ d)
end L2
namespace L2
open PySem PySem.Spec PyProof.Rows
structure Mod (K : PySem.W.Frag) (mg : Str → Option Value) (base : Heap) : Prop where
  kin : K.In base
  glob : base.Ns mainGlobals mg
  blt : ∃ mb, base.Ns builtinsNs mb ∧ ∀ x : Str, x ≠ "__name__" → mb x = bootBuiltins x
  nolimit : base.NoLimit
structure Cx where
  prog : Program
  w : World
  K : PySem.W.Frag
  mg : Str → Option Value
  base : Heap
  A : Around
  N : List Str
  s_0 : Shared
  H_0 : Hp
  env : Env
  outer : List Env
  stack : List Env
  ex : List Addr
  fn : Str → Bool
  calm : Bool
  pn : List (Addr × Obj)
  xe : Value → Shared → Prop
def frs (l : List Env) : List Addr := l.filterMap (·.frame)
abbrev Cx.fs (X : Cx) : List Addr := frs X.outer
def Vis (sc : Scope) (x : Str) : Prop := sc.names.lookup x = some .local ∨ sc.names.lookup x = some .cell ∨ sc.names.lookup x = some .free
def Loc (sc : Scope) (x : Str) : Prop := sc.names.lookup x = some .local ∨ sc.names.lookup x = some .cell
def Look (env : Env) (h : Heap) (m : Str → Option Value) (x : Str) (u : Value) : Prop :=
  (env.kindOf x = some .local ∧ m x = some u) ∨ ((env.kindOf x = some .cell ∨ env.kindOf x = some .free) ∧ ∃ c, env.cells.lookup x = some c ∧ h.IsCell c (some u))
structure Cx.Ok (X : Cx) : Prop where
  mod : Mod X.K X.mg X.base
  kind : X.env.scope.kind = .function
  glob : X.env.globals = mainGlobals
  blt : X.env.builtins = builtinsNs
  above : X.s_0.heap.objs.size ≤ X.env.locals
  inj : ∀ x y c, X.env.cells.lookup x = some c → X.env.cells.lookup y = some c → x = y
  has : ∀ x, (X.env.kindOf x = some .cell ∨ X.env.kindOf x = some .free) → ∃ c, X.env.cells.lookup x = some c
  cab : ∀ x c, X.fn x = true → X.env.cells.lookup x = some c → X.s_0.heap.objs.size ≤ c
  hd : X.calm = true → X.A.handled = none
  frames : X.A.frames = some X.stack
  stk : X.stack = X.outer ∨ (X.stack = X.env :: X.outer ∧ X.env.frame = some X.env.locals)
  exf : ∀ b ∈ X.ex, b ≠ X.env.locals ∧ ∀ x c, X.env.cells.lookup x = some c → c ≠ b
  bs : ∀ b o, X.base.get? b = some o → X.s_0.heap.get? b = some o ∧ X.H_0 b = none
  bsz : X.base.objs.size ≤ X.s_0.heap.objs.size
  noex : ∀ b o, X.base.get? b = some o → b ∉ X.ex
  exfs : ∀ b ∈ X.ex, b ∉ X.fs
  funs : X.s_0.heap.FunFrames X.base X.outer
  frf : ∀ b ∈ X.fs, X.H_0 b = none
structure Inv (X : Cx) (pins : List (Addr × Obj)) (σ : List (Option V)) (H : Hp) (s : Shared) : Prop where
  ok : X.Ok
  os : s.os = X.s_0.os
  bare : AllBare s.gens
  base : Un X.fs X.ex X.H_0 H X.s_0.heap s.heap
  loc : ∃ m, s.heap.Ns X.env.locals m ∧ ∀ (i : Nat) (x : Str) (v : V), X.N[i]? = some x → σ[i]? = some (some v) → Vis X.env.scope x → ∃ u, RelV v u ∧ Look X.env s.heap m x u
  cell : ∀ x c, X.env.cells.lookup x = some c → ∃ v, s.heap.IsCell c v
  free : H X.env.locals = none
  freeC : ∀ x c, X.env.cells.lookup x = some c → H c = none
  pin : ∀ p ∈ X.pn ++ pins, s.heap.get? p.1 = some p.2 ∧ H p.1 = none ∧ p.1 ≠ X.env.locals ∧ p.1 ∉ X.fs ∧ ∀ v, p.2.data ≠ .cell v
  hok : HOk X.prog X.w H s.heap
  len : σ.length = X.N.length
section
variable {X : Cx} {pins : List (Addr × Obj)} {σ : List (Option V)} {H H' : Hp} {s : Shared} {h' : Heap}
theorem Cx.Ok.nofr (ok : X.Ok) {b : Addr} {o : Obj} (e : X.base.get? b = some o) : b ∉ X.fs := fun hb => by
  have := (ok.funs.mem hb).1
  rw [e] at this; cases this
theorem Inv.bs (I : Inv X pins σ H s) : ∀ b o, X.base.get? b = some o → s.heap.get? b = some o ∧ H b = none := fun b o e =>
  ⟨I.base.keep b o (I.ok.bs b o e).1 (I.ok.bs b o e).2 (I.ok.nofr e) (I.ok.noex b o e), I.base.free b o (I.ok.bs b o e).1 (I.ok.bs b o e).2 (I.ok.noex b o e)⟩
theorem Inv.bk (I : Inv X pins σ H s) : ∀ b o, X.base.get? b = some o → s.heap.get? b = some o := fun b o e => (I.bs b o e).1
theorem Inv.mod (I : Inv X pins σ H s) : Mod X.K X.mg X.base := I.ok.mod
theorem Inv.kIn (I : Inv X pins σ H s) : X.K.In s.heap := I.ok.mod.kin.keeps I.bk
theorem Inv.nolimit (I : Inv X pins σ H s) : s.heap.NoLimit := I.ok.mod.nolimit.keeps I.bk
theorem Inv.fr (I : Inv X pins σ H s) : ∃ m, Fr X.base X.env.locals s.heap m :=
  let ⟨m, hn, _⟩ := I.loc
  ⟨m, hn, I.bk, Nat.le_trans I.ok.bsz I.ok.above⟩
theorem Inv.lt (I : Inv X pins σ H s) : X.env.locals < s.heap.objs.size := let ⟨_, hn, _⟩ := I.loc; hn.lt
theorem Inv.sz (I : Inv X pins σ H s) : X.s_0.heap.objs.size ≤ s.heap.objs.size := Nat.le_trans I.ok.above (Nat.le_of_lt I.lt)
theorem Inv.nofs (I : Inv X pins σ H s) {a : Addr} (h : s.heap.objs.size ≤ a) : a ∉ X.fs := fun hb => by
  obtain ⟨_, o, ho, _⟩ := I.ok.funs.mem hb
  exact absurd (Nat.lt_of_lt_of_le (Heap.lt_size ho) (Nat.le_trans I.sz h)) (Nat.lt_irrefl _)
theorem Inv.cne (I : Inv X pins σ H s) : ∀ x c, X.env.cells.lookup x = some c → c ≠ X.env.locals := fun x c e z => by
  obtain ⟨v, o, ho, hd⟩ := I.cell x c e
  obtain ⟨m, ⟨o', es, ep, ho', hd', _⟩, _⟩ := I.loc
  rw [z, ho'] at ho; cases ho; rw [hd'] at hd; cases hd
theorem Inv.funs (I : Inv X pins σ H s) : s.heap.FunFrames X.base X.outer := by
  have all : ∀ (l : List Env), (∀ b ∈ frs l, b ∈ X.fs) → X.s_0.heap.FunFrames X.base l → s.heap.FunFrames X.base l := by
    intro l
    induction l with
    | nil => intro _ _; trivial
    | cons env r ih =>
      intro hs hl
      obtain ⟨hk, ⟨L, o, hf, hn, ho, hd⟩, hr⟩ := hl
      have hL : L ∈ X.fs := hs L (by unfold frs; rw [List.filterMap_cons, hf]; exact List.mem_cons_self)
      obtain ⟨sl, e⟩ := I.base.slot L o ho (I.ok.frf L hL) hL fun z => I.ok.exfs L z hL
      exact ⟨hk, ⟨L, _, hf, hn, e, hd⟩, ih (fun b hb => hs b (by unfold frs; rw [List.filterMap_cons, hf]; exact List.mem_cons_of_mem _ hb)) hr⟩
  exact all X.outer (fun _ hb => hb) I.ok.funs
theorem Inv.stack (I : Inv X pins σ H s) : s.heap.FunFrames X.base X.stack := by
  rcases I.ok.stk with e | ⟨e, hf⟩
  · rw [e]; exact I.funs
  · rw [e]
    obtain ⟨m, hn, _⟩ := I.loc
    refine .cons (by rw [I.ok.kind]; decide) hf hn ?_ I.funs
    exact Heap.get?_none_of_le (Nat.le_trans I.ok.bsz I.ok.above)
theorem Inv.stkSub (I : Inv X pins σ H s) : ∀ b ∈ frs X.stack, b ∈ X.env.locals :: X.fs := fun b hb => by
  rcases I.ok.stk with e | ⟨e, hf⟩
  · rw [e] at hb; exact List.mem_cons_of_mem _ hb
  · rw [e] at hb
    unfold frs at hb
    rw [List.filterMap_cons, hf] at hb
    exact hb
theorem Inv.stkFree (I : Inv X pins σ H s) : ∀ b ∈ frs X.stack, H b = none := fun b hb => by
  rcases List.mem_cons.mp (I.stkSub b hb) with e | hb
  · rw [e]; exact I.free
  · obtain ⟨_, o, ho, _⟩ := I.ok.funs.mem hb
    exact I.base.free b o ho (I.ok.frf b hb) fun z => I.ok.exfs b z hb
theorem Inv.step {g' : Array GenState} {t' : Nat} {d' : Drawn} {ch : List Addr} (I : Inv X pins σ H s)
    (hch : ∀ b ∈ ch, (b ∈ X.ex ∨ X.s_0.heap.objs.size ≤ b) ∧ b ≠ X.env.locals ∧ (∀ x c, X.env.cells.lookup x = some c → c ≠ b) ∧ ∀ p ∈ X.pn ++ pins, p.1 ≠ b)
    (keep : ∀ b o, b ≠ X.env.locals → b ∉ X.fs → b ∉ ch → s.heap.get? b = some o → H b = none → h'.get? b = some o)
    (slot : ∀ b o, b ≠ X.env.locals → b ∈ X.fs → b ∉ ch → s.heap.get? b = some o → H b = none → ∃ sl, h'.get? b = some { o with slots := sl }) (free : ∀ b o, b ∉ ch → s.heap.get? b = some o → H b = none → H' b = none)
    (there : ∀ b o, b ∉ ch → s.heap.get? b = some o → ∃ o', h'.get? b = some o')
    (tups : ∀ b xs, H b = some (.tup xs) → H' b = some (.tup xs)) (frzs : ∀ b o u, H b = some (.frz o u) → H' b = some (.frz o u)) (tbls : ∀ b ps, H b = some (.tbl ps) → ∃ more, H' b = some (.tbl (ps ++ more)))
    (ns : ∀ m, s.heap.Ns X.env.locals m → h'.Ns X.env.locals m) (hok : HOk X.prog X.w H' h') (hg : AllBare g') :
    Inv X pins σ H' { s with heap := h', gens := g', drawn := d', toks := t' } := by
  have neL : ∀ b o, X.s_0.heap.get? b = some o → b ≠ X.env.locals := fun b o e => Nat.ne_of_lt (Nat.lt_of_lt_of_le (Heap.lt_size e) I.ok.above)
  have neC : ∀ b o, X.s_0.heap.get? b = some o → b ∉ X.ex → b ∉ ch := fun b o e hx hb => by
    rcases (hch b hb).1 with z | z
    · exact hx z
    · exact absurd (Nat.lt_of_lt_of_le (Heap.lt_size e) z) (Nat.lt_irrefl _)
  have cellK : ∀ x c, X.env.cells.lookup x = some c → ∀ v, s.heap.IsCell c v → h'.IsCell c v := fun x c e v ⟨o, ho, hd⟩ => by
    have nch : c ∉ ch := fun z => (hch c z).2.2.1 x c e rfl
    by_cases hc : c ∈ X.fs
    · obtain ⟨sl, q⟩ := slot c o (I.cne x c e) hc nch ho (I.freeC x c e)
      exact ⟨_, q, hd⟩
    · exact ⟨o, keep c o (I.cne x c e) hc nch ho (I.freeC x c e), hd⟩
  refine ⟨I.ok, I.os, hg, ⟨fun b o e n hb hx => ?_, fun b o e n hb hx => ?_, fun b o e n hx => ?_, fun b o e hx => ?_, fun b xs e => tups b xs (I.base.tups b xs e), fun b o xs e => frzs b o xs (I.base.frzs b o xs e), fun b ps e => ?_⟩, ?_, fun x c e => ?_, ?_, fun x c e => ?_, fun p hp => ?_, hok, I.len⟩
  · exact keep b o (neL b o e) hb (neC b o e hx) (I.base.keep b o e n hb hx) (I.base.free b o e n hx)
  · obtain ⟨sl, e1⟩ := I.base.slot b o e n hb hx
    obtain ⟨sl', e2⟩ := slot b _ (neL b o e) hb (neC b o e hx) e1 (I.base.free b o e n hx)
    exact ⟨sl', e2⟩
  · obtain ⟨o', e1⟩ := I.base.there b o e hx
    exact free b o' (neC b o e hx) e1 (I.base.free b o e n hx)
  · obtain ⟨o', e1⟩ := I.base.there b o e hx
    exact there b o' (neC b o e hx) e1
  · obtain ⟨m1, e1⟩ := I.base.tbls b ps e
    obtain ⟨m2, e2⟩ := tbls b _ e1
    exact ⟨m1 ++ m2, by rw [e2, Array.append_assoc]⟩
  · obtain ⟨m, hn, hl⟩ := I.loc
    refine ⟨m, ns m hn, fun i x v e1 e2 e3 => ?_⟩
    obtain ⟨u, r, l⟩ := hl i x v e1 e2 e3
    refine ⟨u, r, ?_⟩
    rcases l with l | ⟨k, c, e, z⟩
    · exact .inl l
    · exact .inr ⟨k, c, e, cellK x c e _ z⟩
  · obtain ⟨v, z⟩ := I.cell x c e
    exact ⟨v, cellK x c e v z⟩
  · obtain ⟨m, ⟨o, _, _, ho, _⟩, _⟩ := I.loc
    exact free _ o (fun z => (hch _ z).2.1 rfl) ho I.free
  · obtain ⟨v, o, ho, hd⟩ := I.cell x c e
    exact free c o (fun z => (hch c z).2.2.1 x c e rfl) ho (I.freeC x c e)
  · obtain ⟨e, n, ne, nf, d⟩ := I.pin p hp
    have nch : p.1 ∉ ch := fun z => (hch p.1 z).2.2.2 p hp rfl
    exact ⟨keep p.1 p.2 ne nf nch e n, free p.1 p.2 nch e n, ne, nf, d⟩
theorem Inv.un {t' : Nat} (I : Inv X pins σ H s) (u : Un X.fs [] H H' s.heap h') (hok : HOk X.prog X.w H' h') : Inv X pins σ H' { s with heap := h', toks := t' } := by
  obtain ⟨m, ⟨o, es, ep, ho, r⟩, _⟩ := id I.loc
  obtain ⟨sl, hL⟩ := u.any ho I.free (by simp)
  exact I.step (g' := s.gens) (d' := s.drawn) (ch := []) (fun _ z => nomatch z) (fun b o _ hb _ e n => u.keep b o e n hb (by simp)) (fun b o _ hb _ e n => u.slot b o e n hb (by simp)) (fun b o _ e n => u.free b o e n (by simp)) (fun b o _ e => u.there b o e (by simp)) u.tups u.frzs u.tbls (fun m' hm => by
    obtain ⟨o', es', ep', ho', r'⟩ := hm
    rw [ho] at ho'; cases ho'
    exact ⟨_, es', ep', hL, r'⟩) hok I.bare
theorem Inv.call {g' : Array GenState} {t' : Nat} {d' : Drawn} {ch : List Addr} (I : Inv X pins σ H s) (u : Un (frs X.stack) ch H H' s.heap h') (hok : HOk X.prog X.w H' h') (hg : AllBare g')
    (hch : ∀ b ∈ ch, (b ∈ X.ex ∨ X.s_0.heap.objs.size ≤ b) ∧ b ≠ X.env.locals ∧ (∀ x c, X.env.cells.lookup x = some c → c ≠ b) ∧ ∀ p ∈ X.pn ++ pins, p.1 ≠ b) :
    Inv X pins σ H' { s with heap := h', gens := g', drawn := d', toks := t' } := by
  obtain ⟨m, ⟨o, es, ep, ho, r⟩, _⟩ := id I.loc
  obtain ⟨sl, hL⟩ := u.any ho I.free fun z => (hch _ z).2.1 rfl
  exact I.step (ch := ch) hch (fun b o hL hb hc e n => u.keep b o e n (fun z => (List.mem_cons.mp (I.stkSub b z)).elim hL hb) hc) (fun b o _ _ hc e n => u.any e n hc) (fun b o hc e n => u.free b o e n hc) (fun b o hc e => u.there b o e hc) u.tups u.frzs u.tbls (fun m' hm => by
    obtain ⟨o', es', ep', ho', r'⟩ := hm
    rw [ho] at ho'; cases ho'
    exact ⟨_, es', ep', hL, r'⟩) hok hg
theorem Inv.turned {t' : Nat} {it : Addr} (I : Inv X pins σ H s) (k : ∀ b o, b ≠ it → s.heap.get? b = some o → h'.get? b = some o) (hn : H it = none) (hL : it ≠ X.env.locals)
    (h1 : it ∈ X.ex ∨ X.s_0.heap.objs.size ≤ it) (h2 : ∀ x c, X.env.cells.lookup x = some c → c ≠ it) (h3 : ∀ p ∈ X.pn ++ pins, p.1 ≠ it) : Inv X pins σ H { s with heap := h', toks := t' } := by
  have nit : ∀ b u, H b = some u → b ≠ it := fun b u e z => by rw [z, hn] at e; cases e
  refine I.step (g' := s.gens) (d' := s.drawn) (ch := [it]) (fun b hb => ?_) (fun b o _ _ hc e _ => k b o (fun z => hc (by simp [z])) e) (fun b o _ _ hc e _ => ⟨o.slots, k b o (fun z => hc (by simp [z])) e⟩) (fun _ _ _ _ n => n)
    (fun b o hc e => ⟨o, k b o (fun z => hc (by simp [z])) e⟩) (fun _ _ e => e) (fun _ _ _ e => e) (fun b ps e => ⟨#[], by rw [e]; simp⟩) (fun m hm => ?_) (fun b u e => ?_) I.bare
  · have e : b = it := by simpa using hb
    subst e
    exact ⟨h1, hL, h2, h3⟩
  · obtain ⟨o, es, ep, ho, r⟩ := hm
    exact ⟨o, es, ep, k _ o (Ne.symm hL) ho, r⟩
  · refine (I.hok b u e).stay (fun c v hc q => k c v ?_ q) (fun _ q => q) fun _ _ q => q
    rcases hc with z | z
    · rw [z]; exact nit b u e
    · exact nit c _ z
theorem Inv.tok (I : Inv X pins σ H s) (t : Nat) : Inv X pins σ H { s with toks := t } := I.un (h' := s.heap) (t' := t) Un.refl I.hok
theorem Inv.kept {t' : Nat} (I : Inv X pins σ H s) (k : ∀ b u, s.heap.get? b = some u → h'.get? b = some u) : Inv X pins σ H { s with heap := h', toks := t' } := I.un (Un.kept k) (I.hok.kept k)
theorem Inv.laid {a : Addr} {o : HO} {t' : Nat} (I : Inv X pins σ H s) (k : ∀ b u, s.heap.get? b = some u → h'.get? b = some u) (hp : s.heap.objs.size ≤ a) (new : ObjOk X.prog X.w (upd H a o) h' a o) :
    Inv X pins σ (upd H a o) { s with heap := h', toks := t' } := I.un (Un.laid k hp (I.hok.fresh hp)) (I.hok.laid k hp new)
theorem Inv.write {x e : Addr} {o : HO} {t' : Nat} (I : Inv X pins σ H s) (mu : Mut (H x)) (he : e = x ∨ H e = some (.own x)) (k : ∀ b u, b ≠ e → s.heap.get? b = some u → h'.get? b = some u) (heo : ∃ u, h'.get? e = some u)
    (new : ObjOk X.prog X.w (upd H x o) h' x o) : Inv X pins σ (upd H x o) { s with heap := h', toks := t' } := I.un (Un.write mu he k heo) (I.hok.write mu he k heo new)
theorem Inv.weak {σ' : List (Option V)} (I : Inv X pins σ H s) (hl : σ'.length = σ.length) (w : ∀ (i : Nat) v, σ'[i]? = some (some v) → σ[i]? = some (some v)) : Inv X pins σ' H s :=
  ⟨I.ok, I.os, I.bare, I.base, let ⟨m, hn, hl'⟩ := I.loc; ⟨m, hn, fun i x v e1 e2 e3 => hl' i x v e1 (w i v e2) e3⟩, I.cell, I.free, I.freeC, I.pin, I.hok, hl.trans I.len⟩
theorem Inv.pins_of {pins' : List (Addr × Obj)} (I : Inv X pins σ H s) (h : ∀ p ∈ pins', s.heap.get? p.1 = some p.2 ∧ H p.1 = none ∧ p.1 ≠ X.env.locals ∧ p.1 ∉ X.fs ∧ ∀ v, p.2.data ≠ .cell v) : Inv X pins' σ H s :=
  ⟨I.ok, I.os, I.bare, I.base, I.loc, I.cell, I.free, I.freeC, fun p hp => (List.mem_append.mp hp).elim (fun z => I.pin p (List.mem_append_left _ z)) (h p), I.hok, I.len⟩
theorem nodup_ix {N : List Str} (hN : N.Nodup) {i j : Nat} {x : Str} (a : N[i]? = some x) (b : N[j]? = some x) : i = j := by
  obtain ⟨h1, e1⟩ := List.getElem?_eq_some_iff.mp a
  obtain ⟨h2, e2⟩ := List.getElem?_eq_some_iff.mp b
  exact (List.getElem_inj hN).mp (e1.trans e2.symm)
theorem store_ok2 {M : Model} {A : Around} {E : Value → Shared → Prop} {i : Nat} {x : Str} {v : V} {u : Value} {Q : Unit → Shared → Prop} (I : Inv X pins σ H s) (hN : X.N.Nodup) (hi : X.N[i]? = some x) (hx : Loc X.env.scope x) (r : RelV v u)
    (h : ∀ s', Inv X pins (σ.set i (some v)) H s' → (∃ a, Heap.SameBut a s.heap s'.heap ∧ (a = X.env.locals ∨ X.env.cells.lookup x = some a)) → Q () s') (hf : X.fn x = true ∨ X.env.scope.names.lookup x = some .local := by first | exact .inl rfl | exact .inr rfl | assumption) : wpAny M A (storeName X.env x u) Q E s := by
  obtain ⟨m, hn, hl⟩ := id I.loc
  have hcls : (X.env.scope.kind == .class || (X.env.scope.kind == .module && X.env.locals != X.env.globals)) = false := by rw [I.ok.kind]; rfl
  have hiσ : i < σ.length := by rw [I.len]; exact (List.getElem?_eq_some_iff.mp hi).1
  have cne := I.cne
  have tracked : ∀ {a : Addr} {h' : Heap}, (∃ o, s.heap.get? a = some o ∧ H a = none) → Heap.SameBut a s.heap h' → HOk X.prog X.w H h' := fun {a h'} ha hs b ob e => by
    obtain ⟨_, _, hfree⟩ := ha
    refine (I.hok b ob e).stay (fun c w' hc q => (hs.2 c ?_).trans q) (fun _ q => q) fun _ _ q => q
    rintro rfl
    rcases hc with rfl | hc
    · rw [hfree] at e; cases e
    · rw [hfree] at hc; cases hc
  rcases hx with hk | hk
  · refine wpAny_storeName_local hk hn (fun h' hn' hs => ?_) hcls
    obtain ⟨oL, _, _, hoL, _⟩ := id hn
    refine h _ ⟨I.ok, I.os, I.bare, ⟨fun b o e n hb hx => ?_, fun b o e n hb hx => ?_, I.base.free, fun b o e hx => ?_, I.base.tups, I.base.frzs, I.base.tbls⟩, ⟨_, hn', fun j y v' e1 e2 e3 => ?_⟩, fun y c e => ?_, I.free, I.freeC, fun p hp => ?_, tracked ⟨oL, hoL, I.free⟩ hs, by simpa using I.len⟩ ⟨_, hs, .inl rfl⟩
    · exact (hs.2 b (Nat.ne_of_lt (Nat.lt_of_lt_of_le (Heap.lt_size e) I.ok.above))).trans (I.base.keep b o e n hb hx)
    · obtain ⟨sl, e1⟩ := I.base.slot b o e n hb hx
      exact ⟨sl, (hs.2 b (Nat.ne_of_lt (Nat.lt_of_lt_of_le (Heap.lt_size e) I.ok.above))).trans e1⟩
    · obtain ⟨o', e1⟩ := I.base.there b o e hx
      exact ⟨o', (hs.2 b (Nat.ne_of_lt (Nat.lt_of_lt_of_le (Heap.lt_size e) I.ok.above))).trans e1⟩
    · by_cases hj : j = i
      · subst hj
        rw [hi] at e1; cases e1
        rw [List.getElem?_set_self hiσ] at e2
        cases e2
        exact ⟨u, r, .inl ⟨hk, by simp⟩⟩
      · rw [List.getElem?_set_ne (Ne.symm hj)] at e2
        obtain ⟨u', r', q⟩ := hl j y v' e1 e2 e3
        refine ⟨u', r', ?_⟩
        rcases q with ⟨k, e⟩ | ⟨k, c, e, z⟩
        · refine .inl ⟨k, ?_⟩
          have : y ≠ x := fun e => hj (nodup_ix hN e1 (e ▸ hi))
          simp [this, e]
        · exact .inr ⟨k, c, e, z.sameBut hs (cne y c e)⟩
    · obtain ⟨w', z⟩ := I.cell y c e
      exact ⟨w', z.sameBut hs (cne y c e)⟩
    · obtain ⟨e, n, ne, nf, d⟩ := I.pin p hp
      exact ⟨(hs.2 p.1 ne).trans e, n, ne, nf, d⟩
  · have hfn : X.fn x = true := by
      rcases hf with z | z
      · exact z
      · rw [z] at hk; cases hk
    obtain ⟨c, hc⟩ := I.ok.has x (.inl hk)
    obtain ⟨w', z⟩ := I.cell x c hc
    refine wpAny_storeName_cell I.ok.kind hk hc z (fun h' hc' hs => ?_)
    obtain ⟨oc, hoc, hocd⟩ := id z
    refine h { s with heap := h' } ⟨I.ok, I.os, I.bare, ⟨fun b o e n hb hx => ?_, fun b o e n hb hx => ?_, I.base.free, fun b o e hx => ?_, I.base.tups, I.base.frzs, I.base.tbls⟩, ⟨m, hn.sameBut hs (Ne.symm (cne x c hc)), fun j y v' e1 e2 e3 => ?_⟩, fun y c' e => ?_, I.free, I.freeC, fun p hp => ?_, tracked ⟨oc, hoc, I.freeC x c hc⟩ hs, by simpa using I.len⟩ ⟨c, hs, .inr hc⟩
    · exact (hs.2 b (Nat.ne_of_lt (Nat.lt_of_lt_of_le (Heap.lt_size e) (I.ok.cab x c hfn hc)))).trans (I.base.keep b o e n hb hx)
    · obtain ⟨sl, e1⟩ := I.base.slot b o e n hb hx
      exact ⟨sl, (hs.2 b (Nat.ne_of_lt (Nat.lt_of_lt_of_le (Heap.lt_size e) (I.ok.cab x c hfn hc)))).trans e1⟩
    · obtain ⟨o', e1⟩ := I.base.there b o e hx
      exact ⟨o', (hs.2 b (Nat.ne_of_lt (Nat.lt_of_lt_of_le (Heap.lt_size e) (I.ok.cab x c hfn hc)))).trans e1⟩
    · by_cases hj : j = i
      · subst hj
        rw [hi] at e1; cases e1
        rw [List.getElem?_set_self hiσ] at e2
        cases e2
        exact ⟨u, r, .inr ⟨.inl hk, c, hc, hc'⟩⟩
      · rw [List.getElem?_set_ne (Ne.symm hj)] at e2
        obtain ⟨u', r', q⟩ := hl j y v' e1 e2 e3
        refine ⟨u', r', ?_⟩
        rcases q with q | ⟨k, c', e, z'⟩
        · exact .inl q
        · refine .inr ⟨k, c', e, z'.sameBut hs ?_⟩
          rintro rfl
          exact hj (nodup_ix hN e1 (I.ok.inj _ _ _ e hc ▸ hi))
    · by_cases hcc : c' = c
      · subst hcc; exact ⟨_, hc'⟩
      · obtain ⟨w2, z2⟩ := I.cell y c' e
        exact ⟨w2, z2.sameBut hs hcc⟩
    · obtain ⟨e, n, ne, nf, d⟩ := I.pin p hp
      refine ⟨(hs.2 p.1 ?_).trans e, n, ne, nf, d⟩
      intro q
      rw [q, hoc] at e
      have q' : oc = p.2 := Option.some.inj e
      exact d w' (by rw [← q']; exact hocd)
theorem store_ok {M : Model} {A : Around} {E : Value → Shared → Prop} {i : Nat} {x : Str} {v : V} {u : Value} {Q : Unit → Shared → Prop} (I : Inv X pins σ H s) (hN : X.N.Nodup) (hi : X.N[i]? = some x) (hx : Loc X.env.scope x) (r : RelV v u)
    (h : ∀ s', Inv X pins (σ.set i (some v)) H s' → Q () s') (hf : X.fn x = true ∨ X.env.scope.names.lookup x = some .local := by first | exact .inl rfl | exact .inr rfl | assumption) : wpAny M A (storeName X.env x u) Q E s :=
  store_ok2 I hN hi hx r (fun s' I' _ => h s' I') hf
theorem Inv.call' {s' : Shared} {ch : List Addr} (I : Inv X pins σ H s) (ho : s'.os = s.os) (u : Un (frs X.stack) ch H H' s.heap s'.heap) (hok : HOk X.prog X.w H' s'.heap) (hg : AllBare s'.gens)
    (hch : ∀ b ∈ ch, (b ∈ X.ex ∨ X.s_0.heap.objs.size ≤ b) ∧ b ≠ X.env.locals ∧ (∀ x c, X.env.cells.lookup x = some c → c ≠ b) ∧ ∀ p ∈ X.pn ++ pins, p.1 ≠ b) : Inv X pins σ H' s' := by
  obtain ⟨h', g', d', t', o'⟩ := s'
  have e : o' = s.os := ho
  subst e
  exact I.call (g' := g') (t' := t') (d' := d') u hok hg hch
end
abbrev XK := Value → Option Addr → Hp → Prop
abbrev St := List (Option V)
abbrev VK := V → Hp → Prop
abbrev TE := St → Hp → VK → Prop
abbrev TT := St → Hp → (Bool → Hp → Prop) → Prop
abbrev TA := St → Hp → (List V → Hp → Prop) → Prop
structure Ends where
  nx : St → Hp → Prop
  rt : VK
  bk : St → Hp → Prop := fun _ _ => False
  ct : St → Hp → Prop := fun _ _ => False
abbrev TS := Ends → St → Hp → Prop
def EP (X : Cx) (pins : List (Addr × Obj)) (σ : St) (Q : VK) (u : Value) (s' : Shared) : Prop := ∃ v H', Inv X pins σ H' s' ∧ RelV v u ∧ Q v H'
def TP (X : Cx) (pins : List (Addr × Obj)) (σ : St) (Q : Bool → Hp → Prop) (b : Bool) (s' : Shared) : Prop := ∃ H', Inv X pins σ H' s' ∧ Q b H'
def AP (X : Cx) (pins : List (Addr × Obj)) (σ : St) (Q : List V → Hp → Prop) (us : List Value) (s' : Shared) : Prop := ∃ vs H', Inv X pins σ H' s' ∧ Vals vs us ∧ Q vs H'
def SP (X : Cx) (pins : List (Addr × Obj)) (D : Ends) (f : Flow) (s' : Shared) : Prop :=
  match f with
  | .next => ∃ σ' H', Inv X pins σ' H' s' ∧ D.nx σ' H'
  | .brk => ∃ σ' H', Inv X pins σ' H' s' ∧ D.bk σ' H'
  | .cont => ∃ σ' H', Inv X pins σ' H' s' ∧ D.ct σ' H'
  | .ret u => ∃ v σ' H', Inv X pins σ' H' s' ∧ RelV v u ∧ D.rt v H'
def PE (X : Cx) (e : Expr) (t : TE) : Prop :=
  ∀ (pins : List (Addr × Obj)) (s : Shared) (σ : St) (H : Hp) (Q : VK), Inv X pins σ H s → t σ H Q → wpAny (model X.prog X.w) X.A (eval e X.env) (EP X pins σ Q) X.xe s
def PT (X : Cx) (e : Expr) (t : TT) : Prop :=
  ∀ (pins : List (Addr × Obj)) (s : Shared) (σ : St) (H : Hp) (Q : Bool → Hp → Prop), Inv X pins σ H s → t σ H Q → wpAny (model X.prog X.w) X.A (isTrue e X.env (eval e X.env)) (TP X pins σ Q) X.xe s
def PW (X : Cx) (e : Expr) (t : TT) : Prop :=
  ∀ (whole : Sem Value) (pins : List (Addr × Obj)) (s : Shared) (σ : St) (H : Hp) (Q : Bool → Hp → Prop), Inv X pins σ H s → t σ H Q → wpAny (model X.prog X.w) X.A (isTrue e X.env whole) (TP X pins σ Q) X.xe s
theorem PW.pt {X : Cx} {e : Expr} {t : TT} (h : PW X e t) : PT X e t := h _
def PA (X : Cx) (es : List Expr) (t : TA) : Prop :=
  ∀ (pos : Pos) (pins : List (Addr × Obj)) (s : Shared) (σ : St) (H : Hp) (Q : List V → Hp → Prop), Inv X pins σ H s → t σ H Q → wpAny (model X.prog X.w) X.A (spliced (backTo pos (starEach es X.env))) (AP X pins σ Q) X.xe s
def PS (X : Cx) (st : Stmt) (t : TS) : Prop :=
  ∀ (pins : List (Addr × Obj)) (s : Shared) (σ : St) (H : Hp) (D : Ends), Inv X pins σ H s → t D σ H → wpAny (model X.prog X.w) X.A (exec st X.env) (SP X pins D) X.xe s
def PSs (X : Cx) (st : List Stmt) (t : TS) : Prop :=
  ∀ (pins : List (Addr × Obj)) (s : Shared) (σ : St) (H : Hp) (D : Ends), Inv X pins σ H s → t D σ H → wpAny (model X.prog X.w) X.A (execs st X.env) (SP X pins D) X.xe s
theorem thn {α : Type} {t : Sem α} {Q Q' : α → Shared → Prop} {M : Model} {A : Around} {E : Value → Shared → Prop} {s : Shared} (h : wpAny M A t Q E s) (hQ : ∀ a s, Q a s → Q' a s) : wpAny M A t Q' E s := wpAny_mono h hQ fun _ _ x => x
end L2
namespace L2
open PySem PySem.Spec PyProof.Rows
section
variable {X : Cx}
def tVar (i : Nat) : TE := fun σ H Q => ∃ v, σ[i]? = some (some v) ∧ Q v H
def tC (v : V) : TE := fun _ H Q => Q v H
theorem pe_var {i : Nat} {x : Str} {pos : Pos} (hN : X.N[i]? = some x) (hv : Vis X.env.scope x) (hd : (x == ("__debug__" : Str)) = false := by decide) (hcd : (x == ("__classdict__" : Str)) = false := by decide) : PE X (.Name x pos) (tVar i) := by
  intro pins s σ H Q I h
  obtain ⟨v, e, h⟩ := h
  obtain ⟨m, hn, hl⟩ := I.loc
  obtain ⟨u, r, l⟩ := hl i x v hN e hv
  have fin : EP X pins σ Q u s := ⟨v, H, I, r, h⟩
  rcases l with ⟨hk, hm⟩ | ⟨hk, c, hc, hcell⟩
  · exact wpAny_Name (wpAny_loadName_local I.ok.kind hk hn hm fin) hd
  · rcases hk with hk | hk
    · exact wpAny_Name (wpAny_loadName_cell I.ok.kind hk hc hcell fin) hd
    · exact wpAny_Name (wpAny_loadName_free I.ok.kind hk hc hcell fin hcd) hd
theorem pe_int {i j pos} : PE X (.Constant (.int i) j pos) (tC (.int i)) := fun _ _ _ H _ I h => wpAny_Constant_int ⟨.int i, H, I.tok _, ⟨_, rfl⟩, h⟩
theorem pe_bl {b j pos} : PE X (.Constant (.bool b) j pos) (tC (.bl b)) := fun _ _ _ H _ I h => Constant_bool ⟨.bl b, H, I, rfl, h⟩
theorem pe_non {j pos} : PE X (.Constant .none j pos) (tC .non) := fun _ _ _ H _ I h => Constant_none ⟨.non, H, I, rfl, h⟩
theorem pe_str {x j pos} : PE X (.Constant (.str x) j pos) (tC (.str x)) := fun _ _ _ H _ I h => Calls.Constant_str ⟨.str x, H, I.tok _, ⟨_, rfl⟩, h⟩
def Gl (X : Cx) (x : Str) : Prop := X.env.kindOf x = some .globalImplicit
theorem ld_glob {E : Value → Shared → Prop} {pins : List (Addr × Obj)} {s : Shared} {σ : St} {H : Hp} {x : Str} {u : Value} {pos : Pos} {Q : Value → Shared → Prop} (I : Inv X pins σ H s) (hg : Gl X x) (hm : X.mg x = some u) (h : Q u s)
    (hd : (x == ("__debug__" : Str)) = false := by decide) : wpAny (model X.prog X.w) X.A (eval (.Name x pos) X.env) Q E s :=
  Calls.Name_function_global I.ok.kind hg (Calls.loadGlobal_global (by rw [I.ok.glob]; exact I.mod.glob.keeps I.bk) hm h) hd
theorem ld_blt {E : Value → Shared → Prop} {pins : List (Addr × Obj)} {s : Shared} {σ : St} {H : Hp} {x : Str} {u : Value} {pos : Pos} {Q : Value → Shared → Prop} (I : Inv X pins σ H s) (hg : Gl X x) (hm : X.mg x = none) (hv : bootBuiltins x = some u) (h : Q u s)
    (hn : x ≠ "__name__" := by decide) (hd : (x == ("__debug__" : Str)) = false := by decide) : wpAny (model X.prog X.w) X.A (eval (.Name x pos) X.env) Q E s := by
  obtain ⟨mb, h1, h2⟩ := I.mod.blt
  exact Calls.Name_function_global I.ok.kind hg (Calls.loadGlobal_builtin (by rw [I.ok.glob]; exact I.mod.glob.keeps I.bk) hm (by rw [I.ok.blt]; exact h1.keeps I.bk) ((h2 x hn).trans hv) h) hd
theorem pe_glob {x : Str} {v : V} {u : Value} {pos : Pos} (hg : Gl X x) (hm : X.mg x = some u) (r : RelV v u) (hd : (x == ("__debug__" : Str)) = false := by decide) : PE X (.Name x pos) (tC v) :=
  fun _ _ _ H _ I h => ld_glob I hg hm ⟨v, H, I, r, h⟩ hd
theorem pe_bltn {x : Str} {v : V} {u : Value} {pos : Pos} (hg : Gl X x) (hm : X.mg x = none) (hv : bootBuiltins x = some u) (r : RelV v u) (hn : x ≠ "__name__" := by decide) (hd : (x == ("__debug__" : Str)) = false := by decide) : PE X (.Name x pos) (tC v) :=
  fun _ _ _ H _ I h => ld_blt I hg hm hv ⟨v, H, I, r, h⟩ hn hd
variable {a b : Expr} {ta tb : TE} {pos : Pos}
def tB (t : TE) : TT := fun σ H Q => t σ H fun x H1 => ∃ c, x = .bl c ∧ Q c H1
theorem pt_val {e : Expr} {t : TE} (h : PE X e t) (he : ∀ whole, isTrue e X.env whole = (do let v ← whole; standAt e.pos; holding [v] (truthy v)) := by intro _; rfl) : PT X e (tB t) := by
  intro pins s σ H Q I hw
  refine isTrue_plain (thn (h pins s σ H _ I hw) fun v s1 ⟨x, H1, I1, r1, q1⟩ => ?_) (he _)
  obtain ⟨d, rfl, q⟩ := q1
  cases r1
  exact wpAny_truthy_bool ⟨H1, I1, q⟩
variable {tA tB' : TT} {rest : List Expr}
def tOr (t u : TT) : TT := fun σ H Q => t σ H fun c H1 => if c = true then Q true H1 else u σ H1 Q
def tNot (t : TT) : TT := fun σ H Q => t σ H fun c H1 => Q (!c) H1
theorem pw_or1 (ha : PT X a tA) : PW X (.BoolOp .Or [a] pos) tA := by
  intro wh pins s σ H Q I h
  refine isTrue_or (thn (ha pins s σ H Q I h) fun c s1 e => ?_)
  cases c with
  | false => exact isTrue_or_nil e
  | true => exact e
theorem pw_or (ha : PT X a tA) (hb : PW X (.BoolOp .Or (b :: rest) pos) tB') : PW X (.BoolOp .Or (a :: b :: rest) pos) (tOr tA tB') := by
  intro wh pins s σ H Q I h
  refine isTrue_or (thn (ha pins s σ H _ I h) fun c s1 ⟨H1, I1, q1⟩ => ?_)
  cases c with
  | true => exact ⟨H1, I1, q1⟩
  | false => exact hb wh pins s1 σ H1 Q I1 q1
theorem pt_not (ha : PT X a tA) : PT X (.UnaryOp .Not a pos) (tNot tA) := by
  intro pins s σ H Q I h
  exact isTrue_not (ha pins s σ H (fun c H1 => Q (!c) H1) I h)
def tAndV (ta tb : TE) : TE := fun σ H Q => ta σ H fun x H1 => ∃ c, x = .bl c ∧ if c = true then tb σ H1 Q else Q (.bl false) H1
def tOrV (ta tb : TE) : TE := fun σ H Q => ta σ H fun x H1 => ∃ c, x = .bl c ∧ if c = true then Q (.bl true) H1 else tb σ H1 Q
def tNotV (ta : TE) : TE := fun σ H Q => ta σ H fun x H1 => ∃ c, x = .bl c ∧ Q (.bl (!c)) H1
theorem pe_one {op} {t : TE} (h : PE X a t) : PE X (.BoolOp op [a] pos) t := fun pins s σ H Q I hw => BoolOp_one (h pins s σ H Q I hw)
theorem pe_and (ha : PE X a ta) (hb : PE X (.BoolOp .And (b :: rest) pos) tb) : PE X (.BoolOp .And (a :: b :: rest) pos) (tAndV ta tb) := by
  intro pins s σ H Q I h
  refine BoolOp_and (thn (ha pins s σ H _ I h) fun v s1 ⟨x, H1, I1, r1, q1⟩ => ?_)
  obtain ⟨c, rfl, q1⟩ := q1
  cases r1
  refine wpAny_truthy_bool ?_
  cases c with
  | true => exact hb pins s1 σ H1 Q I1 q1
  | false => exact ⟨.bl false, H1, I1, rfl, q1⟩
theorem pe_or (ha : PE X a ta) (hb : PE X (.BoolOp .Or (b :: rest) pos) tb) : PE X (.BoolOp .Or (a :: b :: rest) pos) (tOrV ta tb) := by
  intro pins s σ H Q I h
  refine BoolOp_or (thn (ha pins s σ H _ I h) fun v s1 ⟨x, H1, I1, r1, q1⟩ => ?_)
  obtain ⟨c, rfl, q1⟩ := q1
  cases r1
  refine wpAny_truthy_bool ?_
  cases c with
  | false => exact hb pins s1 σ H1 Q I1 q1
  | true => exact ⟨.bl true, H1, I1, rfl, q1⟩
theorem pe_not (ha : PE X a ta) : PE X (.UnaryOp .Not a pos) (tNotV ta) := by
  intro pins s σ H Q I h
  refine UnaryOp_ (thn (ha pins s σ H _ I h) fun v s1 ⟨x, H1, I1, r1, q1⟩ => ?_)
  obtain ⟨c, rfl, q1⟩ := q1
  cases r1
  exact not_of (wpAny_truthy_bool ⟨.bl (!c), H1, I1, rfl, q1⟩)
def tIf (t : TT) (ta tb : TE) : TE := fun σ H Q => t σ H fun c H1 => if c = true then ta σ H1 Q else tb σ H1 Q
theorem pe_ifExp {c : Expr} (hc : PT X c tA) (ha : PE X a ta) (hb : PE X b tb) : PE X (.IfExp c a b pos) (tIf tA ta tb) := by
  intro pins s σ H Q I h
  refine wpAny_IfExp (thn (hc pins s σ H _ I h) fun d s1 ⟨H1, I1, q1⟩ => ?_)
  cases d with
  | true => exact ha pins s1 σ H1 Q I1 q1
  | false => exact hb pins s1 σ H1 Q I1 q1
end
end L2
namespace L2
open PySem PySem.Spec PyProof.Rows
def SqL (K : PySem.W.Frag) (H : Hp) (a : Addr) (xs : List V) : Prop :=
  Rd H a (.lst xs) ∨
    ∃ (o : Obj) (its : Array Value) (n : Nat), K.lookup a = some o ∧ o.cls = .type "list" ∧ o.dict = none ∧ o.data = .seq its n ∧ its.size ≤ sizeLine ∧ Vals xs its.toList
def SqT (K : PySem.W.Frag) (H : Hp) (a : Addr) (xs : List V) : Prop :=
  Rd H a (.tup xs) ∨
    ∃ (o : Obj) (its : Array Value) (n : Nat), K.lookup a = some o ∧ o.cls = .type "tuple" ∧ o.data = .seq its n ∧ its.size ≤ sizeLine ∧ Vals xs its.toList
def absV : Value → Option V
  | .none => some .non
  | .bool b => some (.bl b)
  | .int i _ => some (.int i)
  | .str x _ => some (.str x)
  | .bytes b _ => some (.byt b)
  | .float b _ => some (.flt b)
  | .ref a => some (.ref a)
  | .type n => some (.ty n)
  | _ => none
theorem RelV.abs {x : V} {u : Value} (r : RelV x u) : absV u = some x := by
  cases x with
  | non => cases r; rfl
  | bl _ => cases r; rfl
  | int _ => obtain ⟨t, rfl⟩ := r; rfl
  | str _ => obtain ⟨t, rfl⟩ := r; rfl
  | byt _ => obtain ⟨t, rfl⟩ := r; rfl
  | flt _ => obtain ⟨t, rfl⟩ := r; rfl
  | ref _ => cases r; rfl
  | ty _ => cases r; rfl
theorem RelV.inj {x y : V} {u : Value} (r : RelV x u) (q : RelV y u) : x = y := Option.some.inj (r.abs.symm.trans q.abs)
theorem Vals.inj : ∀ {xs ys : List V} {us : List Value}, Vals xs us → Vals ys us → xs = ys
  | _, _, _, .nil, .nil => rfl
  | _, _, _, .cons r t, .cons r' t' => by rw [r.inj r', Vals.inj t t']
section
variable {X : Cx} {pins : List (Addr × Obj)} {σ : St} {H : Hp} {s : Shared} {a : Addr} {xs ys : List V}
theorem SqL.of {K : PySem.W.Frag} (h : H a = some (.lst xs)) : SqL K H a xs := .inl (.inl h)
theorem SqT.of {K : PySem.W.Frag} (h : H a = some (.tup xs)) : SqT K H a xs := .inl (.inl h)
theorem Inv.list (I : Inv X pins σ H s) (h : SqL X.K H a xs) : ∃ its : List Value, Vals xs its ∧ PlainL s.heap a its.toArray ∧ xs.length ≤ sizeLine := by
  rcases h with h | ⟨o, its, n, hk, hc, hd, hs, hz, r⟩
  · obtain ⟨z, its, n, r, e⟩ := h.ok I.hok
    exact ⟨its, r, ⟨_, n, e, rfl, rfl, rfl⟩, z⟩
  · refine ⟨its.toList, r, ⟨o, n, I.kIn a o hk, hc, hd, by simpa using hs⟩, ?_⟩
    have e := r.length
    simp only [Array.length_toList] at e
    omega
theorem Inv.tuple (I : Inv X pins σ H s) (h : SqT X.K H a xs) : ∃ its : List Value, Vals xs its ∧ IsTup s.heap a its.toArray ∧ xs.length ≤ sizeLine := by
  rcases h with h | ⟨o, its, n, hk, hc, hs, hz, r⟩
  · obtain ⟨z, its, r, p⟩ := h.ok I.hok
    exact ⟨its, r, p, z⟩
  · refine ⟨its.toList, r, ⟨o, I.kIn a o hk, hc, n, by simpa using hs⟩, ?_⟩
    have e := r.length
    simp only [Array.length_toList] at e
    omega
theorem Inv.list_inj (I : Inv X pins σ H s) (h : SqL X.K H a xs) (h' : SqL X.K H a ys) : xs = ys := by
  obtain ⟨its, r, ⟨o, n, e, _, _, d⟩, _⟩ := I.list h
  obtain ⟨its', r', ⟨o', n', e', _, _, d'⟩, _⟩ := I.list h'
  rw [e] at e'; cases e'
  rw [d] at d'
  injection d' with d1 _
  have : its = its' := by simpa using congrArg Array.toList d1
  subst this
  exact r.inj r'
theorem Inv.tuple_inj (I : Inv X pins σ H s) (h : SqT X.K H a xs) (h' : SqT X.K H a ys) : xs = ys := by
  obtain ⟨its, r, ⟨o, e, _, n, d⟩, _⟩ := I.tuple h
  obtain ⟨its', r', ⟨o', e', _, n', d'⟩, _⟩ := I.tuple h'
  rw [e] at e'; cases e'
  rw [d] at d'
  injection d' with d1 _
  have : its = its' := by simpa using congrArg Array.toList d1
  subst this
  exact r.inj r'
end
abbrev Cx.wish (X : Cx) (E : Value → Shared → Prop) : Cx := { X with xe := E }
abbrev Cx.nox (X : Cx) : Cx := X.wish fun _ _ => False
theorem Cx.Ok.wish {X : Cx} (ok : X.Ok) (E : Value → Shared → Prop) : (X.wish E).Ok :=
  ⟨ok.mod, ok.kind, ok.glob, ok.blt, ok.above, ok.inj, ok.has, ok.cab, ok.hd, ok.frames, ok.stk, ok.exf, ok.bs, ok.bsz, ok.noex, ok.exfs, ok.funs, ok.frf⟩
theorem Cx.Ok.unwish {X : Cx} {E : Value → Shared → Prop} (ok : (X.wish E).Ok) : X.Ok :=
  ⟨ok.mod, ok.kind, ok.glob, ok.blt, ok.above, ok.inj, ok.has, ok.cab, ok.hd, ok.frames, ok.stk, ok.exf, ok.bs, ok.bsz, ok.noex, ok.exfs, ok.funs, ok.frf⟩
section
variable {X : Cx} {pins : List (Addr × Obj)} {σ : St} {H : Hp} {s : Shared} {E : Value → Shared → Prop}
theorem Inv.wish (I : Inv X pins σ H s) (E : Value → Shared → Prop) : Inv (X.wish E) pins σ H s := ⟨I.ok.wish E, I.os, I.bare, I.base, I.loc, I.cell, I.free, I.freeC, I.pin, I.hok, I.len⟩
theorem Inv.unwish (I : Inv (X.wish E) pins σ H s) : Inv X pins σ H s := ⟨I.ok.unwish, I.os, I.bare, I.base, I.loc, I.cell, I.free, I.freeC, I.pin, I.hok, I.len⟩
theorem SP.unwish {D : Ends} {f : Flow} {s' : Shared} (h : SP (X.wish E) pins D f s') : SP X pins D f s' := by
  cases f with
  | next => obtain ⟨σ', H', I, q⟩ := h; exact ⟨σ', H', I.unwish, q⟩
  | brk => obtain ⟨σ', H', I, q⟩ := h; exact ⟨σ', H', I.unwish, q⟩
  | cont => obtain ⟨σ', H', I, q⟩ := h; exact ⟨σ', H', I.unwish, q⟩
  | ret u => obtain ⟨v, σ', H', I, r, q⟩ := h; exact ⟨v, σ', H', I.unwish, r, q⟩
theorem PE.nox {e : Expr} {t : TE} (h : PE X.nox e t) : PE X e t := fun pins s σ H Q I hw =>
  wpAny_mono (h pins s σ H Q (I.wish _) hw) (fun _ _ ⟨v, H', I', r, q⟩ => ⟨v, H', I'.unwish, r, q⟩) fun _ _ z => False.elim z
theorem PT.nox {e : Expr} {t : TT} (h : PT X.nox e t) : PT X e t := fun pins s σ H Q I hw =>
  wpAny_mono (h pins s σ H Q (I.wish _) hw) (fun _ _ ⟨H', I', q⟩ => ⟨H', I'.unwish, q⟩) fun _ _ z => False.elim z
theorem PSs.nox {st : List Stmt} {t : TS} (h : PSs X.nox st t) : PSs X st t := fun pins s σ H D I hw =>
  wpAny_mono (h pins s σ H D (I.wish _) hw) (fun _ _ q => q.unwish) fun _ _ z => False.elim z
end
section
variable {X : Cx} {st : Stmt} {rest : List Stmt} {t u : TS} {e : Expr} {te : TE} {pos : Pos}
def tNext : TS := fun D σ H => D.nx σ H
def tSeq (t u : TS) : TS := fun D σ H => t { D with nx := u D } σ H
theorem pss_nil : PSs X [] tNext := fun _ _ σ H _ I h => wpAny_execs_nil ⟨σ, H, I, h⟩
theorem pss_cons (h1 : PS X st t) (h2 : PSs X rest u) : PSs X (st :: rest) (tSeq t u) := by
  intro pins s σ H D I h
  refine wpAny_execs_cons (thn (h1 pins s σ H { D with nx := u D } I h) fun f s1 q => ?_)
  cases f with
  | next =>
    obtain ⟨σ', H', I', q⟩ := q
    exact h2 pins s1 σ' H' D I' q
  | ret v => exact q
  | brk => exact q
  | cont => exact q
theorem pss_one (h1 : PS X st t) : PSs X [st] t := by
  intro pins s σ H D I h
  refine wpAny_execs_cons (thn (h1 pins s σ H D I h) fun f s1 q => ?_)
  cases f with
  | next => exact wpAny_execs_nil q
  | ret v => exact q
  | brk => exact q
  | cont => exact q
theorem Inv.quiet {pins : List (Addr × Obj)} {σ : St} {H : Hp} {s : Shared} (I : Inv X pins σ H s) : interactive X.env = false := by simp [interactive, I.ok.kind]
def tDrop (te : TE) : TS := fun D σ H => te σ H fun _ H1 => D.nx σ H1
theorem ps_expr (he : PE X e te) (hs : swapsWith e none pos.line X.env = pure false := by rfl) : PS X (.Expr e pos) (tDrop te) := by
  intro pins s σ H D I h
  exact wpAny_Expr_any (thn (he pins s σ H _ I h) fun v s1 ⟨x, H1, I1, r1, q1⟩ => ⟨σ, H1, I1, q1⟩) I.quiet hs
def tRet (te : TE) : TS := fun D σ H => te σ H D.rt
theorem ps_ret (he : PE X e te) : PS X (.Return (some e) pos) (tRet te) := by
  intro pins s σ H D I h
  exact wpAny_Return_some (thn (he pins s σ H _ I h) fun v s1 ⟨x, H1, I1, r1, q1⟩ => ⟨x, σ, H1, I1, r1, q1⟩)
def tIfS (c : TT) (t u : TS) : TS := fun D σ H => c σ H fun b H1 => if b = true then t D σ H1 else u D σ H1
theorem ps_if {c : Expr} {a b : List Stmt} {tc : TT} (hc : PT X c tc) (ha : PSs X a t) (hb : PSs X b u) : PS X (.If c a b pos) (tIfS tc t u) := by
  intro pins s σ H D I h
  refine wpAny_If (thn (hc pins s σ H _ I h) fun d s1 ⟨H1, I1, q1⟩ => ?_)
  cases d with
  | true => exact ha pins s1 σ H1 D I1 q1
  | false => exact hb pins s1 σ H1 D I1 q1
def tNever : TS := fun _ _ _ => False
theorem ps_never : PS X st tNever := fun _ _ _ _ _ _ h => h.elim
end
abbrev TG := V → St → Hp → (St → Hp → Prop) → Prop
abbrev TGs := List V → St → Hp → (St → Hp → Prop) → Prop
def PG (X : Cx) (target : Expr) (t : TG) : Prop :=
  ∀ (pins : List (Addr × Obj)) (s : Shared) (σ : St) (H : Hp) (v : V) (u : Value) (Q : St → Hp → Prop), Inv X pins σ H s → RelV v u → t v σ H Q →
    wpAny (model X.prog X.w) X.A (assign target X.env u) (fun _ s' => ∃ σ' H', Inv X pins σ' H' s' ∧ Q σ' H') X.xe s
def PGs (X : Cx) (ts : List Expr) (t : TGs) : Prop :=
  ∀ (pins : List (Addr × Obj)) (s : Shared) (σ : St) (H : Hp) (vs : List V) (us : List Value) (Q : St → Hp → Prop), Inv X pins σ H s → Vals vs us → t vs σ H Q →
    wpAny (model X.prog X.w) X.A (assignInOrder ((assignEach ts X.env).map (·.2)) us) (fun _ s' => ∃ σ' H', Inv X pins σ' H' s' ∧ Q σ' H') X.xe s
abbrev TSet := V → V → V → Hp → (Hp → Prop) → Prop
def PSet (X : Cx) (t : TSet) : Prop :=
  ∀ (pins : List (Addr × Obj)) (s : Shared) (σ : St) (H : Hp) (o i v : V) (ov iv u : Value) (Q : Hp → Prop), Inv X pins σ H s → RelV o ov → RelV i iv → RelV v u → t o i v H Q →
    wpAny (model X.prog X.w) X.A (setItem ov iv u) (fun _ s' => ∃ H', Inv X pins σ H' s' ∧ Q H') X.xe s
abbrev TIp := V → V → Hp → VK → Prop
def PIp (X : Cx) (op : Operator) (t : TIp) : Prop :=
  ∀ (pins : List (Addr × Obj)) (s : Shared) (σ : St) (H : Hp) (x y : V) (v u : Value) (Q : VK), Inv X pins σ H s → RelV x v → RelV y u → t x y H Q →
    wpAny (model X.prog X.w) X.A (inplaceOp op v u) (EP X pins σ Q) X.xe s
section
variable {X : Cx} {pos : Pos}
def gName (i : Nat) : TG := fun v σ H Q => Q (σ.set i (some v)) H
theorem pg_name {i : Nat} {x : Str} (hN : X.N.Nodup) (hi : X.N[i]? = some x) (hx : Loc X.env.scope x) (hf : X.fn x = true ∨ X.env.scope.names.lookup x = some .local := by first | exact .inl rfl | exact .inr rfl | assumption) : PG X (.Name x pos) (gName i) := by
  intro pins s σ H v u Q I r h
  exact wpAny_assign_Name (store_ok I hN hi hx r (fun s' I' => ⟨_, H, I', h⟩) hf)
def gNil : TGs := fun vs σ H Q => vs = [] ∧ Q σ H
def gCons (t : TG) (u : TGs) : TGs := fun vs σ H Q => ∃ v r, vs = v :: r ∧ t v σ H fun σ' H' => u r σ' H' Q
theorem pgs_nil : PGs X [] gNil := by
  intro pins s σ H vs us Q I r h
  obtain ⟨e, h⟩ := h
  subst e
  cases r
  exact assignInOrder_nil ⟨σ, H, I, h⟩
theorem pgs_cons {e : Expr} {es : List Expr} {t : TG} {u : TGs} (h1 : PG X e t) (h2 : PGs X es u)
    (hs : (assignEach (e :: es) X.env).map (·.2) = assign e X.env :: (assignEach es X.env).map (·.2) := by rfl) : PGs X (e :: es) (gCons t u) := by
  intro pins s σ H vs us Q I r h
  obtain ⟨v, vr, e1, h⟩ := h
  subst e1
  cases r with
  | cons r rr =>
    rw [hs]
    refine assignInOrder_cons (thn (h1 pins s σ H _ _ _ I r h) fun _ s1 ⟨σ1, H1, I1, q1⟩ => ?_)
    exact h2 pins s1 σ1 H1 _ _ Q I1 rr q1
def gTup (K : PySem.W.Frag) (n : Nat) (t : TGs) : TG := fun v σ H Q => ∃ a xs, v = .ref a ∧ SqT K H a xs ∧ xs.length = n ∧ t xs σ H Q
theorem pg_tup {es : List Expr} {k : Nat} {t : TGs} {n : Nat} (hc : X.calm = true) (h : PGs X es t)
    (hn : (assignEach es X.env).length = n := by rfl) (hst : (assignEach es X.env).findIdx? (·.1) = none := by rfl) : PG X (.Tuple es k pos) (gTup X.K n t) := by
  intro pins s σ H v u Q I r hw
  obtain ⟨a, xs, e1, hq, hl, hw⟩ := hw
  subst e1
  cases r
  obtain ⟨its, rv, ht, hz⟩ := I.tuple hq
  refine assign_Tuple_tuple (I.ok.hd hc) ht (by simp [hn, ← hl, rv.length]) hst fun h' hx => ?_
  have I1 : Inv X pins σ H { s with heap := h' } := I.kept (t' := s.toks) fun b o e => hx b o (Nat.ne_of_lt (Heap.lt_size e)) e
  exact h pins _ σ H xs _ Q I1 (by simpa using rv) hw
def gSub (to ti : TE) (t : TSet) : TG := fun v σ H Q => to σ H fun o H1 => ti σ H1 fun i H2 => t o i v H2 fun H3 => Q σ H3
theorem pg_sub {o i : Expr} {to ti : TE} {t : TSet} (ho : PE X o to) (hi : PE X i ti) (hs : PSet X t)
    (ha : ∀ v, assign (.Subscript o i pos) X.env v = (do
      let ov ← holding [v] (eval o X.env)
      let iv ← holding [v, ov] (eval i X.env)
      standAt pos
      holding [v, ov, iv] (setItem ov iv v)
      release [v, ov, iv] []) := by intro _; rfl) : PG X (.Subscript o i pos) (gSub to ti t) := by
  intro pins s σ H v u Q I r h
  rw [ha]
  refine wpAny_bind (wpAny_holding (thn (ho pins s σ H _ I h) fun ov s1 ⟨x, H1, I1, r1, q1⟩ => ?_))
  refine wpAny_bind (wpAny_holding (thn (hi pins s1 σ H1 _ I1 q1) fun iv s2 ⟨y, H2, I2, r2, q2⟩ => ?_))
  refine wpAny_bind (wpAny_standAt (wpAny_bind (wpAny_holding (thn (hs pins s2 σ H2 x y v ov iv u _ I2 r1 r2 r q2) fun _ s3 ⟨H3, I3, q3⟩ => ?_))))
  exact wpAny_release ⟨σ, H3, I3, q3⟩
def tAsg (te : TE) (g : TG) : TS := fun D σ H => te σ H fun x H1 => g x σ H1 D.nx
theorem ps_asg {tg e : Expr} {te : TE} {g : TG} (he : PE X e te) (hg : PG X tg g) (hs : swapsWithSole [tg] e pos.line X.env = pure false := by rfl) (hw : swappedStores [tg] e X.env = pure none := by rfl)
    (h1 : (assignEach [tg] X.env).map (·.2) = [assign tg X.env] := by rfl) : PS X (.Assign [tg] e pos) (tAsg te g) := by
  intro pins s σ H D I h
  refine wpAny_Assign_stores (thn (he pins s σ H _ I h) fun v s1 ⟨x, H1, I1, r1, q1⟩ => ?_) hs hw
  rw [h1]
  exact thn (hg pins s1 σ H1 x v _ I1 r1 q1) fun _ s2 q => q
theorem ps_set {i : Nat} {x : Str} {e : Expr} {te : TE} {pos' : Pos} (hN : X.N.Nodup) (hi : X.N[i]? = some x) (hx : Loc X.env.scope x) (he : PE X e te) (hs : swapsWith e (some (.Name x pos')) pos.line X.env = pure false := by rfl) (hf : X.fn x = true ∨ X.env.scope.names.lookup x = some .local := by first | exact .inl rfl | exact .inr rfl | assumption) :
    PS X (.Assign [.Name x pos'] e pos) (tAsg te (gName i)) := by
  intro pins s σ H D I h
  refine wpAny_Assign_Name (thn (he pins s σ H _ I h) fun v s1 ⟨y, H1, I1, r1, q1⟩ => ?_) hs
  exact store_ok I1 hN hi hx r1 (fun s2 I2 => ⟨_, H1, I2, q1⟩) hf
def tAug (i : Nat) (te : TE) (ti : TIp) : TS := fun D σ H => ∃ x, σ[i]? = some (some x) ∧ te σ H fun y H1 => ti x y H1 fun z H2 => D.nx (σ.set i (some z)) H2
theorem ps_aug {i : Nat} {x : Str} {e : Expr} {te : TE} {op : Operator} {ti : TIp} {pos' : Pos} (hN : X.N.Nodup) (hi : X.N[i]? = some x) (hx : Loc X.env.scope x) (he : PE X e te) (ho : PIp X op ti) (hf : X.fn x = true ∨ X.env.scope.names.lookup x = some .local := by first | exact .inl rfl | exact .inr rfl | assumption) :
    PS X (.AugAssign (.Name x pos') op e pos) (tAug i te ti) := by
  intro pins s σ H D I h
  obtain ⟨v, e1, h⟩ := h
  obtain ⟨m, hn, hl⟩ := I.loc
  have vis : Vis X.env.scope x := by rcases hx with k | k; exact .inl k; exact .inr (.inl k)
  obtain ⟨u, r, l⟩ := hl i x v hi e1 vis
  refine wpAny_AugAssign_Name ?_
  have go : wpAny (model X.prog X.w) X.A (eval e X.env) (fun w s₂ => wpAny (model X.prog X.w) X.A (inplaceOp op u w) (fun r s₃ => wpAny (model X.prog X.w) X.A (storeName X.env x r) (fun _ => SP X pins D .next) X.xe s₃) X.xe s₂) X.xe s := by
    refine thn (he pins s σ H _ I h) fun w s1 ⟨y, H1, I1, r1, q1⟩ => ?_
    refine thn (ho pins s1 σ H1 v y u w _ I1 r r1 q1) fun z s2 ⟨zv, H2, I2, r2, q2⟩ => ?_
    exact store_ok I2 hN hi hx r2 (fun s3 I3 => ⟨_, H2, I3, q2⟩) hf
  rcases l with ⟨hk, hm⟩ | ⟨hk, c, hc, hcell⟩
  · exact wpAny_loadName_local I.ok.kind hk hn hm go
  · rcases hk with hk | hk
    · exact wpAny_loadName_cell I.ok.kind hk hc hcell go
    · rcases hx with k | k
      · have : X.env.scope.names.lookup x = some .free := hk
        rw [k] at this; cases this
      · have : X.env.scope.names.lookup x = some .free := hk
        rw [k] at this; cases this
def ipI (f : Int → Int → Int) : TIp := fun x y H Q => ∃ i j, x = .int i ∧ y = .int j ∧ Q (.int (f i j)) H
theorem ip_add : PIp X .Add (ipI fun i j => i + j) := by
  intro pins s σ H x y v u Q I r1 r2 h
  obtain ⟨i, j, e1, e2, q⟩ := h
  subst e1; subst e2
  obtain ⟨t, rfl⟩ := r1
  obtain ⟨t', rfl⟩ := r2
  exact iadd_int ⟨.int _, H, I.tok _, ⟨_, rfl⟩, q⟩
end
structure It where
  go : Nat → Hp → Prop
  yld : Nat → Hp → V → Hp → Prop
  stop : Nat → Hp → Prop
def FpOk (X : Cx) (pins : List (Addr × Obj)) (H : Hp) (b : Addr) : Prop :=
  H b = none ∧ b ≠ X.env.locals ∧ b ∉ X.fs ∧ (b ∈ X.ex ∨ X.s_0.heap.objs.size ≤ b) ∧ (∀ x c, X.env.cells.lookup x = some c → c ≠ b) ∧ ∀ p ∈ X.pn ++ pins, p.1 ≠ b
theorem Inv.fpOk {X : Cx} {pins : List (Addr × Obj)} {σ : St} {H H' : Hp} {s : Shared} {b : Addr} (I : Inv X pins σ H s) (hb : s.heap.objs.size ≤ b) (hn : H' b = none) : FpOk X pins H' b := by
  refine ⟨hn, Nat.ne_of_gt (Nat.lt_of_lt_of_le I.lt hb), I.nofs hb, .inr (Nat.le_trans I.sz hb), fun x c e z => ?_, fun p hp z => ?_⟩
  · obtain ⟨v, q⟩ := I.cell x c e
    exact absurd (Nat.lt_of_lt_of_le q.lt (by rw [z]; exact hb)) (Nat.lt_irrefl _)
  · exact absurd (Nat.lt_of_lt_of_le (Heap.lt_size (I.pin p hp).1) (by rw [z]; exact hb)) (Nat.lt_irrefl _)
structure Turn (P : Program) (w : World) (K : PySem.W.Frag) (tg : Expr) (J : It) (fp : List Addr) (it : Addr) (tn : Nat → Heap → Prop) : Prop where
  mem : it ∈ fp
  obj : ∀ i h, tn i h → ∀ b ∈ fp, ∃ o, h.get? b = some o ∧ ∀ v, o.data ≠ .cell v
  keep : ∀ i h h', tn i h → (∀ b ∈ fp, ∀ o, h.get? b = some o → h'.get? b = some o) → tn i h'
  item : ∀ (X : Cx), X.prog = P → X.w = w → X.K = K → X.calm = true → ∀ (i : Nat) (pins : List (Addr × Obj)) (s : Shared) (σ : St) (H : Hp) (E : Value → Shared → Prop), Inv X pins σ H s → (∀ b ∈ fp, FpOk X pins H b) → tn i s.heap → J.go i H →
    wpAny (model P w) X.A (pyNext (.ref it)) (fun r s1 => ∃ u, r = some u ∧
      wpAny (model P w) X.A (letOwnedTupleGo tg (.ref it) u) (fun _ s2 => ∃ x H', Inv X pins σ H' s2 ∧ RelV x u ∧ J.yld i H x H' ∧ tn (i + 1) s2.heap ∧ ∀ b ∈ fp, H' b = none) E s1) E s
  done : ∀ (X : Cx), X.prog = P → X.w = w → X.K = K → X.calm = true → ∀ (i : Nat) (pins : List (Addr × Obj)) (s : Shared) (σ : St) (H : Hp) (E : Value → Shared → Prop), Inv X pins σ H s → (∀ b ∈ fp, FpOk X pins H b) → tn i s.heap → J.stop i H →
    wpAny (model P w) X.A (pyNext (.ref it)) (fun r s1 => r = none ∧ Inv X pins σ H s1) E s
  self : ∀ (A : Around) (i : Nat) (s : Shared) (Q : Value → Shared → Prop) (E : Value → Shared → Prop), tn i s.heap → Q (.ref it) s → wpAny (model P w) A (pyIter (.ref it)) Q E s
abbrev TI := St → Hp → (It → Hp → Prop) → Prop
def PIE (X : Cx) (pins : List (Addr × Obj)) (σ : St) (tg : Expr) (R : It → Hp → Prop) (itv : Value) (s2 : Shared) : Prop :=
  ∃ (it : Addr) (fp : List Addr) (tn : Nat → Heap → Prop) (J : It) (H' : Hp), itv = .ref it ∧ Inv X pins σ H' s2 ∧ Turn X.prog X.w X.K tg J fp it tn ∧ tn 0 s2.heap ∧ (∀ b ∈ fp, FpOk X pins H' b) ∧ R J H'
def PI (X : Cx) (tg iter : Expr) (wi : TI) : Prop :=
  ∀ (pins : List (Addr × Obj)) (s : Shared) (σ : St) (H : Hp) (R : It → Hp → Prop), Inv X pins σ H s → wi σ H R →
    wpAny (model X.prog X.w) X.A (eval iter X.env) (fun v s1 => wpAny (model X.prog X.w) X.A (pyIter v) (PIE X pins σ tg R) X.xe s1) X.xe s
theorem go_of {M : Model} {A : Around} {E : Value → Shared → Prop} {s : Shared} {tg : Expr} {it : Addr} {u : Value} {o : Obj} {n : String} {vs : Array Value} {Q : Unit → Shared → Prop} (ho : s.heap.get? it = some o) (hc : o.cls = .type n) (hd : o.data = .fields vs)
    (hn : ["enumerate", "zip", "dict_itemiterator", "dict_reverseitemiterator", "odict_iterator", "itertools.zip_longest", "itertools.pairwise"].contains n = false) (hQ : Q () s) : wpAny M A (letOwnedTupleGo tg (.ref it) u) Q E s := by
  unfold letOwnedTupleGo
  cases tg <;> first
    | exact wpAny_pure hQ
    | (cases u <;> first
        | exact wpAny_pure hQ
        | (refine wpAny_bind (wpAny_load ho ?_)
           rw [hc, hd]
           show wpAny M A (if (["enumerate", "zip", "dict_itemiterator", "dict_reverseitemiterator", "odict_iterator", "itertools.zip_longest", "itertools.pairwise"].contains n && vs[0]? == some (rawInt _)) = true then _ else _) Q E s
           rw [if_neg (by intro h; rw [hn, Bool.false_and] at h; cases h)]
           exact wpAny_pure hQ))
def Itl (K : PySem.W.Frag) (a : Addr) : It :=
  ⟨fun i H => ∃ xs x, SqL K H a xs ∧ xs[i]? = some x, fun i H x H' => H' = H ∧ ∀ xs, SqL K H a xs → xs[i]? = some x, fun i H => ∃ xs, SqL K H a xs ∧ xs.length ≤ i⟩
def Itt (K : PySem.W.Frag) (a : Addr) : It :=
  ⟨fun i H => ∃ xs x, SqT K H a xs ∧ xs[i]? = some x, fun i H x H' => H' = H ∧ ∀ xs, SqT K H a xs → xs[i]? = some x, fun i H => ∃ xs, SqT K H a xs ∧ xs.length ≤ i⟩
def Itr (lo : Int) (n : Nat) : It := ⟨fun i _ => i < n, fun i H x H' => H' = H ∧ x = .int (lo + i), fun i _ => n ≤ i⟩
theorem turn_list {P : Program} {w : World} {K : PySem.W.Frag} {tg : Expr} (a it : Addr) : Turn P w K tg (Itl K a) [it] it (fun i h => h.IsListIter it a i) where
  mem := by simp
  obj := fun i h st b hb => by
    have e : b = it := by simpa using hb
    subst e
    obtain ⟨o, e, c, d⟩ := st
    exact ⟨o, e, fun v z => by rw [d] at z; cases z⟩
  keep := fun i h h' st k => st.at fun o e => k it (by simp) o e
  item := by
    intro X hP hw hK hc i pins s σ H E I hf st hg
    subst hP hw hK
    obtain ⟨xs, x, hq, hx⟩ := hg
    obtain ⟨its, rv, p, hz⟩ := I.list hq
    obtain ⟨u, hu, ru⟩ := rv.get hx
    obtain ⟨f0, f1, f2, f3, f4, f5⟩ := hf it (by simp)
    refine wpAny_pyNext_list_item st p.isList (x := u) (by simpa using hu) fun h' st' sb => ?_
    have I1 : Inv X pins σ H { s with heap := h' } := I.turned (t' := s.toks) (fun b o hb e => (sb.2 b hb).trans e) f0 f1 f3 f4 f5
    obtain ⟨o, e, c, d⟩ := id st'
    exact ⟨u, rfl, go_of (s := { s with heap := h' }) e c d (by decide) ⟨x, H, I1, ru, ⟨rfl, fun ys hy => by rw [I.list_inj hy hq]; exact hx⟩, st', fun b hb => (hf b hb).1⟩⟩
  done := by
    intro X hP hw hK hc i pins s σ H E I hf st hg
    subst hP hw hK
    obtain ⟨xs, hq, hx⟩ := hg
    obtain ⟨its, rv, p, hz⟩ := I.list hq
    obtain ⟨f0, f1, f2, f3, f4, f5⟩ := hf it (by simp)
    have hl := rv.length
    exact wpAny_pyNext_list_end (I.ok.hd hc) st p.isList (by simp; omega) fun h' eb => ⟨rfl, I.turned (t' := s.toks) (fun b o hb e => eb b o hb e) f0 f1 f3 f4 f5⟩
  self := fun _ _ _ _ _ st h => wpAny_pyIter_listiter st h
theorem turn_tuple {P : Program} {w : World} {K : PySem.W.Frag} {tg : Expr} (a it : Addr) : Turn P w K tg (Itt K a) [it] it (fun i h => h.IsTupleIter it a i) where
  mem := by simp
  obj := fun i h st b hb => by
    have e : b = it := by simpa using hb
    subst e
    obtain ⟨o, e, c, d⟩ := st
    exact ⟨o, e, fun v z => by rw [d] at z; cases z⟩
  keep := fun i h h' st k => st.at fun o e => k it (by simp) o e
  item := by
    intro X hP hw hK hc i pins s σ H E I hf st hg
    subst hP hw hK
    obtain ⟨xs, x, hq, hx⟩ := hg
    obtain ⟨its, rv, p, hz⟩ := I.tuple hq
    obtain ⟨u, hu, ru⟩ := rv.get hx
    obtain ⟨f0, f1, f2, f3, f4, f5⟩ := hf it (by simp)
    refine wpAny_pyNext_tuple_item st (show s.heap.IsTuple a its.toArray from p) (x := u) (by simpa using hu) fun h' st' sb => ?_
    have I1 : Inv X pins σ H { s with heap := h' } := I.turned (t' := s.toks) (fun b o hb e => (sb.2 b hb).trans e) f0 f1 f3 f4 f5
    obtain ⟨o, e, c, d⟩ := id st'
    exact ⟨u, rfl, go_of (s := { s with heap := h' }) e c d (by decide) ⟨x, H, I1, ru, ⟨rfl, fun ys hy => by rw [I.tuple_inj hy hq]; exact hx⟩, st', fun b hb => (hf b hb).1⟩⟩
  done := by
    intro X hP hw hK hc i pins s σ H E I hf st hg
    subst hP hw hK
    obtain ⟨xs, hq, hx⟩ := hg
    obtain ⟨its, rv, p, hz⟩ := I.tuple hq
    obtain ⟨f0, f1, f2, f3, f4, f5⟩ := hf it (by simp)
    have hl := rv.length
    exact wpAny_pyNext_tuple_end (I.ok.hd hc) st (show s.heap.IsTuple a its.toArray from p) (by simp; omega) fun h' eb => ⟨rfl, I.turned (t' := s.toks) (fun b o hb e => eb b o hb e) f0 f1 f3 f4 f5⟩
  self := fun _ _ _ _ _ st h => wpAny_pyIter_tupleiter st h
theorem turn_range {P : Program} {w : World} {K : PySem.W.Frag} {tg : Expr} (it : Addr) (lo : Int) (n : Nat) : Turn P w K tg (Itr lo n) [it] it (fun i h => IsRangeIter h it (lo + (i : Nat) * 1) ((n : Int) - (i : Nat)) 1) where
  mem := by simp
  obj := fun i h st b hb => by
    have e : b = it := by simpa using hb
    subst e
    exact ⟨_, st, fun v z => by
      have z' : Data.fields _ = Data.cell v := z
      cases z'⟩
  keep := fun i h h' st k => k it (by simp) _ st
  item := by
    intro X hP hw hK hc i pins s σ H E I hf st hg
    subst hP hw hK
    obtain ⟨f0, f1, f2, f3, f4, f5⟩ := hf it (by simp)
    have W := Walks.range (prog := X.prog) (w := X.w) (I.ok.hd hc) it lo 1 n
    refine W.item i s _ _ hg st fun v h' tk hv st' kk => ?_
    obtain ⟨t, rfl⟩ := hv
    have I1 : Inv X pins σ H { s with heap := h', toks := tk } := I.turned (fun b o hb e => kk b o (by simpa using hb) e) f0 f1 f3 f4 f5
    refine ⟨_, rfl, go_of (s := { s with heap := h', toks := tk }) (n := "range_iterator") st' rfl rfl (by decide) ⟨.int (lo + i), H, I1, ⟨t, ?_⟩, ⟨rfl, rfl⟩, st', fun b hb => (hf b hb).1⟩⟩
    rw [Int.mul_one]
  done := by
    intro X hP hw hK hc i pins s σ H E I hf st hg
    subst hP hw hK
    obtain ⟨f0, f1, f2, f3, f4, f5⟩ := hf it (by simp)
    exact wpAny_pyNext_range_end (I.ok.hd hc) st (by have : n ≤ i := hg; omega) fun h' eb => ⟨rfl, I.turned (t' := s.toks) (fun b o hb e => eb b o hb e) f0 f1 f3 f4 f5⟩
  self := fun _ _ _ _ _ st h => wpAny_pyIter_rangeiter st h
end L2
namespace L2
open PySem PySem.Spec PyProof.Rows
section
variable {X : Cx} {tg : Expr}
def iList (K : PySem.W.Frag) (tl : TE) : TI := fun σ H R => tl σ H fun x H1 => ∃ a, x = .ref a ∧ (∃ xs, SqL K H1 a xs) ∧ R (Itl K a) H1
def iTup (K : PySem.W.Frag) (tl : TE) : TI := fun σ H R => tl σ H fun x H1 => ∃ a, x = .ref a ∧ (∃ xs, SqT K H1 a xs) ∧ R (Itt K a) H1
theorem pi_list {l : Expr} {tl : TE} (hl : PE X l tl) : PI X tg l (iList X.K tl) := by
  intro pins s σ H R I h
  refine thn (hl pins s σ H _ I h) fun v s1 ⟨x, H1, I1, r1, q1⟩ => ?_
  obtain ⟨a, e, ⟨xs, hq⟩, q⟩ := q1
  subst e
  cases r1
  obtain ⟨its, rv, p, hz⟩ := I1.list hq
  refine wpAny_pyIter_list p.isList ?_
  refine ⟨s1.heap.objs.size, [s1.heap.objs.size], _, _, H1, rfl, I1.kept (t' := s1.toks) fun b o e => Heap.get?_push_of_some _ e, turn_list a _, ⟨_, Heap.get?_push_size _ rfl, rfl, rfl⟩, fun b hb => ?_, q⟩
  have e : b = s1.heap.objs.size := by simpa using hb
  subst e
  exact I1.fpOk (Nat.le_refl _) (I1.hok.fresh (Nat.le_refl _))
theorem pi_tup {l : Expr} {tl : TE} (hl : PE X l tl) : PI X tg l (iTup X.K tl) := by
  intro pins s σ H R I h
  refine thn (hl pins s σ H _ I h) fun v s1 ⟨x, H1, I1, r1, q1⟩ => ?_
  obtain ⟨a, e, ⟨xs, hq⟩, q⟩ := q1
  subst e
  cases r1
  obtain ⟨its, rv, p, hz⟩ := I1.tuple hq
  refine wpAny_pyIter_tuple (show s1.heap.IsTuple a its.toArray from p) ?_
  refine ⟨s1.heap.objs.size, [s1.heap.objs.size], _, _, H1, rfl, I1.kept (t' := s1.toks) fun b o e => Heap.get?_push_of_some _ e, turn_tuple a _, ⟨_, Heap.get?_push_size _ rfl, rfl, rfl⟩, fun b hb => ?_, q⟩
  have e : b = s1.heap.objs.size := by simpa using hb
  subst e
  exact I1.fpOk (Nat.le_refl _) (I1.hok.fresh (Nat.le_refl _))
theorem range_it {pins : List (Addr × Obj)} {σ : St} {H : Hp} {s : Shared} {R : It → Hp → Prop} {E : Value → Shared → Prop} {lo hi : Int} {t u v : Tok} {tk : Nat} (I : Inv X pins σ H s) (h1 : -(2 ^ 62) ≤ lo) (h2 : lo < 2 ^ 62) (h3 : -(2 ^ 62) ≤ hi) (h4 : hi < 2 ^ 62)
    (q : R (Itr lo (hi - lo).toNat) H) : wpAny (model X.prog X.w) X.A (pyIter (.ref s.heap.objs.size)) (PIE X pins σ tg R) E { s with heap := s.heap.push { cls := .type "range", data := .fields #[.int lo t, .int hi u, .int 1 v] }, toks := tk } := by
  refine wpAny_pyIter_range (IsRange.new ..) (small_one h1 h2 h3 h4) ?_
  have I1 : Inv X pins σ H { s with heap := s.heap.push { cls := .type "range", data := .fields #[.int lo t, .int hi u, .int 1 v] }, toks := tk } := I.kept fun b o e => Heap.get?_push_of_some _ e
  refine ⟨(s.heap.push { cls := .type "range", data := .fields #[.int lo t, .int hi u, .int 1 v] }).objs.size, [(s.heap.push { cls := .type "range", data := .fields #[.int lo t, .int hi u, .int 1 v] }).objs.size], _, _, H, rfl,
    I1.kept (t' := tk) fun b o e => Heap.get?_push_of_some _ e, turn_range _ lo (hi - lo).toNat, ?_, fun b hb => ?_, q⟩
  · have e1 : lo + ((0 : Nat) : Int) * 1 = lo := by simp
    have e2 : (((hi - lo).toNat : Nat) : Int) - ((0 : Nat) : Int) = Builtin.Range.rangeSize lo hi 1 := by rw [rangeSize_one]; split <;> omega
    show IsRangeIter _ _ (lo + ((0 : Nat) : Int) * 1) ((((hi - lo).toNat : Nat) : Int) - ((0 : Nat) : Int)) 1
    rw [e1, e2]
    exact Heap.get?_push_size _ rfl
  · have e : b = (s.heap.push { cls := .type "range", data := .fields #[.int lo t, .int hi u, .int 1 v] }).objs.size := by simpa using hb
    subst e
    exact I1.fpOk (Nat.le_refl _) (I1.hok.fresh (Nat.le_refl _))
def iRng1 (ta : TA) : TI := fun σ H R => ta σ H fun vs H1 => ∃ j : Int, vs = [.int j] ∧ -(2 ^ 62) ≤ j ∧ j < 2 ^ 62 ∧ R (Itr 0 j.toNat) H1
def iRng2 (ta : TA) : TI := fun σ H R => ta σ H fun vs H1 => ∃ i j : Int, vs = [.int i, .int j] ∧ (-(2 ^ 62) ≤ i ∧ i < 2 ^ 62 ∧ -(2 ^ 62) ≤ j ∧ j < 2 ^ 62) ∧ R (Itr i (j - i).toNat) H1
theorem pi_range1 {a : Expr} {ta : TA} {p pos : Pos} (hg : Gl X "range") (hm : X.mg "range" = none) (ha : PA X [a] ta) (hs : starEach [a] X.env = [(false, eval a X.env)] := by rfl) : PI X tg (.Call (.Name "range" p) [a] [] pos) (iRng1 ta) := by
  intro pins s σ H R I h
  refine Call_ (ld_blt I hg hm boot_range (PyProof.Rows.callWith_type1 (thn (ha pos pins s σ H _ I h) fun us s1 ⟨vs, H1, I1, r1, q1⟩ => ?_) hs rfl))
  obtain ⟨j, e, q1, q2, q⟩ := q1
  subst e
  cases r1 with
  | cons r rr =>
    cases rr
    obtain ⟨t, rfl⟩ := r
    exact call_range_1 (range_it I1 (by omega) (by omega) q1 q2 (by simpa using q))
theorem pi_range2 {a b : Expr} {ta : TA} {p pos : Pos} (hg : Gl X "range") (hm : X.mg "range" = none) (ha : PA X [a, b] ta) (hs : starEach [a, b] X.env = [(false, eval a X.env), (false, eval b X.env)] := by rfl) (hs2 : starEach [b] X.env = [(false, eval b X.env)] := by rfl) :
    PI X tg (.Call (.Name "range" p) [a, b] [] pos) (iRng2 ta) := by
  intro pins s σ H R I h
  refine Call_ (ld_blt I hg hm boot_range (PyProof.Rows.callWith_type1 (thn (ha pos pins s σ H _ I h) fun us s1 ⟨vs, H1, I1, r1, q1⟩ => ?_) (by rw [hs, hs2]) (by rw [hs2]; rfl)))
  obtain ⟨i, j, e, ⟨q1, q2, q3, q4⟩, q⟩ := q1
  subst e
  cases r1 with
  | cons r rr =>
    cases rr with
    | cons r' rr =>
      cases rr
      obtain ⟨t, rfl⟩ := r
      obtain ⟨t', rfl⟩ := r'
      exact call_range_2 (range_it I1 q1 q2 q3 q4 q)
def tFor (wi : TI) (g : TG) (tb : TS) : TS := fun D σ H => wi σ H fun J H1 => ∃ W : Nat → Nat → St → Hp → Prop, (∃ m, W 0 m σ H1) ∧ ∀ i m σ H, W i m σ H →
  (J.stop i H ∧ D.nx σ H) ∨ (J.go i H ∧ ∃ N : St → Hp → Prop, (∀ σ' H', N σ' H' → ∃ m', m' < m ∧ W (i + 1) m' σ' H') ∧ ∀ x H', J.yld i H x H' → g x σ H' fun σ2 H2 => tb { D with nx := N, ct := N, bk := D.nx } σ2 H2)
def pinsAt (fp : List Addr) (h : Heap) : List (Addr × Obj) := fp.filterMap fun b => (h.get? b).map fun o => (b, o)
theorem mem_pinsAt {fp : List Addr} {h : Heap} {b : Addr} {o : Obj} (hb : b ∈ fp) (e : h.get? b = some o) : (b, o) ∈ pinsAt fp h := List.mem_filterMap.mpr ⟨b, hb, by rw [e]; rfl⟩
theorem of_pinsAt {fp : List Addr} {h : Heap} {p : Addr × Obj} (hp : p ∈ pinsAt fp h) : p.1 ∈ fp ∧ h.get? p.1 = some p.2 := by
  obtain ⟨b, hb, e⟩ := List.mem_filterMap.mp hp
  cases q : h.get? b with
  | none => rw [q] at e; cases e
  | some o =>
    rw [q] at e
    have e' : (b, o) = p := Option.some.inj e
    subst e'
    exact ⟨hb, q⟩
theorem Inv.pinned {pins : List (Addr × Obj)} {σ : St} {H : Hp} {s : Shared} {fp : List Addr} (I : Inv X pins σ H s) (hf : ∀ b ∈ fp, FpOk X pins H b) (ho : ∀ b ∈ fp, ∃ o, s.heap.get? b = some o ∧ ∀ v, o.data ≠ .cell v) : Inv X (pins ++ pinsAt fp s.heap) σ H s :=
  I.pins_of fun p hp => (List.mem_append.mp hp).elim (fun z => I.pin p (List.mem_append_right _ z)) fun z => by
    obtain ⟨hb, e⟩ := of_pinsAt z
    obtain ⟨f0, f1, f2, _⟩ := hf p.1 hb
    obtain ⟨o, e', d⟩ := ho p.1 hb
    rw [e] at e'; cases e'
    exact ⟨e, f0, f1, f2, d⟩
theorem Inv.unpinned {pins pl : List (Addr × Obj)} {σ : St} {H : Hp} {s : Shared} (I : Inv X (pins ++ pl) σ H s) : Inv X pins σ H s := I.pins_of fun p hp => I.pin p (List.mem_append_right _ (List.mem_append_left _ hp))
theorem ps_for {iter : Expr} {body : List Stmt} {wi : TI} {g : TG} {tb : TS} {pos : Pos} (hp : PassesOwn (model X.prog X.w) X.A X.env X.xe) (hc : X.calm = true) (hi : PI X tg iter wi) (hg : PG X tg g) (hb : PSs X body tb)
    (hs : ∀ x, foldedSetIterable iter X.env x = pure x := by intro _; rfl) : PS X (.For tg iter body [] pos) (tFor wi g tb) := by
  intro pins s σ H D I h
  refine wpAny_For (thn (hi pins s σ H _ I h) fun v s1 h1 => thn h1 fun itv s2 h2 => ?_) hs
  obtain ⟨it, fp, tn, J, H2, e, I2, T, st2, f2, W, ⟨m0, w0⟩, turn⟩ := h2
  subst e
  have stat : ∀ {H' : Hp}, (∀ b ∈ fp, H' b = none) → ∀ b ∈ fp, FpOk X pins H' b := fun hn b hb => ⟨hn b hb, (f2 b hb).2⟩
  refine codeAny_forLoop_any (fun n s' => ∃ i σ' H', Inv X pins σ' H' s' ∧ tn i s'.heap ∧ (∀ b ∈ fp, H' b = none) ∧ W i n σ' H') ?_ m0 ⟨0, σ, H2, I2, st2, fun b hb => (f2 b hb).1, w0⟩
  rintro n s3 ⟨i, σ3, H3, I3, st3, fr3, w3⟩
  rcases turn i n σ3 H3 w3 with ⟨stop, qn⟩ | ⟨go, N, hN, step⟩
  · refine wpAny_passesOwn hp (thn (T.done X rfl rfl rfl hc i pins s3 σ3 H3 X.xe I3 (stat fr3) st3 stop) fun r s4 ⟨hr, I4⟩ => ?_)
    subst hr
    exact wpAny_execs_nil ⟨σ3, H3, I4, qn⟩
  · refine wpAny_passesOwn hp (thn (T.item X rfl rfl rfl hc i pins s3 σ3 H3 X.xe I3 (stat fr3) st3 go) fun r s4 ⟨u, hr, h4⟩ => ?_)
    subst hr
    refine wpAny_passesOwn hp (thn h4 fun _ s5 ⟨x, H5, I5, r5, y5, st5, fr5⟩ => ?_)
    have I5' := I5.pinned (stat fr5) (T.obj _ _ st5)
    refine wpAny_passesOwn hp (thn (hg _ s5 σ3 H5 x u _ I5' r5 (step x H5 y5)) fun _ s6 ⟨σ6, H6, I6, q6⟩ => ?_)
    refine wpAny_passesOwn hp (thn (hb _ s6 σ6 H6 _ I6 q6) fun f s7 q7 => ?_)
    have again : ∀ {σ7 : St} {H7 : Hp}, Inv X (pins ++ pinsAt fp s5.heap) σ7 H7 s7 → N σ7 H7 → ∃ m, m < n ∧ ∃ i σ' H', Inv X pins σ' H' s7 ∧ tn i s7.heap ∧ (∀ b ∈ fp, H' b = none) ∧ W i m σ' H' := fun {σ7 H7} I7 n7 => by
      obtain ⟨m', hm, w7⟩ := hN σ7 H7 n7
      refine ⟨m', hm, i + 1, σ7, H7, I7.unpinned, T.keep _ _ _ st5 fun b hb o e => (I7.pin (b, o) (List.mem_append_right _ (List.mem_append_right _ (mem_pinsAt hb e)))).1, fun b hb => ?_, w7⟩
      obtain ⟨o, e, d⟩ := T.obj _ _ st5 b hb
      exact (I7.pin (b, o) (List.mem_append_right _ (List.mem_append_right _ (mem_pinsAt hb e)))).2.1
    cases f with
    | next => obtain ⟨σ7, H7, I7, n7⟩ := q7; exact again I7 n7
    | cont => obtain ⟨σ7, H7, I7, n7⟩ := q7; exact again I7 n7
    | brk => obtain ⟨σ7, H7, I7, q7⟩ := q7; exact ⟨σ7, H7, I7.unpinned, q7⟩
    | ret v => obtain ⟨x7, σ7, H7, I7, r7, q7⟩ := q7; exact ⟨x7, σ7, H7, I7.unpinned, r7, q7⟩
end
theorem for_list {K : PySem.W.Frag} {a : Addr} {xs : List V} {g : TG} {tb : TS} {D : Ends} {σ : St} {H : Hp} (Pv : Nat → St → Hp → Prop) (h0 : Pv 0 σ H) (hl : ∀ i σ H, i ≤ xs.length → Pv i σ H → SqL K H a xs)
    (hs : ∀ i x σ H, xs[i]? = some x → Pv i σ H → g x σ H fun σ2 H2 => tb { D with nx := Pv (i + 1), ct := Pv (i + 1), bk := D.nx } σ2 H2) (hd : ∀ σ H, Pv xs.length σ H → D.nx σ H) :
    ∃ W : Nat → Nat → St → Hp → Prop, (∃ m, W 0 m σ H) ∧ ∀ i m σ H, W i m σ H →
      ((Itl K a).stop i H ∧ D.nx σ H) ∨ ((Itl K a).go i H ∧ ∃ N : St → Hp → Prop, (∀ σ' H', N σ' H' → ∃ m', m' < m ∧ W (i + 1) m' σ' H') ∧ ∀ x H', (Itl K a).yld i H x H' → g x σ H' fun σ2 H2 => tb { D with nx := N, ct := N, bk := D.nx } σ2 H2) := by
  refine ⟨fun i m σ H => m = xs.length - i ∧ i ≤ xs.length ∧ Pv i σ H, ⟨xs.length, by simp, Nat.zero_le _, h0⟩, ?_⟩
  rintro i m σ H ⟨rfl, hi, p⟩
  have q := hl i σ H hi p
  by_cases hlt : i < xs.length
  · refine .inr ⟨⟨xs, xs[i], q, by simp [hlt]⟩, Pv (i + 1), fun σ' H' p' => ⟨xs.length - (i + 1), by omega, rfl, hlt, p'⟩, fun x H' y => ?_⟩
    obtain ⟨e, y⟩ := y
    subst e
    exact hs i x σ _ (y xs q) p
  · have e : i = xs.length := by omega
    subst e
    exact .inl ⟨⟨xs, q, Nat.le_refl _⟩, hd σ H p⟩
theorem for_tup {K : PySem.W.Frag} {a : Addr} {xs : List V} {g : TG} {tb : TS} {D : Ends} {σ : St} {H : Hp} (Pv : Nat → St → Hp → Prop) (h0 : Pv 0 σ H) (hl : ∀ i σ H, i ≤ xs.length → Pv i σ H → SqT K H a xs)
    (hs : ∀ i x σ H, xs[i]? = some x → Pv i σ H → g x σ H fun σ2 H2 => tb { D with nx := Pv (i + 1), ct := Pv (i + 1), bk := D.nx } σ2 H2) (hd : ∀ σ H, Pv xs.length σ H → D.nx σ H) :
    ∃ W : Nat → Nat → St → Hp → Prop, (∃ m, W 0 m σ H) ∧ ∀ i m σ H, W i m σ H →
      ((Itt K a).stop i H ∧ D.nx σ H) ∨ ((Itt K a).go i H ∧ ∃ N : St → Hp → Prop, (∀ σ' H', N σ' H' → ∃ m', m' < m ∧ W (i + 1) m' σ' H') ∧ ∀ x H', (Itt K a).yld i H x H' → g x σ H' fun σ2 H2 => tb { D with nx := N, ct := N, bk := D.nx } σ2 H2) := by
  refine ⟨fun i m σ H => m = xs.length - i ∧ i ≤ xs.length ∧ Pv i σ H, ⟨xs.length, by simp, Nat.zero_le _, h0⟩, ?_⟩
  rintro i m σ H ⟨rfl, hi, p⟩
  have q := hl i σ H hi p
  by_cases hlt : i < xs.length
  · refine .inr ⟨⟨xs, xs[i], q, by simp [hlt]⟩, Pv (i + 1), fun σ' H' p' => ⟨xs.length - (i + 1), by omega, rfl, hlt, p'⟩, fun x H' y => ?_⟩
    obtain ⟨e, y⟩ := y
    subst e
    exact hs i x σ _ (y xs q) p
  · have e : i = xs.length := by omega
    subst e
    exact .inl ⟨⟨xs, q, Nat.le_refl _⟩, hd σ H p⟩
theorem for_range {lo : Int} {n : Nat} {g : TG} {tb : TS} {D : Ends} {σ : St} {H : Hp} (Pv : Nat → St → Hp → Prop) (h0 : Pv 0 σ H)
    (hs : ∀ i σ H, i < n → Pv i σ H → g (.int (lo + i)) σ H fun σ2 H2 => tb { D with nx := Pv (i + 1), ct := Pv (i + 1), bk := D.nx } σ2 H2) (hd : ∀ σ H, Pv n σ H → D.nx σ H) :
    ∃ W : Nat → Nat → St → Hp → Prop, (∃ m, W 0 m σ H) ∧ ∀ i m σ H, W i m σ H →
      ((Itr lo n).stop i H ∧ D.nx σ H) ∨ ((Itr lo n).go i H ∧ ∃ N : St → Hp → Prop, (∀ σ' H', N σ' H' → ∃ m', m' < m ∧ W (i + 1) m' σ' H') ∧ ∀ x H', (Itr lo n).yld i H x H' → g x σ H' fun σ2 H2 => tb { D with nx := N, ct := N, bk := D.nx } σ2 H2) := by
  refine ⟨fun i m σ H => m = n - i ∧ i ≤ n ∧ Pv i σ H, ⟨n, by simp, Nat.zero_le _, h0⟩, ?_⟩
  rintro i m σ H ⟨rfl, hi, p⟩
  by_cases hlt : i < n
  · refine .inr ⟨hlt, Pv (i + 1), fun σ' H' p' => ⟨n - (i + 1), by omega, rfl, hlt, p'⟩, fun x H' y => ?_⟩
    obtain ⟨e, y⟩ := y
    subst e y
    exact hs i σ _ hlt p
  · have e : i = n := by omega
    subst e
    exact .inl ⟨Nat.le_refl _, hd σ H p⟩
end L2
namespace L2
open PySem PySem.Spec PyProof.Rows
abbrev R2 := V → V → Hp → VK → Prop
def OpR (X : Cx) (f : Value → Value → Sem Value) (r : R2) : Prop :=
  ∀ (pins : List (Addr × Obj)) (s : Shared) (σ : St) (H : Hp) (x y : V) (v u : Value) (Q : VK), Inv X pins σ H s → RelV x v → RelV y u → r x y H Q →
    wpAny (model X.prog X.w) X.A (f v u) (EP X pins σ Q) X.xe s
def UnR (X : Cx) (f : Value → Sem Value) (r : V → Hp → VK → Prop) : Prop :=
  ∀ (pins : List (Addr × Obj)) (s : Shared) (σ : St) (H : Hp) (x : V) (v : Value) (Q : VK), Inv X pins σ H s → RelV x v → r x H Q →
    wpAny (model X.prog X.w) X.A (f v) (EP X pins σ Q) X.xe s
def CallR (X : Cx) (f : Value) (r : List V → Hp → VK → Prop) : Prop :=
  ∀ (pins : List (Addr × Obj)) (s : Shared) (σ : St) (H : Hp) (xs : List V) (us : List Value) (Q : VK), Inv X pins σ H s → Vals xs us → r xs H Q →
    wpAny (model X.prog X.w) X.A (call f us) (EP X pins σ Q) X.xe s
def TruR (X : Cx) (r : V → Hp → (Bool → Hp → Prop) → Prop) : Prop :=
  ∀ (pins : List (Addr × Obj)) (s : Shared) (σ : St) (H : Hp) (x : V) (v : Value) (Q : Bool → Hp → Prop), Inv X pins σ H s → RelV x v → r x H Q →
    wpAny (model X.prog X.w) X.A (truthy v) (TP X pins σ Q) X.xe s
def tOp (r : R2) (ta tb : TE) : TE := fun σ H Q => ta σ H fun x H1 => tb σ H1 fun y H2 => r x y H2 Q
def tUn (r : V → Hp → VK → Prop) (ta : TE) : TE := fun σ H Q => ta σ H fun x H1 => r x H1 Q
def rI (C : Int → Int → Prop) (g : Int → Int → V) : R2 := fun x y H Q => ∃ i j, x = .int i ∧ y = .int j ∧ C i j ∧ Q (g i j) H
def rI0 (g : Int → Int → V) : R2 := fun x y H Q => ∃ i j, x = .int i ∧ y = .int j ∧ Q (g i j) H
def rU (g : Int → V) : V → Hp → VK → Prop := fun x H Q => ∃ i, x = .int i ∧ Q (g i) H
section
variable {X : Cx} {a b c : Expr} {ta tb tc : TE} {pos : Pos}
theorem binT (ha : PE X a ta) (hb : PE X b tb) {pins : List (Addr × Obj)} {s : Shared} {σ : St} {H : Hp} {R : V → V → Hp → Prop} (I : Inv X pins σ H s)
    (h : ta σ H fun x H1 => tb σ H1 fun y H2 => R x y H2) {Q : Value → Shared → Prop} {f : Value → Value → Sem Value}
    (hf : ∀ v u s2 x y H2, Inv X pins σ H2 s2 → RelV x v → RelV y u → R x y H2 → wpAny (model X.prog X.w) X.A (f v u) Q X.xe s2) :
    wpAny (model X.prog X.w) X.A (eval a X.env) (fun v s₁ => wpAny (model X.prog X.w) X.A (eval b X.env) (fun u s₂ => wpAny (model X.prog X.w) X.A (f v u) Q X.xe s₂) X.xe s₁) X.xe s := by
  refine thn (ha pins s σ H _ I h) fun v s1 ⟨x, H1, I1, r1, q1⟩ => ?_
  refine thn (hb pins s1 σ H1 _ I1 q1) fun u s2 ⟨y, H2, I2, r2, q2⟩ => ?_
  exact hf v u s2 x y H2 I2 r1 r2 q2
theorem pe_op {op : Operator} {r : R2} (ho : OpR X (binaryOp op) r) (ha : PE X a ta) (hb : PE X b tb) : PE X (.BinOp a op b pos) (tOp r ta tb) := by
  intro pins s σ H Q I h
  exact wpAny_BinOp (binT ha hb I h fun v u s2 x y H2 I2 rx ry q => ho pins s2 σ H2 x y v u Q I2 rx ry q)
theorem pe_un {op : UnaryOp} {r : V → Hp → VK → Prop} (ho : UnR X (unaryOp op) r) (ha : PE X a ta) : PE X (.UnaryOp op a pos) (tUn r ta) := by
  intro pins s σ H Q I h
  exact UnaryOp_ (thn (ha pins s σ H _ I h) fun v s1 ⟨x, H1, I1, r1, q1⟩ => ho pins s1 σ H1 x v Q I1 r1 q1)
theorem opI {f : Value → Value → Sem Value} {C : Int → Int → Prop} {g : Int → Int → Int}
    (rule : ∀ (i j : Int) (t u : Tok) (s : Shared) (Q : Value → Shared → Prop) (E : Value → Shared → Prop), C i j → Q (.int (g i j) s.toks) { s with toks := s.toks + 1 } → wpAny (model X.prog X.w) X.A (f (.int i t) (.int j u)) Q E s) :
    OpR X f (rI C fun i j => .int (g i j)) := by
  intro pins s σ H x y v u Q I rx ry h
  obtain ⟨i, j, rfl, rfl, hc, q⟩ := h
  obtain ⟨t, rfl⟩ := rx
  obtain ⟨t', rfl⟩ := ry
  exact rule i j t t' s _ _ hc ⟨.int (g i j), H, I.tok _, ⟨_, rfl⟩, q⟩
theorem opI0 {f : Value → Value → Sem Value} {g : Int → Int → Int}
    (rule : ∀ (i j : Int) (t u : Tok) (s : Shared) (Q : Value → Shared → Prop) (E : Value → Shared → Prop), Q (.int (g i j) s.toks) { s with toks := s.toks + 1 } → wpAny (model X.prog X.w) X.A (f (.int i t) (.int j u)) Q E s) :
    OpR X f (rI0 fun i j => .int (g i j)) := by
  intro pins s σ H x y v u Q I rx ry h
  obtain ⟨i, j, rfl, rfl, q⟩ := h
  obtain ⟨t, rfl⟩ := rx
  obtain ⟨t', rfl⟩ := ry
  exact rule i j t t' s _ _ ⟨.int (g i j), H, I.tok _, ⟨_, rfl⟩, q⟩
theorem opB0 {f : Value → Value → Sem Value} {g : Int → Int → Bool}
    (rule : ∀ (i j : Int) (t u : Tok) (s : Shared) (Q : Value → Shared → Prop) (E : Value → Shared → Prop), Q (.bool (g i j)) s → wpAny (model X.prog X.w) X.A (f (.int i t) (.int j u)) Q E s) :
    OpR X f (rI0 fun i j => .bl (g i j)) := by
  intro pins s σ H x y v u Q I rx ry h
  obtain ⟨i, j, rfl, rfl, q⟩ := h
  obtain ⟨t, rfl⟩ := rx
  obtain ⟨t', rfl⟩ := ry
  exact rule i j t t' s _ _ ⟨.bl (g i j), H, I, rfl, q⟩
def CDiv (i j : Int) : Prop := 0 < j ∧ j < 1073741824
def CPow (i j : Int) : Prop := 0 ≤ j ∧ j ≤ 1000000 ∧ i.natAbs < 2 ^ 64
def CMul (i j : Int) : Prop := (-(2 ^ 64) < i ∧ i < 2 ^ 64) ∨ (-(2 ^ 64) < j ∧ j < 2 ^ 64)
theorem CMul.ok {i j : Int} (h : CMul i j) : IntMulOk i j := by
  rcases h with ⟨h1, h2⟩ | ⟨h1, h2⟩
  · exact .of_left (intBits_le_64 h1 h2)
  · exact .of_right (intBits_le_64 h1 h2)
theorem op_add : OpR X (binaryOp .Add) (rI0 fun i j => .int (i + j)) := opI0 fun _ _ _ _ _ _ _ q => add_int q
theorem op_sub : OpR X (binaryOp .Sub) (rI0 fun i j => .int (i - j)) := opI0 fun _ _ _ _ _ _ _ q => sub_int q
theorem op_mul : OpR X (binaryOp .Mult) (rI CMul fun i j => .int (i * j)) := opI fun _ _ _ _ _ _ _ hc q => mul_int q hc.ok
theorem op_fdiv : OpR X (binaryOp .FloorDiv) (rI CDiv fun i j => .int (i / j)) := opI fun i j _ _ _ _ _ hc q => by
  have h1 : (0 : Int) < j := hc.1
  have h2 : j < 1073741824 := hc.2
  exact floordiv_int (by omega) (by rw [Int.fdiv_eq_ediv_of_nonneg i (by omega)]; exact q) (.inl (PyProof.noPylong_small (by omega)))
theorem op_mod : OpR X (binaryOp .Mod) (rI (fun _ j => 0 < j) fun i j => .int (i % j)) := opI fun i j _ _ _ _ _ hc q => by
  have h1 : (0 : Int) < j := hc
  exact mod_int' (by omega) (by rw [Int.fmod_eq_emod_of_nonneg i (by omega)]; exact q)
theorem op_pow : OpR X (binaryOp .Pow) (rI CPow fun i j => .int (i ^ j.toNat)) := opI fun _ _ _ _ _ _ _ hc q => pow_int_small hc.1 hc.2.1 hc.2.2 q
theorem op_and : OpR X (binaryOp .BitAnd) (rI0 fun i j => .int (Builtin.bitAnd i j)) := opI0 fun _ _ _ _ _ _ _ q => and_int q
theorem unI {f : Value → Sem Value} {g : Int → Int}
    (rule : ∀ (i : Int) (t : Tok) (s : Shared) (Q : Value → Shared → Prop) (E : Value → Shared → Prop), Q (.int (g i) s.toks) { s with toks := s.toks + 1 } → wpAny (model X.prog X.w) X.A (f (.int i t)) Q E s) :
    UnR X f (rU fun i => .int (g i)) := by
  intro pins s σ H x v Q I rx h
  obtain ⟨i, rfl, q⟩ := h
  obtain ⟨t, rfl⟩ := rx
  exact rule i t s _ _ ⟨.int (g i), H, I.tok _, ⟨_, rfl⟩, q⟩
theorem un_neg : UnR X (unaryOp .USub) (rU fun i => .int (-i)) := unI fun _ _ _ _ _ q => neg_int q
end
def scal : V → V → Bool
  | .non, .non => true | .non, .int _ => true | .int _, .non => true | .non, .bl _ => true | .bl _, .non => true | .non, .str _ => true | .str _, .non => true
  | .int _, .int _ => true | .bl _, .bl _ => true | .str _, .str _ => true | .byt _, .byt _ => true
  | .int _, .str _ => true | .str _, .int _ => true | .bl _, .str _ => true | .str _, .bl _ => true
  | _, _ => false
def rEq : R2 := fun x y H Q => scal x y = true ∧ Q (.bl (decide (x = y))) H
def rNe : R2 := fun x y H Q => scal x y = true ∧ Q (.bl (!decide (x = y))) H
theorem dec_int {i j : Int} : decide (V.int i = V.int j) = (i == j) := by
  rw [Bool.eq_iff_iff]
  simp
theorem dec_bl {i j : Bool} : decide (V.bl i = V.bl j) = (i == j) := by
  rw [Bool.eq_iff_iff]
  simp
theorem dec_str {i j : Str} : decide (V.str i = V.str j) = (i == j) := by
  rw [Bool.eq_iff_iff]
  simp
theorem dec_byt {i j : Array UInt8} : decide (V.byt i = V.byt j) = (i.toList == j.toList) := by
  rw [Bool.eq_iff_iff]
  cases i
  cases j
  simp
section
variable {X : Cx} {a b c : Expr} {ta tb tc : TE} {pos : Pos}
theorem fin_bl {pins : List (Addr × Obj)} {σ : St} {H : Hp} {s : Shared} {Q : VK} {k k' : Bool} (I : Inv X pins σ H s) (q : Q (.bl k) H) (e : k = k') : EP X pins σ Q (.bool k') s := by
  subst e
  exact ⟨.bl k, H, I, rfl, q⟩
theorem op_eq : OpR X (compareOp .Eq) rEq := by
  intro pins s σ H x y v u Q I rx ry h
  obtain ⟨hs, q⟩ := h
  cases x with
  | non =>
    cases rx
    cases y with
    | non => cases ry; exact PySem.EqNone.eq_none_none (fin_bl I q (by simp))
    | bl j => cases ry; exact PySem.EqNone.eq_none_bool (fin_bl I q (by simp))
    | int j => obtain ⟨t', rfl⟩ := ry; exact PySem.EqNone.eq_none_int (fin_bl I q (by simp))
    | str j => obtain ⟨t', rfl⟩ := ry; exact PySem.EqNone.eq_none_str (fin_bl I q (by simp))
    | _ => exact absurd (show false = true from hs) Bool.false_ne_true
  | bl i =>
    cases rx
    cases y with
    | non => cases ry; exact PySem.EqNone.eq_bool_none (fin_bl I q (by simp))
    | bl j => cases ry; exact eq_bool (fin_bl I q dec_bl)
    | str j => obtain ⟨t', rfl⟩ := ry; exact PySem.EqMixed.eq_bool_str (fin_bl I q (by simp))
    | _ => exact absurd (show false = true from hs) Bool.false_ne_true
  | int i =>
    obtain ⟨t, rfl⟩ := rx
    cases y with
    | non => cases ry; exact PySem.EqNone.eq_int_none (fin_bl I q (by simp))
    | int j => obtain ⟨t', rfl⟩ := ry; exact eq_int (fin_bl I q dec_int)
    | str j => obtain ⟨t', rfl⟩ := ry; exact PySem.EqMixed.eq_int_str (fin_bl I q (by simp))
    | _ => exact absurd (show false = true from hs) Bool.false_ne_true
  | str i =>
    obtain ⟨t, rfl⟩ := rx
    cases y with
    | non => cases ry; exact PySem.EqNone.eq_str_none (fin_bl I q (by simp))
    | bl j => cases ry; exact PySem.EqMixed.eq_str_bool (fin_bl I q (by simp))
    | int j => obtain ⟨t', rfl⟩ := ry; exact PySem.EqMixed.eq_str_int (fin_bl I q (by simp))
    | str j => obtain ⟨t', rfl⟩ := ry; exact eq_str (fin_bl I q dec_str)
    | _ => exact absurd (show false = true from hs) Bool.false_ne_true
  | byt i =>
    obtain ⟨t, rfl⟩ := rx
    cases y with
    | byt j => obtain ⟨t', rfl⟩ := ry; exact PySem.W.eq_bytes (fin_bl I q dec_byt)
    | _ => exact absurd (show false = true from hs) Bool.false_ne_true
  | _ => cases y <;> exact absurd (show false = true from hs) Bool.false_ne_true
theorem op_ne : OpR X (compareOp .NotEq) rNe := by
  intro pins s σ H x y v u Q I rx ry h
  obtain ⟨hs, q⟩ := h
  cases x with
  | non =>
    cases rx
    cases y with
    | non => cases ry; exact PySem.EqNone.ne_none_none (fin_bl I q (by simp))
    | bl j => cases ry; exact PySem.EqNone.ne_none_bool (fin_bl I q (by simp))
    | int j => obtain ⟨t', rfl⟩ := ry; exact PySem.EqNone.ne_none_int (fin_bl I q (by simp))
    | str j => obtain ⟨t', rfl⟩ := ry; exact PySem.EqNone.ne_none_str (fin_bl I q (by simp))
    | _ => exact absurd (show false = true from hs) Bool.false_ne_true
  | bl i =>
    cases rx
    cases y with
    | non => cases ry; exact PySem.EqNone.ne_bool_none (fin_bl I q (by simp))
    | bl j => cases ry; exact ne_bool (fin_bl I q (congrArg not dec_bl))
    | str j => obtain ⟨t', rfl⟩ := ry; exact PySem.EqMixed.ne_bool_str (fin_bl I q (by simp))
    | _ => exact absurd (show false = true from hs) Bool.false_ne_true
  | int i =>
    obtain ⟨t, rfl⟩ := rx
    cases y with
    | non => cases ry; exact PySem.EqNone.ne_int_none (fin_bl I q (by simp))
    | int j => obtain ⟨t', rfl⟩ := ry; exact ne_int (fin_bl I q (congrArg not dec_int))
    | str j => obtain ⟨t', rfl⟩ := ry; exact PySem.EqMixed.ne_int_str (fin_bl I q (by simp))
    | _ => exact absurd (show false = true from hs) Bool.false_ne_true
  | str i =>
    obtain ⟨t, rfl⟩ := rx
    cases y with
    | non => cases ry; exact PySem.EqNone.ne_str_none (fin_bl I q (by simp))
    | bl j => cases ry; exact PySem.EqMixed.ne_str_bool (fin_bl I q (by simp))
    | int j => obtain ⟨t', rfl⟩ := ry; exact PySem.EqMixed.ne_str_int (fin_bl I q (by simp))
    | str j => obtain ⟨t', rfl⟩ := ry; exact ne_str (fin_bl I q (congrArg not dec_str))
    | _ => exact absurd (show false = true from hs) Bool.false_ne_true
  | byt i =>
    obtain ⟨t, rfl⟩ := rx
    cases y with
    | byt j => obtain ⟨t', rfl⟩ := ry; exact PySem.W.ne_bytes (fin_bl I q (congrArg not dec_byt))
    | _ => exact absurd (show false = true from hs) Bool.false_ne_true
  | _ => cases y <;> exact absurd (show false = true from hs) Bool.false_ne_true
theorem op_lt : OpR X (compareOp .Lt) (rI0 fun i j => .bl (decide (i < j))) := opB0 fun _ _ _ _ _ _ _ q => lt_int q
theorem op_le : OpR X (compareOp .LtE) (rI0 fun i j => .bl (decide (i ≤ j))) := opB0 fun _ _ _ _ _ _ _ q => le_int q
theorem op_gt : OpR X (compareOp .Gt) (rI0 fun i j => .bl (decide (j < i))) := opB0 fun _ _ _ _ _ _ _ q => gt_int q
theorem op_ge : OpR X (compareOp .GtE) (rI0 fun i j => .bl (decide (j ≤ i))) := opB0 fun _ _ _ _ _ _ _ q => ge_int q
theorem op_isN : OpR X (compareOp .Is) (fun x y H Q => y = .non ∧ Q (.bl (decide (x = .non))) H) := by
  intro pins s σ H x y v u Q I rx ry h
  obtain ⟨rfl, q⟩ := h
  cases ry
  refine is_none_gen (fin_bl I q ?_)
  cases x <;> first
    | (cases rx; rfl)
    | (obtain ⟨t, rfl⟩ := rx; rfl)
theorem nomark (b : Expr) {op : CmpOp} (h : op ≠ .In := by decide) (h2 : op ≠ .NotIn := by decide) : behindInMarks op b = false := by
  have e1 : (op == CmpOp.In) = false := by cases op <;> first | rfl | exact absurd rfl h
  have e2 : (op == CmpOp.NotIn) = false := by cases op <;> first | rfl | exact absurd rfl h2
  cases b <;> simp [behindInMarks, e1, e2]
theorem pe_cmpR {op : CmpOp} {r : R2} (ho : OpR X (compareOp op) r) (ha : PE X a ta) (hb : PE X b tb) (hm : behindInMarks op b = false) : PE X (.Compare a [op] [b] pos) (tOp r ta tb) := by
  intro pins s σ H Q I h
  exact wpAny_Compare1 (binT ha hb I h fun v u s2 x y H2 I2 rx ry q => ho pins s2 σ H2 x y v u Q I2 rx ry q) hm
def tTest (t : TE) : TT := fun σ H Q => t σ H fun x H' => ∃ k, x = .bl k ∧ Q k H'
theorem pt_cmpR {op : CmpOp} {r : R2} (ho : OpR X (compareOp op) r) (ha : PE X a ta) (hb : PE X b tb) (hm : behindInMarks op b = false) : PT X (.Compare a [op] [b] pos) (tTest (tOp r ta tb)) := by
  intro pins s σ H Q I h
  refine wpAny_isTrue_Compare1 (thn (ha pins s σ H _ I h) fun v s1 ⟨x, H1, I1, r1, q1⟩ => thn (hb pins s1 σ H1 _ I1 q1) fun u s2 ⟨y, H2, I2, r2, q2⟩ =>
    thn (ho pins s2 σ H2 x y v u _ I2 r1 r2 q2) fun c s3 ⟨z, H3, I3, r3, k, e, q3⟩ => ?_) hm
  subst e
  cases r3
  exact wpAny_truthy_bool ⟨H3, I3, q3⟩
def tChain (r r' : R2) (ta tb tc : TE) : TE := fun σ H Q => ta σ H fun x H1 => tb σ H1 fun y H2 => r x y H2 fun z H3 => ∃ k, z = .bl k ∧
  (if k = true then tc σ H3 fun w' H4 => r' y w' H4 Q else Q (.bl false) H3)
theorem pe_chain {op op' : CmpOp} {r r' : R2} (ho : OpR X (compareOp op) r) (ho' : OpR X (compareOp op') r') (ha : PE X a ta) (hb : PE X b tb) (hc : PE X c tc)
    (hm : lastMarks [op, op'] [b, c] = false := by with_unfolding_all rfl) : PE X (.Compare a [op, op'] [b, c] pos) (tChain r r' ta tb tc) := by
  intro pins s σ H Q I h
  refine Compare_chain (thn (ha pins s σ H _ I h) fun v s1 ⟨x, H1, I1, r1, q1⟩ => chain_link (thn (hb pins s1 σ H1 _ I1 q1) fun u s2 ⟨y, H2, I2, r2, q2⟩ =>
    thn (ho pins s2 σ H2 x y v u _ I2 r1 r2 q2) fun d s3 ⟨z, H3, I3, r3, k, e, q3⟩ => ?_)) hm
  subst e
  cases r3
  refine wpAny_truthy_bool ?_
  cases k with
  | false => exact ite_ff ⟨.bl false, H3, I3, rfl, q3⟩
  | true => exact ite_tt (chain_last (thn (hc pins s3 σ H3 _ I3 q3) fun w' s4 ⟨z', H4, I4, r4, q4⟩ => ho' pins s4 σ H4 y z' u w' Q I4 r2 r4 q4))
theorem pt_chain {op op' : CmpOp} {r r' : R2} (ho : OpR X (compareOp op) r) (ho' : OpR X (compareOp op') r') (ha : PE X a ta) (hb : PE X b tb) (hc : PE X c tc)
    (hm : lastMarks [op, op'] [b, c] = false := by with_unfolding_all rfl) : PT X (.Compare a [op, op'] [b, c] pos) (tTest (tChain r r' ta tb tc)) := by
  intro pins s σ H Q I h
  refine isTrue_chain (thn (ha pins s σ H _ I h) fun v s1 ⟨x, H1, I1, r1, q1⟩ => test_link (thn (hb pins s1 σ H1 _ I1 q1) fun u s2 ⟨y, H2, I2, r2, q2⟩ =>
    thn (ho pins s2 σ H2 x y v u _ I2 r1 r2 q2) fun d s3 ⟨z, H3, I3, r3, k, e, q3⟩ => ?_)) hm
  subst e
  cases r3
  refine wpAny_truthy_bool ?_
  cases k with
  | false =>
    obtain ⟨k', e', q'⟩ := q3
    cases e'
    exact ite_ff ⟨H3, I3, q'⟩
  | true =>
    refine ite_tt (test_last (thn (hc pins s3 σ H3 _ I3 q3) fun w' s4 ⟨z', H4, I4, r4, q4⟩ => thn (ho' pins s4 σ H4 y z' u w' _ I4 r2 r4 q4) fun d' s5 ⟨z2, H5, I5, r5, k2, e2, q5⟩ => ?_))
    subst e2
    cases r5
    exact wpAny_truthy_bool ⟨H5, I5, q5⟩
def TruV (K : PySem.W.Frag) (x : V) (H : Hp) (k : Bool) : Prop :=
  match x with
  | .non => k = false
  | .bl b => k = b
  | .int i => k = (i != 0)
  | .str y => y.length ≤ sizeLine ∧ k = ((y.length : Int) != 0)
  | .byt y => y.size ≤ sizeLine ∧ k = ((y.size : Int) != 0)
  | .ref p => (∃ xs, SqL K H p xs ∧ k = !xs.isEmpty) ∨ (∃ xs, SqT K H p xs ∧ k = !xs.isEmpty) ∨ ∃ kvs, H p = some (.dK kvs) ∧ k = !kvs.isEmpty
  | _ => False
theorem isEmpty_kv {κ : Type} {kvs : List (κ × V)} {vs : List (κ × Value)} (r : KV kvs vs) : (!vs.isEmpty) = !kvs.isEmpty := by
  cases r <;> rfl
theorem isEmpty_of {xs : List V} {its : List Value} (r : Vals xs its) : (!its.toArray.isEmpty) = !xs.isEmpty := by
  cases r <;> simp
theorem line63 : (sizeLine : Nat) < 2 ^ 63 := by rw [sizeLine_eq]; decide
theorem tru_ok : TruR X (fun x H Q => ∃ k, TruV X.K x H k ∧ Q k H) := by
  intro pins s σ H x v Q I rx h
  obtain ⟨k, e, q⟩ := h
  have hl := line63
  have hs : sizeLine = 16777216 := sizeLine_eq
  cases x with
  | non =>
    cases rx
    have e' : k = false := e
    subst e'
    exact truthy_none ⟨H, I, q⟩
  | bl b =>
    cases rx
    have e' : k = b := e
    subst e'
    exact wpAny_truthy_bool ⟨H, I, q⟩
  | int i =>
    obtain ⟨t, rfl⟩ := rx
    have e' : k = (i != 0) := e
    subst e'
    exact PySem.P.truthy_int ⟨H, I, q⟩
  | str y =>
    obtain ⟨t, rfl⟩ := rx
    obtain ⟨hy, e'⟩ : y.length ≤ sizeLine ∧ k = ((y.length : Int) != 0) := e
    subst e'
    exact PySem.P.truthy_str (by omega) ⟨H, I.tok _, q⟩
  | byt y =>
    obtain ⟨t, rfl⟩ := rx
    obtain ⟨hy, e'⟩ : y.size ≤ sizeLine ∧ k = ((y.size : Int) != 0) := e
    subst e'
    exact PySem.W.truthy_bytes (by omega) ⟨H, I.tok _, q⟩
  | ref p =>
    cases rx
    have e' : (∃ xs, SqL X.K H p xs ∧ k = !xs.isEmpty) ∨ (∃ xs, SqT X.K H p xs ∧ k = !xs.isEmpty) ∨ ∃ kvs, H p = some (.dK kvs) ∧ k = !kvs.isEmpty := e
    rcases e' with ⟨xs, hx, e'⟩ | ⟨xs, hx, e'⟩ | ⟨kvs, hx, e'⟩
    · subst e'
      obtain ⟨its, r, pl, hz⟩ := I.list hx
      have hlen := r.length
      exact wpAny_truthy_list pl.isList (by simp only [List.size_toArray]; omega) ⟨H, I.tok _, by rw [isEmpty_of r]; exact q⟩
    · subst e'
      obtain ⟨its, r, pl, hz⟩ := I.tuple hx
      have hlen := r.length
      exact truthy_tuple pl (by simp only [List.size_toArray]; omega) ⟨H, I.tok _, by rw [isEmpty_of r]; exact q⟩
    · subst e'
      obtain ⟨hz, hS, vs, r, m⟩ : kvs.length ≤ sizeLine ∧ (p == sysModules) = false ∧ ∃ vs, KV kvs vs ∧ s.heap.DictOf (mixKind X.prog X.w) p vs := I.hok p _ hx
      have hlen : kvs.length = vs.length := Paired.length r
      exact wpAny_truthy_dict hS m (by omega) ⟨H, I.tok _, by rw [isEmpty_kv r]; exact q⟩
  | _ => exact (show False from e).elim
theorem pt_truth (ha : PE X a ta) (he : ∀ whole, isTrue a X.env whole = (do let v ← whole; standAt a.pos; holding [v] (truthy v))) :
    PT X a (fun σ H Q => ta σ H fun x H' => ∃ k, TruV X.K x H' k ∧ Q k H') := by
  intro pins s σ H Q I h
  exact isTrue_plain (thn (ha pins s σ H _ I h) fun v s1 ⟨x, H1, I1, r1, q1⟩ => tru_ok pins s1 σ H1 x v Q I1 r1 q1) (he _)
theorem op_add_str : OpR X (binaryOp .Add) (fun x y H Q => ∃ i j, x = .str i ∧ y = .str j ∧ i.length + j.length ≤ sizeLine ∧ Q (.str (i ++ j)) H) := by
  intro pins s σ H x y v u Q I rx ry h
  obtain ⟨i, j, rfl, rfl, hz, q⟩ := h
  obtain ⟨t, rfl⟩ := rx
  obtain ⟨t', rfl⟩ := ry
  exact add_str (fun t' tk => ⟨.str (i ++ j), H, I.tok _, ⟨_, rfl⟩, q⟩) hz
theorem vals1 {x : V} {us : List Value} (r : Vals [x] us) : ∃ u, us = [u] ∧ RelV x u := by
  cases r with
  | cons r1 r2 => cases r2; exact ⟨_, rfl, r1⟩
theorem vals2 {x y : V} {us : List Value} (r : Vals [x, y] us) : ∃ u w', us = [u, w'] ∧ RelV x u ∧ RelV y w' := by
  cases r with
  | cons r1 r2 =>
    cases r2 with
    | cons r3 r4 => cases r4; exact ⟨_, _, rfl, r1, r3⟩
theorem call_max2 (hc : X.calm = true) : CallR X (.builtin "max") (fun xs H Q => ∃ i j, xs = [.int i, .int j] ∧ Q (.int (if j > i then j else i)) H) := by
  intro pins s σ H xs us Q I r h
  obtain ⟨i, j, rfl, q⟩ := h
  obtain ⟨u, w', rfl, ⟨t, rfl⟩, ⟨t', rfl⟩⟩ := vals2 r
  refine max_two_ints (I.ok.hd hc) fun h' tk k => ⟨_, H, I.kept k, ?_, q⟩
  by_cases hj : j > i
  · rw [if_pos hj, if_pos hj]; exact ⟨_, rfl⟩
  · rw [if_neg hj, if_neg hj]; exact ⟨_, rfl⟩
theorem call_min2 (hc : X.calm = true) : CallR X (.builtin "min") (fun xs H Q => ∃ i j, xs = [.int i, .int j] ∧ Q (.int (if j < i then j else i)) H) := by
  intro pins s σ H xs us Q I r h
  obtain ⟨i, j, rfl, q⟩ := h
  obtain ⟨u, w', rfl, ⟨t, rfl⟩, ⟨t', rfl⟩⟩ := vals2 r
  refine min_two_ints (I.ok.hd hc) fun h' tk k => ⟨_, H, I.kept k, ?_, q⟩
  by_cases hj : j < i
  · rw [if_pos hj, if_pos hj]; exact ⟨_, rfl⟩
  · rw [if_neg hj, if_neg hj]; exact ⟨_, rfl⟩
theorem call_str_int : CallR X (.type "str") (fun xs H Q => ∃ i, xs = [.int i] ∧ i.natAbs.log2 < 1920 ∧ Q (.str (toString i)) H) := by
  intro pins s σ H xs us Q I r h
  obtain ⟨i, rfl, hz, q⟩ := h
  obtain ⟨u, rfl, t, rfl⟩ := vals1 r
  exact PySem.P.str_of_int hz ⟨.str _, H, I.tok _, ⟨_, rfl⟩, q⟩
end
end L2
namespace L2
open PySem PySem.Spec PyProof.Rows
structure ObjM (h : Heap) (x dx C : Addr) (mA : Str → Option Value) : Prop where
  obj : h.get? x = some (PySem.W.instObj C dx)
  ns : h.Ns1 dx mA
  ne : dx ≠ x
theorem lookIn_ns {h : Heap} {dx : Addr} {mA : Str → Option Value} (n : h.Ns1 dx mA) : ∃ od, h.get? dx = some od ∧ ∀ name, PySem.W.lookIn name od = some (mA name) := by
  obtain ⟨o, es, ep, ho, hd, hk, _, hm⟩ := n
  refine ⟨o, ho, fun name => ?_⟩
  have e := hm name
  unfold nsFind findBy at e
  rw [← Array.find?_toList] at e
  unfold PySem.W.lookIn
  rw [hd]
  dsimp only
  split
  · rename_i y q
    rw [q] at e
    exact congrArg some e
  · rename_i q
    rw [q] at e
    have a : es.toList.any (·.refKey) = false := by
      rw [List.any_eq_false]
      intro y hy
      obtain ⟨z, t, hkey⟩ := hk y (Array.mem_toList_iff.mp hy)
      simp [DictEntry.refKey, hkey]
    have a' : ¬ es.toList.any (·.refKey) = true := by rw [a]; exact Bool.false_ne_true
    rw [if_neg a']
    exact congrArg some e
theorem ObjM.look {h : Heap} {x dx C : Addr} {mA : Str → Option Value} (I : ObjM h x dx C mA) : ∃ od, PySem.W.InstAt h x (PySem.W.instObj C dx) C (some od) ∧ ∀ name, PySem.W.lookIn name od = some (mA name) :=
  let ⟨od, ho, hl⟩ := lookIn_ns I.ns
  ⟨od, ⟨I.obj, rfl, rfl, ho⟩, hl⟩
section
variable {prog : Program} {w : World} {A : Around} {E : Value → Shared → Prop} {s : Shared} {K : PySem.W.Frag} {x dx C f : Addr} {mA : Str → Option Value} {name : Str} {v : Value}
theorem get_map {expr : Bool} {Q : Value → Shared → Prop} (X : K.In s.heap) (I : ObjM s.heap x dx C mA) (hg : PySem.W.plainGet K C name = true) (hh : PySem.W.hasDictIn K C = true)
    (ha : PySem.W.findIn K (.ref C) name = some none) (hv : mA name = some v) (hv' : PySem.W.handedIn v = true) (h : Q v { s with toks := s.toks + 1 }) :
    wpAny (model prog w) A (getAttr (.ref x) name expr) Q E s := by
  obtain ⟨od, J, hl⟩ := I.look
  exact PySem.W.get_value X J (PySem.W.plainGet_of hg).1 (PySem.W.findObj_own hh ha rfl (by rw [hl, hv])) hv' h
theorem get_meth {pl : Sem Bool} {Q : Value × List Value → Shared → Prop} (X : K.In s.heap) (I : ObjM s.heap x dx C mA) (hg : PySem.W.plainGet K C name = true)
    (hf : PySem.W.findIn K (.ref C) name = some (some (.ref f))) (ht : PySem.W.isFn K (.ref f) = true) (hv : mA name = none) (h : Q (.ref f, [.ref x]) s) :
    wpAny (model prog w) A (getMethod (.ref x) name pl) Q E s := by
  obtain ⟨od, J, hl⟩ := I.look
  exact PySem.W.method_fn X J (PySem.W.plainGet_of hg).1 (PySem.W.plainGet_of hg).2 hf (beq_iff_eq.mp ht) (by show (PySem.W.lookIn name od).map (·.isSome) = some false; rw [hl, hv]; rfl) h
theorem set_map {ns : List Str} {Q : Unit → Shared → Prop} (X : K.In s.heap) (I : ObjM s.heap x dx C mA)
    (hs : PySem.W.findIn K (.ref C) "__setattr__" = some (some (.builtin "object.__setattr__"))) (hp : PySem.W.plainOver K C = true) (ht : PySem.W.takerIn K C name = some none) (hh : PySem.W.hasDictIn K C = true)
    (hw : PySem.Within mA ns) (hsz : ns.length ≤ sizeLine)
    (h : ∀ h', ObjM h' x dx C (fun y => if y = name then some v else mA y) → Heap.SameBut dx s.heap h' → Q () { s with heap := h', toks := s.toks + 2 }) :
    wpAny (model prog w) A (setAttr (.ref x) name v) Q E s := by
  obtain ⟨od, J, hl⟩ := I.look
  refine PySem.W.set_plain X J hs (PySem.W.osa_open (s := { s with toks := s.toks + 1 }) (r := none) X J hp ht fun b => ?_)
  obtain ⟨cd, hc, hd'⟩ := PySem.W.any_some hh
  have hx : s.heap.get? x = some ⟨.ref C, some dx, .plain, #[]⟩ := I.obj
  refine wpAny_bind (wpAny_pure (wpAny_bind (wpAny_bind (wpAny_loadPart hx (wpAny_bind (PySem.W.Looks.here (s := { s with toks := s.toks + 1 }) (PySem.W.looks_clsIn X hc) ?_))))))
  rw [hd']
  refine wpAny_pure (a := some dx) (wpAny_bind (wpAny_pure (wpAny_bind ?_)))
  refine wpAny_nsSet1 (s := { s with toks := s.toks + 1 }) I.ns fun h' hn2 hs2 => ?_
  obtain ⟨oD, esD, epD, hoD, hdD, hcD⟩ := hn2.count (PySem.Within.cons name v hw)
  refine wpAny_bind (wpAny_lookBehind hoD (by rw [hdD]; exact pastItsLine_dict (Nat.le_trans hcD (by rw [List.length_cons]; omega))) ?_)
  exact wpAny_pure (h _ ⟨(hs2.2 _ (Ne.symm I.ne)).trans I.obj, hn2, I.ne⟩ hs2)
theorem make_map {R : Result → Shared → Prop} {vs : List Value} {kw : List (Str × Value)} (X : K.In s.heap) (hm : PySem.W.makesIn K C = true)
    (hi : PySem.W.findIn K (.ref C) "__init__" = some (some (.ref f))) (hf : PySem.W.typeIn K (.ref f) = some (.type "function"))
    (h : codeAny (model prog w) (A.under (.builtin "type.__call__" ⟨.ref C :: vs, kw⟩)) (.call (.ref f) ⟨.ref (s.heap.objs.size + 1) :: vs, kw⟩) (PySem.W.InitBack (s.heap.objs.size + 1) R)
      { s with heap := (s.heap.push PySem.W.emptyDict).push (PySem.W.instObj C s.heap.objs.size) }) :
    codeAny (model prog w) A (.call (.ref C) ⟨vs, kw⟩) R s := by
  obtain ⟨hh, g, d, t, os⟩ := s
  exact PySem.W.make_core (PySem.W.makes_of X hm) (PySem.W.looks_findIn X hi) (fun self => PySem.W.bind_fn X self hf) (.inl rfl) h
end
def putF (f : Str) (v : V) : List (Str × V) → List (Str × V)
  | [] => [(f, v)]
  | (g, x) :: r => if g = f then (g, v) :: r else (g, x) :: putF f v r
theorem lookup_putF (f g : Str) (v : V) : ∀ fs : List (Str × V), (putF f v fs).lookup g = if g = f then some v else fs.lookup g
  | [] => by
    show List.lookup g [(f, v)] = _
    by_cases h : g = f
    · have hb : (g == f) = true := beq_iff_eq.mpr h
      simp only [List.lookup, hb, if_pos h]
    · have hb : (g == f) = false := beq_eq_false_iff_ne.mpr h
      simp only [List.lookup, hb, if_neg h]
  | (k, x) :: r => by
    have ih := lookup_putF f g v r
    rw [show putF f v ((k, x) :: r) = (if k = f then (k, v) :: r else (k, x) :: putF f v r) from rfl]
    by_cases hk : k = f
    · rw [if_pos hk]
      by_cases h : g = k
      · have hb : (g == k) = true := beq_iff_eq.mpr h
        simp only [List.lookup, hb, if_pos (h.trans hk)]
      · have hb : (g == k) = false := beq_eq_false_iff_ne.mpr h
        simp only [List.lookup, hb, if_neg (fun e : g = f => h (e.trans hk.symm))]
    · rw [if_neg hk]
      by_cases h : g = k
      · have hb : (g == k) = true := beq_iff_eq.mpr h
        simp only [List.lookup, hb, if_neg (fun e : g = f => hk (h.symm.trans e))]
      · have hb : (g == k) = false := beq_eq_false_iff_ne.mpr h
        simp only [List.lookup, hb]
        exact ih
theorem keys_putF (f : Str) (v : V) : ∀ fs : List (Str × V), f ∈ (putF f v fs).map (·.1) ∧ ∀ g, g ∈ fs.map (·.1) → g ∈ (putF f v fs).map (·.1)
  | [] => ⟨by simp [putF], fun g h => by simp at h⟩
  | (k, x) :: r => by
    obtain ⟨i1, i2⟩ := keys_putF f v r
    rw [show putF f v ((k, x) :: r) = (if k = f then (k, v) :: r else (k, x) :: putF f v r) from rfl]
    by_cases hk : k = f
    · rw [if_pos hk]
      subst hk
      exact ⟨by simp, fun g h => by simpa using h⟩
    · rw [if_neg hk]
      refine ⟨?_, fun g h => ?_⟩
      · rw [List.map_cons]
        exact List.mem_cons_of_mem _ i1
      · rw [List.map_cons] at h ⊢
        rcases List.mem_cons.mp h with e | e
        · exact List.mem_cons.mpr (.inl e)
        · exact List.mem_cons_of_mem _ (i2 g e)
theorem length_putF (f : Str) (v : V) : ∀ fs : List (Str × V), (putF f v fs).length ≤ fs.length + 1
  | [] => by simp [putF]
  | (k, x) :: r => by
    have ih := length_putF f v r
    rw [show putF f v ((k, x) :: r) = (if k = f then (k, v) :: r else (k, x) :: putF f v r) from rfl]
    by_cases hk : k = f
    · rw [if_pos hk, List.length_cons, List.length_cons]; omega
    · rw [if_neg hk, List.length_cons, List.length_cons]; omega
theorem RelO.some_of {v : V} {o : Option Value} (r : RelO (some v) o) : ∃ u, o = some u ∧ RelV v u := by
  cases o with
  | none => exact (show False from r).elim
  | some u => exact ⟨u, rfl, r⟩
theorem RelO.none_of {o : Option Value} (r : RelO none o) : o = none := by
  cases o with
  | none => rfl
  | some u => exact (show False from r).elim
theorem handed_of {v : V} {u : Value} (r : RelV v u) : PySem.W.handedIn u = true := by
  cases v with
  | non => cases (show u = Value.none from r); rfl
  | bl b => cases (show u = Value.bool b from r); rfl
  | int i => obtain ⟨t, e⟩ := (show ∃ t, u = Value.int i t from r); cases e; rfl
  | str x => obtain ⟨t, e⟩ := (show ∃ t, u = Value.str x t from r); cases e; rfl
  | byt b => obtain ⟨t, e⟩ := (show ∃ t, u = Value.bytes b t from r); cases e; rfl
  | flt b => obtain ⟨t, e⟩ := (show ∃ t, u = Value.float b t from r); cases e; rfl
  | ref a => cases (show u = Value.ref a from r); rfl
  | ty n => cases (show u = Value.type n from r); rfl
section
variable {P : Program} {w : World} {H H' : Hp} {h h' : Heap} {a C dx : Addr} {fs fs' : List (Str × V)}
theorem ins_get (hok : HOk P w H h) (e : H a = some (.ins C dx fs)) : ∃ mA, ObjM h a dx C mA ∧ (∀ f, RelO (fs.lookup f) (mA f)) ∧ PySem.Within mA (fs.map (·.1)) ∧ fs.length ≤ 1000 ∧ H dx = some (.own a) := by
  obtain ⟨d, z, ne, ob, mA, n, r, q⟩ := (show ObjOk P w H h a (.ins C dx fs) from hok a _ e)
  exact ⟨mA, ⟨ob, n, ne⟩, r, q, z, d⟩
end
structure Cls (K : PySem.W.Frag) (C : Addr) : Prop where
  pg : PySem.W.plainGet K C Str.empty = true
  hd : PySem.W.hasDictIn K C = true
  po : PySem.W.plainOver K C = true
  sa : PySem.W.findIn K (.ref C) "__setattr__" = some (some (.builtin "object.__setattr__"))
theorem Cls.get {K : PySem.W.Frag} {C : Addr} (c : Cls K C) (f : Str) : PySem.W.plainGet K C f = true := c.pg
def NoAttr (K : PySem.W.Frag) (C : Addr) (f : Str) : Prop := PySem.W.findIn K (.ref C) f = some none
theorem NoAttr.taker {K : PySem.W.Frag} {C : Addr} {f : Str} (n : NoAttr K C f) : PySem.W.takerIn K C f = some none := by
  unfold PySem.W.takerIn
  rw [show PySem.W.findIn K (.ref C) f = some none from n]
  rfl
structure Con (K : PySem.W.Frag) (C : Addr) (f : Str) (v : V) (u : Value) : Prop where
  at_ : PySem.W.findIn K (.ref C) f = some (some u)
  rel : RelV v u
  get : PySem.W.specialIn K u "__get__" = some none
  cp : PySem.W.copiedNames.contains f = false
structure Meth (K : PySem.W.Frag) (C : Addr) (m : Str) (f : Addr) : Prop where
  at_ : PySem.W.findIn K (.ref C) m = some (some (.ref f))
  fn : PySem.W.isFn K (.ref f) = true
  kp : PySem.W.keepIn K (.ref f) = true
section
variable {X : Cx} {pins : List (Addr × Obj)} {σ : St} {H : Hp} {s : Shared} {a C dx : Addr} {fs : List (Str × V)} {f : Str} {v : V} {A : Around} {E : Value → Shared → Prop}
theorem getattr_ok {b : Bool} {Q : Value → Shared → Prop} (I : Inv X pins σ H s) (e : H a = some (.ins C dx fs)) (c : Cls X.K C) (n : NoAttr X.K C f) (l : fs.lookup f = some v)
    (h : ∀ u s', Inv X pins σ H s' → RelV v u → Q u s') : wpAny (model X.prog X.w) A (getAttr (.ref a) f b) Q E s := by
  obtain ⟨mA, O, r, _, _, _⟩ := ins_get I.hok e
  obtain ⟨u, hu, ru⟩ := RelO.some_of (v := v) (o := mA f) (by rw [← l]; exact r f)
  exact get_map I.kIn O (c.get f) c.hd n hu (handed_of ru) (h u _ (I.tok _) ru)
theorem getmeth_ok {m : Str} {g : Addr} {pl : Sem Bool} {Q : Value × List Value → Shared → Prop} (I : Inv X pins σ H s) (e : H a = some (.ins C dx fs)) (c : Cls X.K C) (k : Meth X.K C m g) (l : fs.lookup m = none)
    (h : Q (.ref g, [.ref a]) s) : wpAny (model X.prog X.w) A (getMethod (.ref a) m pl) Q E s := by
  obtain ⟨mA, O, r, _, _, _⟩ := ins_get I.hok e
  have hn : mA m = none := RelO.none_of (by rw [← l]; exact r m)
  exact get_meth I.kIn O (c.get m) k.at_ k.fn hn h
theorem setattr_ok {y : V} {u : Value} {Q : Unit → Shared → Prop} (I : Inv X pins σ H s) (e : H a = some (.ins C dx fs)) (c : Cls X.K C) (n : NoAttr X.K C f) (hl : fs.length < 1000) (ry : RelV y u)
    (h : ∀ s', Inv X pins σ (upd H a (.ins C dx (putF f y fs))) s' → Q () s') : wpAny (model X.prog X.w) A (setAttr (.ref a) f u) Q E s := by
  obtain ⟨mA, O, r, wi, _, ho⟩ := ins_get I.hok e
  have hz : (fs.map (·.1)).length ≤ sizeLine := by rw [List.length_map, sizeLine_eq]; omega
  refine set_map I.kIn O c.sa c.po n.taker c.hd wi hz fun h' O' sb => h _ ?_
  have hd : ∃ o, h'.get? dx = some o := let ⟨o, _, _, e', _⟩ := O'.ns; ⟨o, e'⟩
  refine I.write (x := a) (e := dx) (by rw [e]; exact True.intro) (.inr ho) (fun b q hb z => (sb.2 b hb).trans z) hd ?_
  refine ⟨by rw [upd_ne O.ne]; exact ho, ?_, O.ne, O'.obj, _, O'.ns, fun g => ?_, fun g hg => ?_⟩
  · have := length_putF f y fs; omega
  · show RelO ((putF f y fs).lookup g) (if g = f then some u else mA g)
    rw [lookup_putF]
    by_cases q : g = f
    · rw [if_pos q, if_pos q]; exact ry
    · rw [if_neg q, if_neg q]; exact r g
  · by_cases q : g = f
    · rw [q]; exact (keys_putF f y fs).1
    · refine (keys_putF f y fs).2 g (wi g fun z => hg ?_)
      show (if g = f then some u else mA g) = none
      rw [if_neg q]; exact z
theorem Inv.made (I : Inv X pins σ H s) : Inv X pins σ (upd (upd H s.heap.objs.size (.own (s.heap.objs.size + 1))) (s.heap.objs.size + 1) (.ins C s.heap.objs.size []))
    { s with heap := (s.heap.push PySem.W.emptyDict).push (PySem.W.instObj C s.heap.objs.size) } := by
  have e1 : (s.heap.push PySem.W.emptyDict).get? s.heap.objs.size = some PySem.W.emptyDict := Heap.get?_push_size s.heap rfl
  have e2 : ((s.heap.push PySem.W.emptyDict).push (PySem.W.instObj C s.heap.objs.size)).get? (s.heap.objs.size + 1) = some (PySem.W.instObj C s.heap.objs.size) := by
    have := Heap.get?_push_size (s.heap.push PySem.W.emptyDict) (o := PySem.W.instObj C s.heap.objs.size) rfl
    rwa [Heap.size_push] at this
  have e3 : (s.heap.push PySem.W.emptyDict).Ns s.heap.objs.size (fun _ => none) := ⟨PySem.W.emptyDict, #[], _, e1, rfl, (fun e he => absurd he (by simp)), fun _ => rfl⟩
  have I1 := I.laid (a := s.heap.objs.size) (o := .own (s.heap.objs.size + 1)) (h' := s.heap.push PySem.W.emptyDict) (t' := s.toks) (fun b u q => Heap.get?_push_of_some _ q) (Nat.le_refl _) ⟨_, e1⟩
  refine I1.laid (a := s.heap.objs.size + 1) (o := .ins C s.heap.objs.size []) (t' := s.toks) (fun b u q => Heap.get?_push_of_some _ q) (Nat.le_of_eq (Heap.size_push _ _)) ?_
  have ne : s.heap.objs.size ≠ s.heap.objs.size + 1 := Nat.ne_of_lt (Nat.lt_succ_self _)
  refine ⟨by rw [upd_ne ne, upd_same], Nat.zero_le _, ne, e2, fun _ => none, (Heap.Ns1.of_empty e3).at fun o q => Heap.get?_push_of_some _ q, fun _ => True.intro, fun y hy => absurd rfl hy⟩
theorem attr_of {prog : Program} {w : World} {env : Env} {e : Expr} {f : Str} {pos : Pos} {s : Shared} {Q : Value → Shared → Prop} (hb : attributeBase e f env (eval e env) = eval e env)
    (h : wpAny (model prog w) A (eval e env) (fun o s₁ => wpAny (model prog w) A (getAttr o f true) Q E s₁) E s) : wpAny (model prog w) A (eval (.Attribute e f pos) env) Q E s :=
  Attribute_any_ h (by rw [arm_eval_Attribute, hb])
end
def tFld (K : PySem.W.Frag) (ta : TE) (f : Str) : TE := fun σ H Q => ta σ H fun x H1 => ∃ a C dx fs v, x = .ref a ∧ H1 a = some (.ins C dx fs) ∧ Cls K C ∧ NoAttr K C f ∧ fs.lookup f = some v ∧ Q v H1
def sFld (K : PySem.W.Frag) (ta tv : TE) (f : Str) : TS := fun D σ H => tv σ H fun y H1 => ta σ H1 fun x H2 => ∃ a C dx fs, x = .ref a ∧ H2 a = some (.ins C dx fs) ∧ Cls K C ∧ NoAttr K C f ∧ fs.length < 1000 ∧
  D.nx σ (upd H2 a (.ins C dx (putF f y fs)))
section
variable {X : Cx} {o e value : Expr} {f : Str} {pos pos' tpos : Pos} {ta tv : TE}
theorem pe_fld (he : PE X e ta) (hb : attributeBase e f X.env (eval e X.env) = eval e X.env) : PE X (.Attribute e f pos) (tFld X.K ta f) := by
  intro pins s σ H Q I h
  refine attr_of hb (thn (he pins s σ H _ I h) fun u s1 ⟨x, H1, I1, rx, a, C, dx, fs, v, ex, ea, c, n, l, q⟩ => ?_)
  subst ex
  obtain rfl : u = Value.ref a := rx
  exact getattr_ok I1 ea c n l fun u' s2 I2 ru => ⟨v, H1, I2, ru, q⟩
theorem ps_fld (ha : PE X o ta) (hv : PE X value tv) (hs : swapsWith value (some (.Attribute o f pos')) pos.line X.env = pure false) : PS X (.Assign [.Attribute o f pos'] value pos) (sFld X.K ta tv f) := by
  intro pins s σ H D I h
  refine plainObj_wpAny_Assign_Attribute (thn (hv pins s σ H _ I h) fun u s1 ⟨y, H1, I1, ry, q⟩ => thn (ha pins s1 σ H1 _ I1 q) fun ov s2 ⟨x, H2, I2, rx, a, C, dx, fs, ex, ea, c, n, l, q2⟩ => ?_) hs
  subst ex
  obtain rfl : ov = Value.ref a := rx
  exact setattr_ok I2 ea c n l ry fun s3 I3 => ⟨σ, _, I3, q2⟩
end
section
variable {X : Cx} {pins : List (Addr × Obj)} {σ : St} {H : Hp} {s : Shared} {A : Around} {E : Value → Shared → Prop} {Q : Value → Shared → Prop} {c : Value} {b : Bool}
inductive TyOf (K : PySem.W.Frag) (H : Hp) : V → Value → Prop where
  | non : TyOf K H .non (.type "NoneType")
  | bl (x : Bool) : TyOf K H (.bl x) (.type "bool")
  | int (i : Int) : TyOf K H (.int i) (.type "int")
  | str (x : Str) : TyOf K H (.str x) (.type "str")
  | flt (x : UInt64) : TyOf K H (.flt x) (.type "float")
  | lst {a : Addr} {xs : List V} (e : H a = some (.lst xs)) : TyOf K H (.ref a) (.type "list")
  | frz {a : Addr} {o : Obj} {xs : List V} (e : H a = some (.frz o (.lst xs))) : TyOf K H (.ref a) (.type "list")
  | tup {a : Addr} {xs : List V} (e : H a = some (.tup xs)) : TyOf K H (.ref a) (.type "tuple")
  | dK {a : Addr} {kvs : List (Key × V)} (e : H a = some (.dK kvs)) : TyOf K H (.ref a) (.type "dict")
  | dT {a : Addr} {kvs : List (List Key × V)} (e : H a = some (.dT kvs)) : TyOf K H (.ref a) (.type "dict")
  | ins {a C dx : Addr} {fs : List (Str × V)} (e : H a = some (.ins C dx fs)) (cl : Cls K C) (ha : PySem.W.findIn K (.ref C) "__class__" = some (some (.builtin "object.__class__")))
      (hn : PySem.W.specialIn K (.builtin "object.__class__") "__get__" = some (some (.builtin "getset_descriptor.__get__"))) (htk : PySem.W.takesIn K (.builtin "object.__class__") = some true)
      (hm : PySem.W.mroIn K C (.type "object") = some true) : TyOf K H (.ref a) (.ref C)
theorem isinst_ok {x : V} {u t : Value} (I : Inv X pins σ H s) (rx : RelV x u) (ty : TyOf X.K H x t) (e : PySem.W.kitOne X.K t c = some b) (h : ∀ tk, Q (.bool b) { s with toks := tk }) :
    wpAny (model X.prog X.w) A (call (.builtin "isinstance") [u, c]) Q E s := by
  cases ty with
  | non => cases (show u = Value.none from rx); exact PySem.W.kia_one PySem.W.kitx_none I.kIn True.intro e (fun z => nomatch z) h
  | bl y => cases (show u = Value.bool y from rx); exact PySem.W.kia_one PySem.W.kitx_bool I.kIn True.intro e (fun z => nomatch z) h
  | int i => obtain ⟨t, q⟩ := (show ∃ t, u = Value.int i t from rx); cases q; exact PySem.W.kia_one PySem.W.kitx_int I.kIn True.intro e (fun z => nomatch z) h
  | str y => obtain ⟨t, q⟩ := (show ∃ t, u = Value.str y t from rx); cases q; exact PySem.W.kia_one PySem.W.kitx_str I.kIn True.intro e (fun z => nomatch z) h
  | flt y => obtain ⟨t, q⟩ := (show ∃ t, u = Value.float y t from rx); cases q; exact PySem.W.kia_one PySem.W.kitx_float I.kIn True.intro e (fun z => nomatch z) h
  | @lst a xs ea =>
    cases (show u = Value.ref a from rx)
    obtain ⟨_, _, n, _, h1⟩ := (show ObjOk X.prog X.w H s.heap a (.lst xs) from I.hok a _ ea)
    exact PySem.W.kia_one PySem.W.kitx_list I.kIn ⟨_, h1, rfl⟩ e (fun z => nomatch z) h
  | @frz a ob xs ea =>
    cases (show u = Value.ref a from rx)
    obtain ⟨_, _, _, n, _, h1⟩ := (show ObjOk X.prog X.w H s.heap a (.frz ob (.lst xs)) from I.hok a _ ea)
    exact PySem.W.kia_one PySem.W.kitx_list I.kIn ⟨_, h1, rfl⟩ e (fun z => nomatch z) h
  | @tup a xs ea =>
    cases (show u = Value.ref a from rx)
    obtain ⟨_, _, _, p⟩ := (show ObjOk X.prog X.w H s.heap a (.tup xs) from I.hok a _ ea)
    obtain ⟨o, h1, h2, _⟩ := p
    exact PySem.W.kia_one PySem.W.kitx_tuple I.kIn ⟨o, h1, h2⟩ e (fun z => nomatch z) h
  | @dK a kvs ea =>
    cases (show u = Value.ref a from rx)
    obtain ⟨_, _, vs, _, p⟩ := (show ObjOk X.prog X.w H s.heap a (.dK kvs) from I.hok a _ ea)
    obtain ⟨o, es, ep, h1, h2, _⟩ := p
    exact PySem.W.kia_one PySem.W.kitx_dict I.kIn ⟨o, h1, h2.1⟩ e (fun z => nomatch z) h
  | @dT a kvs ea =>
    cases (show u = Value.ref a from rx)
    obtain ⟨_, _, xs, _, o, es, ep, h1, h2, _⟩ := (show ObjOk X.prog X.w H s.heap a (.dT kvs) from I.hok a _ ea)
    exact PySem.W.kia_one PySem.W.kitx_dict I.kIn ⟨o, h1, h2.1⟩ e (fun z => nomatch z) h
  | @ins a C dx fs ea cl ha hn htk hm =>
    cases (show u = Value.ref a from rx)
    obtain ⟨mA, O, _⟩ := ins_get I.hok ea
    obtain ⟨od, J, _⟩ := O.look
    exact PySem.W.kia_one (PySem.W.kitx_own (cl.get _) cl.hd ha hn htk hm) I.kIn J e (fun z => nomatch z) h
end
end L2
namespace L2
open PySem PySem.Spec PyProof.Rows
structure Room (k : Nat) (A : Around) : Prop where
  hd : A.handled = none
  dp : A.depth + 3 * k + 5 < recursionLimit
  un : A.units + 16 * k + 200 < cLine
theorem Room.mono {j k : Nat} {A : Around} (r : Room k A) (h : j ≤ k) : Room j A := ⟨r.hd, by have := r.dp; omega, by have := r.un; omega⟩
theorem Room.deeper {k : Nat} {A : Around} (r : Room (k + 1) A) (env : Env) : Room k (A.deeper env) :=
  ⟨r.hd, by have := r.dp; show A.depth + 1 + 3 * k + 5 < _; omega, by have := r.un; show A.units + 3 + 16 * k + 200 < _; omega⟩
theorem Room.in1 {k : Nat} {A : Around} (r : Room (k + 1) A) : Room k A.in1 :=
  ⟨r.hd, by have := r.dp; show A.depth + 3 * k + 5 < _; omega, by have := r.un; show A.units + 1 + 16 * k + 200 < _; omega⟩
theorem make_depth {A : Around} {C : Addr} {us : List Value} {kw : List (Str × Value)} : (A.under (.builtin "type.__call__" ⟨.ref C :: us, kw⟩)).depth = A.depth + 1 := by
  first | rfl | simp [Around.under, Code.weight, Code.isCreation, Code.isGuard, Code.isCaller, Code.frames, Code.isFrame, guardIds]
theorem make_units {A : Around} {C : Addr} {us : List Value} {kw : List (Str × Value)} : (A.under (.builtin "type.__call__" ⟨.ref C :: us, kw⟩)).units = A.units + 1 := by
  first | rfl | simp [Around.under, Code.cUnits, Code.frames, Code.isFrame]
theorem Room.make {k : Nat} {A : Around} (r : Room (k + 1) A) (C : Addr) (us : List Value) (kw : List (Str × Value)) : Room k (A.under (.builtin "type.__call__" ⟨.ref C :: us, kw⟩)) :=
  ⟨r.hd, by have := r.dp; rw [make_depth]; omega, by have := r.un; rw [make_units]; omega⟩
theorem Room.depth {k : Nat} {A : Around} (r : Room k A) : A.depth < recursionLimit := by have := r.dp; omega
theorem Room.units {k : Nat} {A : Around} (r : Room k A) : A.units + 64 < cLine := by have := r.un; omega
def tNil : TA := fun _ H Q => Q [] H
def tCons (ta : TE) (tr : TA) : TA := fun σ H Q => ta σ H fun x H1 => tr σ H1 fun xs H2 => Q (x :: xs) H2
section
variable {X : Cx} {e : Expr} {es : List Expr} {te : TE} {t : TA} {pos : Pos}
theorem pa_nil : PA X [] tNil := fun _ _ _ _ H Q I h => Calls.spliced_nil ⟨[], H, I, .nil, h⟩
theorem pa_cons (ha : PE X e te) (hr : PA X es t) (hs : starEach (e :: es) X.env = (false, eval e X.env) :: starEach es X.env := by rfl) : PA X (e :: es) (tCons te t) := by
  intro pos pins s σ H Q I h
  rw [hs]
  show wpAny _ _ (spliced ((false, eval e X.env) :: backTo pos (starEach es X.env))) _ _ s
  refine Calls.spliced_cons (thn (ha pins s σ H _ I h) fun u s1 ⟨x, H1, I1, r1, q1⟩ => ?_)
  exact thn (hr pos pins s1 σ H1 _ I1 q1) fun us s2 ⟨xs, H2, I2, r2, q2⟩ => ⟨x :: xs, H2, I2, .cons r1 r2, q2⟩
def tTup (t : TA) : TE := fun σ H Q => t σ H fun xs H1 => xs.length ≤ sizeLine ∧ ∀ p, H1 p = none → Q (.ref p) (upd H1 p (.tup xs))
def tLst (t : TA) : TE := fun σ H Q => t σ H fun xs H1 => xs.length ≤ sizeLine ∧ ∀ p, H1 p = none → Q (.ref p) (upd H1 p (.lst xs))
theorem pe_tup {x1} (h : PA X es t) : PE X (.Tuple es x1 pos) (tTup t) := by
  intro pins s σ H Q I hq
  refine wpAny_Tuple_spliced (thn (h pos pins s σ H _ I hq) fun us s1 ⟨xs, H1, I1, r, z, q⟩ => ⟨by rw [← r.length]; exact z, ?_⟩)
  have hf : H1 s1.heap.objs.size = none := I1.hok.fresh (Nat.le_refl _)
  refine ⟨.ref s1.heap.objs.size, upd H1 s1.heap.objs.size (.tup xs), I1.laid (t' := s1.toks) (fun b u e => Heap.get?_push_of_some _ e) (Nat.le_refl _) ?_, rfl, q _ hf⟩
  exact ⟨z, us, r, ⟨_, Heap.get?_push_size _ rfl, rfl, _, rfl⟩⟩
theorem pe_lst (h : PA X es t) : PE X (.List es pos) (tLst t) := by
  intro pins s σ H Q I hq
  refine wpAny_List_spliced (thn (h pos pins s σ H _ I hq) fun us s1 ⟨xs, H1, I1, r, z, q⟩ => ⟨by rw [← r.length]; exact z, ?_⟩)
  have hf : H1 s1.heap.objs.size = none := I1.hok.fresh (Nat.le_refl _)
  refine ⟨.ref s1.heap.objs.size, upd H1 s1.heap.objs.size (.lst xs), I1.laid (t' := s1.toks) (fun b u e => Heap.get?_push_of_some _ e) (Nat.le_refl _) ?_, rfl, q _ hf⟩
  exact ⟨z, us, 0, r, Heap.get?_push_size _ rfl⟩
end
abbrev Sp := List V → Hp → VK → XK → Prop
abbrev CXT := List Env → Hp → Shared → XK → Value → Shared → Prop
structure Env0 (P : Program) (w : World) (K : PySem.W.Frag) (mg : Str → Option Value) (base : Heap) (A : Around) (outer : List Env) (s : Shared) (H : Hp) : Prop where
  frames : A.frames = some outer
  mod : Mod K mg base
  bs : ∀ b o, base.get? b = some o → s.heap.get? b = some o ∧ H b = none
  bsz : base.objs.size ≤ s.heap.objs.size
  funs : s.heap.FunFrames base outer
  frf : ∀ b ∈ frs outer, H b = none
  hok : HOk P w H s.heap
  bare : AllBare s.gens
def CE (outer : List Env) (P : Program) (w : World) (H : Hp) (s : Shared) (Q : VK) (u : Value) (s' : Shared) : Prop :=
  ∃ v H', s'.os = s.os ∧ AllBare s'.gens ∧ Un (frs outer) [] H H' s.heap s'.heap ∧ HOk P w H' s'.heap ∧ RelV v u ∧ Q v H'
def CR (CX : CXT) (outer : List Env) (P : Program) (w : World) (H : Hp) (s : Shared) (Q : VK) (E : XK) (r : Result) (s' : Shared) : Prop :=
  match r with
  | .ok (.ret u) => CE outer P w H s Q u s'
  | .ok _ => False
  | .error e => CX outer H s E e s'
structure FnOk (P : Program) (w : World) (K : PySem.W.Frag) (mg : Str → Option Value) (base : Heap) (CX : CXT) (k : Nat) (f : Addr) (fd : FuncData) (ps : List Str) (sp : Sp) : Prop where
  len : ∀ vs H Q E, sp vs H Q E → vs.length = ps.length
  run : ∀ (A : Around) (outer : List Env) (s : Shared) (H : Hp) (args : Args) (us : List Value) (vs : List V) (Q : VK) (E : XK), Room k A → Env0 P w K mg base A outer s H → BindsTo s fd args (ps.zip us) → Vals vs us → sp vs H Q E →
    codeAny (model P w) A (.call (.ref f) args) (CR CX outer P w H s Q E) s
theorem FnOk.mono {P : Program} {w : World} {K : PySem.W.Frag} {mg : Str → Option Value} {base : Heap} {CX : CXT} {j k : Nat} {f : Addr} {fd : FuncData} {ps : List Str} {sp : Sp} (F : FnOk P w K mg base CX j f fd ps sp) (h : j ≤ k) :
    FnOk P w K mg base CX k f fd ps sp := ⟨F.len, fun A outer s H args us vs Q E hr => F.run A outer s H args us vs Q E (hr.mono h)⟩
theorem FnOk.imp {P : Program} {w : World} {K : PySem.W.Frag} {mg : Str → Option Value} {base : Heap} {CX : CXT} {k : Nat} {f : Addr} {fd : FuncData} {ps : List Str} {sp sp' : Sp} (F : FnOk P w K mg base CX k f fd ps sp)
    (h : ∀ vs H Q E, sp' vs H Q E → sp vs H Q E) : FnOk P w K mg base CX k f fd ps sp' :=
  ⟨fun vs H Q E q => F.len vs H Q E (h _ _ _ _ q), fun A outer s H args us vs Q E hr he hb hv hs => F.run A outer s H args us vs Q E hr he hb hv (h _ _ _ _ hs)⟩
theorem Env0.make {P : Program} {w : World} {K : PySem.W.Frag} {mg : Str → Option Value} {base : Heap} {A : Around} {outer : List Env} {s : Shared} {H : Hp} (e : Env0 P w K mg base A outer s H) (C : Addr) (us : List Value) (kw : List (Str × Value)) :
    Env0 P w K mg base (A.under (.builtin "type.__call__" ⟨.ref C :: us, kw⟩)) outer s H := ⟨by first | exact e.frames | (simpa [Around.under, Code.envs, Code.isFrame, pushEnvs] using e.frames), e.mod, e.bs, e.bsz, e.funs, e.frf, e.hok, e.bare⟩
theorem Env0.in1 {P : Program} {w : World} {K : PySem.W.Frag} {mg : Str → Option Value} {base : Heap} {A : Around} {outer : List Env} {s : Shared} {H : Hp} (e : Env0 P w K mg base A outer s H) :
    Env0 P w K mg base A.in1 outer s H := ⟨e.frames, e.mod, e.bs, e.bsz, e.funs, e.frf, e.hok, e.bare⟩
section
variable {X : Cx} {pins : List (Addr × Obj)} {σ : St} {H : Hp} {s s' : Shared}
theorem Inv.env0 (I : Inv X pins σ H s) : Env0 X.prog X.w X.K X.mg X.base X.A X.stack s H :=
  ⟨I.ok.frames, I.ok.mod, I.bs, Nat.le_trans I.ok.bsz I.sz, I.stack, I.stkFree, I.hok, I.bare⟩
theorem Inv.after {Q : VK} {u : Value} (I : Inv X pins σ H s) (h : CE X.stack X.prog X.w H s Q u s') : EP X pins σ Q u s' := by
  obtain ⟨v, H', os, bare, un, hok, r, q⟩ := h
  obtain ⟨hh, g, d, t, os'⟩ := s'
  obtain rfl : os' = s.os := os
  exact ⟨v, H', I.call (h' := hh) (g' := g) (d' := d) (t' := t) (ch := []) un hok bare (fun b z => absurd z (by simp)), r, q⟩
end
def tCall (sp : Sp) (dvs : List V) (E : XK) (t : TA) : TE := fun σ H Q => t σ H fun vs H1 => sp (vs ++ dvs) H1 Q E
def tMeth (C : Addr) (m : Str) (sp : Sp) (dvs : List V) (E : XK) (ta : TE) (t : TA) : TE := fun σ H Q => ta σ H fun x H1 => ∃ a dx fs, x = .ref a ∧ H1 a = some (.ins C dx fs) ∧ fs.lookup m = none ∧
  t σ H1 fun vs H2 => sp (x :: (vs ++ dvs)) H2 Q E
def tMake (C : Addr) (sp : Sp) (dvs : List V) (E : XK) (t : TA) : TE := fun σ H Q => t σ H fun vs H1 => ∀ x dx, H1 x = none → H1 dx = none → dx ≠ x →
  sp (.ref x :: (vs ++ dvs)) (upd (upd H1 dx (.own x)) x (.ins C dx [])) (fun v H2 => v = .non ∧ Q (.ref x) H2) E
def Binds (K : PySem.W.Frag) (fd : FuncData) (ps : List Str) (ds : List Value) : Prop :=
  ∀ (s : Shared) (us : List Value), K.In s.heap → (us ++ ds).length = ps.length → BindsTo s fd ⟨us, []⟩ (ps.zip (us ++ ds))
theorem Binds.all {K : PySem.W.Frag} {fd : FuncData} {ps : List Str} (h : ∀ us : List Value, us.length = ps.length → bindArgs fd ⟨us, []⟩ = pure (ps.zip us)) : Binds K fd ps [] := fun s us _ hl => by
  rw [List.append_nil] at hl ⊢
  exact .of_eq (h us hl)
def Passes (CX : CXT) (X : Cx) (E : XK) : Prop := ∀ (pins : List (Addr × Obj)) (σ : St) (H : Hp) (s : Shared) (e : Value) (s' : Shared), Inv X pins σ H s → CX X.stack H s E e s' → X.xe e s'
section
variable {X : Cx} {CX : CXT} {k : Nat} {f C : Addr} {fd : FuncData} {ps : List Str} {sp : Sp} {dvs : List V} {ds : List Value} {E : XK} {x m : Str} {p pos apos : Pos} {e o : Expr} {es : List Expr} {ta : TE} {t : TA}
theorem run_fn {pins : List (Addr × Obj)} {σ : St} {H : Hp} {s : Shared} {Q : VK} {us : List Value} {vs : List V} (F : FnOk X.prog X.w X.K X.mg X.base CX k f fd ps sp) (hr : Room k X.A) (hb : Binds X.K fd ps ds) (hd : Vals dvs ds) (hx : Passes CX X E)
    (I : Inv X pins σ H s) (r : Vals vs us) (h : sp (vs ++ dvs) H Q E) : wpAny (model X.prog X.w) X.A (call (.ref f) us) (EP X pins σ Q) X.xe s := by
  have r2 : Vals (vs ++ dvs) (us ++ ds) := r.append hd
  have hl : (us ++ ds).length = ps.length := by rw [← r2.length]; exact F.len _ _ _ _ h
  refine wpAny_call (codeAny_mono (F.run X.A X.stack s H ⟨us, []⟩ (us ++ ds) (vs ++ dvs) Q E hr I.env0 (hb s us I.kIn hl) r2 h) fun r s' hq => ?_)
  cases r with
  | error e => exact hx pins σ H s e s' I hq
  | ok fl =>
    cases fl with
    | ret u => exact I.after hq
    | next => exact False.elim hq
    | brk => exact False.elim hq
    | cont => exact False.elim hq
theorem pe_call (F : FnOk X.prog X.w X.K X.mg X.base CX k f fd ps sp) (hr : Room k X.A) (hg : Gl X x) (hm : X.mg x = some (.ref f)) (hk : PySem.W.keepIn X.K (.ref f) = true) (hb : Binds X.K fd ps ds) (hd : Vals dvs ds) (hx : Passes CX X E)
    (ha : PA X (e :: es) t) (hdb : (x == ("__debug__" : Str)) = false := by decide) (he : starEach (e :: es) X.env = (false, eval e X.env) :: starEach es X.env := by rfl) (hpl : (backTo pos (starEach es X.env)).any (·.1) = false := by rfl) :
    PE X (.Call (.Name x p) (e :: es) [] pos) (tCall sp dvs E t) := by
  intro pins s σ H Q I h
  refine wpAny_Call_Name_kw (ld_glob I hg hm ?_ hdb)
  refine PySem.W.callWith_K (h₀ := X.base) I.ok.mod.kin hk (thn (ha pos pins s σ H _ I h) fun us s1 ⟨vs, H1, I1, r, q⟩ => ⟨I1.kIn, ?_⟩) he hpl
  exact run_fn F hr hb hd hx I1 r q
theorem pe_call0 (F : FnOk X.prog X.w X.K X.mg X.base CX k f fd ps sp) (hr : Room k X.A) (hg : Gl X x) (hm : X.mg x = some (.ref f)) (hk : PySem.W.keepIn X.K (.ref f) = true) (hb : Binds X.K fd ps ds) (hd : Vals dvs ds) (hx : Passes CX X E)
    (hdb : (x == ("__debug__" : Str)) = false := by decide) : PE X (.Call (.Name x p) [] [] pos) (tCall sp dvs E tNil) := by
  intro pins s σ H Q I h
  refine wpAny_Call_Name_kw (ld_glob I hg hm ?_ hdb)
  exact PySem.W.callWith_K0 I.kIn hk (run_fn (us := []) F hr hb hd hx I .nil h)
theorem pe_meth {pl : Sem Bool} (he : PE X o ta) (c : Cls X.K C) (hm : Meth X.K C m f) (F : FnOk X.prog X.w X.K X.mg X.base CX k f fd ps sp) (hr : Room k X.A) (hb : Binds X.K fd ps ds) (hd : Vals dvs ds) (hx : Passes CX X E) (ha : PA X (e :: es) t)
    (hst : starEach (e :: es) X.env = (false, eval e X.env) :: starEach es X.env := by rfl) (hpl : (backTo pos (starEach es X.env)).any (·.1) = false := by rfl)
    (ht : eval (.Call (.Attribute o m apos) (e :: es) [] pos) X.env = (do
      let ov ← eval o X.env
      standAt apos.atName
      let (f, first) ← holding [ov] (getMethod ov m pl)
      callWith pos f first (backTo pos (starEach (e :: es) X.env)) (backToKw pos (keywordEach [] X.env))) := by rfl) :
    PE X (.Call (.Attribute o m apos) (e :: es) [] pos) (tMeth C m sp dvs E ta t) := by
  intro pins s σ H Q I h
  refine PySem.W.methodCall_KW (pl := pl) (thn (he pins s σ H _ I h) fun u s1 ⟨x, H1, I1, rx, a, dx, fs, ex, ea, l, q⟩ => ?_) ht
  subst ex
  obtain rfl : u = Value.ref a := rx
  refine getmeth_ok I1 ea c hm l ?_
  refine PySem.W.callWith_K (first := [.ref a]) (h₀ := X.base) I.ok.mod.kin hm.kp (thn (ha pos pins s1 σ H1 _ I1 q) fun us s2 ⟨vs, H2, I2, r, q2⟩ => ⟨I2.kIn, ?_⟩) hst hpl
  exact run_fn (us := .ref a :: us) (vs := .ref a :: vs) F hr hb hd hx I2 (.cons rfl r) q2
structure Mk (K : PySem.W.Frag) (C f : Addr) : Prop where
  makes : PySem.W.makesIn K C = true
  init : PySem.W.findIn K (.ref C) "__init__" = some (some (.ref f))
  fn : PySem.W.isFn K (.ref f) = true
  kp : PySem.W.keepIn K (.ref C) = true
theorem run_make {pins : List (Addr × Obj)} {σ : St} {H : Hp} {s : Shared} {Q : VK} {us : List Value} {vs : List V} (M : Mk X.K C f) (F : FnOk X.prog X.w X.K X.mg X.base CX k f fd ps sp) (hr : Room (k + 1) X.A) (hb : Binds X.K fd ps ds) (hd : Vals dvs ds)
    (hx : Passes CX X E) (I : Inv X pins σ H s) (r : Vals vs us)
    (h : ∀ x dx, H x = none → H dx = none → dx ≠ x → sp (.ref x :: (vs ++ dvs)) (upd (upd H dx (.own x)) x (.ins C dx [])) (fun v H2 => v = .non ∧ Q (.ref x) H2) E) :
    wpAny (model X.prog X.w) X.A (call (.ref C) us) (EP X pins σ Q) X.xe s := by
  have hq := h (s.heap.objs.size + 1) s.heap.objs.size (I.hok.fresh (Nat.le_succ _)) (I.hok.fresh (Nat.le_refl _)) (Nat.ne_of_lt (Nat.lt_succ_self _))
  have I2 := Inv.made (C := C) I
  have r2 : Vals (V.ref (s.heap.objs.size + 1) :: (vs ++ dvs)) (Value.ref (s.heap.objs.size + 1) :: (us ++ ds)) := .cons rfl (r.append hd)
  have hl : (Value.ref (s.heap.objs.size + 1) :: us ++ ds).length = ps.length := by
    have e := r2.length
    rw [F.len _ _ _ _ hq] at e
    exact e.symm
  refine wpAny_call (make_map (f := f) I.kIn M.makes M.init (beq_iff_eq.mp M.fn) (codeAny_mono (F.run _ X.stack _ _ ⟨Value.ref (s.heap.objs.size + 1) :: us, []⟩ (Value.ref (s.heap.objs.size + 1) :: (us ++ ds)) _ _ E (hr.make C us [])
    (I2.env0.make C us []) (hb _ (Value.ref (s.heap.objs.size + 1) :: us) I2.kIn hl) r2 hq) fun r s' hq' => ?_))
  cases r with
  | error e => exact hx pins σ _ _ e s' I2 hq'
  | ok fl =>
    cases fl with
    | ret u =>
      obtain ⟨v, H', I3, rv, ev, q3⟩ := I2.after hq'
      subst ev
      exact ⟨rv, ⟨V.ref (s.heap.objs.size + 1), H', I3, rfl, q3⟩⟩
    | next => exact False.elim hq'
    | brk => exact False.elim hq'
    | cont => exact False.elim hq'
theorem pe_make (M : Mk X.K C f) (F : FnOk X.prog X.w X.K X.mg X.base CX k f fd ps sp) (hr : Room (k + 1) X.A) (hg : Gl X x) (hm : X.mg x = some (.ref C)) (hb : Binds X.K fd ps ds) (hd : Vals dvs ds) (hx : Passes CX X E)
    (ha : PA X (e :: es) t) (hdb : (x == ("__debug__" : Str)) = false := by decide) (he : starEach (e :: es) X.env = (false, eval e X.env) :: starEach es X.env := by rfl) (hpl : (backTo pos (starEach es X.env)).any (·.1) = false := by rfl) :
    PE X (.Call (.Name x p) (e :: es) [] pos) (tMake C sp dvs E t) := by
  intro pins s σ H Q I h
  refine wpAny_Call_Name_kw (ld_glob I hg hm ?_ hdb)
  refine PySem.W.callWith_K (h₀ := X.base) I.ok.mod.kin M.kp (thn (ha pos pins s σ H _ I h) fun us s1 ⟨vs, H1, I1, r, q⟩ => ⟨I1.kIn, ?_⟩) he hpl
  exact run_make M F hr hb hd hx I1 r q
end
def PK (X : Cx) (kws : List Keyword) (t : TA) : Prop :=
  ∀ (pos : Pos) (pins : List (Addr × Obj)) (s : Shared) (σ : St) (H : Hp) (Q : List V → Hp → Prop), Inv X pins σ H s → t σ H Q → wpAny (model X.prog X.w) X.A (evalAll ((backToKw pos (keywordEach kws X.env)).map (·.2))) (AP X pins σ Q) X.xe s
section
variable {X : Cx} {CX : CXT} {k : Nat} {f C : Addr} {fd : FuncData} {ps ks : List Str} {sp : Sp} {E : XK} {x m : Str} {p pos apos kpos : Pos} {e o : Expr} {es : List Expr} {kws : List Keyword} {te ta : TE} {t tk : TA} {nm : Option Str}
structure KBinds (K : PySem.W.Frag) (fd : FuncData) (ps ks : List Str) (g : List Value → List Value → List Value) (gV : List V → List V → List V) : Prop where
  to : ∀ (s : Shared) (us ws : List Value), K.In s.heap → (g us ws).length = ps.length → BindsTo s fd ⟨us, ks.zip ws⟩ (ps.zip (g us ws))
  rel : ∀ {vs : List V} {us : List Value} {zs : List V} {ws : List Value}, Vals vs us → Vals zs ws → Vals (gV vs zs) (g us ws)
variable {g : List Value → List Value → List Value} {gV : List V → List V → List V}
end
structure FnScope (N P : List Str) (sc : Scope) : Prop where
  kind : sc.kind = .function
  co : sc.isCoroutine = false
  gen : sc.isGenerator = false
  nd : N.Nodup
  pre : N.take P.length = P
  par : ∀ x ∈ P, sc.names.lookup x = some .local ∨ sc.names.lookup x = some .cell
  nofree : ∀ y ∈ sc.names, y.2 ≠ .free
theorem bindL_out {kindOf : Str → Option NameKind} {x : Str} : ∀ {binds : List (Str × Value)} {m : Str → Option Value}, (∀ v, (x, v) ∉ binds) → bindL kindOf binds m x = m x
  | [], _, _ => rfl
  | (n, v) :: r, m, h => by
    unfold bindL
    rw [bindL_out fun w hw => h w (List.mem_cons_of_mem _ hw)]
    split
    · have : x ≠ n := by rintro rfl; exact h v List.mem_cons_self
      simp [this]
    · rfl
theorem bindC_out {kindOf : Str → Option NameKind} {x : Str} : ∀ {binds : List (Str × Value)} {m : Str → Option Value}, (∀ v, (x, v) ∉ binds) → bindC kindOf binds m x = m x
  | [], _, _ => rfl
  | (n, v) :: r, m, h => by
    unfold bindC
    rw [bindC_out fun w hw => h w (List.mem_cons_of_mem _ hw)]
    split
    · rfl
    · have : x ≠ n := by rintro rfl; exact h v List.mem_cons_self
      simp [this]
theorem bindL_get {kindOf : Str → Option NameKind} {x : Str} {v : Value} : ∀ {P : List Str} {vs : List Value} {i : Nat} {m : Str → Option Value}, P.Nodup → P[i]? = some x → vs[i]? = some v → kindOf x = some .local →
    bindL kindOf (P.zip vs) m x = some v
  | [], _, _, _, _, h, _, _ => by simp at h
  | _ :: _, [], _, _, _, _, h, _ => by simp at h
  | p :: P, w :: vs, 0, m, nd, h1, h2, hk => by
    simp at h1 h2; subst h1; subst h2
    show bindL kindOf ((p, w) :: P.zip vs) m p = _
    unfold bindL
    rw [bindL_out fun v hv => (List.nodup_cons.mp nd).1 (List.of_mem_zip hv).1, if_pos hk]
    simp
  | p :: P, w :: vs, i + 1, m, nd, h1, h2, hk => by
    show bindL kindOf ((p, w) :: P.zip vs) m x = _
    unfold bindL
    exact bindL_get (i := i) (List.nodup_cons.mp nd).2 (by simpa using h1) (by simpa using h2) hk
theorem bindC_get {kindOf : Str → Option NameKind} {x : Str} {v : Value} : ∀ {P : List Str} {vs : List Value} {i : Nat} {m : Str → Option Value}, P.Nodup → P[i]? = some x → vs[i]? = some v → kindOf x ≠ some .local →
    bindC kindOf (P.zip vs) m x = some v
  | [], _, _, _, _, h, _, _ => by simp at h
  | _ :: _, [], _, _, _, _, h, _ => by simp at h
  | p :: P, w :: vs, 0, m, nd, h1, h2, hk => by
    simp at h1 h2; subst h1; subst h2
    show bindC kindOf ((p, w) :: P.zip vs) m p = _
    unfold bindC
    rw [bindC_out fun v hv => (List.nodup_cons.mp nd).1 (List.of_mem_zip hv).1, if_neg hk]
    simp
  | p :: P, w :: vs, i + 1, m, nd, h1, h2, hk => by
    show bindC kindOf ((p, w) :: P.zip vs) m x = _
    unfold bindC
    exact bindC_get (i := i) (List.nodup_cons.mp nd).2 (by simpa using h1) (by simpa using h2) hk
def start (N : List Str) (vs : List V) : St := vs.map some ++ List.replicate (N.length - vs.length) none
def cxOf (CX : CXT) (P : Program) (w : World) (K : PySem.W.Frag) (mg : Str → Option Value) (base : Heap) (N : List Str) (qual : Str) (scope : Scope) (f : Addr) (cd : Value) (A : Around) (outer : List Env) (s : Shared) (H : Hp) (E : XK) : Cx where
  prog := P
  w := w
  K := K
  mg := mg
  base := base
  A := A.deeper (envOfC qual scope s.heap.objs.size f cd)
  N := N
  s_0 := s
  H_0 := H
  env := envOfC qual scope s.heap.objs.size f cd
  outer := outer
  stack := envOfC qual scope s.heap.objs.size f cd :: outer
  ex := []
  calm := true
  fn := fun _ => true
  pn := []
  xe := fun e s' => wpAny (model P w) (A.deeper (envOfC qual scope s.heap.objs.size f cd)) (leaving (envOfC qual scope s.heap.objs.size f cd) e) (fun _ s'' => CX outer H s E e s'') (fun e' s'' => CX outer H s E e' s'') s'
theorem cell_has {sc : Scope} {n : Nat} {x : Str} (h : sc.names.lookup x = some .cell) : ∃ c, (cellsFrom n sc.names []).lookup x = some c := by
  have q := PySem.W.cellsFrom_some sc.names n [] (.inl h)
  exact Option.isSome_iff_exists.mp q
theorem inv_start {CX : CXT} {P : Program} {w : World} {K : PySem.W.Frag} {mg : Str → Option Value} {base : Heap} {N ps : List Str} {qual : Str} {scope : Scope} {f : Addr} {cd : Value} {A : Around} {outer : List Env} {s s1 : Shared} {H : Hp} {E : XK} {us : List Value} {vs : List V}
    (S : FnScope N ps scope) (hd : A.handled = none) (e0 : Env0 P w K mg base A outer s H) (hl : vs.length = ps.length) (r : Vals vs us)
    (x : InCallC s s.heap.objs.size (bindL (envOfC qual scope s.heap.objs.size f cd).kindOf (ps.zip us) fun _ => none) (cellsFrom (s.heap.objs.size + 1) scope.names []) (bindC (envOfC qual scope s.heap.objs.size f cd).kindOf (ps.zip us) fun _ => none) s1) :
    Inv (cxOf CX P w K mg base N qual scope f cd A outer s H E) [] (start N vs) H s1 := by
  have hpl : ps.length ≤ N.length := by have := congrArg List.length S.pre; rw [List.length_take] at this; omega
  obtain ⟨h1, tk, rfl, hk⟩ := x.done
  have noA : ∀ b : Addr, b ∉ (cxOf CX P w K mg base N qual scope f cd A outer s H E).ex := fun b z => absurd (show b ∈ ([] : List Addr) from z) (by simp)
  refine ⟨⟨e0.mod, S.kind, rfl, rfl, Nat.le_refl _, fun y z c h1 h2 => ?_, fun y hy => ?_, fun y c _ h => ?_, fun _ => hd, Around.frames_deeper e0.frames, .inr ⟨rfl, rfl⟩, fun b z => absurd z (noA b), e0.bs, e0.bsz, fun b _ _ => noA b, fun b z => absurd z (noA b), e0.funs, e0.frf⟩,
    rfl, e0.bare, Un.kept hk, ⟨_, x.toInCall.ns, fun i y v h1 h2 h3 => ?_⟩, fun y c h => ⟨_, x.cell y c h⟩, e0.hok.fresh (Nat.le_refl _), fun y c h => ?_, fun p hp => absurd (show p ∈ ([] : List (Addr × Obj)) from hp) (by simp), e0.hok.kept hk, ?_⟩
  · exact name_of_addr x.apart (PySem.mem_of_lookup h1) (PySem.mem_of_lookup h2)
  · have hy : scope.names.lookup y = some .cell ∨ scope.names.lookup y = some .free := hy
    rcases hy with hy | hy
    · exact cell_has hy
    · exact absurd rfl (S.nofree _ (PySem.mem_of_lookup hy))
  · exact Nat.le_of_lt (x.above y c (PySem.mem_of_lookup h))
  · have hi : i < vs.length := by
      unfold start at h2
      by_cases hi : i < vs.length
      · exact hi
      · rw [List.getElem?_append_right (by simpa using hi)] at h2
        rw [List.getElem?_replicate] at h2
        split at h2 <;> cases h2
    have ha : vs[i]? = some v := by
      unfold start at h2
      rw [List.getElem?_append_left (by simpa using hi), List.getElem?_map] at h2
      cases e : vs[i]? with
      | none => rw [e] at h2; cases h2
      | some a => rw [e] at h2; cases h2; rfl
    obtain ⟨u, hu, rv⟩ := r.get ha
    have hp : ps[i]? = some y := by
      rw [← S.pre, List.getElem?_take_of_lt (by omega)]; exact h1
    have ndP : ps.Nodup := by rw [← S.pre]; exact S.nd.sublist (List.take_sublist _ _)
    refine ⟨u, rv, ?_⟩
    rcases S.par y (List.mem_of_getElem? hp) with k | k
    · exact .inl ⟨k, bindL_get ndP hp hu k⟩
    · obtain ⟨c, e⟩ := cell_has (n := s.heap.objs.size + 1) k
      refine .inr ⟨.inl k, c, e, ?_⟩
      have q := x.cell y c e
      rw [bindC_get ndP hp hu (by show scope.names.lookup y ≠ _; rw [k]; decide)] at q
      exact q
  · exact e0.hok.fresh (Nat.le_of_lt (x.above y c (PySem.mem_of_lookup h)))
  · unfold start
    show _ = N.length
    rw [List.length_append, List.length_map, List.length_replicate]
    omega
theorem fn_of {CX : CXT} {P : Program} {w : World} {K : PySem.W.Frag} {mg : Str → Option Value} {base : Heap} {k : Nat} {f : Addr} {name qual : Str} {params : Arguments} {body : List Stmt} {scope : Scope} {dV kV doc pm cdv ct oc : Value} {an od : Option Addr}
    {osl : Array (Option Value)} {N ps : List Str} {sp : Sp} (lk : K.lookup f = some ⟨oc, od, .func (PySem.W.fnOf name qual params body scope dV kV doc pm an cdv ct), osl⟩) (hcd : PySem.W.codeIn K cdv qual = true) (S : FnScope N ps scope)
    (len : ∀ vs H Q E, sp vs H Q E → vs.length = ps.length)
    (hbody : ∀ (A : Around) (outer : List Env) (s : Shared) (H : Hp) (vs : List V) (Q : VK) (E : XK), Room k (A.deeper (envOfC qual scope s.heap.objs.size f cdv)) → sp vs H Q E →
      ∃ t, PSs (cxOf CX P w K mg base N qual scope f cdv A outer s H E) body t ∧ t { nx := fun _ H' => Q .non H', rt := Q } (start N vs) H) :
    FnOk P w K mg base CX (k + 1) f (PySem.W.fnOf name qual params body scope dV kV doc pm an cdv ct) ps sp := by
  refine ⟨len, fun A outer s H args us vs Q E hr e0 hb r hsp => ?_⟩
  have hl := len _ _ _ _ hsp
  have KX : K.In s.heap := e0.mod.kin.keeps fun b o e => (e0.bs b o e).1
  have lim : s.heap.NoLimit := e0.mod.nolimit.keeps fun b o e => (e0.bs b o e).1
  have hkind : ∀ y ∈ ps.zip us, scope.names.lookup y.1 = some .local ∨ (scope.names.lookup y.1 = some .cell ∧ ((cellsFrom (s.heap.objs.size + 1) scope.names []).lookup y.1).isSome = true) := fun ⟨n, v⟩ hy => by
    rcases S.par n (List.of_mem_zip hy).1 with q | q
    · exact .inl q
    · exact .inr ⟨q, PySem.W.cellsFrom_some _ _ _ (.inl q)⟩
  refine codeAny_call_function hr.depth (KX _ _ lk) rfl S.co S.gen rfl (PySem.W.codeRec_of KX hcd) (hb _ _ _ _ ?_)
  refine wpAny_newFunctionEnv_cells S.kind hkind fun env he s1 x => ?_
  subst he
  refine ⟨lim.keeps x.toInCall.keep, codeAny_func ?_⟩
  obtain ⟨t, ht, hq⟩ := hbody A outer s H vs Q E (hr.deeper _) hsp
  have I : Inv (cxOf CX P w K mg base N qual scope f cdv A outer s H E) [] (start N vs) H s1 := inv_start S hr.hd e0 hl r x
  refine wpAny_mono (ht [] s1 (start N vs) H _ I hq) (fun fl s' hs => ?_) fun e s' hs => hs
  have fin : ∀ {σ' : St} {H' : Hp} {v : V} {u : Value}, Inv (cxOf CX P w K mg base N qual scope f cdv A outer s H E) [] σ' H' s' → RelV v u → Q v H' → CE outer P w H s Q u s' :=
    fun {σ' H' v u} J rv q => ⟨v, H', J.os, J.bare, J.base, J.hok, rv, q⟩
  cases fl with
  | ret u =>
    obtain ⟨v, σ', H', J, rv, q⟩ := hs
    exact fin J rv q
  | next =>
    obtain ⟨σ', H', J, q⟩ := hs
    exact fin (v := V.non) (u := Value.none) J rfl q
  | brk =>
    obtain ⟨_, _, _, q⟩ := hs
    exact False.elim q
  | cont =>
    obtain ⟨_, _, _, q⟩ := hs
    exact False.elim q
end L2
namespace L2
open PySem PySem.Spec PyProof.Rows
section
variable {X : Cx} {x : Str} {p pos : Pos} {e : Expr} {es : List Expr} {t : TA} {id T : String} {r : List V → Hp → VK → Prop}
def tCB (r : List V → Hp → VK → Prop) (t : TA) : TE := fun σ H Q => t σ H fun vs H1 => r vs H1 Q
theorem pe_callB (hc : CallR X (.builtin id) r) (hg : Gl X x) (hm : X.mg x = none) (hv : bootBuiltins x = some (.builtin id)) (ha : PA X (e :: es) t) (hn : x ≠ "__name__" := by decide) (hdb : (x == ("__debug__" : Str)) = false := by decide)
    (he : starEach (e :: es) X.env = (false, eval e X.env) :: starEach es X.env := by rfl) (hpl : (backTo pos (starEach es X.env)).any (·.1) = false := by rfl) : PE X (.Call (.Name x p) (e :: es) [] pos) (tCB r t) := by
  intro pins s σ H Q I h
  refine wpAny_Call_Name_kw (ld_blt I hg hm hv ?_ hn hdb)
  exact PyProof.Rows.callWith_builtin1 (thn (ha pos pins s σ H _ I h) fun us s1 ⟨vs, H1, I1, r1, q1⟩ => hc pins s1 σ H1 vs us Q I1 r1 q1) he hpl
theorem pe_callTy (hc : CallR X (.type T) r) (hg : Gl X x) (hm : X.mg x = none) (hv : bootBuiltins x = some (.type T)) (ha : PA X (e :: es) t) (hn : x ≠ "__name__" := by decide) (hdb : (x == ("__debug__" : Str)) = false := by decide)
    (he : starEach (e :: es) X.env = (false, eval e X.env) :: starEach es X.env := by rfl) (hpl : (backTo pos (starEach es X.env)).any (·.1) = false := by rfl) : PE X (.Call (.Name x p) (e :: es) [] pos) (tCB r t) := by
  intro pins s σ H Q I h
  refine wpAny_Call_Name_kw (ld_blt I hg hm hv ?_ hn hdb)
  exact PyProof.Rows.callWith_type1 (thn (ha pos pins s σ H _ I h) fun us s1 ⟨vs, H1, I1, r1, q1⟩ => hc pins s1 σ H1 vs us Q I1 r1 q1) he hpl
end
end L2
namespace HT
open PySem PyProof.Rows
section
variable {prog : Program} {w : World} {A : Around} {E : Value → Shared → Prop} {s : Shared}
def sIx (n d : Nat) : Option Int → Nat
  | none => d
  | some v => if v < 0 then (v + (n : Int)).toNat else min v.toNat n
theorem sIx_none (n d : Nat) : sIx n d none = d := rfl
theorem sIx_le (n d : Nat) (hd : d ≤ n) (o : Option Int) : sIx n d o ≤ n := by
  cases o with
  | none => exact hd
  | some v =>
    show (if v < 0 then (v + (n : Int)).toNat else min v.toNat n) ≤ n
    by_cases hv : v < 0
    · rw [if_pos hv]; omega
    · rw [if_neg hv]; exact Nat.min_le_right _ _
theorem clip_eq (v : Int) (n d : Nat) : (if v < 0 then max (v + (n : Int)) 0 else min v (n : Int)) = ((sIx n d (some v) : Nat) : Int) := by
  show (if v < 0 then max (v + (n : Int)) 0 else min v (n : Int)) = (((if v < 0 then (v + (n : Int)).toNat else min v.toNat n) : Nat) : Int)
  by_cases hv : v < 0
  · simp only [if_pos hv]; omega
  · simp only [if_neg hv]; omega
theorem adjust_gen (lo hi : Option Int) (n : Nat) : Builtin.Slice.sliceAdjust lo hi 1 (n : Int) = (((sIx n 0 lo : Nat) : Int), ((sIx n n hi : Nat) : Int)) := by
  have h1 : ¬ ((1 : Int) < 0) := by omega
  unfold Builtin.Slice.sliceAdjust
  simp only [h1, if_false]
  refine Prod.ext ?_ ?_
  · cases lo with
    | none => rfl
    | some v => exact clip_eq v n 0
  · cases hi with
    | none => rfl
    | some v => exact clip_eq v n n
theorem places_gen (i j : Nat) : Builtin.Slice.slicePlaces (i : Int) (j : Int) 1 = j - i := by
  unfold Builtin.Slice.slicePlaces
  have h1 : (1 : Int) > 0 := by omega
  simp only [h1, if_true, Int.ediv_one]
  split <;> omega
theorem slicePart_ {v : Value} {o : Option Int} {Q : Option Int → Shared → Prop} (p : IsPart v o) (h : Q o s) : wpAny (model prog w) A (Builtin.Slice.slicePartIndex v) Q E s := by
  cases p with
  | none => exact slicePart_none h
  | int i t => exact slicePart_int h
theorem sliceApplied_gen {sl : Addr} {vl vu : Value} {lo hi : Option Int} {n : Nat} {Q : Int × Int × Nat → Shared → Prop} (hs : s.heap.IsSliceOf sl vl vu .none) (pl : IsPart vl lo) (pu : IsPart vu hi)
    (h : Q (((sIx n 0 lo : Nat) : Int), 1, sIx n n hi - sIx n 0 lo) s) : wpAny (model prog w) A (Builtin.Slice.sliceApplied (.ref sl) (pure (n : Int))) Q E s := by
  obtain ⟨os, hos, hcs, hds⟩ := id hs
  unfold Builtin.Slice.sliceApplied Builtin.Slice.sliceFields
  refine wpAny_bind (wpAny_bind (wpAny_field hos hds (x := vl) rfl (wpAny_bind (wpAny_field hos hds (x := vu) rfl (wpAny_bind (wpAny_field hos hds (x := .none) rfl (wpAny_pure ?_)))))))
  refine wpAny_bind (slicePart_none ?_)
  show wpAny _ _ (if ((1 : Int) == 0) = true then _ else _) _ _ s
  rw [if_neg (by decide)]
  refine wpAny_bind (slicePart_ pl (wpAny_bind (slicePart_ pu (wpAny_bind (wpAny_pure ?_)))))
  show wpAny _ _ (match Builtin.Slice.sliceAdjust lo hi 1 (n : Int) with | (lo, hi) => pure (lo, (1 : Int), Builtin.Slice.slicePlaces lo hi 1)) _ _ s
  rw [adjust_gen lo hi n]
  show wpAny _ _ (pure (((sIx n 0 lo : Nat) : Int), (1 : Int), Builtin.Slice.slicePlaces ((sIx n 0 lo : Nat) : Int) ((sIx n n hi : Nat) : Int) 1)) _ _ s
  rw [places_gen]
  exact wpAny_pure h
theorem pick_gen (xs : Array Value) (i k : Nat) : ((List.range k).filterMap fun (m : Nat) => xs[((i : Int) + (m : Int) * 1).toNat]?).toArray = ((xs.toList.drop i).take k).toArray := by
  have e : (fun (m : Nat) => xs[((i : Int) + (m : Int) * 1).toNat]?) = fun m => xs[i + m]? := by
    funext m
    have : ((i : Int) + (m : Int) * 1).toNat = i + m := by omega
    rw [this]
  rw [e]
  have := pick_run xs i k
  rw [List.filterMap_map] at this
  have e2 : ((fun x => xs[x]?) ∘ fun x => i + x) = fun m => xs[i + m]? := rfl
  rw [e2] at this
  rw [this]
theorem getItem_tuple_cut {t sl : Addr} {items : Array Value} {vl vu : Value} {lo hi : Option Int} {Q : Value → Shared → Prop} (ht : IsTup s.heap t items) (hs : s.heap.IsSliceOf sl vl vu .none) (pl : IsPart vl lo) (pu : IsPart vu hi)
    (hw : ¬ (sIx items.size 0 lo = 0 ∧ sIx items.size items.size hi = items.size))
    (h : Q (.ref s.heap.objs.size) { s with heap := s.heap.push { cls := .type "tuple", data := .seq ((items.toList.drop (sIx items.size 0 lo)).take (sIx items.size items.size hi - sIx items.size 0 lo)).toArray } })
    (hsz : items.size ≤ sizeLine) : wpAny (model prog w) A (getItem (.ref t) (.ref sl)) Q E s := by
  have htake : sizeOk (.seq ((items.toList.drop (sIx items.size 0 lo)).take (sIx items.size items.size hi - sIx items.size 0 lo)).toArray) := by
    show ((items.toList.drop (sIx items.size 0 lo)).take (sIx items.size items.size hi - sIx items.size 0 lo)).toArray.size ≤ sizeLine
    rw [List.size_toArray, List.length_take, List.length_drop, Array.length_toList]
    omega
  have hj : sIx items.size items.size hi ≤ items.size := sIx_le _ _ (Nat.le_refl _) hi
  obtain ⟨os, hos, hcs, hds⟩ := id hs
  have hTs : s.TypeIs (.ref sl) "slice" := ⟨os, hos, hcs⟩
  unfold getItem
  try with_reducible refine wpAny_holding ?_
  first | refine wpAny_bind (wpAny_pure ?_) | skip
  refine wpAny_bind (wpAny_sequenceKey ht.typeIs (by decide) ?_)
  refine wpAny_bind (wpAny_callSpecial?_slot (name := Str.ofString "__getitem__") ht.typeIs PyProof.Rows.slot_tuple_getitem
    (wpAny_call_entry PyProof.Rows.slot_tuple_getitem ht.typeIs entry_tuple_getitem ?_ (args_tuple_getitem _ _)))
  show wpAny _ _ (Builtin.Tuple.tupleItemsOf (.ref t) >>= _) _ _ s
  refine wpAny_bind (tupleItemsOf_ ht ?_)
  refine wpAny_bind (wpAny_typeOf hTs ?_)
  rw [if_pos (by decide)]
  refine wpAny_bind (sliceApplied_gen hs pl pu ?_)
  have hno : ¬ ((((sIx items.size 0 lo : Nat) : Int) == 0 && (1 : Int) == 1 && (sIx items.size items.size hi - sIx items.size 0 lo) == items.size) = true) := by
    intro q
    rw [Bool.and_eq_true, Bool.and_eq_true] at q
    have q1 : ((sIx items.size 0 lo : Nat) : Int) = 0 := eq_of_beq q.1.1
    have q2 : sIx items.size items.size hi - sIx items.size 0 lo = items.size := eq_of_beq q.2
    exact hw ⟨by omega, by omega⟩
  show wpAny _ _ (if (((sIx items.size 0 lo : Nat) : Int) == 0 && (1 : Int) == 1 && (sIx items.size items.size hi - sIx items.size 0 lo) == items.size) = true then _ else _) _ _ s
  rw [if_neg hno, pick_gen]
  first
    | exact wpAny_bind (m := Builtin.Tuple.tupleExact _) (wpAny_newObj_type (wpAny_pure ⟨_, rfl, wpAny_pure h⟩) htake)
    | exact wpAny_bind (m := Builtin.Tuple.tupleExact _) (wpAny_newObj_type (wpAny_bind (wpAny_pure (wpAny_pure ⟨_, rfl, wpAny_pure h⟩))) htake)
    | exact wpAny_bind (wpAny_bind (m := Builtin.Tuple.tupleExact _) (wpAny_newObj_type (wpAny_pure (wpAny_pure ⟨_, rfl, wpAny_pure h⟩)) htake))
    | exact wpAny_bind (wpAny_bind (m := Builtin.Tuple.tupleExact _) (wpAny_newObj_type (wpAny_pure ⟨_, rfl, wpAny_pure h⟩) htake))
end
end HT
namespace L2
open PySem PySem.Spec PyProof.Rows
abbrev TO := St → Hp → (Option Int → Hp → Prop) → Prop
def PO (X : Cx) (e : Option Expr) (t : TO) : Prop :=
  ∀ (pins : List (Addr × Obj)) (s : Shared) (σ : St) (H : Hp) (Q : Option Int → Hp → Prop), Inv X pins σ H s → t σ H Q →
    wpAny (model X.prog X.w) X.A (evalPart e X.env) (fun u s' => ∃ o H', Inv X pins σ H' s' ∧ IsPart u o ∧ Q o H') X.xe s
def tNoPart : TO := fun _ H Q => Q none H
def tPart (t : TE) : TO := fun σ H Q => t σ H fun x H1 => ∃ i, x = .int i ∧ Q (some i) H1
section
variable {X : Cx} {e : Expr} {te : TE} {lo hi : Option Expr} {tl th : TO} {pos p2 : Pos}
theorem po_none : PO X none tNoPart := by
  intro pins s σ H Q I h
  rw [evalPart_none]
  exact wpAny_pure ⟨none, H, I, .none, h⟩
theorem po_some (h : PE X e te) : PO X (some e) (tPart te) := by
  intro pins s σ H Q I hw
  rw [evalPart_some]
  refine thn (h pins s σ H _ I hw) fun u s1 ⟨x, H1, I1, r1, q1⟩ => ?_
  obtain ⟨i, rfl, q⟩ := q1
  obtain ⟨t, rfl⟩ := r1
  exact ⟨some i, H1, I1, .int i t, q⟩
def SlR (X : Cx) (r : V → Option Int → Option Int → Hp → VK → Prop) : Prop :=
  ∀ (pins : List (Addr × Obj)) (s : Shared) (σ : St) (H : Hp) (x : V) (v vl vu : Value) (lo hi : Option Int) (sl : Addr) (Q : VK), Inv X pins σ H s → RelV x v → s.heap.IsSliceOf sl vl vu .none → IsPart vl lo → IsPart vu hi → r x lo hi H Q →
    ∃ T id, typeLookup (.type T) "__getitem__" = pure (some (.builtin id)) ∧ s.TypeIs v T ∧ wpAny (model X.prog X.w) X.A (getItem v (.ref sl)) (EP X pins σ Q) X.xe s
def tSl (r : V → Option Int → Option Int → Hp → VK → Prop) (te : TE) (tl th : TO) : TE := fun σ H Q => te σ H fun x H1 => tl σ H1 fun l H2 => th σ H2 fun u H3 => r x l u H3 Q
theorem pe_slice {r : V → Option Int → Option Int → Hp → VK → Prop} (hr : SlR X r) (he : PE X e te) (hl : PO X lo tl) (hu : PO X hi th) : PE X (.Subscript e (.Slice lo hi none p2) pos) (tSl r te tl th) := by
  intro pins s σ H Q I h
  refine Subscript_ (thn (he pins s σ H _ I h) fun v s1 ⟨x, H1, I1, r1, q1⟩ => ?_)
  refine wpAny_Slice (thn (hl pins s1 σ H1 _ I1 q1) fun vl s2 ⟨l, H2, I2, pl, q2⟩ => thn (hu pins s2 σ H2 _ I2 q2) fun vu s3 ⟨u, H3, I3, pu, q3⟩ => ?_)
  rw [evalPart_none]
  refine wpAny_pure ?_
  have I4 : Inv X pins σ H3 { s3 with heap := s3.heap.push { cls := .type "slice", data := .fields #[vl, vu, .none] } } := I3.kept (t' := s3.toks) fun b ob q => Heap.get?_push_of_some _ q
  obtain ⟨T, id, hT, ht, hg⟩ := hr pins { s3 with heap := s3.heap.push { cls := .type "slice", data := .fields #[vl, vu, .none] } } σ H3 x v vl vu l u s3.heap.objs.size Q I4 r1 (Heap.IsSliceOf.new ..) pl pu q3
  show wpAny (model X.prog X.w) X.A (subscriptTail e (.Slice lo hi none p2) v (.ref s3.heap.objs.size)) (EP X pins σ Q) X.xe { s3 with heap := s3.heap.push { cls := .type "slice", data := .fields #[vl, vu, .none] } }
  exact tail_any (ops := [.ref s3.heap.objs.size, v]) ht hT hg (by with_unfolding_all rfl)
def cutV (xs : List V) (lo hi : Option Int) : List V := (xs.drop (HT.sIx xs.length 0 lo)).take (HT.sIx xs.length xs.length hi - HT.sIx xs.length 0 lo)
theorem cutV_length (xs : List V) (lo hi : Option Int) : (cutV xs lo hi).length ≤ xs.length := by
  unfold cutV
  rw [List.length_take, List.length_drop]
  omega
def rSlT (K : PySem.W.Frag) : V → Option Int → Option Int → Hp → VK → Prop := fun x lo hi H Q => ∃ a xs, x = .ref a ∧ SqT K H a xs ∧
  ¬ (HT.sIx xs.length 0 lo = 0 ∧ HT.sIx xs.length xs.length hi = xs.length) ∧ ∀ p, H p = none → Q (.ref p) (upd H p (.tup (cutV xs lo hi)))
theorem sl_tup : SlR X (rSlT X.K) := by
  intro pins s σ H x v vl vu lo hi sl Q I rx hs pl pu h
  obtain ⟨a, xs, rfl, hx, hw, q⟩ := h
  cases rx
  obtain ⟨its, r, ht, hz⟩ := I.tuple hx
  have hlen : its.toArray.size = xs.length := by rw [List.size_toArray]; exact r.length.symm
  refine ⟨"tuple", _, PyProof.Rows.slot_tuple_getitem.lookup, ht.typeIs, ?_⟩
  refine HT.getItem_tuple_cut ht hs pl pu (by rw [hlen]; exact hw) ?_ (by rw [hlen]; exact hz)
  rw [hlen]
  refine ⟨.ref s.heap.objs.size, _, I.laid (t' := s.toks) (o := .tup (cutV xs lo hi)) (fun b ob q => Heap.get?_push_of_some _ q) (Nat.le_refl _) ?_, rfl, q _ (I.hok.fresh (Nat.le_refl _))⟩
  exact ⟨Nat.le_trans (cutV_length xs lo hi) hz, _, (r.drop (HT.sIx xs.length 0 lo)).take (HT.sIx xs.length xs.length hi - HT.sIx xs.length 0 lo), IsTup.new _ _⟩
end
end L2
namespace L2
open PySem PySem.Spec PyProof.Rows
def ixN (n : Nat) (i : Int) : Option Nat := if 0 ≤ i then (if i < n then some i.toNat else none) else if -(n : Int) ≤ i then some (i + n).toNat else none
def atI {α : Type} (xs : List α) (i : Int) : Option α := (ixN xs.length i).bind fun j => xs[j]?
theorem ixN_seq {n : Nat} {i : Int} {j : Nat} (h : ixN n i = some j) : seqIndex? i n = some j ∧ j < n ∧ -(n : Int) ≤ i ∧ i < n := by
  unfold ixN at h
  by_cases h0 : 0 ≤ i
  · rw [if_pos h0] at h
    by_cases h1 : i < n
    · rw [if_pos h1] at h
      have e : i.toNat = j := Option.some.inj h
      exact ⟨by rw [seqIndex_of h0 h1, e], by omega, by omega, h1⟩
    · rw [if_neg h1] at h; cases h
  · rw [if_neg h0] at h
    by_cases h1 : -(n : Int) ≤ i
    · rw [if_pos h1] at h
      have e : (i + n).toNat = j := Option.some.inj h
      exact ⟨by rw [seqIndex_neg (by omega) h1, e], by omega, h1, by omega⟩
    · rw [if_neg h1] at h; cases h
theorem atI_get {α : Type} {xs : List α} {i : Int} {v : α} (h : atI xs i = some v) : ∃ j, seqIndex? i xs.length = some j ∧ xs[j]? = some v ∧ j < xs.length ∧ -(xs.length : Int) ≤ i ∧ i < xs.length := by
  unfold atI at h
  cases e : ixN xs.length i with
  | none => rw [e] at h; cases h
  | some j =>
    rw [e] at h
    obtain ⟨h1, h2, h3, h4⟩ := ixN_seq e
    exact ⟨j, h1, h, h2, h3, h4⟩
theorem atI_nat {α : Type} {xs : List α} {j : Nat} {v : α} (h : xs[j]? = some v) : atI xs (j : Int) = some v := by
  have hj : j < xs.length := (List.getElem?_eq_some_iff.mp h).1
  have e : ixN xs.length (j : Int) = some j := by
    unfold ixN
    rw [if_pos (by omega), if_pos (by omega)]; simp
  unfold atI; rw [e]; exact h
theorem atI_last {α : Type} (xs : List α) (v : α) : atI (xs ++ [v]) (-1) = some v := by
  have hl : (xs ++ [v]).length = xs.length + 1 := by simp
  have e : ixN (xs ++ [v]).length (-1) = some xs.length := by
    unfold ixN
    rw [hl, if_neg (by decide), if_pos (by omega)]
    congr 1
    omega
  unfold atI
  rw [e]
  show (xs ++ [v])[xs.length]? = some v
  simp
def PlainIx (b : Expr) : Prop := ∀ o i, subscripted b false o i = operate [o, i] (getItem o i)
def IxR (X : Cx) (r : R2) : Prop :=
  ∀ (value slice : Expr) (pins : List (Addr × Obj)) (s : Shared) (σ : St) (H : Hp) (x y : V) (v u : Value) (Q : VK), Inv X pins σ H s → RelV x v → RelV y u → r x y H Q →
    subscripted slice false v u = operate [v, u] (getItem v u) → wpAny (model X.prog X.w) X.A (subscriptTail value slice v u) (EP X pins σ Q) X.xe s
def MtR (X : Cx) (id : String) (r : V → List V → Hp → VK → Prop) : Prop :=
  ∀ (pins : List (Addr × Obj)) (s : Shared) (σ : St) (H : Hp) (x : V) (xs : List V) (v : Value) (us : List Value) (Q : VK), Inv X pins σ H s → RelV x v → Vals xs us → r x xs H Q →
    wpAny (model X.prog X.w) X.A (call (.builtin id) (v :: us)) (EP X pins σ Q) X.xe s
section
variable {X : Cx} {a b : Expr} {ta tb : TE} {pos : Pos}
theorem pe_ix {r : R2} (hr : IxR X r) (ha : PE X a ta) (hb : PE X b tb) (hs : PlainIx b) : PE X (.Subscript a b pos) (tOp r ta tb) := by
  intro pins s σ H Q I h
  exact Subscript_ (binT ha hb I h fun v u s2 x y H2 I2 rx ry q => hr a b pins s2 σ H2 x y v u Q I2 rx ry q (hs _ _))
def rIxL (K : PySem.W.Frag) : R2 := fun x y H Q => ∃ p xs i v, x = .ref p ∧ y = .int i ∧ SqL K H p xs ∧ atI xs i = some v ∧ Q v H
def rIxT (K : PySem.W.Frag) : R2 := fun x y H Q => ∃ p xs i v, x = .ref p ∧ y = .int i ∧ SqT K H p xs ∧ atI xs i = some v ∧ Q v H
def rIxS : R2 := fun x y H Q => ∃ z i c, x = .str z ∧ y = .int i ∧ z.length ≤ sizeLine ∧ atI z.cps.toList i = some c ∧ Q (.str ⟨#[c]⟩) H
theorem ix_list : IxR X (rIxL X.K) := by
  intro value slice pins s σ H x y v u Q I rx ry h hs
  obtain ⟨p, xs, i, z, rfl, rfl, hq, he, q⟩ := h
  cases rx
  obtain ⟨t, rfl⟩ := ry
  obtain ⟨its, r, pl, hz⟩ := I.list hq
  obtain ⟨j, h1, h2, h3, h4, h5⟩ := atI_get he
  obtain ⟨w, ew, rw'⟩ := r.get h2
  have hl := r.length
  have hn := line63
  have fin : EP X pins σ Q w s := ⟨z, H, I, rw', q⟩
  by_cases h0 : 0 ≤ i
  · have hj : i.toNat = j := by
      rw [seqIndex_of h0 h5] at h1
      exact Option.some.inj h1
    exact item_listR pl.isList h0 (by omega) (by rw [hj]; simpa using ew) fin hs
  · have hj : (i + (its.toArray.size : Int)).toNat = j := by
      rw [seqIndex_neg (by omega) h4] at h1
      rw [List.size_toArray, ← hl]
      exact Option.some.inj h1
    exact subscriptTail_builtinR (x := w) pl.isList.typeIs slot_list_getitem.lookup
      (wpAny_getItem_list_neg (Q := fun r s' => r = w ∧ EP X pins σ Q r s') pl.isList (by omega) (by rw [List.size_toArray] <;> omega) (by omega) (by rw [hj]; simpa using ew) ⟨rfl, fin⟩) hs
theorem ix_tup : IxR X (rIxT X.K) := by
  intro value slice pins s σ H x y v u Q I rx ry h hs
  obtain ⟨p, xs, i, z, rfl, rfl, hq, he, q⟩ := h
  cases rx
  obtain ⟨t, rfl⟩ := ry
  obtain ⟨its, r, pl, hz⟩ := I.tuple hq
  obtain ⟨j, h1, h2, h3, h4, h5⟩ := atI_get he
  obtain ⟨w, ew, rw'⟩ := r.get h2
  have hl := r.length
  have hn := line63
  have fin : EP X pins σ Q w s := ⟨z, H, I, rw', q⟩
  exact subscriptTail_builtinR (x := w) pl.typeIs slot_tuple_getitem.lookup
    (getItem_tuple (j := j) (Q := fun r s' => r = w ∧ EP X pins σ Q r s') pl (by omega) (by omega) (by rw [List.size_toArray, ← hl]; exact h1) (by simpa using ew) ⟨rfl, fin⟩) hs
theorem ix_str : IxR X rIxS := by
  intro value slice pins s σ H x y v u Q I rx ry h hs
  obtain ⟨z, i, c, rfl, rfl, hz, he, q⟩ := h
  obtain ⟨t, rfl⟩ := rx
  obtain ⟨t', rfl⟩ := ry
  obtain ⟨j, h1, h2, h3, h4, h5⟩ := atI_get he
  have hl : z.cps.toList.length = z.length := by simp [Str.length]
  rw [hl] at h1 h4 h5
  have hn := line63
  exact tail_any (typeIs_str s z t) slot_str_getitem.lookup (getItem_str (c := c) (by
    have e1 : decide (i < -(2 ^ 63 : Int)) = false := decide_eq_false (by omega)
    have e2 : decide (i ≥ 2 ^ 63) = false := decide_eq_false (by omega)
    rw [e1, e2, Bool.or_false]) (by rw [h1]; simpa using h2) ⟨.str ⟨#[c]⟩, H, I.tok _, ⟨_, rfl⟩, q⟩) hs
theorem mapSeq_set (its : List Value) (n j : Nat) (u : Value) : Obj.mapSeq (·.setIfInBounds j u) { cls := .type "list", data := .seq its.toArray n } = { cls := .type "list", data := .seq (its.set j u).toArray n } := by
  simp [Obj.mapSeq]
theorem Inv.lst {pins : List (Addr × Obj)} {σ : St} {H : Hp} {s : Shared} {p : Addr} {xs : List V} (I : Inv X pins σ H s) (h : H p = some (.lst xs)) :
    ∃ (its : List Value) (n : Nat), Vals xs its ∧ s.heap.get? p = some { cls := .type "list", data := .seq its.toArray n } ∧ xs.length ≤ sizeLine := by
  obtain ⟨z, its, n, r, e⟩ := I.hok p _ h
  exact ⟨its, n, r, e, z⟩
theorem Inv.lstUpd {pins : List (Addr × Obj)} {σ : St} {H : Hp} {s : Shared} {p : Addr} {xs ys : List V} {its its' : List Value} {n n' : Nat} {f : Obj → Obj} (I : Inv X pins σ H s) (h : H p = some (.lst xs))
    (ho : s.heap.get? p = some { cls := .type "list", data := .seq its.toArray n }) (hf : f { cls := .type "list", data := .seq its.toArray n } = { cls := .type "list", data := .seq its'.toArray n' }) (r : Vals ys its') (hz : ys.length ≤ sizeLine) (t : Nat) :
    Inv X pins σ (upd H p (.lst ys)) { s with heap := s.heap.update p f, toks := t } := by
  have e : (s.heap.update p f).get? p = some { cls := .type "list", data := .seq its'.toArray n' } := by
    rw [Heap.get?_update_self f ho (by rw [hf] <;> rfl), hf]
  refine I.write (x := p) (e := p) (by rw [h]; trivial) (.inl rfl) (fun b u hb q => (Heap.get?_update_other _ _ (Ne.symm hb)).trans q) ⟨_, e⟩ ?_
  exact ⟨hz, its', n', r, e⟩
def rSetL : V → V → V → Hp → (Hp → Prop) → Prop := fun o i v H Q => ∃ p xs k j, o = .ref p ∧ i = .int k ∧ H p = some (.lst xs) ∧ ixN xs.length k = some j ∧ Q (upd H p (.lst (xs.set j v)))
theorem set_list : PSet X rSetL := by
  intro pins s σ H o i v ov iv u Q I ro ri rv h
  obtain ⟨p, xs, k, j, rfl, rfl, hp, hj, q⟩ := h
  cases ro
  obtain ⟨t, rfl⟩ := ri
  obtain ⟨its, n, r, ho, hz⟩ := I.lst hp
  obtain ⟨h1, h2, h3, h4⟩ := ixN_seq hj
  have hl := r.length
  have hn := line63
  have I' : Inv X pins σ (upd H p (.lst (xs.set j v))) { s with heap := s.heap.update p (Obj.mapSeq (·.setIfInBounds j u)) } :=
    I.lstUpd hp ho (mapSeq_set its n j u) (r.set rv j) (by rw [List.length_set]; exact hz) s.toks
  by_cases h0 : 0 ≤ k
  · have hk : k.toNat = j := by
      rw [seqIndex_of h0 h4] at h1
      exact Option.some.inj h1
    exact PySem.W.ki_setAt ho h0 (by omega) (by rw [List.size_toArray, ← hl]; exact h4) (by rw [hk]; exact ⟨_, I', q⟩)
  · have hk : (k + (its.toArray.size : Int)).toNat = j := by
      rw [seqIndex_neg (by omega) h3] at h1
      rw [List.size_toArray, ← hl]
      exact Option.some.inj h1
    exact PySem.W.ki_setBack ho (by omega) (by rw [List.size_toArray, ← hl]; exact h3) (by omega) (by rw [hk]; exact ⟨_, I', q⟩)
theorem slice_bounds (lo hi : Option Int) (n : Nat) : (sliceBounds lo hi none n).1 = ((HT.sIx n 0 lo : Nat) : Int) ∧ (sliceBounds lo hi none n).2.1 = ((HT.sIx n n hi : Nat) : Int) ∧ (sliceBounds lo hi none n).2.2 = 1 := by
  refine ⟨?_, ?_, rfl⟩
  · cases lo with
    | none => simp [sliceBounds, HT.sIx]
    | some i =>
      simp only [sliceBounds, HT.sIx, Option.getD_none, show (1 : Int) > 0 by decide, if_true]
      by_cases h : i < 0
      · simp only [h, if_true] <;> omega
      · simp only [h, if_false] <;> omega
  · cases hi with
    | none => simp [sliceBounds, HT.sIx]
    | some i =>
      simp only [sliceBounds, HT.sIx, Option.getD_none, show (1 : Int) > 0 by decide, if_true]
      by_cases h : i < 0
      · simp only [h, if_true] <;> omega
      · simp only [h, if_false] <;> omega
theorem slicePick_cut (its : List Value) (lo hi : Option Int) : slicePick its.toArray lo hi none = ((its.drop (HT.sIx its.length 0 lo)).take (HT.sIx its.length its.length hi - HT.sIx its.length 0 lo)).toArray := by
  obtain ⟨h1, h2, h3⟩ := slice_bounds lo hi its.toArray.size
  unfold slicePick
  rw [h1, h2, h3]
  simp only [sliceRange_one, pick_run, List.size_toArray] <;> rfl
def rSlL (K : PySem.W.Frag) : V → Option Int → Option Int → Hp → VK → Prop := fun x lo hi H Q => ∃ a xs, x = .ref a ∧ SqL K H a xs ∧ ∀ p, H p = none → Q (.ref p) (upd H p (.lst (cutV xs lo hi)))
theorem sl_list : SlR X (rSlL X.K) := by
  intro pins s σ H x v vl vu lo hi sl Q I rx hs pl pu h
  obtain ⟨a, xs, rfl, hx, q⟩ := h
  cases rx
  obtain ⟨its, r, ht, hz⟩ := I.list hx
  have hlen := r.length
  refine ⟨"list", _, slot_list_getitem.lookup, ht.isList.typeIs, ?_⟩
  refine wpAny_getItem_list_slice ht.isList hs pl pu .none (by simp) ?_ (by rw [List.size_toArray] <;> omega)
  rw [slicePick_cut, ← hlen]
  refine ⟨.ref s.heap.objs.size, _, I.laid (t' := s.toks) (o := .lst (cutV xs lo hi)) (fun b ob q => Heap.get?_push_of_some _ q) (Nat.le_refl _) ?_, rfl, q _ (I.hok.fresh (Nat.le_refl _))⟩
  exact ⟨Nat.le_trans (cutV_length xs lo hi) hz, _, 0, (r.drop (HT.sIx xs.length 0 lo)).take (HT.sIx xs.length xs.length hi - HT.sIx xs.length 0 lo), Heap.get?_push_size _ rfl⟩
def flatV : V → Bool
  | .non => true
  | .bl _ => true
  | .int _ => true
  | .str _ => true
  | _ => false
def eqV : V → V → Bool
  | .non, .non => true
  | .bl a, .bl b => a == b
  | .bl a, .int b => (if a then 1 else 0) == b
  | .int a, .bl b => a == (if b then 1 else 0)
  | .int a, .int b => a == b
  | .str a, .str b => a == b
  | _, _ => false
theorem eqAt_V {A : Around} {s : Shared} {y x : V} {u v : Value} (ry : RelV y u) (rx : RelV x v) (fy : flatV y = true) (fx : flatV x = true) : SeqAt.EqAt A s u v (eqV y x) := by
  cases y with
  | non =>
    cases ry
    cases x with
    | non => cases rx; exact SeqAt.EqAt.same _
    | bl b => cases rx; exact SeqAt.EqAt.none_bool b
    | int b => obtain ⟨t, rfl⟩ := rx; exact SeqAt.EqAt.none_int b t
    | str b => obtain ⟨t, rfl⟩ := rx; exact SeqAt.EqAt.none_str b t
    | _ => exact absurd (show false = true from fx) Bool.false_ne_true
  | bl a =>
    cases ry
    cases x with
    | non => cases rx; exact SeqAt.EqAt.bool_none a
    | bl b => cases rx; exact SeqAt.EqAt.bool_bool a b
    | int b => obtain ⟨t, rfl⟩ := rx; exact SeqAt.EqAt.bool_int a b t
    | str b => obtain ⟨t, rfl⟩ := rx; exact SeqAt.EqAt.bool_str a b t
    | _ => exact absurd (show false = true from fx) Bool.false_ne_true
  | int a =>
    obtain ⟨t', rfl⟩ := ry
    cases x with
    | non => cases rx; exact SeqAt.EqAt.int_none a t'
    | bl b => cases rx; exact SeqAt.EqAt.int_bool a t' b
    | int b => obtain ⟨t, rfl⟩ := rx; exact SeqAt.EqAt.int_int a t' b t
    | str b => obtain ⟨t, rfl⟩ := rx; exact SeqAt.EqAt.int_str a t' b t
    | _ => exact absurd (show false = true from fx) Bool.false_ne_true
  | str a =>
    obtain ⟨t', rfl⟩ := ry
    cases x with
    | non => cases rx; exact SeqAt.EqAt.str_none a t'
    | bl b => cases rx; exact SeqAt.EqAt.str_bool a t' b
    | int b => obtain ⟨t, rfl⟩ := rx; exact SeqAt.EqAt.str_int a t' b t
    | str b => obtain ⟨t, rfl⟩ := rx; exact SeqAt.EqAt.str_str a t' b t
    | _ => exact absurd (show false = true from fx) Bool.false_ne_true
  | _ => exact absurd (show false = true from fy) Bool.false_ne_true
def eqU (x : V) (u : Value) : Bool := match u with
  | .none => eqV .non x
  | .bool b => eqV (.bl b) x
  | .int i _ => eqV (.int i) x
  | .str z _ => eqV (.str z) x
  | _ => false
theorem eqU_of {x y : V} {u : Value} (r : RelV y u) (f : flatV y = true) : eqU x u = eqV y x := by
  cases y with
  | non => cases r; rfl
  | bl b => cases r; rfl
  | int i => obtain ⟨t, rfl⟩ := r; rfl
  | str z => obtain ⟨t, rfl⟩ := r; rfl
  | _ => exact absurd (show false = true from f) Bool.false_ne_true
theorem any_eqU {x : V} : ∀ {xs : List V} {us : List Value}, Vals xs us → xs.all flatV = true → us.any (eqU x) = xs.any fun y => eqV y x
  | _, _, .nil, _ => rfl
  | y :: xs, u :: us, .cons r t, f => by
    rw [List.all_cons, Bool.and_eq_true] at f
    rw [List.any_cons, List.any_cons, eqU_of r f.1, any_eqU t f.2]
theorem mem_eqAt {A : Around} {s : Shared} {x : V} {v : Value} (rx : RelV x v) (fx : flatV x = true) : ∀ {xs : List V} {us : List Value}, Vals xs us → xs.all flatV = true → ∀ u ∈ us, SeqAt.EqAt A s u v (eqU x u)
  | _, _, .nil, _ => fun u hu => by cases hu
  | y :: xs, u :: us, .cons r t, f => fun u' hu => by
    rw [List.all_cons, Bool.and_eq_true] at f
    rcases List.mem_cons.mp hu with rfl | hu
    · rw [eqU_of r f.1]; exact eqAt_V r rx f.1 fx
    · exact mem_eqAt rx fx t f.2 u' hu
def inV (x : V) (xs : List V) : Bool := xs.any fun y => eqV y x
def rIn (K : PySem.W.Frag) (neg : Bool) : R2 := fun x y H Q => ∃ p xs, y = .ref p ∧ (SqL K H p xs ∨ SqT K H p xs) ∧ flatV x = true ∧ xs.all flatV = true ∧ Q (.bl (if neg then !inV x xs else inV x xs)) H
theorem op_in_seq : OpR X (compareOp .In) (rIn X.K false) := by
  intro pins s σ H x y v u Q I rx ry h
  obtain ⟨p, xs, rfl, hq, fx, fs, q⟩ := h
  cases ry
  rcases hq with hq | hq
  · obtain ⟨its, r, pl, hz⟩ := I.list hq
    refine SeqAt.in_listAt (eqU x) pl.isList (fun w hw => mem_eqAt rx fx r fs w (by simpa using hw)) ⟨.bl _, H, I, rfl, ?_⟩
    rw [show its.toArray.any (eqU x) = its.any (eqU x) by simp, any_eqU r fs]
    exact q
  · obtain ⟨its, r, pl, hz⟩ := I.tuple hq
    refine SeqAt.in_tupleAt (eqU x) pl (fun w hw => mem_eqAt rx fx r fs w (by simpa using hw)) ⟨.bl _, H, I, rfl, ?_⟩
    rw [show its.toArray.any (eqU x) = its.any (eqU x) by simp, any_eqU r fs]
    exact q
theorem op_notIn_seq : OpR X (compareOp .NotIn) (rIn X.K true) := by
  intro pins s σ H x y v u Q I rx ry h
  obtain ⟨p, xs, rfl, hq, fx, fs, q⟩ := h
  cases ry
  rcases hq with hq | hq
  · obtain ⟨its, r, pl, hz⟩ := I.list hq
    refine SeqAt.notIn_listAt (eqU x) pl.isList (fun w hw => mem_eqAt rx fx r fs w (by simpa using hw)) ⟨.bl _, H, I, rfl, ?_⟩
    rw [show its.toArray.any (eqU x) = its.any (eqU x) by simp, any_eqU r fs]
    exact q
  · obtain ⟨its, r, pl, hz⟩ := I.tuple hq
    refine SeqAt.notIn_tupleAt (eqU x) pl (fun w hw => mem_eqAt rx fx r fs w (by simpa using hw)) ⟨.bl _, H, I, rfl, ?_⟩
    rw [show its.toArray.any (eqU x) = its.any (eqU x) by simp, any_eqU r fs]
    exact q
theorem call_len_seq : CallR X (.builtin "len") (fun xs H Q => ∃ p ys, xs = [.ref p] ∧ (SqL X.K H p ys ∨ SqT X.K H p ys) ∧ Q (.int ys.length) H) := by
  intro pins s σ H xs us Q I r h
  obtain ⟨p, ys, rfl, hq, q⟩ := h
  obtain ⟨u, rfl, rx⟩ := vals1 r
  cases rx
  have hn := line63
  rcases hq with hq | hq
  · obtain ⟨its, r', pl, hz⟩ := I.list hq
    have hlen := r'.length
    exact Calls.call_len_list pl.isList (by simp only [List.size_toArray] <;> omega) ⟨.int ys.length, H, I.tok _, ⟨s.toks + 1, by rw [List.size_toArray, hlen]⟩, q⟩
  · obtain ⟨its, r', pl, hz⟩ := I.tuple hq
    have hlen := r'.length
    exact len_tuple pl (by simp only [List.size_toArray] <;> omega) ⟨.int ys.length, H, I.tok _, ⟨s.toks + 1, by rw [List.size_toArray, hlen]⟩, q⟩
theorem call_len_str : CallR X (.builtin "len") (fun xs H Q => ∃ z, xs = [.str z] ∧ z.length ≤ sizeLine ∧ Q (.int z.length) H) := by
  intro pins s σ H xs us Q I r h
  obtain ⟨z, rfl, hz, q⟩ := h
  obtain ⟨u, rfl, t, rfl⟩ := vals1 r
  have hn := line63
  exact len_str (by omega) ⟨.int z.length, H, I.tok _, ⟨_, rfl⟩, q⟩
theorem call_tuple_of : CallR X (.type "tuple") (fun xs H Q => ∃ p ys, xs = [.ref p] ∧ ((SqL X.K H p ys ∧ ∀ l, H l = none → Q (.ref l) (upd H l (.tup ys))) ∨ (SqT X.K H p ys ∧ Q (.ref p) H))) := by
  intro pins s σ H xs us Q I r h
  obtain ⟨p, ys, rfl, h⟩ := h
  obtain ⟨u, rfl, rx⟩ := vals1 r
  cases rx
  rcases h with ⟨hq, q⟩ | ⟨hq, q⟩
  · obtain ⟨its, r', pl, hz⟩ := I.list hq
    have hlen := r'.length
    refine call_tuple_list pl.isList (fun h' kp => ?_) (by simp only [List.size_toArray] <;> omega)
    have I1 : Inv X pins σ H { s with heap := h' } := I.kept (t' := s.toks) kp
    have I2 : Inv X pins σ (upd H h'.objs.size (.tup ys)) { s with heap := h'.push { cls := .type "tuple", data := .seq its.toArray } } :=
      I1.laid (t' := s.toks) (fun b o e => Heap.get?_push_of_some _ e) (Nat.le_refl _) (show ObjOk X.prog X.w _ _ _ (.tup ys) from ⟨hz, its, r', IsTup.new _ _⟩)
    exact ⟨.ref h'.objs.size, _, I2, rfl, q _ (I1.hok.fresh (Nat.le_refl _))⟩
  · obtain ⟨its, r', pl, hz⟩ := I.tuple hq
    exact call_tuple_same pl ⟨.ref p, H, I, rfl, q⟩
def tyV (K : PySem.W.Frag) (T : String) (x : V) (H : Hp) : Prop := match x with
  | .str _ => T = "str"
  | .int _ => T = "int"
  | .ref p => (T = "list" ∧ ∃ xs, SqL K H p xs) ∨ (T = "tuple" ∧ ∃ o, K.lookup p = some o ∧ o.cls = .type "tuple" ∧ o.dict = none) ∨
      (T = "dict" ∧ ((∃ kvs, H p = some (.dK kvs)) ∨ ∃ kvs, H p = some (.dT kvs))) ∨ (T = "set" ∧ ∃ S n, H p = some (.set S n))
  | _ => False
theorem tyV_is {pins : List (Addr × Obj)} {σ : St} {H : Hp} {s : Shared} {T : String} {x : V} {v : Value} (I : Inv X pins σ H s) (r : RelV x v) (ty : tyV X.K T x H) :
    s.TypeIs v T ∧ ∀ a, v = .ref a → ∃ ob, s.heap.get? a = some ob ∧ ob.dict = none := by
  cases x with
  | str z =>
    obtain ⟨t, rfl⟩ := r
    cases (show T = "str" from ty)
    exact ⟨typeIs_str s z t, fun _ e => nomatch e⟩
  | int i =>
    obtain ⟨t, rfl⟩ := r
    cases (show T = "int" from ty)
    exact ⟨typeIs_int s i t, fun _ e => nomatch e⟩
  | ref p =>
    cases r
    rcases ty with ⟨rfl, xs, hq⟩ | ⟨rfl, o, hk, hc, hd⟩ | ⟨rfl, hk⟩ | ⟨rfl, S, n, hk⟩
    · obtain ⟨its, _, pl, _⟩ := I.list hq
      refine ⟨pl.isList.typeIs, fun a e => ?_⟩
      cases e
      obtain ⟨o, n, e, c, hd, _⟩ := pl
      exact ⟨o, e, hd⟩
    · refine ⟨⟨o, I.kIn p o hk, hc⟩, fun a e => ?_⟩
      cases e
      exact ⟨o, I.kIn _ o hk, hd⟩
    · have z : ∃ o, s.heap.get? p = some o ∧ o.ExactDict := by
        rcases hk with ⟨kvs, hk⟩ | ⟨kvs, hk⟩
        · obtain ⟨_, _, _, _, o, _, _, e, ex, _⟩ := I.hok p _ hk
          exact ⟨o, e, ex⟩
        · obtain ⟨_, _, _, _, o, _, _, e, ex, _⟩ := I.hok p _ hk
          exact ⟨o, e, ex⟩
      obtain ⟨o, e, ex⟩ := z
      refine ⟨⟨o, e, ex.1⟩, fun a e2 => ?_⟩
      cases e2
      exact ⟨o, e, ex.2.1⟩
    · obtain ⟨o, _, _, _, e, ex, _⟩ := I.hok p _ hk
      refine ⟨⟨o, e, ex.1⟩, fun a e2 => ?_⟩
      cases e2
      exact ⟨o, e, ex.2.1⟩
  | _ => exact False.elim ty
def tBM (K : PySem.W.Frag) (T : String) (r : V → List V → Hp → VK → Prop) (to : TE) (t : TA) : TE := fun σ H Q => to σ H fun x H1 => tyV K T x H1 ∧ t σ H1 fun xs H2 => r x xs H2 Q
variable {o e : Expr} {es : List Expr} {to : TE} {t : TA} {name : Str} {apos cpos : Pos} {T id : String} {r : V → List V → Hp → VK → Prop}
theorem pe_bm (pa : PlainAttrs T) (slot : Slot T name id) (hty : typeOf (.builtin id) = pure (.type "method_descriptor")) (hm : MtR X id r) (ho : PE X o to) (ha : PA X (e :: es) t)
    (hbase : attributeBase o name X.env (eval o X.env) = eval o X.env := by rfl)
    (hfew : ((backTo cpos (starEach (e :: es) X.env)).all (fun x => !x.1) && (backToKw cpos (keywordEach [] X.env)).all (fun x => x.1.isSome)
      && decide ((e :: es).length + ([] : List Keyword).length + (if ([] : List Keyword).isEmpty then 0 else 1) < 30)) = true := by rfl)
    (hline : (apos.endLine == cpos.line) = true := by rfl) (hs : starEach (e :: es) X.env = (false, eval e X.env) :: starEach es X.env := by rfl) (hplain : (backTo cpos (starEach es X.env)).any (·.1) = false := by rfl) :
    PE X (.Call (.Attribute o name apos) (e :: es) [] cpos) (tBM X.K T r to t) := by
  intro pins s σ H Q I h
  refine wpAny_Call_method_late hbase hfew hline rfl (thn (ho pins s σ H _ I h) fun v s1 ⟨x, H1, I1, r1, ty, q1⟩ => ?_)
  obtain ⟨h1, h2⟩ := tyV_is I1 r1 ty
  refine ⟨T, id, pa, slot, hty, h1, h2, ?_⟩
  have hA := ha cpos pins s1 σ H1 _ I1 q1
  rw [hs] at hA ⊢
  refine Calls.callWith_builtin (by show (false || (backTo cpos (starEach es X.env)).any (·.1)) = false; rw [hplain] <;> rfl) (Calls.evalArgs_plain ?_)
  exact thn hA fun us s2 ⟨vs, H2, I2, r2, q2⟩ => hm pins s2 σ H2 x vs v us Q I2 r1 r2 q2
end
end L2
namespace L2
open PySem PySem.Spec PyProof.Rows
def MtM (X : Cx) (id : String) (r : V → List V → Hp → VK → Prop) : Prop :=
  ∀ (pins : List (Addr × Obj)) (s : Shared) (σ : St) (H : Hp) (x : V) (xs : List V) (v : Value) (us : List Value) (Q : VK), Inv X pins σ H s → RelV x v → Vals xs us → r x xs H Q →
    wpAny (model X.prog X.w) X.A (call (.builtin id) (v :: us)) (EP X pins σ Q) X.xe s
theorem Vals.one : ∀ {x : V} {us : List Value}, Vals [x] us → ∃ u, us = [u] ∧ RelV x u
  | _, _, .cons r .nil => ⟨_, rfl, r⟩
theorem Vals.zero : ∀ {us : List Value}, Vals [] us → us = []
  | _, .nil => rfl
theorem Vals.dropLast {xs : List V} {us : List Value} (h : Vals xs us) : Vals xs.dropLast us.dropLast := by
  induction h with
  | nil => exact .nil
  | cons r t ih =>
    cases t with
    | nil => exact .nil
    | cons q t' => exact .cons r ih
theorem Vals.reverse {xs : List V} {us : List Value} (h : Vals xs us) : Vals xs.reverse us.reverse := by
  induction h with
  | nil => exact .nil
  | cons r t ih => rw [List.reverse_cons, List.reverse_cons]; exact Vals.append ih (.cons r .nil)
theorem Vals.rep {xs : List V} {us : List Value} (h : Vals xs us) : ∀ k : Nat, Vals (List.replicate k xs).flatten (List.replicate k us).flatten
  | 0 => .nil
  | k + 1 => by
    rw [List.replicate_succ, List.replicate_succ, List.flatten_cons, List.flatten_cons]
    exact Vals.append h (Vals.rep h k)
theorem foldl_rep (its : List Value) : ∀ (k : Nat) (acc : List Value),
    List.foldl (fun x1 x2 => x1 ++ x2) acc.toArray (List.replicate k its.toArray) = (acc ++ (List.replicate k its).flatten).toArray
  | 0, acc => by simp
  | k + 1, acc => by
    have e : acc.toArray ++ its.toArray = (acc ++ its).toArray := by simp
    have e2 : (acc ++ its) ++ (List.replicate k its).flatten = acc ++ (List.replicate (k + 1) its).flatten := by
      rw [List.replicate_succ, List.flatten_cons, List.append_assoc]
    rw [← e2, ← foldl_rep its k (acc ++ its), ← e, List.replicate_succ, List.foldl_cons]
section
variable {X : Cx} {pins : List (Addr × Obj)} {σ : St} {H : Hp} {s : Shared} {l b : Addr} {xs ys zs : List V}
theorem Inv.lset {its its' : List Value} {n : Nat} {f : Array Value → Array Value} {t' : Nat} (I : Inv X pins σ H s) (hH : H l = some (.lst xs))
    (e : s.heap.get? l = some { cls := .type "list", data := .seq its.toArray n }) (hf : f its.toArray = its'.toArray) (hv : Vals ys its') (hz : ys.length ≤ sizeLine) :
    Inv X pins σ (upd H l (.lst ys)) { s with heap := s.heap.update l (Obj.mapSeq f), toks := t' } := by
  have q := PySem.IsL.update e f
  rw [hf] at q
  refine I.write (x := l) (e := l) (by rw [hH]; exact trivial) (.inl rfl) (fun b' u hb hu => (Heap.get?_update_other s.heap (Obj.mapSeq f) (Ne.symm hb)).trans hu) ⟨_, q⟩ ?_
  exact ⟨hz, its', _, hv, q⟩
theorem Inv.lnew {its : List Value} {t' : Nat} (I : Inv X pins σ H s) (hv : Vals ys its) (hz : ys.length ≤ sizeLine) :
    Inv X pins σ (upd H s.heap.objs.size (.lst ys)) { s with heap := s.heap.push { cls := .type "list", data := .seq its.toArray }, toks := t' } :=
  I.laid (fun _ _ q => Heap.get?_push_of_some _ q) (Nat.le_refl _) ⟨hz, its, 0, hv, Heap.get?_push_size _ rfl⟩
theorem Inv.fresh (I : Inv X pins σ H s) : H s.heap.objs.size = none := I.hok.fresh (Nat.le_refl _)
theorem Inv.lstM (I : Inv X pins σ H s) (hH : H l = some (.lst xs)) : xs.length ≤ sizeLine ∧ ∃ (its : List Value) (n : Nat), Vals xs its ∧ xs.length = its.length ∧ s.heap.get? l = some { cls := .type "list", data := .seq its.toArray n } := by
  obtain ⟨z, its, n, r, e⟩ := I.hok l _ hH
  exact ⟨z, its, n, r, r.length, e⟩
theorem notLongL {n : Nat} (h : n ≤ sizeLine) : Builtin.List.listTooLong n = false := by
  unfold Builtin.List.listTooLong
  exact decide_eq_false (by omega)
end
section
variable {X : Cx}
def rAppend : V → List V → Hp → VK → Prop := fun x vs H Q => ∃ l xs y, x = .ref l ∧ vs = [y] ∧ H l = some (.lst xs) ∧ xs.length < sizeLine ∧ Q .non (upd H l (.lst (xs ++ [y])))
theorem mt_append : MtM X "list.append" rAppend := by
  intro pins s σ H x vs v us Q I rx rv h
  obtain ⟨l, xs, y, rfl, rfl, hH, hz, q⟩ := h
  cases rx
  obtain ⟨u, rfl, ru⟩ := rv.one
  obtain ⟨z, its, n, r, hl, e⟩ := I.lstM hH
  refine call_meets F.slot_list_append ⟨_, e, rfl⟩ F.entry_list_append (F.args_list_append_2 _ _) (PySem.list_append l its.toArray n u (by rw [List.size_toArray]; omega)) ⟨e, ?_⟩
  refine ⟨.non, _, I.lset (its' := its ++ [u]) hH e (by simp) (r.append (.cons ru .nil)) ?_, rfl, q⟩
  rw [List.length_append, List.length_singleton]
  omega
def rCat : R2 := fun x y H Q => ∃ l b xs zs, x = .ref l ∧ y = .ref b ∧ H l = some (.lst xs) ∧ H b = some (.lst zs) ∧ xs.length + zs.length ≤ sizeLine ∧ ∀ p, H p = none → Q (.ref p) (upd H p (.lst (xs ++ zs)))
theorem op_cat : OpR X (binaryOp .Add) rCat := by
  intro pins s σ H x y v u Q I rx ry h
  obtain ⟨l, b, xs, zs, rfl, rfl, hH, hB, hz, q⟩ := h
  cases rx
  cases ry
  obtain ⟨z, its, n, r, hl, e⟩ := I.lstM hH
  obtain ⟨z2, its2, n2, r2, hl2, e2⟩ := I.lstM hB
  refine PySem.P.add_list e e2 ?_ (by rw [List.size_toArray, List.size_toArray]; omega)
  have ea : its.toArray ++ its2.toArray = (its ++ its2).toArray := by simp
  rw [ea]
  exact ⟨.ref _, _, I.lnew (t' := s.toks) (r.append r2) (by rw [List.length_append]; omega), rfl, q _ I.fresh⟩
def rRep : R2 := fun x y H Q => ∃ l k xs, x = .ref l ∧ y = .int k ∧ H l = some (.lst xs) ∧ -(2 ^ 63) ≤ k ∧ k < 2 ^ 63 ∧ xs.length * k.toNat ≤ sizeLine ∧
  ∀ p, H p = none → Q (.ref p) (upd H p (.lst (List.replicate k.toNat xs).flatten))
theorem len_rep {α : Type} (xs : List α) (k : Nat) : (List.replicate k xs).flatten.length = k * xs.length := by
  induction k with
  | zero => simp
  | succ k ih => rw [List.replicate_succ, List.flatten_cons, List.length_append, ih, Nat.succ_mul, Nat.add_comm]
theorem op_rep : OpR X (binaryOp .Mult) rRep := by
  intro pins s σ H x y v u Q I rx ry h
  obtain ⟨l, k, xs, rfl, rfl, hH, h1, h2, hz, q⟩ := h
  cases rx
  obtain ⟨t, rfl⟩ := ry
  obtain ⟨z, its, n, r, hl, e⟩ := I.lstM hH
  have hlen : its.toArray.size * k.toNat ≤ sizeLine := by rw [List.size_toArray, ← hl]; exact hz
  have hcap : ¬ its.toArray.size * k.toNat > (2 ^ 63 - 1) / 8 := by
    have : (sizeLine : Nat) ≤ (2 ^ 63 - 1) / 8 := by decide
    omega
  have hfit : ¬ (!Builtin.List.listFitsIndex k) = true := by
    rw [fitsIndex_both h1 h2]
    exact Bool.false_ne_true
  have hlong : ¬ Builtin.List.listTooLong (its.toArray.size * k.toNat) = true := by
    rw [notLongL hlen]
    exact Bool.false_ne_true
  have hnew : List.foldl (fun x1 x2 => x1 ++ x2) #[] (List.replicate (if its.toArray.isEmpty = true then 0 else k.toNat) its.toArray) = (List.replicate k.toNat its).flatten.toArray := by
    have f0 : ∀ m : Nat, List.foldl (fun x1 x2 => x1 ++ x2) #[] (List.replicate m its.toArray) = (List.replicate m its).flatten.toArray := fun m => by
      have := foldl_rep its m []
      rw [List.nil_append] at this
      exact this
    rw [f0]
    cases its with
    | nil => simp
    | cons a r' => rw [if_neg (by simp)]
  refine wpAny_binaryOp_repeat_ref (T := "list") (U := "int") (by decide) ⟨_, e, rfl⟩ (fun s' => typeIs_int s' k t) noFill_list_mul F.fills_int_mul F.slot_int_rmul repeat_list F.slot_int_index.lookup
    (call_meets F.slot_int_rmul (typeIs_int s k t) F.entry_int_rmul (F.args_int_rmul_2 _ _) (int___rmul___int_list k t l its.toArray n)
      ⟨e, rfl, ⟨_, e, rfl⟩, call_meets F.slot_list_mul ⟨_, e, rfl⟩ F.entry_list_mul (F.args_list_mul_2 _ _) (AutoListH.list___mul___list_int_3 l its.toArray n k t hfit hcap hlong) ⟨e, ?_⟩⟩)
  rw [hnew]
  exact ⟨.ref _, _, I.lnew (t' := s.toks) (r.rep k.toNat) (by rw [len_rep, Nat.mul_comm]; exact hz), rfl, q _ I.fresh⟩
end
end L2
namespace L2
open PySem PySem.Spec PyProof.Rows
theorem Vals.ints : ∀ {ns : List Int} {us : List Value}, Vals (ns.map V.int) us → IntsAre us ns
  | [], us, h => by
    rw [List.map_nil] at h
    cases h
    exact IntsAre.nil
  | n :: ns, us, h => by
    rw [List.map_cons] at h
    cases h with
    | cons r t =>
      obtain ⟨k, rfl⟩ := r
      exact IntsAre.cons n k (Vals.ints t)
theorem Vals.strs : ∀ {xs : List Str} {us : List Value}, Vals (xs.map V.str) us → StrsAre us xs
  | [], us, h => by
    rw [List.map_nil] at h
    cases h
    exact StrsAre.nil
  | x :: xs, us, h => by
    rw [List.map_cons] at h
    cases h with
    | cons r t =>
      obtain ⟨k, rfl⟩ := r
      exact StrsAre.cons x k (Vals.strs t)
theorem Vals.bls : ∀ {bs : List Bool} {us : List Value}, Vals (bs.map V.bl) us → us = bs.map Value.bool
  | [], us, h => by
    rw [List.map_nil] at h
    cases h
    rfl
  | b :: bs, us, h => by
    rw [List.map_cons] at h
    cases h with
    | cons r t =>
      cases r
      rw [Vals.bls t, List.map_cons]
theorem Vals.ref1 {a : Addr} {us : List Value} (r : Vals [V.ref a] us) : us = [Value.ref a] := by
  cases r with
  | cons r t =>
    cases t
    cases r
    rfl
section
variable {prog : Program} {w : World} {A : Around} {E : Value → Shared → Prop} {s : Shared} {l : Addr} {its : List Value} {ns : List Int} {Q : Value → Shared → Prop}
theorem sum_raw (hh : A.handled = none) (hl : s.heap.IsList l its.toArray) (hi : IntsAre its ns)
    (h : ∀ h' tk t', (∀ b o, s.heap.get? b = some o → h'.get? b = some o) → Q (.int ns.sum t') { s with heap := h', toks := tk }) : wpAny (model prog w) A (call (.builtin "sum") [.ref l]) Q E s := by
  obtain ⟨xs, e⟩ := hi.allInts.items
  have hn : numsOf (intItems xs).toList = ns := by rw [← e]; exact hi.numsOf
  rw [nums_intItems] at hn
  rw [e] at hl
  refine PySem.sum_intListG hh hl fun h' tk t' hk => ?_
  have := h h' tk t' hk
  rw [preSum_eq, List.take_of_length_le (by simp), hn]; exact this
end
section
variable {X : Cx}
def rSum (K : PySem.W.Frag) : List V → Hp → VK → Prop := fun vs H Q => ∃ (a : Addr) (ns : List Int), vs = [V.ref a] ∧ SqL K H a (ns.map V.int) ∧ Q (.int ns.sum) H
theorem cr_sum (hc : X.calm = true) : CallR X (.builtin "sum") (rSum X.K) := by
  intro pins s σ H vs us Q I r h
  obtain ⟨a, ns, rfl, hs, q⟩ := h
  obtain ⟨its, rv, hl, _⟩ := I.list hs
  rw [Vals.ref1 r]
  exact sum_raw (I.ok.hd hc) hl.isList rv.ints fun h' tk t' hk => ⟨.int _, H, I.kept hk, ⟨_, rfl⟩, q⟩
end
section
variable {X : Cx}
def rIndex (K : PySem.W.Frag) : V → List V → Hp → VK → Prop := fun x xs H Q => ∃ (a : Addr) (ys : List V) (y : V) (j : Nat) (z : V), x = V.ref a ∧ xs = [y] ∧ SqL K H a ys ∧ flatV y = true ∧ ys.all flatV = true ∧ ys[j]? = some z ∧ eqV z y = true ∧
  (∀ (m : Nat) (z' : V), m < j → ys[m]? = some z' → eqV z' y = false) ∧ Q (.int (j : Nat)) H
theorem flat_at {ys : List V} (f : ys.all flatV = true) {j : Nat} {z : V} (h : ys[j]? = some z) : flatV z = true := List.all_eq_true.mp f z (List.mem_of_getElem? h)
theorem mt_index : MtR X "list.index" (rIndex X.K) := by
  intro pins s σ H x xs v us Q I rx rxs h
  obtain ⟨a, ys, y, j, z, rfl, rfl, hs, fy, fys, hz, hzj, hno, q⟩ := h
  cases rx
  cases rxs with
  | cons ry rt =>
    rename_i uy ut
    cases rt
    obtain ⟨its, rv, ⟨⟨cls, dd, data, sl⟩, n, ho, hc, hdn, hd⟩, hlen⟩ := I.list hs
    simp only at hc hd
    subst hc hd
    obtain ⟨u, hu, ru⟩ := rv.get hz
    obtain ⟨hjl, hje⟩ := List.getElem?_eq_some_iff.mp hu
    have hvl := rv.length
    have hj : j < its.toArray.size := by simpa using hjl
    have hsl := sizeLine_eq
    refine call_meets PySem.F.slot_list_index ⟨_, ho, rfl⟩ PySem.F.entry_list_index (PySem.F.args_list_index_2 _ _)
      (SeqAt.list_indexAt a its.toArray n dd sl uy (eqU y) j hj (by omega) ?_ ?_) ⟨ho, fun u' hu' => mem_eqAt ry fy rv fys u' (by simpa using hu'), ?_⟩
    · have e1 : its.toArray[j] = u := by simpa using hje
      rw [e1, eqU_of ru (flat_at fys hz)]
      exact hzj
    · intro m hm hmj
      have hml : m < its.length := by simpa using hm
      have hmy : m < ys.length := by omega
      have hy' : ys[m]? = some ys[m] := List.getElem?_eq_getElem hmy
      obtain ⟨u2, hu2, ru2⟩ := rv.get hy'
      obtain ⟨_, hme⟩ := List.getElem?_eq_some_iff.mp hu2
      have e1 : its.toArray[m] = u2 := by simpa using hme
      rw [e1, eqU_of ru2 (flat_at fys hy')]
      exact hno m _ hmj hy'
    · exact ⟨.int (j : Nat), H, I.tok _, ⟨_, rfl⟩, q⟩
end
theorem iter_any {prog : Program} {w : World} {A : Around} {E : Value → Shared → Prop} {s : Shared} {l : Addr} {items : Array Value} {Q : Value → Shared → Prop} (hl : s.heap.IsList l items)
    (h : ∀ s₂ : Shared, s₂ = { s with heap := s.heap.push { cls := .type "list_iterator", data := .fields #[.ref l, .int 0 0] } } →
      (s₂.heap.IsListIter s.heap.objs.size l 0 ∧ s₂.heap.IsList l items) → l ≠ s.heap.objs.size → Q (.ref s.heap.objs.size) s₂) : wpAny (model prog w) A (pyIter (.ref l)) Q E s := by
  have hlt : l < s.heap.objs.size := by obtain ⟨_, e, _⟩ := hl; exact Heap.lt_size e
  exact wpAny_pyIter_list hl (h _ rfl ⟨⟨_, Heap.get?_push_size _ rfl, rfl, rfl⟩, hl.push _⟩ (Nat.ne_of_lt hlt))
theorem truth_bools {prog : Program} {w : World} {A : Around} {bs : List Bool} {its : List Value} (e : its = bs.map Value.bool) :
    TruthOf prog w A (fun i v => its.toArray[i]? = some v) (fun i => bs.getD i false) := fun i v s Q E hv hq => by
  have hv' : its[i]? = some v := by simpa using hv
  rw [e, List.getElem?_map] at hv'
  obtain ⟨b, hb, rfl⟩ := Option.map_eq_some_iff.mp hv'
  have hg : bs.getD i false = b := by rw [List.getD_eq_getElem?_getD, hb] <;> rfl
  have hq' : Q (bs.getD i false) s := hq
  rw [hg] at hq'
  exact wpAny_truthy_bool hq'
theorem all_range : ∀ bs : List Bool, (List.range bs.length).all (fun i => bs.getD i false) = bs.all id
  | [] => rfl
  | b :: bs => by
    rw [List.length_cons, List.range_succ_eq_map, List.all_cons, List.all_map, List.all_cons, ← all_range bs]
    all_goals rfl
section
variable {X : Cx}
def rAll (K : PySem.W.Frag) : List V → Hp → VK → Prop := fun vs H Q => ∃ (a : Addr) (bs : List Bool), vs = [V.ref a] ∧ SqL K H a (bs.map V.bl) ∧ Q (.bl (bs.all id)) H
theorem cr_all (hc : X.calm = true) : CallR X (.builtin "all") (rAll X.K) := by
  intro pins s σ H vs us Q I r h
  obtain ⟨a, bs, rfl, hs, q⟩ := h
  obtain ⟨its, rv, hl, _⟩ := I.list hs
  rw [Vals.ref1 r]
  have hb := rv.bls
  refine call_all_walk (iter_any hl.isList fun s₂ e2 st hne => ?_)
  subst e2
  refine ⟨_, _, _, _, _, _, _, rfl, Walks.list (A := X.A.in1) (I.ok.hd hc) _ a hne its.toArray, st, truth_bools hb, fun h' tk hk => ?_⟩
  refine ⟨.bl _, H, I.kept fun b o eo => hk b o (fun hmem => ?_) (Heap.get?_push_of_some _ eo), ?_, q⟩
  · rcases List.mem_cons.mp hmem with e1 | hmem
    · exact absurd (e1 ▸ Heap.lt_size eo) (Nat.lt_irrefl _)
    · cases hmem
  · show Value.bool _ = Value.bool _
    rw [← all_range, hb, List.size_toArray, List.length_map]
end
mutual
inductive Dp (K : PySem.W.Frag) (H : Hp) : V → PyData → Prop
  | non : Dp K H .non .none
  | bl (b : Bool) : Dp K H (.bl b) (.bool b)
  | int (i : Int) : Dp K H (.int i) (.int i)
  | str (x : Str) : Dp K H (.str x) (.str x)
  | lst {a : Addr} {xs : List V} {ds : List PyData} : SqL K H a xs → DpAll K H xs ds → Dp K H (.ref a) (.list ds)
  | tup {a : Addr} {xs : List V} {ds : List PyData} : SqT K H a xs → DpAll K H xs ds → Dp K H (.ref a) (.tuple ds)
inductive DpAll (K : PySem.W.Frag) (H : Hp) : List V → List PyData → Prop
  | nil : DpAll K H [] []
  | cons {v : V} {vs : List V} {d : PyData} {ds : List PyData} : Dp K H v d → DpAll K H vs ds → DpAll K H (v :: vs) (d :: ds)
end
section
variable {X : Cx} {pins : List (Addr × Obj)} {σ : St} {H : Hp} {s : Shared}
mutual
theorem Dp.reads (I : Inv X pins σ H s) : ∀ (d : PyData) (v : V) (u : Value), Dp X.K H v d → RelV v u → ∃ as, Reads s.heap u d as
  | .none, _, _, h, r => by
    cases h
    cases r
    exact ⟨_, Reads.none⟩
  | .bool b, _, _, h, r => by
    cases h
    cases r
    exact ⟨_, Reads.bool b⟩
  | .int i, _, _, h, r => by
    cases h
    obtain ⟨t, rfl⟩ := r
    exact ⟨_, Reads.int i t⟩
  | .str x, _, _, h, r => by
    cases h
    obtain ⟨t, rfl⟩ := r
    exact ⟨_, Reads.str x t⟩
  | .list ds, _, _, h, r => by
    cases h with
    | lst hs ha =>
      cases r
      obtain ⟨its, rv, ⟨o, n, ho, hc, _, hd⟩, _⟩ := I.list hs
      obtain ⟨as, hr⟩ := Dp.readsAll I ds _ its ha rv
      exact ⟨_, Reads.list ho hc hd hr⟩
  | .tuple ds, _, _, h, r => by
    cases h with
    | tup hs ha =>
      cases r
      obtain ⟨its, rv, ⟨o, ho, hc, n, hd⟩, _⟩ := I.tuple hs
      obtain ⟨as, hr⟩ := Dp.readsAll I ds _ its ha rv
      exact ⟨_, Reads.tuple ho hc hd hr⟩
  | .dict _, _, _, h, _ => by cases h
theorem Dp.readsAll (I : Inv X pins σ H s) : ∀ (ds : List PyData) (vs : List V) (us : List Value), DpAll X.K H vs ds → Vals vs us → ∃ as, ReadsAll s.heap us ds as
  | [], _, _, h, r => by
    cases h
    cases r
    exact ⟨_, ReadsAll.nil⟩
  | d :: ds, _, _, h, r => by
    cases h with
    | cons h1 h2 =>
      cases r with
      | cons r1 r2 =>
        obtain ⟨as, q1⟩ := Dp.reads I d _ _ h1 r1
        obtain ⟨bs, q2⟩ := Dp.readsAll I ds _ _ h2 r2
        exact ⟨_, ReadsAll.cons q1 q2⟩
end
end
section
variable {X : Cx}
def rEqD (K : PySem.W.Frag) : R2 := fun x y H Q => ∃ d e, Dp K H x d ∧ Dp K H y e ∧ SeqAt.shaped d = true ∧ SeqAt.shaped e = true ∧ Q (.bl (PyData.eqv d e)) H
def rNeD (K : PySem.W.Frag) : R2 := fun x y H Q => ∃ d e, Dp K H x d ∧ Dp K H y e ∧ SeqAt.shaped d = true ∧ SeqAt.shaped e = true ∧ Q (.bl (!PyData.eqv d e)) H
theorem op_eqD (hu : X.A.units + 64 < cLine) : OpR X (compareOp .Eq) (rEqD X.K) := by
  intro pins s σ H x y v u Q I rx ry h
  obtain ⟨d, e, hd, he, sd, se, q⟩ := h
  obtain ⟨as, r1⟩ := Dp.reads I d x v hd rx
  obtain ⟨bs, r2⟩ := Dp.reads I e y u he ry
  exact SeqAt.compareEq_shaped r1 r2 sd se hu ⟨.bl _, H, I, rfl, q⟩
theorem op_neD (hu : X.A.units + 64 < cLine) : OpR X (compareOp .NotEq) (rNeD X.K) := by
  intro pins s σ H x y v u Q I rx ry h
  obtain ⟨d, e, hd, he, sd, se, q⟩ := h
  obtain ⟨as, r1⟩ := Dp.reads I d x v hd rx
  obtain ⟨bs, r2⟩ := Dp.reads I e y u he ry
  exact SeqAt.compareNe_shaped r1 r2 sd se hu ⟨.bl _, H, I, rfl, q⟩
end
end L2
namespace L2
open PySem PySem.Spec PyProof.Rows
abbrev CellAt (h : Heap) (c : Addr) (v : Option Value) : Prop := h.IsCell c v
def relS (scope sc : Scope) : Scope :=
  { scope with names := scope.names.map fun (n, k) => if (k == .free && sc.kind == .function && sc.names.lookup n == some .cell) then (n, .cell) else (n, k) }
def cloFrom (cells : List (Str × Addr)) : List (Str × NameKind) → List (Str × Addr) → List (Str × Addr)
  | [], acc => acc
  | (n, k) :: r, acc => if k == .free then cloFrom cells r ((n, (cells.lookup n).getD 0) :: acc) else cloFrom cells r acc
theorem closure_loop (env : Env) (f : Str × NameKind → List (Str × Addr) → Sem (ForInStep (List (Str × Addr))))
    (hf : ∀ n k c, f (n, k) c = if k == .free then (do let a ← cellOf env n; pure (.yield ((n, a) :: c))) else pure (.yield c)) :
    ∀ (names : List (Str × NameKind)) (acc : List (Str × Addr)), (∀ y ∈ names, y.2 = .free → ∃ c, env.cells.lookup y.1 = some c) → forIn names acc f = pure (cloFrom env.cells names acc)
  | [], acc, _ => by rw [List.forIn_nil]; rfl
  | (n, k) :: r, acc, h => by
    rw [List.forIn_cons, hf]
    have ih := fun acc => closure_loop env f hf r acc fun y hy => h y (List.mem_cons_of_mem _ hy)
    unfold cloFrom
    by_cases hk : (k == NameKind.free) = true
    · rw [if_pos hk, if_pos hk]
      obtain ⟨c, hc⟩ := h (n, k) List.mem_cons_self (by simpa using hk)
      have e : cellOf env n = pure c := by unfold cellOf; rw [hc]
      rw [e]
      have e2 : (env.cells.lookup n).getD 0 = c := by rw [hc]; rfl
      rw [e2]
      exact ih _
    · rw [if_neg hk, if_neg hk]
      exact ih _
theorem closure_ok {scope : Scope} {env : Env} (h : ∀ y ∈ scope.names, y.2 = .free → ∃ c, env.cells.lookup y.1 = some c) : closureFor scope env = pure (cloFrom env.cells scope.names []) := by
  simp only [closureFor]
  rw [closure_loop env _ (fun n k c => rfl) scope.names [] h]
  rfl
theorem mem_lookup {α : Type} : ∀ {l : List (Str × α)} {n : Str} {c : α}, (n, c) ∈ l → ∃ c', l.lookup n = some c'
  | (k, v) :: r, n, c, h => by
    rw [List.lookup_cons]
    cases hb : n == k with
    | true => exact ⟨_, rfl⟩
    | false =>
      rcases List.mem_cons.mp h with e | h
      · cases e; simp at hb
      · exact mem_lookup h
theorem cloFrom_mem {cells : List (Str × Addr)} : ∀ {names : List (Str × NameKind)} {acc : List (Str × Addr)} {n : Str} {c : Addr}, (n, c) ∈ cloFrom cells names acc → (n, c) ∈ acc ∨ ((n, .free) ∈ names ∧ c = (cells.lookup n).getD 0)
  | [], _, _, _, h => .inl h
  | (m, k) :: r, acc, n, c, h => by
    unfold cloFrom at h
    split at h
    · rename_i hk
      have hk : k = .free := by simpa using hk
      rcases cloFrom_mem h with h | ⟨h1, h2⟩
      · rcases List.mem_cons.mp h with e | h
        · cases e; exact .inr ⟨hk ▸ List.mem_cons_self, rfl⟩
        · exact .inl h
      · exact .inr ⟨List.mem_cons_of_mem _ h1, h2⟩
    · rcases cloFrom_mem h with h | ⟨h1, h2⟩
      · exact .inl h
      · exact .inr ⟨List.mem_cons_of_mem _ h1, h2⟩
theorem cloFrom_acc {cells : List (Str × Addr)} : ∀ {names : List (Str × NameKind)} {acc : List (Str × Addr)} {p : Str × Addr}, p ∈ acc → p ∈ cloFrom cells names acc
  | [], _, _, h => h
  | (m, k) :: r, acc, p, h => by
    unfold cloFrom
    split
    · exact cloFrom_acc (List.mem_cons_of_mem _ h)
    · exact cloFrom_acc h
theorem cloFrom_has {cells : List (Str × Addr)} : ∀ {names : List (Str × NameKind)} {acc : List (Str × Addr)} {n : Str}, (n, .free) ∈ names → (n, (cells.lookup n).getD 0) ∈ cloFrom cells names acc
  | (m, k) :: r, acc, n, h => by
    unfold cloFrom
    rcases List.mem_cons.mp h with e | h
    · cases e
      exact cloFrom_acc List.mem_cons_self
    · split
      · exact cloFrom_has h
      · exact cloFrom_has h
theorem cells_mem : ∀ {names : List (Str × NameKind)} {h : Heap} {acc : List (Str × Addr)} {x : Str} {c : Addr}, (x, c) ∈ cellsFrom h.objs.size names acc →
    (x, c) ∈ acc ∨ ((x, .cell) ∈ names ∧ h.objs.size ≤ c ∧ CellAt (pushCells h names) c none)
  | [], _, _, _, _, h => .inl h
  | (n, k) :: r, h, acc, x, c, hm => by
    unfold cellsFrom at hm
    unfold pushCells
    split at hm
    · rename_i hk
      rw [if_pos hk]
      have hk : k = .cell := by simpa using hk
      rw [← Heap.size_push h { cls := .type "cell", data := .cell none }] at hm
      rcases cells_mem hm with hm | ⟨h1, h2, h3⟩
      · rcases List.mem_cons.mp hm with e | hm
        · cases e
          exact .inr ⟨hk ▸ List.mem_cons_self, Nat.le_refl _, _, pushCells_keeps r _ _ _ (Heap.get?_push_size _ rfl), rfl⟩
        · exact .inl hm
      · rw [Heap.size_push] at h2
        exact .inr ⟨List.mem_cons_of_mem _ h1, Nat.le_of_succ_le h2, h3⟩
    · rename_i hk
      rw [if_neg hk]
      rcases cells_mem hm with hm | ⟨h1, h2, h3⟩
      · exact .inl hm
      · exact .inr ⟨List.mem_cons_of_mem _ h1, h2, h3⟩
theorem cells_acc : ∀ {names : List (Str × NameKind)} {n : Nat} {acc : List (Str × Addr)} {p : Str × Addr}, p ∈ acc → p ∈ cellsFrom n names acc
  | [], _, _, _, h => h
  | (m, k) :: r, n, acc, p, h => by
    unfold cellsFrom
    split
    · exact cells_acc (List.mem_cons_of_mem _ h)
    · exact cells_acc h
theorem cells_has : ∀ {names : List (Str × NameKind)} {n : Nat} {acc : List (Str × Addr)} {x : Str}, (x, .cell) ∈ names → ∃ c, (x, c) ∈ cellsFrom n names acc
  | (m, k) :: r, n, acc, x, h => by
    unfold cellsFrom
    rcases List.mem_cons.mp h with e | h
    · cases e
      exact ⟨n, cells_acc List.mem_cons_self⟩
    · split
      · exact cells_has h
      · exact cells_has h
theorem cells_inj : ∀ {names : List (Str × NameKind)} {h : Heap} {acc : List (Str × Addr)} {x y : Str} {c : Addr}, (∀ p ∈ acc, p.2 < h.objs.size) → (∀ x y c, (x, c) ∈ acc → (y, c) ∈ acc → x = y) →
    (x, c) ∈ cellsFrom h.objs.size names acc → (y, c) ∈ cellsFrom h.objs.size names acc → x = y
  | [], _, _, _, _, _, _, hi, h1, h2 => hi _ _ _ h1 h2
  | (n, k) :: r, h, acc, x, y, c, hl, hi, h1, h2 => by
    unfold cellsFrom at h1 h2
    split at h1
    · rename_i hk
      rw [if_pos hk] at h2
      rw [← Heap.size_push h { cls := .type "cell", data := .cell none }] at h1 h2
      refine cells_inj (h := h.push _) (fun p hp => ?_) (fun x y c a b => ?_) h1 h2
      · rw [Heap.size_push]
        rcases List.mem_cons.mp hp with rfl | hp
        · exact Nat.lt_succ_self _
        · exact Nat.lt_succ_of_lt (hl p hp)
      · rcases List.mem_cons.mp a with e | a <;> rcases List.mem_cons.mp b with e' | b
        · cases e; cases e'; rfl
        · cases e; exact absurd (hl _ b) (Nat.lt_irrefl _)
        · cases e'; exact absurd (hl _ a) (Nat.lt_irrefl _)
        · exact hi _ _ _ a b
    · rename_i hk
      rw [if_neg hk] at h2
      exact cells_inj hl hi h1 h2
theorem newEnv_comp {M : Model} {A : Around} {E : Value → Shared → Prop} {s : Shared} {scope : Scope} {globals : Addr} {closure : List (Str × Addr)} {qual : Str} {func : Option Addr} {code : Value} {around : Env} {builtins : Addr} {Q : Env → Shared → Prop}
    (h : Q (newEnv scope s.heap.objs.size globals (cellsFrom (s.heap.objs.size + 1) scope.names closure) qual func code (some around) builtins)
      { s with heap := pushCells (s.heap.push { cls := .type "dict", data := .dict #[] }) scope.names }) :
    wpAny M A (newFunctionEnv scope globals closure [] qual func code (some around) builtins) Q E s := by
  simp only [newFunctionEnv, Option.isSome_some, if_true]
  refine wpAny_bind (wpAny_alloc ?_)
  refine wpAny_bind (wpAny_layCells _ (fun n k c => rfl) scope.names closure _ _ ?_)
  rw [show ({ s with heap := s.heap.push { cls := .type "dict", data := .dict #[] } } : Shared).heap.objs.size = s.heap.objs.size + 1 from Heap.size_push ..]
  rw [List.forIn_nil]
  exact wpAny_bind (wpAny_pure (wpAny_pure h))
theorem lookup_relS {sc : Scope} : ∀ {names : List (Str × NameKind)} {x : Str} {k : NameKind},
    (names.map fun (n, k) => if (k == NameKind.free && sc.kind == .function && sc.names.lookup n == some .cell) then (n, NameKind.cell) else (n, k)).lookup x = some k →
    ∃ k', names.lookup x = some k' ∧ (k = k' ∨ (k' = .free ∧ k = .cell))
  | [], _, _, h => by simp at h
  | (n, k₀) :: r, x, k, h => by
    have ih := @lookup_relS sc r x k
    have h' : List.lookup x ((if (k₀ == NameKind.free && sc.kind == .function && sc.names.lookup n == some .cell) = true then (n, NameKind.cell) else (n, k₀)) :: (r.map _)) = some k := h
    cases hx : x == n with
    | true =>
      simp only [List.lookup_cons, hx]
      by_cases hc : (k₀ == NameKind.free && sc.kind == .function && sc.names.lookup n == some .cell) = true
      · rw [if_pos hc] at h'
        simp only [List.lookup_cons, hx] at h'
        cases h'
        simp only [Bool.and_eq_true, beq_iff_eq] at hc
        exact ⟨k₀, rfl, .inr ⟨hc.1.1, rfl⟩⟩
      · rw [if_neg hc] at h'
        simp only [List.lookup_cons, hx] at h'
        cases h'
        exact ⟨_, rfl, .inl rfl⟩
    | false =>
      simp only [List.lookup_cons, hx]
      by_cases hc : (k₀ == NameKind.free && sc.kind == .function && sc.names.lookup n == some .cell) = true
      · rw [if_pos hc] at h'
        simp only [List.lookup_cons, hx] at h'
        exact ih h'
      · rw [if_neg hc] at h'
        simp only [List.lookup_cons, hx] at h'
        exact ih h'
structure BlkOk (N : List Str) (sc scope : Scope) (own : List (Str × Nat)) : Prop where
  kind : scope.kind = .function
  uniq : ∀ y ∈ scope.names, scope.names.lookup y.1 = some y.2
  ix : ∀ p ∈ own, N[p.2]? = some p.1
  free : ∀ y ∈ scope.names, y.2 = .free → sc.names.lookup y.1 = some .cell ∨ sc.names.lookup y.1 = some .free
  own : ∀ y ∈ scope.names, y.2 = .local ∨ y.2 = .cell → y.1 ∈ own.map (·.1) ∨ y.1 ∉ N
def wipe (σ : St) : List Nat → St
  | [] => σ
  | v :: vs => (wipe σ vs).set v none
theorem wipe_length (σ : St) : ∀ vs : List Nat, (wipe σ vs).length = σ.length
  | [] => rfl
  | v :: vs => by unfold wipe; rw [List.length_set, wipe_length σ vs]
theorem wipe_some {σ : St} {i : Nat} {x : V} : ∀ {vs : List Nat}, (wipe σ vs)[i]? = some (some x) → σ[i]? = some (some x) ∧ i ∉ vs
  | [], h => ⟨h, by simp⟩
  | v :: vs, h => by
    unfold wipe at h
    by_cases hi : v = i
    · subst hi
      by_cases hv : v < (wipe σ vs).length
      · rw [List.getElem?_set_self hv] at h; cases h
      · rw [List.getElem?_eq_none (by simpa using hv)] at h; cases h
    · rw [List.getElem?_set_ne hi] at h
      obtain ⟨h1, h2⟩ := wipe_some h
      exact ⟨h1, by simp only [List.mem_cons, not_or]; exact ⟨fun e => hi e.symm, h2⟩⟩
abbrev Cx.blk (X : Cx) (s : Shared) (H : Hp) (scope : Scope) (cenv : Env) (fp : List Addr) : Cx := { X with s_0 := s, H_0 := H, env := cenv, outer := X.stack, ex := fp, fn := fun x => scope.names.lookup x == some .cell, pn := [], xe := fun _ _ => False }
section
variable {X : Cx} {pins : List (Addr × Obj)} {σ : St} {H : Hp} {s : Shared}
theorem block_start {scope : Scope} {own : List (Str × Nat)} {fp : List Addr} (I : Inv X pins σ H s) (ok : BlkOk X.N X.env.scope scope own) (hN : X.N.Nodup) (hfp : ∀ b ∈ fp, FpOk X pins H b ∧ b < s.heap.objs.size) :
    Inv (X.blk s H scope (compEnvC scope (cellsFrom (s.heap.objs.size + 1) scope.names (cloFrom X.env.cells scope.names [])) s.heap.objs.size X.env) fp) [] (wipe σ (own.map (·.2))) H { s with heap := pushCells (s.heap.push { cls := .type "dict", data := .dict #[] }) scope.names } := by
  have hfree : ∀ y ∈ scope.names, y.2 = .free → ∃ c, X.env.cells.lookup y.1 = some c := fun y hy e => by
    rcases ok.free y hy e with k | k
    · exact I.ok.has _ (.inl k)
    · exact I.ok.has _ (.inr k)
  generalize hcenv : compEnvC scope (cellsFrom (s.heap.objs.size + 1) scope.names (cloFrom X.env.cells scope.names [])) s.heap.objs.size X.env = cenv
  have kp : ∀ b o, s.heap.get? b = some o → (pushCells (s.heap.push { cls := .type "dict", data := .dict #[] }) scope.names).get? b = some o := fun b o e => pushCells_keeps _ _ _ _ (Heap.get?_push_of_some _ e)
  have hL : cenv.locals = s.heap.objs.size := by rw [← hcenv]; rfl
  have hcl : cenv.cells = cellsFrom (s.heap.objs.size + 1) scope.names (cloFrom X.env.cells scope.names []) := by rw [← hcenv]; rfl
  have hsc : cenv.scope = relS scope X.env.scope := by rw [← hcenv]; rfl
  rw [← Heap.size_push s.heap { cls := .type "dict", data := .dict #[] }] at hcl
  have cm : ∀ {y c}, (y, c) ∈ cloFrom X.env.cells scope.names [] → X.env.cells.lookup y = some c ∧ c < s.heap.objs.size := fun {y c} hm => by
    rcases cloFrom_mem hm with hm | ⟨h1, rfl⟩
    · cases hm
    · obtain ⟨c, hc⟩ := hfree _ h1 rfl
      rw [hc]
      obtain ⟨w, z⟩ := I.cell _ _ hc
      exact ⟨rfl, z.lt⟩
  have mem : ∀ {y c}, cenv.cells.lookup y = some c → (X.env.cells.lookup y = some c ∧ c < s.heap.objs.size) ∨ (s.heap.objs.size + 1 ≤ c ∧ CellAt (pushCells (s.heap.push { cls := .type "dict", data := .dict #[] }) scope.names) c none) := fun {y c} e => by
    rw [hcl] at e
    rcases cells_mem (PySem.mem_of_lookup e) with hm | ⟨_, h2, h3⟩
    · exact .inl (cm hm)
    · rw [Heap.size_push] at h2; exact .inr ⟨h2, h3⟩
  have look : ∀ {y}, scope.names.lookup y = some .free → ∃ c, cenv.cells.lookup y = some c ∧ X.env.cells.lookup y = some c := fun {y} hl => by
    have hy : (y, NameKind.free) ∈ scope.names := PySem.mem_of_lookup hl
    obtain ⟨c', e'⟩ := mem_lookup (cells_acc (names := scope.names) (n := (s.heap.push { cls := .type "dict", data := .dict #[] }).objs.size) (cloFrom_has (cells := X.env.cells) (acc := []) hy))
    rw [← hcl] at e'
    refine ⟨c', e', ?_⟩
    rw [hcl] at e'
    rcases cells_mem (PySem.mem_of_lookup e') with hm | ⟨h1, _, _⟩
    · exact (cm hm).1
    · have := ok.uniq _ h1
      rw [hl] at this; cases this
  have okB : (X.blk s H scope cenv fp).Ok := by
    refine ⟨I.ok.mod, by show cenv.scope.kind = _; rw [hsc]; exact ok.kind, by show cenv.globals = _; rw [← hcenv]; exact I.ok.glob, by show cenv.builtins = _; rw [← hcenv]; exact I.ok.blt, by show s.heap.objs.size ≤ cenv.locals; rw [hL]; exact Nat.le_refl _,
      fun y z c e1 e2 => ?_, fun y hy => ?_, fun y c z e => ?_, I.ok.hd, I.ok.frames, .inl rfl, fun b hb => ⟨?_, fun y c e z => ?_⟩, I.bs, Nat.le_trans I.ok.bsz I.sz, fun b o e hb => ?_, fun b hb z => ?_, I.stack, I.stkFree⟩
    · have e1 : cenv.cells.lookup y = some c := e1
      have e2 : cenv.cells.lookup z = some c := e2
      rw [hcl] at e1 e2
      refine cells_inj (fun p hp => ?_) (fun y z c a b => I.ok.inj y z c (cm a).1 (cm b).1) (PySem.mem_of_lookup e1) (PySem.mem_of_lookup e2)
      rw [Heap.size_push]
      exact Nat.lt_succ_of_lt (cm (y := p.1) (c := p.2) hp).2
    · show ∃ c, cenv.cells.lookup y = some c
      have key : ∀ k, cenv.kindOf y = some k → (k = .cell ∨ k = .free) → ∃ c, cenv.cells.lookup y = some c := fun k hk hk' => by
        unfold Env.kindOf at hk
        rw [hsc] at hk
        obtain ⟨k', e, r⟩ := lookup_relS hk
        have : k' = .cell ∨ k' = .free := by
          rcases r with rfl | ⟨rfl, _⟩
          · exact hk'
          · exact .inr rfl
        rcases this with rfl | rfl
        · obtain ⟨c, hm⟩ := cells_has (n := (s.heap.push { cls := .type "dict", data := .dict #[] }).objs.size) (acc := cloFrom X.env.cells scope.names []) (PySem.mem_of_lookup e)
          obtain ⟨c', e'⟩ := mem_lookup hm
          exact ⟨c', by rw [hcl]; exact e'⟩
        · obtain ⟨c, h1, _⟩ := look e
          exact ⟨c, h1⟩
      rcases hy with hy | hy
      · exact key _ hy (.inl rfl)
      · exact key _ hy (.inr rfl)
    · have z : (scope.names.lookup y == some NameKind.cell) = true := z
      have z : scope.names.lookup y = some .cell := by simpa using z
      have e : cenv.cells.lookup y = some c := e
      rw [hcl] at e
      rcases cells_mem (PySem.mem_of_lookup e) with hm | ⟨_, h2, _⟩
      · rcases cloFrom_mem hm with hm | ⟨h1, _⟩
        · cases hm
        · have q := ok.uniq _ h1
          rw [z] at q; cases q
      · rw [Heap.size_push] at h2
        exact Nat.le_of_succ_le h2
    · show b ≠ cenv.locals
      rw [hL]; exact Nat.ne_of_lt (hfp b hb).2
    · have e : cenv.cells.lookup y = some c := e
      rcases mem e with ⟨h1, _⟩ | ⟨h1, _⟩
      · exact (hfp b hb).1.2.2.2.2.1 y c h1 z
      · have h2 : s.heap.objs.size + 1 ≤ b := by rw [← z]; exact h1
        exact absurd (Nat.lt_of_lt_of_le (hfp b hb).2 (Nat.le_of_succ_le h2)) (Nat.lt_irrefl _)
    · rcases (hfp b hb).1.2.2.2.1 with z | z
      · exact I.ok.noex b o e z
      · exact absurd (Nat.lt_of_lt_of_le (Heap.lt_size e) (Nat.le_trans I.ok.bsz z)) (Nat.lt_irrefl _)
    · rcases List.mem_cons.mp (I.stkSub b z) with z | z
      · exact (hfp b hb).1.2.1 z
      · exact (hfp b hb).1.2.2.1 z
  refine ⟨okB, rfl, I.bare, Un.kept kp, ⟨fun _ => none, ?_, fun i y av e1 e2 e3 => ?_⟩, fun y c e => ?_, ?_, fun y c e => ?_, fun p hp => ?_, I.hok.kept kp, by rw [wipe_length]; exact I.len⟩
  · show Heap.Ns _ cenv.locals _
    rw [hL]
    exact Heap.Ns.keeps (Heap.Ns.new ..) fun b o e => pushCells_keeps _ _ _ _ e
  · obtain ⟨e2, hne⟩ := wipe_some e2
    have hfr : scope.names.lookup y = some .free ∧ (cenv.kindOf y = some .cell ∨ cenv.kindOf y = some .free) := by
      have key : ∀ k, cenv.scope.names.lookup y = some k → k = .local ∨ k = .cell ∨ k = .free → scope.names.lookup y = some .free ∧ (cenv.kindOf y = some .cell ∨ cenv.kindOf y = some .free) := fun k hk hk' => by
        have hk0 := hk
        rw [hsc] at hk
        obtain ⟨k', e, r⟩ := lookup_relS hk
        have no : ¬ (k' = .local ∨ k' = .cell) := fun hh => by
          rcases ok.own _ (PySem.mem_of_lookup e) hh with e' | e'
          · obtain ⟨p, hp, hpy⟩ := List.mem_map.mp e'
            have e3 := ok.ix p hp
            have : p.1 = y := hpy
            rw [this] at e3
            exact hne (List.mem_map.mpr ⟨p, hp, nodup_ix hN e3 e1⟩)
          · exact e' (List.mem_of_getElem? e1)
        rcases r with rfl | ⟨rfl, rfl⟩
        · rcases hk' with rfl | rfl | rfl
          · exact absurd (.inl rfl) no
          · exact absurd (.inr rfl) no
          · exact ⟨e, .inr hk0⟩
        · exact ⟨e, .inl hk0⟩
      have e3 : Vis cenv.scope y := e3
      rcases e3 with e3 | e3 | e3
      · exact key _ e3 (.inl rfl)
      · exact key _ e3 (.inr (.inl rfl))
      · exact key _ e3 (.inr (.inr rfl))
    obtain ⟨m, hn, hl⟩ := I.loc
    have hvis : Vis X.env.scope y := (ok.free _ (PySem.mem_of_lookup hfr.1) rfl).elim (fun k => .inr (.inl k)) (fun k => .inr (.inr k))
    obtain ⟨w, r, q⟩ := hl i y av e1 e2 hvis
    refine ⟨w, r, .inr ⟨hfr.2, ?_⟩⟩
    obtain ⟨c, h1, h2⟩ := look hfr.1
    rcases q with ⟨k, _⟩ | ⟨_, c', e', z⟩
    · have k : X.env.scope.names.lookup y = some .local := k
      rcases ok.free _ (PySem.mem_of_lookup hfr.1) rfl with k' | k' <;> rw [show X.env.scope.names.lookup y = _ from k'] at k <;> cases k
    · rw [h2] at e'; cases e'
      exact ⟨c, h1, z.keeps kp⟩
  · have e : cenv.cells.lookup y = some c := e
    rcases mem e with ⟨h1, _⟩ | ⟨_, z⟩
    · obtain ⟨w, z⟩ := I.cell y c h1
      exact ⟨w, z.keeps kp⟩
    · exact ⟨_, z⟩
  · show H cenv.locals = none
    rw [hL]; exact I.hok.fresh (Nat.le_refl _)
  · have e : cenv.cells.lookup y = some c := e
    rcases mem e with ⟨h1, _⟩ | ⟨h1, _⟩
    · exact I.freeC y c h1
    · exact I.hok.fresh (Nat.le_of_succ_le h1)
  · exact absurd (show p ∈ ([] : List (Addr × Obj)) ++ [] from hp) (by simp)
theorem app_ok {E : Value → Shared → Prop} {D : Addr} {xs : List V} {y : V} {v : Value} {Q : Value → Shared → Prop} (I : Inv X pins σ H s) (hD : H D = some (.lst xs)) (hz : xs.length < sizeLine) (r : RelV y v)
    (h : ∀ s', Inv X pins σ (upd H D (.lst (xs ++ [y]))) s' → Q .none s') : wpAny (model X.prog X.w) X.A (call (.builtin "list.append") [.ref D, v]) Q E s := by
  obtain ⟨hz', its, n, ri, e⟩ := I.hok D _ hD
  have hl := ri.length
  refine append_at (hsz := by rw [List.size_toArray]; omega) e fun h' sb ho' => ?_
  refine h { s with heap := h' } (I.write (t' := s.toks) (by rw [hD]; trivial) (.inl rfl) (fun b u hb q => (sb.2 b hb).trans q) ⟨_, ho'⟩ ⟨by rw [List.length_append]; exact hz, its ++ [v], n + 1, ri.append (.cons r .nil), ?_⟩)
  rw [ho']
  simp
def PTs (X : Cx) (ifs : List Expr) (t : TT) : Prop :=
  ∀ (pins : List (Addr × Obj)) (s : Shared) (σ : St) (H : Hp) (Q : Bool → Hp → Prop), Inv X pins σ H s → t σ H Q →
    wpAny (model X.prog X.w) X.A (forIn ifs true fun c r => if r = true then do let ok ← isTrue c X.env (eval c X.env); pure (ForInStep.yield ok) else pure (ForInStep.yield r)) (TP X pins σ Q) X.xe s
def tYes : TT := fun _ H Q => Q true H
theorem pts_nil : PTs X [] tYes := fun _ _ _ H _ I h => wpAny_tests_nil ⟨H, I, h⟩
theorem pts_one {c : Expr} {t : TT} (h : PT X c t) : PTs X [c] t := fun pins s σ H Q I hw => wpAny_tests_one (h pins s σ H Q I hw)
end
theorem thnF {α : Type} {t : Sem α} {Q Q' : α → Shared → Prop} {M : Model} {A : Around} {E : Value → Shared → Prop} {s : Shared} (h : wpAny M A t Q (fun _ _ => False) s) (hQ : ∀ a s, Q a s → Q' a s) : wpAny M A t Q' E s := wpAny_mono h hQ fun _ _ z => False.elim z
theorem compLoop_any {prog : Program} {w : World} {A : Around} {R : Result → Shared → Prop} {s : Shared} {elt target iter : Expr} {ifs : List Expr} {scope : Scope} {pos : Pos} {it acc : Value} {env : Env} (I : Nat → Shared → Prop)
    (turn : ∀ n s, I n s → wpAny (model prog w) A (pyNext it) (fun r s₁ => match r with
      | none => R (.ok .next) s₁
      | some v => wpAny (model prog w) A (letOwnedTupleGo target it v) (fun _ s₁' => wpAny (model prog w) A (assign target env v) (fun _ s₂ =>
          wpAny (model prog w) A (forIn ifs true fun c r => if r = true then do let ok ← isTrue c env (eval c env); pure (ForInStep.yield ok) else pure (ForInStep.yield r)) (fun ok s₃ =>
            if ok = true then wpAny (model prog w) A (eval elt env) (fun x s₄ =>
              wpAny (model prog w) A (call (.builtin "list.append") [acc, x]) (fun _ s₅ => ∃ m, m < n ∧ I m s₅) (notedBy (model prog w) A env fun e s' => R (.error e) s') s₄) (notedBy (model prog w) A env fun e s' => R (.error e) s') s₃
            else ∃ m, m < n ∧ I m s₃) (notedBy (model prog w) A env fun e s' => R (.error e) s') s₂) (notedBy (model prog w) A env fun e s' => R (.error e) s') s₁') (notedBy (model prog w) A env fun e s' => R (.error e) s') s₁) (notedBy (model prog w) A env fun e s' => R (.error e) s') s)
    (n : Nat) (h : I n s) :
    codeAny (model prog w) A (.compLoop (.ListComp elt [⟨target, iter, ifs, 0⟩] scope pos) 0 it acc env) R s := by
  refine codeAny_loop rfl I (fun n s hI => ?_) n h
  show wpAny _ A ((compTurn (.ListComp elt [⟨target, iter, ifs, 0⟩] scope pos) 0 it acc env).onRaise (fun x => do noteFrame x env; theTreesLotGoes x)) _ _ s
  refine wpAny_noted ?_
  rw [compTurn_list]
  refine wpAny_bind (wpAny_standAt (wpAny_bind (wpAny_mono (turn n s hI) (fun r s₁ h₁ => ?_) fun _ _ h' => h')))
  cases r with
  | none => exact wpAny_pure h₁
  | some v =>
    refine wpAny_bind (wpAny_mono h₁ (fun _ s₁' h₁' => ?_) fun _ _ h' => h')
    refine wpAny_bind (wpAny_mono h₁' (fun _ s₂ h₂ => wpAny_bind (wpAny_mono h₂ (fun ok s₃ h₃ => ?_) fun _ _ h' => h')) fun _ _ h' => h')
    cases ok with
    | false => exact wpAny_pure ⟨rfl, h₃⟩
    | true =>
      exact wpAny_bind (wpAny_bind (wpAny_mono h₃ (fun x s₄ h₄ => wpAny_bind (wpAny_mono h₄ (fun _ s₅ h₅ => wpAny_pure (wpAny_pure ⟨rfl, h₅⟩)) fun _ _ h' => h')) fun _ _ h' => h'))
section
variable {X : Cx}
def tLc (wi : TI) (g : TG) (tt : TT) (te : TE) (vs : List Nat) : TE := fun σ H Q => wi σ H fun J H1 => ∀ D, H1 D = none → ∃ W : Nat → Nat → Hp → Prop, (∃ m, W 0 m (upd H1 D (.lst []))) ∧ ∀ i m H, W i m H →
  (J.stop i H ∧ Q (.ref D) H) ∨ (J.go i H ∧ ∃ Nx : Hp → Prop, (∀ H', Nx H' → ∃ m', m' < m ∧ W (i + 1) m' H') ∧ ∀ x H', J.yld i H x H' → g x (wipe σ vs) H' fun σ2 H2 => wipe σ2 vs = wipe σ vs ∧ tt σ2 H2 fun b H3 =>
    if b = true then te σ2 H3 fun y H4 => ∃ acc, H4 D = some (.lst acc) ∧ acc.length < sizeLine ∧ Nx (upd H4 D (.lst (acc ++ [y]))) else Nx H3)
theorem lc_core {pins : List (Addr × Obj)} {s : Shared} {σ : St} {H : Hp} {Q : VK} {elt tg iter : Expr} {ifs : List Expr} {scope : Scope} {own : List (Str × Nat)} {pos pos' : Pos} {wi : TI} {g : TG} {tt : TT} {te : TE} {use : Option (Value → Sem Unit)} {Qf : Value → Shared → Prop}
    (hc : X.calm = true) (hN : X.N.Nodup) (I : Inv X pins σ H s) (hi : PI X tg iter wi) (ok : BlkOk X.N X.env.scope scope own)
    (hg : ∀ (s : Shared) (H : Hp) (C : Addr) (cl : List (Str × Addr)) (fp : List Addr), PG (X.blk s H scope (compEnvC scope cl C X.env) fp) tg g) (ht : ∀ (s : Shared) (H : Hp) (C : Addr) (cl : List (Str × Addr)) (fp : List Addr), PTs (X.blk s H scope (compEnvC scope cl C X.env) fp) ifs tt)
    (he : ∀ (s : Shared) (H : Hp) (C : Addr) (cl : List (Str × Addr)) (fp : List Addr), PE (X.blk s H scope (compEnvC scope cl C X.env) fp) elt te) (hs : ∀ x, foldedSetIterable iter X.env x = pure x)
    (h : tLc wi g tt te (own.map (·.2)) σ H Q)
    (hRR : ∀ D C s' m H', Inv X pins σ H' s' → Q (.ref D) H' → s'.heap.Ns C m → FpOk X pins H' C → compPost (model X.prog X.w) X.A X.xe use Qf (.ref D) C (.ok .next) s') :
    wpAny (model X.prog X.w) X.A (comprehension (.ListComp elt [⟨tg, iter, ifs, 0⟩] scope pos) scope X.env pos' (newList []) false (eval iter X.env) use) Qf X.xe s := by
  have hfree : ∀ y ∈ scope.names, y.2 = .free → ∃ c, X.env.cells.lookup y.1 = some c := fun y hy e => by
    rcases ok.free y hy e with k | k
    · exact I.ok.has _ (.inl k)
    · exact I.ok.has _ (.inr k)
  refine wpAny_comprehension_free (use := use) rfl hs (closure_ok hfree) ok.kind (fun y hy e => by rw [ok.uniq y hy, e])
    (thn (hi pins s σ H _ I h) fun xv s1 hx => thn hx fun itv s2 h2 => ?_)
  obtain ⟨it, fp, tn, J, H2, e, I2, T, st2, f2, q⟩ := h2
  subst e
  refine wpAny_newObj_type (newEnv_comp ?_) (by show 0 ≤ sizeLine; decide)
  generalize hD : s2.heap.objs.size = D
  have hDn : H2 D = none := I2.hok.fresh (Nat.le_of_eq hD)
  obtain ⟨W, ⟨m0, w0⟩, turn⟩ := q D hDn
  generalize hs3 : ({ s2 with heap := s2.heap.push { cls := .type "list", data := .seq ([] : List Value).toArray } } : Shared) = s3
  have I3 : Inv X pins σ (upd H2 D (.lst [])) s3 := by
    rw [← hs3]
    refine I2.laid (t' := s2.toks) (fun b o e => Heap.get?_push_of_some _ e) (Nat.le_of_eq hD) ⟨Nat.zero_le _, [], 0, .nil, ?_⟩
    rw [← hD]
    exact Heap.get?_push_size _ rfl
  have h3 : s3.heap = s2.heap.push { cls := .type "list", data := .seq ([] : List Value).toArray } := by rw [← hs3]
  have sz : ∀ b ∈ fp, b < s2.heap.objs.size := fun b hb => by
    obtain ⟨o, e, _⟩ := T.obj _ _ st2 b hb
    exact Heap.lt_size e
  have f3 : ∀ b ∈ fp, FpOk X pins (upd H2 D (.lst [])) b ∧ b < s3.heap.objs.size := fun b hb => by
    have hlt := sz b hb
    refine ⟨⟨?_, (f2 b hb).2⟩, by rw [h3, Heap.size_push]; exact Nat.lt_succ_of_lt hlt⟩
    rw [upd_ne (by rw [← hD]; exact Nat.ne_of_lt hlt)]
    exact (f2 b hb).1
  have st3 : tn 0 s3.heap := T.keep _ _ _ st2 fun b _ o e => by rw [h3]; exact Heap.get?_push_of_some _ e
  have I4 := block_start I3 ok hN f3
  have pg := hg s3 (upd H2 D (.lst [])) s3.heap.objs.size (cellsFrom (s3.heap.objs.size + 1) scope.names (cloFrom X.env.cells scope.names [])) fp
  have pt := ht s3 (upd H2 D (.lst [])) s3.heap.objs.size (cellsFrom (s3.heap.objs.size + 1) scope.names (cloFrom X.env.cells scope.names [])) fp
  have pe := he s3 (upd H2 D (.lst [])) s3.heap.objs.size (cellsFrom (s3.heap.objs.size + 1) scope.names (cloFrom X.env.cells scope.names [])) fp
  show codeAny _ _ (.compStart (.ListComp elt [⟨tg, iter, ifs, 0⟩] scope pos) 0 (.ref it) (.ref D) (compEnvC scope (cellsFrom (s3.heap.objs.size + 1) scope.names (cloFrom X.env.cells scope.names [])) s3.heap.objs.size X.env)) (compPost (model X.prog X.w) X.A X.xe use Qf (.ref D) s3.heap.objs.size) { s3 with heap := pushCells (s3.heap.push { cls := .type "dict", data := .dict #[] }) scope.names }
  have nfp : ∀ b ∈ fp, (upd H2 D (.lst [])) b = none := fun b hb => (f3 b hb).1.1
  generalize hce : compEnvC scope (cellsFrom (s3.heap.objs.size + 1) scope.names (cloFrom X.env.cells scope.names [])) s3.heap.objs.size X.env = ce at I4 pg pt pe ⊢
  have cL : ce.locals = s3.heap.objs.size := by subst hce; rfl
  generalize hH3 : upd H2 D (.lst []) = H3 at I3 I4 pg pt pe w0 nfp f3
  generalize hs4 : ({ s3 with heap := pushCells (s3.heap.push { cls := .type "dict", data := .dict #[] }) scope.names } : Shared) = s4 at I4 ⊢
  have st4 : tn 0 s4.heap := T.keep _ _ _ st3 fun b _ o e => by rw [← hs4]; exact pushCells_keeps _ _ _ _ (Heap.get?_push_of_some _ e)
  have stat : ∀ {σ' : St} {H' : Hp} {s' : Shared}, Inv (X.blk s3 H3 scope ce fp) [] σ' H' s' → (∀ b ∈ fp, H' b = none) → ∀ b ∈ fp, FpOk (X.blk s3 H3 scope ce fp) [] H' b := fun {σ' H' s'} I' hn b hb =>
    ⟨hn b hb, (I'.ok.exf b hb).1, I'.ok.exfs b hb, .inl hb, fun x c e => (I'.ok.exf b hb).2 x c e, fun p hp => absurd (show p ∈ ([] : List (Addr × Obj)) ++ [] from hp) (by simp)⟩
  have loop : codeAny (model X.prog X.w) X.A (.compLoop (.ListComp elt [⟨tg, iter, ifs, 0⟩] scope pos) 0 (.ref it) (.ref D) ce) (compPost (model X.prog X.w) X.A X.xe use Qf (.ref D) s3.heap.objs.size) s4 := by
    refine compLoop_any (fun n s' => ∃ i H', Inv (X.blk s3 H3 scope ce fp) [] (wipe σ (own.map (·.2))) H' s' ∧ tn i s'.heap ∧ (∀ b ∈ fp, H' b = none) ∧ W i n H') ?_ m0 ⟨0, H3, I4, st4, nfp, w0⟩
    rintro n s5 ⟨i, H5, I5, st5, n5, w5⟩
    rcases turn i n H5 w5 with ⟨stop, qq⟩ | ⟨go, Nx, hNx, step⟩
    · have td := T.done (X.blk s3 H3 scope ce fp) rfl rfl rfl hc i [] s5 _ H5 (fun _ _ => False) I5 (stat I5 n5) st5 stop
      refine thnF td fun r s6 ⟨hr, I6⟩ => ?_
      subst hr
      have I7 : Inv X pins σ H5 s6 := I3.call' (ch := fp) I6.os I6.base I6.hok I6.bare fun b hb => ⟨(f3 b hb).1.2.2.2.1, (f3 b hb).1.2.1, (f3 b hb).1.2.2.2.2.1, (f3 b hb).1.2.2.2.2.2⟩
      have nC : H5 s3.heap.objs.size = none := by
        have z : H5 ce.locals = none := I6.free
        rw [cL] at z
        exact z
      obtain ⟨m, hn, _⟩ := I6.loc
      have hn : s6.heap.Ns ce.locals m := hn
      rw [cL] at hn
      exact hRR D s3.heap.objs.size s6 m H5 I7 qq hn (I3.fpOk (Nat.le_refl _) nC)
    · have ti := T.item (X.blk s3 H3 scope ce fp) rfl rfl rfl hc i [] s5 _ H5 (fun _ _ => False) I5 (stat I5 n5) st5 go
      refine thnF ti fun r s6 ⟨u, hr, h6⟩ => ?_
      subst hr
      refine thnF h6 fun _ s7 ⟨x, H7, I7, r7, y7, st7, n7⟩ => ?_
      have I7' := I7.pinned (stat I7 n7) (T.obj _ _ st7)
      refine thnF (pg _ s7 _ H7 x u _ I7' r7 (step x H7 y7)) fun _ s8 ⟨σ8, H8, I8, hw8, q8⟩ => ?_
      refine thnF (pt _ s8 σ8 H8 _ I8 q8) fun b s9 ⟨H9, I9, q9⟩ => ?_
      have fin : ∀ {s' : Shared} {H' : Hp}, Inv (X.blk s3 H3 scope ce fp) ([] ++ pinsAt fp s7.heap) σ8 H' s' → Nx H' → ∃ m, m < n ∧ ∃ i H', Inv (X.blk s3 H3 scope ce fp) [] (wipe σ (own.map (·.2))) H' s' ∧ tn i s'.heap ∧ (∀ b ∈ fp, H' b = none) ∧ W i m H' := fun {s' H'} I' nx => by
        obtain ⟨m', hm, w'⟩ := hNx H' nx
        have pin' : ∀ b ∈ fp, ∀ o, s7.heap.get? b = some o → s'.heap.get? b = some o ∧ H' b = none := fun b hb o e =>
          let z := I'.pin (b, o) (List.mem_append_right _ (List.mem_append_right _ (mem_pinsAt hb e)))
          ⟨z.1, z.2.1⟩
        have hl : (wipe σ (own.map (·.2))).length = σ8.length := by rw [← hw8, wipe_length]
        refine ⟨m', hm, i + 1, H', (I'.unpinned (pins := [])).weak hl (fun j v e => ?_), T.keep _ _ _ st7 fun b hb o e => (pin' b hb o e).1, fun b hb => ?_, w'⟩
        · rw [← hw8] at e
          exact (wipe_some e).1
        · obtain ⟨o, e, _⟩ := T.obj _ _ st7 b hb
          exact (pin' b hb o e).2
      cases b with
      | false =>
        simp only [Bool.false_eq_true, if_false] at q9 ⊢
        exact fin I9 q9
      | true =>
        simp only [if_true] at q9 ⊢
        refine thnF (pe _ s9 σ8 H9 _ I9 q9) fun z s10 ⟨yv, H10, I10, r10, acc, hD10, hz10, nx⟩ => ?_
        exact app_ok (X := X.blk s3 H3 scope ce fp) I10 hD10 hz10 r10 fun s11 I11 => fin I11 nx
  exact codeAny_compStart_list loop (T.self X.A 0 _ _ _ st4 loop)
theorem pe_lc {elt tg iter : Expr} {ifs : List Expr} {scope : Scope} {own : List (Str × Nat)} {pos : Pos} {wi : TI} {g : TG} {tt : TT} {te : TE} (hc : X.calm = true) (hN : X.N.Nodup) (hi : PI X tg iter wi) (ok : BlkOk X.N X.env.scope scope own)
    (hg : ∀ (s : Shared) (H : Hp) (C : Addr) (cl : List (Str × Addr)) (fp : List Addr), PG (X.blk s H scope (compEnvC scope cl C X.env) fp) tg g) (ht : ∀ (s : Shared) (H : Hp) (C : Addr) (cl : List (Str × Addr)) (fp : List Addr), PTs (X.blk s H scope (compEnvC scope cl C X.env) fp) ifs tt)
    (he : ∀ (s : Shared) (H : Hp) (C : Addr) (cl : List (Str × Addr)) (fp : List Addr), PE (X.blk s H scope (compEnvC scope cl C X.env) fp) elt te) (hs : ∀ x, foldedSetIterable iter X.env x = pure x := by intro _; rfl) :
    PE X (.ListComp elt [⟨tg, iter, ifs, 0⟩] scope pos) (tLc wi g tt te (own.map (·.2))) := by
  intro pins s σ H Q I h
  rw [eval_ListComp]
  refine lc_core hc hN I hi ok hg ht he hs h fun D C s' m H' I' q hn f => ⟨m, hn, fun h'' sb => ?_⟩
  obtain ⟨f0, f1, f2, f3, f4, f5⟩ := f
  exact ⟨.ref D, H', I'.turned (t' := s'.toks) (fun b o hb e => (sb.2 b hb).trans e) f0 f1 f3 f4 f5, rfl, q⟩
theorem ps_setLc {i : Nat} {y : Str} {py : Pos} {elt tg iter : Expr} {ifs : List Expr} {scope : Scope} {own : List (Str × Nat)} {pos spos : Pos} {wi : TI} {g : TG} {tt : TT} {te : TE} (hc : X.calm = true) (hN : X.N.Nodup) (hy : X.N[i]? = some y) (hyl : X.env.scope.names.lookup y = some .local)
    (hsw : swapsWith (.ListComp elt [⟨tg, iter, ifs, 0⟩] scope pos) (some (.Name y py)) spos.line X.env = pure true) (hi : PI X tg iter wi) (ok : BlkOk X.N X.env.scope scope own)
    (hg : ∀ (s : Shared) (H : Hp) (C : Addr) (cl : List (Str × Addr)) (fp : List Addr), PG (X.blk s H scope (compEnvC scope cl C X.env) fp) tg g) (ht : ∀ (s : Shared) (H : Hp) (C : Addr) (cl : List (Str × Addr)) (fp : List Addr), PTs (X.blk s H scope (compEnvC scope cl C X.env) fp) ifs tt)
    (he : ∀ (s : Shared) (H : Hp) (C : Addr) (cl : List (Str × Addr)) (fp : List Addr), PE (X.blk s H scope (compEnvC scope cl C X.env) fp) elt te) (hs : ∀ x, foldedSetIterable iter X.env x = pure x := by intro _; rfl) :
    PS X (.Assign [.Name y py] (.ListComp elt [⟨tg, iter, ifs, 0⟩] scope pos) spos) (tAsg (tLc wi g tt te (own.map (·.2))) (gName i)) := by
  intro pins s σ H D I h
  rw [exec_Assign_Name_used _ _ _ _ hsw]
  refine wpAny_bind (wpAny_standAt (wpAny_bind ?_))
  show wpAny _ X.A (do let _ ← comprehension (.ListComp elt [⟨tg, iter, ifs, 0⟩] scope pos) scope X.env (firstIterPos [⟨tg, iter, ifs, 0⟩] pos) (newList []) false (eval iter X.env) (some (assign (.Name y py) X.env))) _ _ s
  have h : tLc wi g tt te (own.map (·.2)) σ H (fun x H1 => gName i x σ H1 D.nx) := h
  refine wpAny_bind (thn (lc_core (Qf := fun _ s' => SP X pins D .next s') hc hN I hi ok hg ht he hs h fun L C s' m H' I' q hn f => ?_) fun _ s' hq => wpAny_pure (wpAny_pure hq))
  show wpAny _ _ (assign (.Name y py) X.env (.ref L)) _ _ _
  refine wpAny_assign_Name (store_ok2 (v := V.ref L) I' hN hy (.inl hyl) rfl (fun s2 I2 ⟨a, sb, ha⟩ => ?_) (.inr hyl))
  obtain ⟨f0, f1, f2, f3, f4, f5⟩ := f
  have haC : C ≠ a := by
    rcases ha with z | z
    · rw [z]; exact f1
    · exact fun e => f4 y a z e.symm
  refine ⟨m, hn.sameBut sb haC, fun h3 sb3 => ?_⟩
  exact ⟨_, H', I2.turned (t' := s2.toks) (fun b o hb e => (sb3.2 b hb).trans e) f0 f1 f3 f4 f5, q⟩
theorem sw_true {elt : Expr} {gs : List Comprehension} {scope : Scope} {pos py : Pos} {y : Str} {l : Nat} {env : Env} (hk : env.scope.kind = .function) (hy : env.scope.names.lookup y = some .local) (hl : (py.line == pos.line) = true)
    (ha : (scope.names.any fun (n, k) => n == y && (k == .local || k == .cell)) = false) : swapsWith (.ListComp elt gs scope pos) (some (.Name y py)) l env = pure true := by
  have ky : env.kindOf y = some .local := hy
  have hb : env.blockKind = .function := by unfold Env.blockKind; rw [hk]; rfl
  unfold swapsWith
  simp only [hb, ky, ha, Expr.pos, hl]
  rfl
end
theorem lc_range {lo : Int} {n : Nat} {g : TG} {tt : TT} {te : TE} {vs : List Nat} {σ : St} {H1 : Hp} {D : Addr} {Qd : Hp → Prop} (Pv : Nat → Hp → Prop) (h0 : Pv 0 (upd H1 D (.lst [])))
    (hs : ∀ i H, i < n → Pv i H → g (.int (lo + i)) (wipe σ vs) H fun σ2 H2 => wipe σ2 vs = wipe σ vs ∧ tt σ2 H2 fun b H3 =>
      if b = true then te σ2 H3 fun y H4 => ∃ acc, H4 D = some (.lst acc) ∧ acc.length < sizeLine ∧ Pv (i + 1) (upd H4 D (.lst (acc ++ [y]))) else Pv (i + 1) H3) (hd : ∀ H, Pv n H → Qd H) :
    ∃ W : Nat → Nat → Hp → Prop, (∃ m, W 0 m (upd H1 D (.lst []))) ∧ ∀ i m H, W i m H →
      ((Itr lo n).stop i H ∧ Qd H) ∨ ((Itr lo n).go i H ∧ ∃ Nx : Hp → Prop, (∀ H', Nx H' → ∃ m', m' < m ∧ W (i + 1) m' H') ∧ ∀ x H', (Itr lo n).yld i H x H' → g x (wipe σ vs) H' fun σ2 H2 => wipe σ2 vs = wipe σ vs ∧ tt σ2 H2 fun b H3 =>
        if b = true then te σ2 H3 fun y H4 => ∃ acc, H4 D = some (.lst acc) ∧ acc.length < sizeLine ∧ Nx (upd H4 D (.lst (acc ++ [y]))) else Nx H3) := by
  refine ⟨fun i m H => m = n - i ∧ i ≤ n ∧ Pv i H, ⟨n, by simp, Nat.zero_le _, h0⟩, ?_⟩
  rintro i m H ⟨rfl, hi, p⟩
  by_cases hlt : i < n
  · refine .inr ⟨hlt, Pv (i + 1), fun H' p' => ⟨n - (i + 1), by omega, rfl, hlt, p'⟩, fun x H' y => ?_⟩
    obtain ⟨e, y⟩ := y
    subst e y
    exact hs i _ hlt p
  · have e : i = n := by omega
    subst e
    exact .inl ⟨Nat.le_refl _, hd H p⟩
theorem lc_list {K : PySem.W.Frag} {a : Addr} {xs : List V} {g : TG} {tt : TT} {te : TE} {vs : List Nat} {σ : St} {H1 : Hp} {D : Addr} {Qd : Hp → Prop} (Pv : Nat → Hp → Prop) (h0 : Pv 0 (upd H1 D (.lst []))) (hl : ∀ i H, i ≤ xs.length → Pv i H → SqL K H a xs)
    (hs : ∀ i x H, xs[i]? = some x → Pv i H → g x (wipe σ vs) H fun σ2 H2 => wipe σ2 vs = wipe σ vs ∧ tt σ2 H2 fun b H3 =>
      if b = true then te σ2 H3 fun y H4 => ∃ acc, H4 D = some (.lst acc) ∧ acc.length < sizeLine ∧ Pv (i + 1) (upd H4 D (.lst (acc ++ [y]))) else Pv (i + 1) H3) (hd : ∀ H, Pv xs.length H → Qd H) :
    ∃ W : Nat → Nat → Hp → Prop, (∃ m, W 0 m (upd H1 D (.lst []))) ∧ ∀ i m H, W i m H →
      ((Itl K a).stop i H ∧ Qd H) ∨ ((Itl K a).go i H ∧ ∃ Nx : Hp → Prop, (∀ H', Nx H' → ∃ m', m' < m ∧ W (i + 1) m' H') ∧ ∀ x H', (Itl K a).yld i H x H' → g x (wipe σ vs) H' fun σ2 H2 => wipe σ2 vs = wipe σ vs ∧ tt σ2 H2 fun b H3 =>
        if b = true then te σ2 H3 fun y H4 => ∃ acc, H4 D = some (.lst acc) ∧ acc.length < sizeLine ∧ Nx (upd H4 D (.lst (acc ++ [y]))) else Nx H3) := by
  refine ⟨fun i m H => m = xs.length - i ∧ i ≤ xs.length ∧ Pv i H, ⟨xs.length, by simp, Nat.zero_le _, h0⟩, ?_⟩
  rintro i m H ⟨rfl, hi, p⟩
  have q := hl i H hi p
  by_cases hlt : i < xs.length
  · refine .inr ⟨⟨xs, xs[i], q, by simp [hlt]⟩, Pv (i + 1), fun H' p' => ⟨xs.length - (i + 1), by omega, rfl, hlt, p'⟩, fun x H' y => ?_⟩
    obtain ⟨e, y⟩ := y
    subst e
    exact hs i x _ (y xs q) p
  · have e : i = xs.length := by omega
    subst e
    exact .inl ⟨⟨xs, q, Nat.le_refl _⟩, hd H p⟩
theorem lc_tup {K : PySem.W.Frag} {a : Addr} {xs : List V} {g : TG} {tt : TT} {te : TE} {vs : List Nat} {σ : St} {H1 : Hp} {D : Addr} {Qd : Hp → Prop} (Pv : Nat → Hp → Prop) (h0 : Pv 0 (upd H1 D (.lst []))) (hl : ∀ i H, i ≤ xs.length → Pv i H → SqT K H a xs)
    (hs : ∀ i x H, xs[i]? = some x → Pv i H → g x (wipe σ vs) H fun σ2 H2 => wipe σ2 vs = wipe σ vs ∧ tt σ2 H2 fun b H3 =>
      if b = true then te σ2 H3 fun y H4 => ∃ acc, H4 D = some (.lst acc) ∧ acc.length < sizeLine ∧ Pv (i + 1) (upd H4 D (.lst (acc ++ [y]))) else Pv (i + 1) H3) (hd : ∀ H, Pv xs.length H → Qd H) :
    ∃ W : Nat → Nat → Hp → Prop, (∃ m, W 0 m (upd H1 D (.lst []))) ∧ ∀ i m H, W i m H →
      ((Itt K a).stop i H ∧ Qd H) ∨ ((Itt K a).go i H ∧ ∃ Nx : Hp → Prop, (∀ H', Nx H' → ∃ m', m' < m ∧ W (i + 1) m' H') ∧ ∀ x H', (Itt K a).yld i H x H' → g x (wipe σ vs) H' fun σ2 H2 => wipe σ2 vs = wipe σ vs ∧ tt σ2 H2 fun b H3 =>
        if b = true then te σ2 H3 fun y H4 => ∃ acc, H4 D = some (.lst acc) ∧ acc.length < sizeLine ∧ Nx (upd H4 D (.lst (acc ++ [y]))) else Nx H3) := by
  refine ⟨fun i m H => m = xs.length - i ∧ i ≤ xs.length ∧ Pv i H, ⟨xs.length, by simp, Nat.zero_le _, h0⟩, ?_⟩
  rintro i m H ⟨rfl, hi, p⟩
  have q := hl i H hi p
  by_cases hlt : i < xs.length
  · refine .inr ⟨⟨xs, xs[i], q, by simp [hlt]⟩, Pv (i + 1), fun H' p' => ⟨xs.length - (i + 1), by omega, rfl, hlt, p'⟩, fun x H' y => ?_⟩
    obtain ⟨e, y⟩ := y
    subst e
    exact hs i x _ (y xs q) p
  · have e : i = xs.length := by omega
    subst e
    exact .inl ⟨⟨xs, q, Nat.le_refl _⟩, hd H p⟩
def blkC (N : List Str) (sc scope : Scope) (own : List (Str × Nat)) : Bool :=
  (match scope.kind with | .function => true | _ => false) && (scope.names.all fun y => decide (scope.names.lookup y.1 = some y.2)) && (own.all fun p => decide (N[p.2]? = some p.1)) &&
    (scope.names.all fun y => match y.2 with
      | .free => (match sc.names.lookup y.1 with | some .cell => true | some .free => true | _ => false)
      | .local => decide (y.1 ∈ own.map (·.1)) || decide (y.1 ∉ N)
      | .cell => decide (y.1 ∈ own.map (·.1)) || decide (y.1 ∉ N)
      | _ => true)
theorem blkOk_by {N : List Str} {sc scope : Scope} {own : List (Str × Nat)} (h : blkC N sc scope own = true) : BlkOk N sc scope own := by
  unfold blkC at h
  simp only [Bool.and_eq_true, List.all_eq_true, decide_eq_true_eq] at h
  obtain ⟨⟨⟨h1, h2⟩, h3⟩, h4⟩ := h
  refine ⟨?_, h2, h3, fun y hy e => ?_, fun y hy e => ?_⟩
  · split at h1
    · assumption
    · cases h1
  · have q := h4 y hy
    simp only [e] at q
    split at q <;> first | exact .inl (by assumption) | exact .inr (by assumption) | cases q
  · have q := h4 y hy
    rcases e with e | e <;> (simp only [e, Bool.or_eq_true, decide_eq_true_eq] at q; exact q)
end L2
namespace L2
open PySem PySem.Spec PyProof.Rows
end L2
namespace L2
open PySem PySem.Spec PyProof.Rows
section
variable {κ : Type} [DecidableEq κ]
def valV (kvs : List (κ × V)) (k : κ) : Option V := (kvs.find? fun kv => decide (kv.1 = k)).map (·.2)
def putK (kvs : List (κ × V)) (k : κ) (v : V) : List (κ × V) :=
  if (kvs.any fun kv => decide (kv.1 = k)) = true then kvs.map (fun kv => if kv.1 = k then (kv.1, v) else kv) else kvs ++ [(k, v)]
def dropK (kvs : List (κ × V)) (k : κ) : List (κ × V) := kvs.filter fun kv => decide (kv.1 ≠ k)
theorem valV_pos {p : κ × V} {r : List (κ × V)} {k : κ} (e : p.1 = k) : valV (p :: r) k = some p.2 := by simp [valV, List.find?_cons, e]
theorem valV_neg {p : κ × V} {r : List (κ × V)} {k : κ} (e : ¬ p.1 = k) : valV (p :: r) k = valV r k := by simp [valV, List.find?_cons, e]
theorem valV_any (k : κ) : ∀ kvs : List (κ × V), (kvs.any fun kv => decide (kv.1 = k)) = (valV kvs k).isSome
  | [] => rfl
  | p :: r => by
    rw [List.any_cons]
    by_cases e : p.1 = k
    · simp only [valV_pos e, decide_eq_true e, Bool.true_or, Option.isSome_some]
    · rw [valV_neg e, decide_eq_false e, Bool.false_or]; exact valV_any k r
theorem valV_map (k j : κ) (y : V) : ∀ kvs : List (κ × V), valV (kvs.map fun kv => if kv.1 = k then (kv.1, y) else kv) j = (valV kvs j).map fun x => if j = k then y else x
  | [] => rfl
  | p :: r => by
    have ih := valV_map k j y r
    rw [List.map_cons]
    by_cases h : p.1 = k
    · rw [if_pos h]
      by_cases e : p.1 = j
      · rw [valV_pos (p := (p.1, y)) e, valV_pos e, Option.map_some, if_pos (e.symm.trans h)]
      · rw [valV_neg (p := (p.1, y)) e, valV_neg e, ih]
    · rw [if_neg h]
      by_cases e : p.1 = j
      · rw [valV_pos (p := p) e, valV_pos e, Option.map_some, if_neg (fun z => h (e.trans z))]
      · rw [valV_neg (p := p) e, valV_neg e, ih]
theorem valV_snoc (k j : κ) (y : V) : ∀ kvs : List (κ × V), valV kvs k = none → valV (kvs ++ [(k, y)]) j = if j = k then some y else valV kvs j
  | [], _ => by
    by_cases e : k = j
    · rw [if_pos e.symm]; exact valV_pos (p := (k, y)) e
    · rw [if_neg (fun z => e z.symm)]; exact valV_neg (p := (k, y)) e
  | p :: r, hn => by
    rw [List.cons_append]
    have hk : ¬ p.1 = k := fun z => by rw [valV_pos z] at hn; cases hn
    rw [valV_neg hk] at hn
    have ih := valV_snoc k j y r hn
    by_cases e : p.1 = j
    · rw [valV_pos e, valV_pos e, if_neg (fun z => hk (e.trans z))]
    · rw [valV_neg e, valV_neg e, ih]
theorem valV_put (kvs : List (κ × V)) (k j : κ) (y : V) : valV (putK kvs k y) j = if j = k then some y else valV kvs j := by
  unfold putK
  by_cases a : (kvs.any fun kv => decide (kv.1 = k)) = true
  · rw [if_pos a, valV_map]
    rw [valV_any] at a
    by_cases e : j = k
    · obtain ⟨x, hx⟩ := Option.isSome_iff_exists.mp a
      rw [if_pos e, e, hx, Option.map_some, if_pos rfl]
    · rw [if_neg e]
      cases valV kvs j with
      | none => rfl
      | some x => rw [Option.map_some, if_neg e]
  · rw [if_neg a]
    refine valV_snoc k j y kvs ?_
    rw [valV_any] at a
    cases q : valV kvs k with
    | none => rfl
    | some x => rw [q] at a; exact (a rfl).elim
theorem length_putK (kvs : List (κ × V)) (k : κ) (v : V) : (putK kvs k v).length ≤ kvs.length + 1 := by
  unfold putK
  split
  · rw [List.length_map]; omega
  · rw [List.length_append, List.length_cons, List.length_nil]; omega
theorem RelO.isSome_eq {o : Option V} {u : Option Value} (r : RelO o u) : o.isSome = u.isSome := by
  cases o with
  | none => cases u with
    | none => rfl
    | some _ => exact (show False from r).elim
  | some _ => cases u with
    | none => exact (show False from r).elim
    | some _ => rfl
theorem RelO.getD {o : Option V} {u : Option Value} {d : V} {d' : Value} (r : RelO o u) (rd : RelV d d') : RelV (o.getD d) (u.getD d') := by
  cases o with
  | none => cases u with
    | none => exact rd
    | some _ => exact (show False from r).elim
  | some _ => cases u with
    | none => exact (show False from r).elim
    | some _ => exact r
theorem KV.val {kvs : List (κ × V)} {vs : List (κ × Value)} (r : KV kvs vs) (k : κ) : RelO (valV kvs k) (valueAt vs k) := by
  unfold KV at r
  induction r with
  | nil => exact True.intro
  | @cons p q ps qs h t ih =>
    obtain ⟨h1, h2⟩ := h
    by_cases e : p.1 = k
    · have e' : q.1 = k := h1.symm.trans e
      have b : valueAt (q :: qs) k = some q.2 := by simp [valueAt, List.find?_cons, e']
      rw [valV_pos e, b]; exact h2
    · have e' : ¬ q.1 = k := fun z => e (h1.trans z)
      have b : valueAt (q :: qs) k = valueAt qs k := by simp [valueAt, List.find?_cons, e']
      rw [valV_neg e, b]; exact ih
theorem KV.any {kvs : List (κ × V)} {vs : List (κ × Value)} (r : KV kvs vs) (k : κ) : (kvs.any fun kv => decide (kv.1 = k)) = vs.any fun kv => decide (kv.1 = k) := by
  unfold KV at r
  induction r with
  | nil => rfl
  | cons h t ih => rw [List.any_cons, List.any_cons, ih, h.1]
theorem KV.repl {kvs : List (κ × V)} {vs : List (κ × Value)} (r : KV kvs vs) (k : κ) {y : V} {u : Value} (ry : RelV y u) :
    KV (kvs.map fun kv => if kv.1 = k then (kv.1, y) else kv) (vs.map fun kv => if kv.1 = k then (kv.1, u) else kv) := by
  unfold KV at r ⊢
  induction r with
  | nil => exact .nil
  | @cons p q ps qs h t ih =>
    rw [List.map_cons, List.map_cons]
    refine .cons ?_ ih
    obtain ⟨h1, h2⟩ := h
    by_cases e : p.1 = k
    · rw [if_pos e, if_pos (h1.symm.trans e)]; exact ⟨h1, ry⟩
    · rw [if_neg e, if_neg (fun z => e (h1.trans z))]; exact ⟨h1, h2⟩
theorem KV.put {kvs : List (κ × V)} {vs : List (κ × Value)} (r : KV kvs vs) (k : κ) {y : V} {u : Value} (ry : RelV y u) : KV (putK kvs k y) (stored vs k u) := by
  unfold putK stored
  rw [r.any k]
  by_cases e : (vs.any fun kv => decide (kv.1 = k)) = true
  · rw [if_pos e, if_pos e]; exact r.repl k ry
  · rw [if_neg e, if_neg e]; exact Paired.snoc r ⟨rfl, ry⟩
theorem KV.drop {kvs : List (κ × V)} {vs : List (κ × Value)} (r : KV kvs vs) (k : κ) : KV (dropK kvs k) (without vs k) := by
  unfold KV at r ⊢
  unfold dropK without
  induction r with
  | nil => exact .nil
  | @cons p q ps qs h t ih =>
    obtain ⟨h1, h2⟩ := h
    rw [List.filter_cons, List.filter_cons]
    by_cases e : p.1 = k
    · have a : ¬ decide (p.1 ≠ k) = true := by simp [e]
      have b : ¬ decide (q.1 ≠ k) = true := by simp [h1.symm.trans e]
      rw [if_neg a, if_neg b]; exact ih
    · have e' : ¬ q.1 = k := fun z => e (h1.trans z)
      have a : decide (p.1 ≠ k) = true := by simp [e]
      have b : decide (q.1 ≠ k) = true := by simp [e']
      rw [if_pos a, if_pos b]; exact .cons ⟨h1, h2⟩ ih
theorem KV.length {kvs : List (κ × V)} {vs : List (κ × Value)} (r : KV kvs vs) : kvs.length = vs.length := Paired.length r
end
theorem kV_is {P : Program} {w : World} {k : Key} {u : Value} (r : RelV (kV k) u) : (mixKind P w).is k u = true := by
  cases k with
  | inl i => obtain ⟨t, e⟩ := (show ∃ t, u = Value.int i t from r); subst e; exact mixKind_int P w i t
  | inr x => obtain ⟨t, e⟩ := (show ∃ t, u = Value.str x t from r); subst e; exact mixKind_str P w x t
theorem items_are {P : Program} {w : World} : ∀ {ks : List Key} {us : List Value}, Vals (ks.map kV) us → ItemsAre (mixKind P w) ks us
  | [], _, r => by rw [List.map_nil] at r; cases r; exact .nil
  | k :: ks, _, r => by
    rw [List.map_cons] at r
    cases r with
    | cons h t => exact .cons (kV_is h) (items_are t)
abbrev KT (H : Hp) : List (List Key × V) → List (List Key × Addr × Value) → Prop := Paired fun p q => p.1 = q.1 ∧ H q.2.1 = some (.tup (p.1.map kV)) ∧ RelV p.2 q.2.2
theorem KT.val {H : Hp} {kvs : List (List Key × V)} {xs : List (List Key × Addr × Value)} (r : KT H kvs xs) (k : List Key) : RelO (valV kvs k) ((atKey xs k).map (·.2)) := by
  induction r with
  | nil => exact True.intro
  | @cons p q ps qs h t ih =>
    obtain ⟨h1, _, h2⟩ := h
    by_cases e : p.1 = k
    · have e' : q.1 = k := h1.symm.trans e
      have b : atKey (q :: qs) k = some q.2 := by simp [atKey, List.find?_cons, e']
      rw [valV_pos e, b]; exact h2
    · have e' : ¬ q.1 = k := fun z => e (h1.trans z)
      have b : atKey (q :: qs) k = atKey qs k := by simp [atKey, List.find?_cons, e']
      rw [valV_neg e, b]; exact ih
theorem KT.repl {H : Hp} {kvs : List (List Key × V)} {xs : List (List Key × Addr × Value)} (r : KT H kvs xs) (k : List Key) {y : V} {u : Value} (ry : RelV y u) :
    KT H (kvs.map fun kv => if kv.1 = k then (kv.1, y) else kv) (xs.map (putAt k u)) := by
  induction r with
  | nil => exact .nil
  | @cons p q ps qs h t ih =>
    rw [List.map_cons, List.map_cons]
    refine .cons ?_ ih
    obtain ⟨h1, h2, h3⟩ := h
    unfold putAt
    by_cases e : p.1 = k
    · rw [if_pos e, if_pos (h1.symm.trans e)]; exact ⟨h1, h2, ry⟩
    · rw [if_neg e, if_neg (fun z => e (h1.trans z))]; exact ⟨h1, h2, h3⟩
theorem KT.put {H : Hp} {kvs : List (List Key × V)} {xs : List (List Key × Addr × Value)} (r : KT H kvs xs) (k : List Key) {b : Addr} {y : V} {u : Value} (hb : H b = some (.tup (k.map kV))) (ry : RelV y u) :
    KT H (putK kvs k y) (storedH xs k b u) := by
  have e : (kvs.any fun kv => decide (kv.1 = k)) = (atKey xs k).isSome := by
    rw [valV_any, (r.val k).isSome_eq, Option.isSome_map]
  unfold putK storedH
  rw [e]
  by_cases q : (atKey xs k).isSome = true
  · rw [if_pos q, if_pos q]; exact r.repl k ry
  · rw [if_neg q, if_neg q]; exact Paired.snoc r ⟨rfl, hb, ry⟩
theorem KT.keeps {H H' : Hp} {kvs : List (List Key × V)} {xs : List (List Key × Addr × Value)} (r : KT H kvs xs) (ht : ∀ b ys, H b = some (.tup ys) → H' b = some (.tup ys)) : KT H' kvs xs :=
  Paired.mapP r fun _ _ z => ⟨z.1, ht _ _ z.2.1, z.2.2⟩
section
variable {P : Program} {w : World} {H : Hp} {h : Heap} {a : Addr}
theorem rd_of {u : HO} (ok : HOk P w H h) (e : Rd H a u) : ObjOk P w H h a u := e.ok ok
theorem dk_rd {kvs : List (Key × V)} (ok : HOk P w H h) (e : Rd H a (.dK kvs)) : kvs.length ≤ sizeLine ∧ (a == sysModules) = false ∧ ∃ vs, KV kvs vs ∧ h.DictOf (mixKind P w) a vs :=
  show ObjOk P w H h a (.dK kvs) from rd_of ok e
theorem dk_of {kvs : List (Key × V)} (ok : HOk P w H h) (e : H a = some (.dK kvs)) : kvs.length ≤ sizeLine ∧ (a == sysModules) = false ∧ ∃ vs, KV kvs vs ∧ h.DictOf (mixKind P w) a vs := dk_rd ok (.inl e)
theorem key_of {ks : List Key} (ok : HOk P w H h) (e : H a = some (.tup (ks.map kV))) : (tupleKind (mixKind P w)).is h ks a := by
  obtain ⟨_, its, r, o, h1, h2, n, h3⟩ := (show ObjOk P w H h a (.tup (ks.map kV)) from ok a _ e)
  exact ⟨o, its.toArray, n, h1, h2, h3, by simpa using items_are r⟩
theorem dt_rd {kvs : List (List Key × V)} (ok : HOk P w H h) (e : Rd H a (.dT kvs)) : kvs.length ≤ sizeLine ∧ (a == sysModules) = false ∧
    ∃ xs, KT H kvs xs ∧ h.DictOfH (tupleKind (mixKind P w)) a xs := by
  obtain ⟨z, y, xs, r, o, es, ep, h1, h2, h3, h4, h5⟩ := (show ObjOk P w H h a (.dT kvs) from rd_of ok e)
  refine ⟨z, y, xs, r, o, es, ep, h1, h2, h3, h4, fun x hx => ?_, h5⟩
  have all : ∀ {l : List (List Key × V)} {m : List (List Key × Addr × Value)}, KT H l m → ∀ x ∈ m, (tupleKind (mixKind P w)).is h x.1 x.2.1 := by
    intro l m q
    induction q with
    | nil => intro x hx; exact nomatch hx
    | @cons p q ps qs hq t ih =>
      intro x hx
      rcases List.mem_cons.mp hx with e | hx
      · subst e
        exact key_of ok (by rw [← hq.1]; exact hq.2.1)
      · exact ih x hx
  exact all r x hx
end
def DGet (H : Hp) (a : Addr) (y : V) (r : Option V) : Prop :=
  (∃ kvs k, Rd H a (.dK kvs) ∧ y = kV k ∧ r = valV kvs k) ∨ ∃ kvs k b, Rd H a (.dT kvs) ∧ y = .ref b ∧ H b = some (.tup (k.map kV)) ∧ r = valV kvs k
def DPut (H : Hp) (a : Addr) (y v : V) (H' : Hp) : Prop :=
  (∃ kvs k, H a = some (.dK kvs) ∧ y = kV k ∧ kvs.length < sizeLine ∧ H' = upd H a (.dK (putK kvs k v))) ∨
  ∃ kvs k b, H a = some (.dT kvs) ∧ y = .ref b ∧ H b = some (.tup (k.map kV)) ∧ kvs.length < sizeLine ∧ H' = upd H a (.dT (putK kvs k v))
theorem DGet.k {H : Hp} {a : Addr} {kvs : List (Key × V)} {k : Key} (e : H a = some (.dK kvs)) : DGet H a (kV k) (valV kvs k) := .inl ⟨kvs, k, .inl e, rfl, rfl⟩
theorem DGet.t {H : Hp} {a b : Addr} {kvs : List (List Key × V)} {k : List Key} (e : H a = some (.dT kvs)) (eb : H b = some (.tup (k.map kV))) : DGet H a (.ref b) (valV kvs k) := .inr ⟨kvs, k, b, .inl e, rfl, eb, rfl⟩
theorem DPut.k {H : Hp} {a : Addr} {kvs : List (Key × V)} {k : Key} {v : V} (e : H a = some (.dK kvs)) (hl : kvs.length < sizeLine) : DPut H a (kV k) v (upd H a (.dK (putK kvs k v))) := .inl ⟨kvs, k, e, rfl, hl, rfl⟩
theorem DPut.t {H : Hp} {a b : Addr} {kvs : List (List Key × V)} {k : List Key} {v : V} (e : H a = some (.dT kvs)) (eb : H b = some (.tup (k.map kV))) (hl : kvs.length < sizeLine) :
    DPut H a (.ref b) v (upd H a (.dT (putK kvs k v))) := .inr ⟨kvs, k, b, e, rfl, eb, hl, rfl⟩
section
variable {X : Cx} {pins : List (Addr × Obj)} {σ : St} {H : Hp} {s : Shared} {a : Addr} {y v : V} {u r : Value} {o : Option V} {A : Around} {E : Value → Shared → Prop}
theorem Inv.big (I : Inv X pins σ H s) : sysModules < s.heap.objs.size := by
  have h : mainGlobals < s.heap.objs.size := (I.mod.glob.keeps I.bk).lt
  exact Nat.lt_trans (by decide) h
theorem d_write {h' : Heap} {t' : Nat} {ob : HO} (I : Inv X pins σ H s) (mu : Mut (H a)) (hs : Heap.SameBut a s.heap h') (he : ∃ q, h'.get? a = some q) (new : ObjOk X.prog X.w (upd H a ob) h' a ob) :
    Inv X pins σ (upd H a ob) { s with heap := h', toks := t' } :=
  I.write (x := a) (e := a) mu (.inl rfl) (fun b q hb z => (hs.2 b hb).trans z) he new
theorem dk_new {P : Program} {w : World} {H' : Hp} {h' : Heap} {kvs : List (Key × V)} {vs : List (Key × Value)} (z : kvs.length ≤ sizeLine) (hd : (a == sysModules) = false) (rel : KV kvs vs) (dd : h'.DictOf (mixKind P w) a vs) :
    ObjOk P w H' h' a (.dK kvs) := ⟨z, hd, vs, rel, dd⟩
end
theorem dk_empty {P : Program} {w : World} {H : Hp} (h : Heap) (hb : sysModules < h.objs.size) : ObjOk P w H (h.push { cls := .type "dict", data := .dict #[] }) h.objs.size (.dK []) :=
  ⟨Nat.zero_le _, beq_eq_false_iff_ne.mpr (Ne.symm (Nat.ne_of_lt hb)), [], .nil, Heap.DictOf.new h⟩
structure M1 (X : Cx) (o : Expr) (m : Str) (apos : Pos) (e : Expr) (cpos : Pos) : Prop where
  base : attributeBase o m X.env (eval o X.env) = eval o X.env
  few : ((backTo cpos (starEach [e] X.env)).all (fun x => !x.1) && (backToKw cpos (keywordEach [] X.env)).all (fun x => x.1.isSome)
    && decide (([e] : List Expr).length + ([] : List Keyword).length + (if ([] : List Keyword).isEmpty then 0 else 1) < 30)) = true
  line : (apos.endLine == cpos.line) = true
  trees : backTo cpos (starEach [e] X.env) = [(false, eval e X.env)]
structure M2 (X : Cx) (o : Expr) (m : Str) (apos : Pos) (e f : Expr) (cpos : Pos) : Prop where
  base : attributeBase o m X.env (eval o X.env) = eval o X.env
  few : ((backTo cpos (starEach [e, f] X.env)).all (fun x => !x.1) && (backToKw cpos (keywordEach [] X.env)).all (fun x => x.1.isSome)
    && decide (([e, f] : List Expr).length + ([] : List Keyword).length + (if ([] : List Keyword).isEmpty then 0 else 1) < 30)) = true
  line : (apos.endLine == cpos.line) = true
  trees : backTo cpos (starEach [e, f] X.env) = [(false, eval e X.env), (false, eval f X.env)]
def IsD (H : Hp) (a : Addr) : Prop := (∃ kvs, Rd H a (.dK kvs)) ∨ ∃ kvs, Rd H a (.dT kvs)
theorem isD_at {X : Cx} {pins : List (Addr × Obj)} {σ : St} {H : Hp} {s : Shared} {a : Addr} (I : Inv X pins σ H s) (d : IsD H a) :
    s.TypeIs (.ref a) "dict" ∧ (∀ b, Value.ref a = .ref b → ∃ ob, s.heap.get? b = some ob ∧ ob.dict = none) ∧ (a == sysModules) = false := by
  rcases d with ⟨kvs, e⟩ | ⟨kvs, e⟩
  · obtain ⟨_, hd, vs, _, dd⟩ := dk_rd I.hok e
    refine ⟨dd.typeIs, fun b q => ?_, hd⟩
    cases q
    obtain ⟨ob, _, _, h1, h2, _⟩ := dd
    exact ⟨ob, h1, h2.2.1⟩
  · obtain ⟨_, hd, xs, _, dd⟩ := dt_rd I.hok e
    refine ⟨dd.typeIs, fun b q => ?_, hd⟩
    cases q
    obtain ⟨ob, _, _, h1, h2, _⟩ := dd
    exact ⟨ob, h1, h2.2.1⟩
section
variable {X : Cx} {pins : List (Addr × Obj)} {σ : St} {H : Hp} {s : Shared} {a : Addr} {y d : V} {u r : Value} {o : Option V} {A : Around} {E : Value → Shared → Prop}
theorem d_get2 {Q : Value → Shared → Prop} (hu : A.units + 1 < cLine) (I : Inv X pins σ H s) (g : DGet H a y o) (ry : RelV y u) (rd : RelV d r) (h : ∀ w' s', Inv X pins σ H s' → RelV (o.getD d) w' → Q w' s') :
    wpAny (model X.prog X.w) A (call (.builtin "dict.get") [.ref a, u, r]) Q E s := by
  rcases g with ⟨kvs, k, e, ey, l⟩ | ⟨kvs, k, b, e, ey, eb, l⟩
  · subst ey
    obtain ⟨z, hd, vs, rel, dd⟩ := dk_rd I.hok e
    refine call_meetsIn PySem.F.slot_dict_get dd.typeIs PySem.F.entry_dict_get (PySem.F.args_dict_get_3 _ _ _) (meets_dict_get_default (mixKind X.prog X.w) a (kV_is ry) hd r) ⟨_, dd.mapOf, h _ _ (I.tok _) ?_⟩
    rw [l]
    exact (rel.val k).getD rd
  · subst ey
    cases (show u = Value.ref b from ry)
    obtain ⟨z, hd, xs, rel, dd⟩ := dt_rd I.hok e
    refine call_meetsIn PySem.F.slot_dict_get dd.typeIs PySem.F.entry_dict_get (PySem.F.args_dict_get_3 _ _ _) (meetsH_dict_get_default (tupleKind (mixKind X.prog X.w)) a b hd r) ⟨tupleKind_room_in1 hu, k, xs, key_of I.hok eb, dd, h _ _ (I.tok _) ?_⟩
    rw [l]
    exact (rel.val k).getD rd
end
def tDGet2 (td ty tx : TE) : TE := fun σ H Q => td σ H fun x H1 => ∃ a, x = .ref a ∧ IsD H1 a ∧ ty σ H1 fun y H2 => tx σ H2 fun z H3 => ∃ o, DGet H3 a y o ∧ Q (o.getD z) H3
section
variable {X : Cx} {o e f : Expr} {apos cpos : Pos} {td ty tx : TE}
theorem pe_dget2 (hu : X.A.units + 1 < cLine) (ho : PE X o td) (he : PE X e ty) (hf : PE X f tx) (m : M2 X o "get" apos e f cpos) : PE X (.Call (.Attribute o "get" apos) [e, f] [] cpos) (tDGet2 td ty tx) := by
  intro pins s σ H Q I h
  refine wpAny_Call_method m.base m.few m.line PySem.F.plainAttrs_dict PySem.F.slot_dict_get PySem.F.type_dict_get (thn (ho pins s σ H _ I h) fun u s1 ⟨x, H1, I1, rx, a, ex, d, q1⟩ => ?_)
  subst ex
  obtain rfl : u = Value.ref a := rx
  obtain ⟨t1, t2, _⟩ := isD_at I1 d
  refine ⟨t1, t2, ?_⟩
  rw [m.trees]
  refine Calls.callWith_builtin rfl (Calls.evalArgs_plain (Calls.spliced_cons (thn (he pins s1 σ H1 _ I1 q1) fun iv s2 ⟨y, H2, I2, ry, q2⟩ =>
    Calls.spliced_cons (thn (hf pins s2 σ H2 _ I2 q2) fun fv s3 ⟨z, H3, I3, rz, ov, g, q3⟩ => Calls.spliced_nil ?_))))
  exact d_get2 hu I3 g ry rz fun w' s4 I4 rw' => ⟨_, H3, I4, rw', q3⟩
end
end L2
namespace L2
open PySem PySem.Spec PyProof.Rows
end L2
namespace L2
open PySem PySem.Spec PyProof.Rows
theorem boot_reversed5 : bootBuiltins "reversed" = some (.type "reversed") := by decide +kernel
section
variable {X : Cx} {pins : List (Addr × Obj)} {σ : St} {H : Hp} {s : Shared} {h' : Heap}
theorem Inv.turnedL {t' : Nat} {ch : List Addr} (I : Inv X pins σ H s) (k : ∀ b o, b ∉ ch → s.heap.get? b = some o → h'.get? b = some o) (hf : ∀ b ∈ ch, FpOk X pins H b) : Inv X pins σ H { s with heap := h', toks := t' } := by
  have nit : ∀ b u, H b = some u → b ∉ ch := fun b u e z => by
    have q := (hf b z).1
    rw [q] at e; cases e
  refine I.step (g' := s.gens) (d' := s.drawn) (ch := ch) (fun b hb => ⟨(hf b hb).2.2.2.1, (hf b hb).2.1, (hf b hb).2.2.2.2.1, (hf b hb).2.2.2.2.2⟩) (fun b o _ _ hc e _ => k b o hc e) (fun b o _ _ hc e _ => ⟨o.slots, k b o hc e⟩)
    (fun _ _ _ _ n => n) (fun b o hc e => ⟨o, k b o hc e⟩) (fun _ _ e => e) (fun _ _ _ e => e) (fun b ps e => ⟨#[], by rw [e]; simp⟩) (fun m hm => ?_) (fun b u e => ?_) I.bare
  · obtain ⟨o, es, ep, ho, r⟩ := hm
    exact ⟨o, es, ep, k _ o (fun z => (hf _ z).2.1 rfl) ho, r⟩
  · refine (I.hok b u e).stay (fun c v hc q => k c v ?_ q) (fun _ q => q) fun _ _ q => q
    rcases hc with z | z
    · rw [z]; exact nit b u e
    · exact nit c _ z
theorem Inv.turnedNew {t' : Nat} {ch : List Addr} {T : Addr} {ob : HO} (I : Inv X pins σ H s) (k : ∀ b o, b ∉ ch → s.heap.get? b = some o → h'.get? b = some o) (hf : ∀ b ∈ ch, FpOk X pins H b) (hT : s.heap.objs.size ≤ T)
    (new : ObjOk X.prog X.w (upd H T ob) h' T ob) : Inv X pins σ (upd H T ob) { s with heap := h', toks := t' } := by
  have hn : H T = none := I.hok.fresh hT
  have nit : ∀ b u, H b = some u → b ∉ ch := fun b u e z => by
    have q := (hf b z).1
    rw [q] at e; cases e
  refine I.step (g' := s.gens) (d' := s.drawn) (ch := ch) (fun b hb => ⟨(hf b hb).2.2.2.1, (hf b hb).2.1, (hf b hb).2.2.2.2.1, (hf b hb).2.2.2.2.2⟩) (fun b o _ _ hc e _ => k b o hc e) (fun b o _ _ hc e _ => ⟨o.slots, k b o hc e⟩)
    (fun b o _ e n => ?_) (fun b o hc e => ⟨o, k b o hc e⟩) (fun b xs e => ?_) (fun b o u e => ?_) (fun b ps e => ⟨#[], ?_⟩) (fun m hm => ?_) (fun b u e => ?_) I.bare
  · rw [upd_ne (Nat.ne_of_lt (Nat.lt_of_lt_of_le (Heap.lt_size e) hT))]; exact n
  · rw [upd_ne (ne_of_none e hn)]; exact e
  · rw [upd_ne (ne_of_none e hn)]; exact e
  · rw [upd_ne (ne_of_none e hn), e]; simp
  · obtain ⟨o, es, ep, ho, r⟩ := hm
    exact ⟨o, es, ep, k _ o (fun z => (hf _ z).2.1 rfl) ho, r⟩
  · by_cases hb : b = T
    · subst hb
      rw [upd_same] at e
      cases e
      exact new
    · rw [upd_ne hb] at e
      refine (I.hok b u e).stay (fun c v hc q => k c v ?_ q) (fun c q => by rw [upd_ne (ne_of_none q hn)]; exact q) fun c xs q => by rw [upd_ne (ne_of_none q hn)]; exact q
      rcases hc with z | z
      · rw [z]; exact nit b u e
      · exact nit c _ z
theorem Inv.nofrz {d : Addr} {u : HO} (I : Inv X pins σ H s) (h : H d = some u) (mu : Mut (some u)) : ∀ o' u', X.H_0 d ≠ some (.frz o' u') := fun o' u' e => by
  have q := I.base.frzs d o' u' e
  rw [h] at q
  cases q
  exact mu
end
section
variable {X : Cx}
theorem pi_one {tg : Expr} {pins : List (Addr × Obj)} {σ : St} {H : Hp} {s : Shared} {R : It → Hp → Prop} {J : It} {tn : Nat → Heap → Prop} {tk : Nat} (I : Inv X pins σ H s) (o : Obj)
    (T : Turn X.prog X.w X.K tg J [s.heap.objs.size] s.heap.objs.size tn) (st : tn 0 (s.heap.push o)) (q : R J H) : PIE X pins σ tg R (.ref s.heap.objs.size) { s with heap := s.heap.push o, toks := tk } := by
  refine ⟨s.heap.objs.size, [s.heap.objs.size], tn, J, H, rfl, I.kept fun b ob e => Heap.get?_push_of_some _ e, T, st, fun b hb => ?_, q⟩
  have e : b = s.heap.objs.size := by simpa using hb
  subst e
  exact I.fpOk (Nat.le_refl _) (I.hok.fresh (Nat.le_refl _))
end
def RgC (i j c : Int) (n : Nat) : Prop := c ≠ 0 ∧ c.natAbs < 1073741824 ∧ Builtin.Range.small i j c = true ∧ Builtin.Range.rangeSize i j c = n
theorem RgC.neg {i j : Int} (ha : -(2 ^ 62) ≤ i) (ha' : i < 2 ^ 62) (hb : -(2 ^ 62) ≤ j) (hb' : j < 2 ^ 62) : RgC i j (-1) (i - j).toNat :=
  ⟨by decide, by decide, PySem.W.small_down ha ha' hb hb', PySem.W.rangeSize_downNat i j⟩
def Its (x : Str) : It := ⟨fun i _ => i < x.cps.size, fun i H v H' => H' = H ∧ ∃ c, x.cps[i]? = some c ∧ v = .str ⟨#[c]⟩, fun i _ => x.cps.size ≤ i⟩
theorem turn_str {P : Program} {w : World} {K : PySem.W.Frag} {tg : Expr} (it : Addr) (x : Str) (t : Tok) (ty : String) (hty : ty = "str_ascii_iterator" ∨ ty = "str_iterator") :
    Turn P w K tg (Its x) [it] it (fun i h => h.IsStrIter it ty x t i) where
  mem := by simp
  obj := fun i h st b hb => by
    have e : b = it := by simpa using hb
    subst e
    obtain ⟨o, e, c, d⟩ := st
    exact ⟨o, e, fun v z => by rw [d] at z; cases z⟩
  keep := fun i h h' st k => let ⟨o, ho, r⟩ := st; ⟨o, k it (by simp) o ho, r⟩
  item := by
    intro X hP hw hK hc i pins s σ H E I hf st hg
    subst hP hw hK
    obtain ⟨f0, f1, f2, f3, f4, f5⟩ := hf it (by simp)
    have W : Walks X.prog X.w X.A it [it] [it] x.cps.size (SignAt x) (fun i h => h.IsStrIter it ty x t i) := by
      rcases hty with e | e
      · rw [e]; exact Walks.strAscii (I.ok.hd hc) it x t
      · rw [e]; exact Walks.strWide (I.ok.hd hc) it x t
    have hno : ["enumerate", "zip", "dict_itemiterator", "dict_reverseitemiterator", "odict_iterator", "itertools.zip_longest", "itertools.pairwise"].contains ty = false := by
      rcases hty with e | e
      · rw [e]; decide
      · rw [e]; decide
    refine W.item i s _ _ hg st fun v h' tk hv st' kk => ?_
    obtain ⟨c, u, hcx, rfl⟩ := hv
    have I1 : Inv X pins σ H { s with heap := h', toks := tk } := I.turned (fun b o hb e => kk b o (by simpa using hb) e) f0 f1 f3 f4 f5
    obtain ⟨oi, e, cc, dd⟩ := id st'
    exact ⟨_, rfl, go_of (s := { s with heap := h', toks := tk }) e cc dd hno ⟨.str ⟨#[c]⟩, H, I1, ⟨u, rfl⟩, ⟨rfl, c, hcx, rfl⟩, st', fun b hb => (hf b hb).1⟩⟩
  done := by
    intro X hP hw hK hc i pins s σ H E I hf st hg
    subst hP hw hK
    obtain ⟨f0, f1, f2, f3, f4, f5⟩ := hf it (by simp)
    have hx : x.cps[i]? = none := Array.getElem?_eq_none hg
    rcases hty with e | e
    · rw [e] at st
      exact wpAny_pyNext_ascii_end (I.ok.hd hc) st hx fun h' eb => ⟨rfl, I.turned (t' := s.toks) (fun b o hb e => eb b o hb e) f0 f1 f3 f4 f5⟩
    · rw [e] at st
      exact wpAny_pyNext_wide_end (I.ok.hd hc) st hx fun h' eb => ⟨rfl, I.turned (t' := s.toks) (fun b o hb e => eb b o hb e) f0 f1 f3 f4 f5⟩
  self := fun A i s Q E st h => by
    rcases hty with e | e
    · rw [e] at st; exact wpAny_pyIter_striter_ascii st h
    · rw [e] at st; exact wpAny_pyIter_striter_wide st h
def iStr (te : TE) : TI := fun σ H R => te σ H fun v H1 => ∃ x, v = .str x ∧ R (Its x) H1
theorem pi_str {X : Cx} {tg e : Expr} {te : TE} (he : PE X e te) : PI X tg e (iStr te) := by
  intro pins s σ H R I h
  refine thn (he pins s σ H _ I h) fun v s1 ⟨y, H1, I1, r1, x, ex, q⟩ => ?_
  subst ex
  obtain ⟨t, rfl⟩ := r1
  cases ha : x.cps.all (· < 128)
  · exact wpAny_pyIter_wide ha (pi_one (tk := s1.toks) I1 _ (turn_str _ x t "str_iterator" (.inr rfl)) ⟨_, Heap.get?_push_size _ rfl, rfl, rfl⟩ q)
  · exact wpAny_pyIter_ascii ha (pi_one (tk := s1.toks) I1 _ (turn_str _ x t "str_ascii_iterator" (.inl rfl)) ⟨_, Heap.get?_push_size _ rfl, rfl, rfl⟩ q)
theorem boot_zip5 : bootBuiltins "zip" = some (.type "zip") := by decide +kernel
end L2
section
namespace Bits
open PySem PyProof.Rows
theorem bitAnd_mask {x : Int} (k : Nat) (hx : 0 ≤ x) : Builtin.bitAnd x (2 ^ k - 1) = x % 2 ^ k := by
  obtain ⟨n, rfl⟩ := Int.eq_ofNat_of_zero_le hx
  have hp : 0 < 2 ^ k := Nat.two_pow_pos k
  rw [two_pow_cast]
  have e : ((2 ^ k : Nat) : Int) - 1 = ((2 ^ k - 1 : Nat) : Int) := by
    generalize (2 : Nat) ^ k = m at hp
    omega
  rw [e, bitAnd_pp (by omega) (by omega), Int.toNat_natCast, Int.toNat_natCast, Nat.and_two_pow_sub_one_eq_mod]
  first
    | rfl
    | exact Int.natCast_emod _ _
    | simp
end Bits
end
section
namespace TL
open PySem PySem.Builtin PySem.Builtin.Str PySem.StrLaws
abbrev tl (x : Str) : List Nat := x.cps.toList
theorem len_tl (x : Str) : x.length = (tl x).length := by simp [tl, Str.length]
theorem ext_tl {x y : Str} (h : tl x = tl y) : x = y := Str.ext' (Array.toList_inj.mp h)
theorem tl_append (x y : Str) : tl (x ++ y) = tl x ++ tl y := by
  show (x ++ y).cps.toList = _
  rw [Str.cps_append, Array.toList_append]
theorem map_tl_inj : ∀ {l m : List Str}, l.map tl = m.map tl → l = m
  | [], [], _ => rfl
  | [], _ :: _, h => by simp at h
  | _ :: _, [], h => by simp at h
  | x :: l, y :: m, h => by
    rw [List.map_cons, List.map_cons] at h
    injection h with h1 h2
    rw [ext_tl h1, map_tl_inj h2]
def pre (S l : List Nat) : Bool := l.take S.length == S
def spl (S : List Nat) : Nat → List Nat → List Nat → List (List Nat)
  | _, acc, [] => [acc]
  | 0, acc, c :: r => if pre S (c :: r) = true then acc :: spl S (S.length - 1) [] r else spl S 0 (acc ++ [c]) r
  | k + 1, acc, _ :: r => spl S k acc r
def par (S : List Nat) : List Nat → List Nat → Option (List Nat × List Nat)
  | _, [] => none
  | acc, c :: r => if pre S (c :: r) = true then some (acc, (c :: r).drop S.length) else par S (acc ++ [c]) r
theorem spl_nil (S : List Nat) (k : Nat) (acc : List Nat) : spl S k acc [] = [acc] := by cases k <;> rfl
theorem spl_hit {S acc r : List Nat} {c : Nat} (h : pre S (c :: r) = true) : spl S 0 acc (c :: r) = acc :: spl S (S.length - 1) [] r := by
  show (if pre S (c :: r) = true then acc :: spl S (S.length - 1) [] r else spl S 0 (acc ++ [c]) r) = _
  rw [if_pos h]
theorem spl_miss {S acc r : List Nat} {c : Nat} (h : pre S (c :: r) = false) : spl S 0 acc (c :: r) = spl S 0 (acc ++ [c]) r := by
  show (if pre S (c :: r) = true then acc :: spl S (S.length - 1) [] r else spl S 0 (acc ++ [c]) r) = _
  rw [if_neg (by rw [h]; exact Bool.false_ne_true)]
theorem spl_pass (S : List Nat) : ∀ (k : Nat) (acc l : List Nat), spl S k acc l = spl S 0 acc (l.drop k)
  | 0, _, _ => by rw [List.drop_zero]
  | k + 1, acc, [] => by rw [List.drop_nil, spl_nil, spl_nil]
  | k + 1, acc, c :: r => by
    show spl S k acc r = spl S 0 acc (r.drop k)
    exact spl_pass S k acc r
theorem pre_nil {S : List Nat} (hS : S ≠ []) : pre S [] = false := by
  cases S with
  | nil => exact absurd rfl hS
  | cons s S => rfl
theorem pre_of_head {s c : Nat} (S r : List Nat) (h : c ≠ s) : pre (s :: S) (c :: r) = false := by
  cases hp : pre (s :: S) (c :: r) with
  | false => rfl
  | true =>
    have e : (c :: r).take (s :: S).length = s :: S := eq_of_beq hp
    rw [List.length_cons, List.take_succ_cons] at e
    injection e with e1 e2
    exact absurd e1 h
theorem pre_self (S r : List Nat) : pre S (S ++ r) = true := by
  show ((S ++ r).take S.length == S) = true
  have e : (S ++ r).take S.length = S := List.take_left
  rw [e] <;> exact beq_self_eq_true S
theorem getElem_drop_cons {L : List Nat} {a : Nat} (h : a < L.length) : ∃ c, L.drop a = c :: L.drop (a + 1) := ⟨L[a], List.drop_eq_getElem_cons h⟩
theorem spl_run (S L : List Nat) : ∀ (m a : Nat) (acc : List Nat), a + m ≤ L.length → (∀ k, a ≤ k → k < a + m → pre S (L.drop k) = false) →
    spl S 0 acc (L.drop a) = spl S 0 (acc ++ (L.drop a).take m) (L.drop (a + m))
  | 0, a, acc, _, _ => by rw [List.take_zero, List.append_nil, Nat.add_zero]
  | m + 1, a, acc, h, hn => by
    have hlt : a < L.length := by omega
    obtain ⟨c, e⟩ := getElem_drop_cons hlt
    have h0 := hn a (Nat.le_refl _) (by omega)
    have ih := spl_run S L m (a + 1) (acc ++ [c]) (by omega) (fun k h1 h2 => hn k (by omega) (by omega))
    have e2 : a + 1 + m = a + (m + 1) := by omega
    rw [e2] at ih
    rw [e] at h0
    rw [e, spl_miss h0, ih, List.take_succ_cons, List.append_assoc] <;> rfl
theorem drop_two (L : List Nat) (a b : Nat) : (L.drop a).drop b = L.drop (a + b) := by
  first
    | rw [List.drop_drop]
    | rw [List.drop_drop, Nat.add_comm]
theorem spl_at {S L : List Nat} (hS : S ≠ []) {c : Nat} {acc : List Nat} (h : pre S (L.drop c) = true) : spl S 0 acc (L.drop c) = acc :: spl S 0 [] (L.drop (c + S.length)) := by
  rw [← drop_two]
  cases e : L.drop c with
  | nil => rw [e, pre_nil hS] at h; cases h
  | cons d r =>
    rw [e] at h
    rw [spl_hit h, spl_pass]
    cases S with
    | nil => exact absurd rfl hS
    | cons s S => rfl
theorem at_iff {x y : Str} (hy : tl y ≠ []) (i : Nat) : At x y x.length i ↔ pre (tl y) ((tl x).drop i) = true := by
  have hx := len_tl x
  have hl := len_tl y
  constructor
  · intro h
    have h2 := h.2
    rw [subAt_eq, hl] at h2
    exact h2
  · intro h
    have e : ((tl x).drop i).take (tl y).length = tl y := eq_of_beq h
    have e1 := congrArg List.length e
    rw [List.length_take, List.length_drop] at e1
    have e2 : 0 < (tl y).length := List.length_pos_iff.mpr hy
    refine ⟨by omega, ?_⟩
    rw [subAt_eq, hl]
    exact h
theorem no_at {x y : Str} (hy : tl y ≠ []) {i : Nat} (h : ¬ At x y x.length i) : pre (tl y) ((tl x).drop i) = false := by
  cases hp : pre (tl y) ((tl x).drop i) with
  | false => rfl
  | true => exact absurd ((at_iff hy i).mpr hp) h
theorem len1 {y : Str} (hy : tl y ≠ []) : 1 ≤ y.length := by
  have e2 : 0 < (tl y).length := List.length_pos_iff.mpr hy
  rw [len_tl y]
  exact e2
theorem tl_strSub (x : Str) (i j : Nat) : tl (strSub x i j) = ((tl x).drop i).take (j - i) := strSub_toList x i j
theorem tl_strSub_end (x : Str) (i : Nat) : tl (strSub x i x.length) = (tl x).drop i := by
  rw [tl_strSub, len_tl x]
  exact List.take_of_length_le (by rw [List.length_drop] <;> omega)
theorem parts_spl {x y : Str} (hy : tl y ≠ []) : ∀ (cuts : List Nat) (a f : Nat), a ≤ (tl x).length → ChainG x y x.length a cuts f → (∀ k, f ≤ k → ¬ At x y x.length k) →
    (partsFrom x y.length a cuts).map tl = spl (tl y) 0 [] ((tl x).drop a)
  | [], a, f, ha, h, hn => by
    have e : f = a := h
    subst e
    show [tl (strSub x f x.length)] = _
    have run := spl_run (tl y) (tl x) ((tl x).length - f) f [] (by omega) (fun k h1 _ => no_at hy (hn k h1))
    have e2 : f + ((tl x).length - f) = (tl x).length := by omega
    rw [e2, List.drop_length, spl_nil, List.nil_append, List.take_of_length_le (by rw [List.length_drop] <;> omega)] at run
    rw [run, tl_strSub_end]
  | c :: r, a, f, ha, h, hn => by
    obtain ⟨h1, h2, h3, h4⟩ := h
    have hc : c + y.length ≤ x.length := h2.1
    have hx := len_tl x
    have hl := len_tl y
    have ih := parts_spl hy r (c + y.length) f (by omega) h4 hn
    show tl (strSub x a c) :: (partsFrom x y.length (c + y.length) r).map tl = _
    have run := spl_run (tl y) (tl x) (c - a) a [] (by omega) (fun k k1 k2 => no_at hy (h3 k k1 (by omega)))
    have e2 : a + (c - a) = c := by omega
    rw [e2, List.nil_append, spl_at hy ((at_iff hy c).mp h2)] at run
    rw [run, ih, tl_strSub, hl]
theorem split_spl (x y : Str) (hy : tl y ≠ []) (hk : ¬ Builtin.Str.strKind x < Builtin.Str.strKind y) : (Txt.split x y).map tl = spl (tl y) 0 [] (tl x) := by
  obtain ⟨f, g, hn⟩ := occ_tight x y (len1 hy)
  have key := parts_spl hy _ 0 f (Nat.zero_le _) g hn
  rw [List.drop_zero] at key
  have none_case : occurrences x y 0 x.length (x.length + 1) = [] → [x].map tl = spl (tl y) 0 [] (tl x) := fun ho => by
    rw [ho] at key
    rw [← key]
    show [tl x] = [tl (strSub x 0 x.length)]
    rw [sub_whole]
  unfold Txt.split
  by_cases h1 : (decide (x.length < y.length) || decide (Builtin.Str.strKind x < Builtin.Str.strKind y)) = true
  · rw [if_pos h1]
    have hlt : x.length < y.length := by
      simp only [Bool.or_eq_true, decide_eq_true_eq] at h1
      rcases h1 with h | h
      · exact h
      · exact absurd h hk
    refine none_case ?_
    cases ho : occurrences x y 0 x.length (x.length + 1) with
    | nil => rfl
    | cons c r =>
      rw [ho] at g
      have hc : c + y.length ≤ x.length := g.2.1.1
      omega
  · rw [if_neg h1]
    by_cases h2 : (occurrences x y 0 x.length (x.length + 1)).isEmpty = true
    · rw [if_pos h2]
      exact none_case (List.isEmpty_iff.mp h2)
    · rw [if_neg h2, partsBetween_eq]
      exact key
theorem kind_ok {x y : Str} (h : y.cps.all (· < 256) = true) : ¬ Builtin.Str.strKind x < Builtin.Str.strKind y := by
  have e : Builtin.Str.strKind y = 1 := by unfold PySem.Builtin.Str.strKind; rw [if_pos h]
  rw [e]
  unfold PySem.Builtin.Str.strKind
  split
  · omega
  · split <;> omega
theorem spl_part {S p rest acc : List Nat} (hS : S ≠ []) (h : ∀ i, i < p.length → pre S ((p ++ (S ++ rest)).drop i) = false) :
    spl S 0 acc (p ++ (S ++ rest)) = (acc ++ p) :: spl S 0 [] rest := by
  have run := spl_run S (p ++ (S ++ rest)) p.length 0 acc (by rw [List.length_append]; omega) (fun k _ k2 => h k (by omega))
  have ed : (p ++ (S ++ rest)).drop p.length = S ++ rest := List.drop_left
  rw [List.drop_zero, Nat.zero_add, List.take_left] at run
  rw [run, spl_at hS (by rw [ed]; exact pre_self S rest), ← drop_two, ed, List.drop_left]
theorem spl_last {S p acc : List Nat} (h : ∀ i, i < p.length → pre S (p.drop i) = false) : spl S 0 acc p = [acc ++ p] := by
  have run := spl_run S p p.length 0 acc (by omega) (fun k _ k2 => h k (by omega))
  rw [List.drop_zero, Nat.zero_add, List.drop_length, spl_nil, List.take_length] at run
  exact run
theorem free_of {s : Nat} {S p q : List Nat} (h : s ∉ p) : ∀ i, i < p.length → pre (s :: S) ((p ++ q).drop i) = false := fun i hi => by
  have hlt : i < (p ++ q).length := by rw [List.length_append]; omega
  have e : (p ++ q).drop i = (p ++ q)[i] :: (p ++ q).drop (i + 1) := List.drop_eq_getElem_cons hlt
  rw [e]
  refine pre_of_head _ _ fun z => h ?_
  have e1 : (p ++ q)[i] = p[i] := List.getElem_append_left hi
  rw [← z, e1]
  exact List.getElem_mem hi
theorem spl_part1 {s : Nat} {S p rest acc : List Nat} (h : s ∉ p) : spl (s :: S) 0 acc (p ++ (s :: S ++ rest)) = (acc ++ p) :: spl (s :: S) 0 [] rest :=
  spl_part (by simp) (free_of h)
theorem spl_last1 {s : Nat} {S p acc : List Nat} (h : s ∉ p) : spl (s :: S) 0 acc p = [acc ++ p] := spl_last fun i hi => by
  have z := free_of (S := S) (q := []) h i hi
  rw [List.append_nil] at z
  exact z
def joinL (S : List Nat) : List (List Nat) → List Nat
  | [] => []
  | [p] => p
  | p :: q :: r => p ++ (S ++ joinL S (q :: r))
theorem tl_join (y : Str) : ∀ parts : List Str, tl (Str.join y parts) = joinL (tl y) (parts.map tl)
  | [] => rfl
  | [_] => rfl
  | x :: z :: r => by
    show tl (x ++ y ++ Str.join y (z :: r)) = tl x ++ (tl y ++ joinL (tl y) ((z :: r).map tl))
    rw [tl_append, tl_append, tl_join y (z :: r), List.append_assoc]
theorem spl_join {s : Nat} {S : List Nat} : ∀ {parts : List (List Nat)}, parts ≠ [] → (∀ p ∈ parts, s ∉ p) → spl (s :: S) 0 [] (joinL (s :: S) parts) = parts
  | [], h, _ => absurd rfl h
  | [p], _, hp => by
    show spl (s :: S) 0 [] p = [p]
    rw [spl_last1 (hp p (List.mem_singleton.mpr rfl)), List.nil_append]
  | p :: q :: r, _, hp => by
    show spl (s :: S) 0 [] (p ++ (s :: S ++ joinL (s :: S) (q :: r))) = p :: q :: r
    rw [spl_part1 (hp p (List.mem_cons_self ..)), List.nil_append, spl_join (by simp) fun z hz => hp z (List.mem_cons_of_mem _ hz)]
theorem join_eq (y : Str) (parts : List Str) : Txt.join y parts = Str.join y parts := glued_eq_join y parts
theorem split_join {y : Str} {s : Nat} {S : List Nat} (ey : tl y = s :: S) (hk : y.cps.all (· < 256) = true) {parts : List Str} (hne : parts ≠ []) (hp : ∀ p ∈ parts, s ∉ tl p) :
    Txt.split (Txt.join y parts) y = parts := by
  refine map_tl_inj ?_
  rw [split_spl _ y (by rw [ey]; simp) (kind_ok hk), join_eq, tl_join, ey]
  refine spl_join (fun e => hne (List.map_eq_nil_iff.mp e)) fun p h => ?_
  obtain ⟨z, hz, rfl⟩ := List.mem_map.mp h
  exact hp z hz
def numL (n : Nat) : List Nat := (Nat.toDigits 10 n).map Char.toNat
theorem tl_num (n : Nat) : tl (Str.ofString (toString ((n : Nat) : Int))) = numL n := PySem.W.KIN.signs_num n
theorem digitChar_nat : ∀ d : Nat, d < 10 → (Nat.digitChar d).toNat = 48 + d := by decide
theorem numL_lt {n : Nat} (h : n < 10) : numL n = [48 + n] := by
  unfold numL
  rw [Nat.toDigits_of_lt_base h]
  show [(Nat.digitChar n).toNat] = _
  rw [digitChar_nat n h]
theorem numL_step {n : Nat} (h : 10 ≤ n) : numL n = numL (n / 10) ++ [48 + n % 10] := by
  have hm : n % 10 < 10 := Nat.mod_lt n (by decide)
  have t : Nat.toDigits 10 (n / 10) ++ Nat.toDigits 10 (n % 10) = Nat.toDigits 10 (10 * (n / 10) + n % 10) := Nat.toDigits_append_toDigits (by decide) (by omega) hm
  rw [Nat.div_add_mod] at t
  show (Nat.toDigits 10 n).map Char.toNat = _
  rw [← t, List.map_append, Nat.toDigits_of_lt_base hm]
  show (Nat.toDigits 10 (n / 10)).map Char.toNat ++ [(Nat.digitChar (n % 10)).toNat] = _
  rw [digitChar_nat _ hm] <;> rfl
theorem numL_digits (n : Nat) : NumText.AllDigits (numL n) := by
  induction n using Nat.strongRecOn with
  | _ n ih =>
    by_cases h : n < 10
    · rw [numL_lt h]
      intro c hc
      rw [List.mem_singleton.mp hc]
      omega
    · rw [numL_step (by omega)]
      intro c hc
      rcases List.mem_append.mp hc with hc | hc
      · exact ih (n / 10) (by omega) c hc
      · have hm : n % 10 < 10 := Nat.mod_lt n (by decide)
        rw [List.mem_singleton.mp hc]
        omega
theorem numL_len {n k : Nat} (hk : 0 < k) (h : n < 10 ^ k) : (numL n).length ≤ k := by
  have z := PyProof.Rows.toString_length_le (v := (n : Int)) (by omega) hk (by
    have e : ((10 : Int) ^ k) = ((10 ^ k : Nat) : Int) := by
      first
        | exact (Int.natCast_pow 10 k).symm
        | simp
    rw [e]
    first | exact Int.ofNat_lt.mpr h | omega)
  rw [len_tl, tl_num] at z
  exact z
end TL
end
namespace L2
open PySem PySem.Spec PyProof.Rows
theorem notLong {n : Nat} (h : n ≤ 16777216) : Builtin.Str.tooLong n = false := by
  have e : (2 : Nat) ^ 24 = 16777216 := by decide
  unfold Builtin.Str.tooLong sizeLine
  exact decide_eq_false (by omega)
theorem vals_strs : ∀ l : List (Str × Tok), Vals ((l.map (·.1)).map V.str) (strValues l)
  | [] => .nil
  | p :: r => .cons ⟨p.2, rfl⟩ (vals_strs r)
theorem strs_of_vals : ∀ {ys : List Str} {us : List Value}, Vals (ys.map V.str) us → StrsAre us ys
  | [], _, .nil => .nil
  | y :: ys, _, .cons r t => by
    obtain ⟨k, rfl⟩ := r
    exact .cons y k (strs_of_vals t)
def rNewStrs (ys : List Str) : Hp → VK → Prop := fun H Q => ∀ p, H p = none → Q (.ref p) (upd H p (.lst (ys.map V.str)))
section
variable {X : Cx} {pins : List (Addr × Obj)} {σ : St} {H : Hp} {s : Shared} {Q : VK}
theorem laid_strs {l : List (Str × Tok)} {ys : List Str} {k : Nat} (I : Inv X pins σ H s) (e : l.map (·.1) = ys) (hz : ys.length ≤ sizeLine) (h : rNewStrs ys H Q) :
    EP X pins σ Q (.ref s.heap.objs.size) { s with toks := k, heap := s.heap.push { cls := .type "list", data := .seq (strValues l).toArray } } := by
  have hp := I.hok.fresh (Nat.le_refl _)
  refine ⟨.ref s.heap.objs.size, upd H s.heap.objs.size (.lst (ys.map V.str)), I.laid (fun b u q => Heap.get?_push_of_some _ q) (Nat.le_refl _) ⟨by rw [List.length_map]; exact hz, strValues l, _, ?_, Heap.get?_push_size _ rfl⟩, rfl, h _ hp⟩
  rw [← e]
  exact vals_strs l
end
section
variable {X : Cx}
theorem mt_split : MtR X "str.split" (fun x xs H Q => ∃ a b, x = .str a ∧ xs = [.str b] ∧ (b.length == 0) = false ∧ a.length + 2 ≤ sizeLine ∧ rNewStrs (Txt.split a b) H Q) := by
  intro pins s σ H x xs v us Q I rx rs h
  obtain ⟨a, b, rfl, rfl, hb, hz, h⟩ := h
  obtain ⟨t, rfl⟩ := rx
  cases rs with
  | cons r1 rs =>
    cases rs
    obtain ⟨u, rfl⟩ := r1
    have hl : (Txt.split a b).length ≤ sizeLine := Nat.le_trans (PyProof.Rows.split_le a b) hz
    have hn : (Builtin.Str.partsBetween a (Builtin.Str.occurrences a b 0 a.length (a.length + 1)) b.length).length ≤ sizeLine := by
      have e1 := StrLaws.occ_length_le a b 0 a.length (a.length + 1)
      rw [length_partsBetween]; omega
    cases h1 : (decide (a.length < b.length) || decide (Builtin.Str.strKind a < Builtin.Str.strKind b))
    · cases hf : (Builtin.Str.occurrences a b 0 a.length (a.length + 1)).isEmpty
      · refine call_meets F.slot_str_split (typeIs_str _ _ _) F.entry_str_split (F.args_str_split_2 _ _) (meets_str_split_sep a b t u h1 hb hf (by omega) hn) ?_
        show EP X pins σ Q (.ref s.heap.objs.size) { s with toks := _, heap := s.heap.push { cls := .type "list", data := .seq (strsFrom s.toks (Builtin.Str.partsBetween a (Builtin.Str.occurrences a b 0 a.length (a.length + 1)) b.length)).toArray } }
        rw [strsFrom_eq]
        exact laid_strs (ys := Txt.split a b) I ((numbered_texts _ _).trans ((if_neg (ne_true_of_eq_false h1)).trans (if_neg (ne_true_of_eq_false hf))).symm) hl h
      · refine call_meets F.slot_str_split (typeIs_str _ _ _) F.entry_str_split (F.args_str_split_2 _ _) (meets_str_split_not_found a b t u h1 hb hf) ?_
        exact laid_strs (l := [(a, t)]) (ys := Txt.split a b) (k := s.toks) I ((if_neg (ne_true_of_eq_false h1)).trans (if_pos hf)).symm hl h
    · refine call_meets F.slot_str_split (typeIs_str _ _ _) F.entry_str_split (F.args_str_split_2 _ _) (meets_str_split_cannot_occur a b t u h1) ?_
      exact laid_strs (l := [(a, t)]) (ys := Txt.split a b) (k := s.toks) I (if_pos h1).symm hl h
theorem mt_join : MtR X "str.join" (fun x xs H Q => ∃ a p, ∃ ys : List Str, x = .str a ∧ xs = [.ref p] ∧ (SqL X.K H p (ys.map V.str) ∨ SqT X.K H p (ys.map V.str)) ∧
    (ys.map (·.length)).sum + ys.length * a.length ≤ 16777216 ∧ Q (.str (Txt.join a ys)) H) := by
  intro pins s σ H x xs v us Q I rx rs h
  obtain ⟨a, p, ys, rfl, rfl, hp, hz, h⟩ := h
  obtain ⟨t, rfl⟩ := rx
  cases rs with
  | cons r1 rs =>
    cases rs
    cases r1
    rcases hp with hp | hp
    · obtain ⟨its, r, ⟨o, n, ho, hc, _, hd⟩, _⟩ := I.list hp
      exact PyProof.Rows.join_list (items := its.toArray) ⟨o, ho, hc, n, hd⟩ (by rw [List.toList_toArray]; exact strs_of_vals r) hz fun t' k => ⟨.str _, H, I.tok k, ⟨t', rfl⟩, h⟩
    · obtain ⟨its, r, ht, _⟩ := I.tuple hp
      exact PyProof.Rows.join_tuple (items := its.toArray) ht (by rw [List.toList_toArray]; exact strs_of_vals r) hz fun t' k => ⟨.str _, H, I.tok k, ⟨t', rfl⟩, h⟩
theorem mt0 {id : String} {C : Str → Prop} {g : Str → V} (rule : ∀ (a : Str) (t : Tok) (s : Shared) (Q : Value → Shared → Prop), C a → (∀ (u : Value) (k : Nat), RelV (g a) u → Q u { s with toks := k }) →
    wpAny (model X.prog X.w) X.A (call (.builtin id) [.str a t]) Q X.xe s) : MtR X id (fun x xs H Q => ∃ a, x = .str a ∧ xs = [] ∧ C a ∧ Q (g a) H) := by
  intro pins s σ H x xs v us Q I rx rs h
  obtain ⟨a, rfl, rfl, hc, h⟩ := h
  obtain ⟨t, rfl⟩ := rx
  cases rs
  exact rule a t s _ hc fun u k r => ⟨g a, H, I.tok k, r, h⟩
theorem mt_upper : MtR X "str.upper" (fun x xs H Q => ∃ a, x = .str a ∧ xs = [] ∧ a.length ≤ 5592405 ∧ Q (.str (Txt.upper a)) H) :=
  mt0 (C := fun a => a.length ≤ 5592405) (g := fun a => .str (Txt.upper a)) fun a _ s _ hc h =>
    PySem.SC.upper (notLong (by have h1 : a.length ≤ 5592405 := hc; have := PyProof.Rows.len_upper a; omega)) (h _ (s.toks + 1) ⟨_, rfl⟩)
theorem call_int_str : CallR X (.type "int") (fun xs H Q => ∃ a n, xs = [.str a] ∧ PySem.intText? a = some n ∧ a.length ≤ 640 ∧ Q (.int n) H) := by
  intro pins s σ H xs us Q I rs h
  obtain ⟨a, n, rfl, hn, hl, h⟩ := h
  cases rs with
  | cons r1 rs =>
    cases rs
    obtain ⟨t, rfl⟩ := r1
    exact PySem.W.KIN.call_text hn hl ⟨.int n, H, I.tok _, ⟨_, rfl⟩, h⟩
end
section
variable {X : Cx} {o e : Expr} {to te : TE}
def tM0 (r : V → List V → Hp → VK → Prop) (to : TE) : TE := fun σ H Q => to σ H fun x H1 => (∃ a, x = .str a) ∧ r x [] H1 Q
def tM1 (r : V → List V → Hp → VK → Prop) (to te : TE) : TE := fun σ H Q => to σ H fun x H1 => (∃ a, x = .str a) ∧ te σ H1 fun y H2 => r x [y] H2 Q
theorem pe_m0 {id : String} {name : Str} {apos pos : Pos} {r : V → List V → Hp → VK → Prop} (slot : Slot "str" name id) (ty : typeOf (.builtin id) = pure (.type "method_descriptor")) (rule : MtR X id r) (ho : PE X o to)
    (hbase : attributeBase o name X.env (eval o X.env) = eval o X.env := by rfl) (hline : (apos.endLine == pos.line) = true := by rfl) : PE X (.Call (.Attribute o name apos) [] [] pos) (tM0 r to) := by
  intro pins s σ H Q I h
  refine PySem.Call_method0 hbase hline (thn (ho pins s σ H _ I h) fun v s1 ⟨x, H1, I1, r1, q1⟩ => ?_)
  obtain ⟨⟨a, rfl⟩, q1⟩ := q1
  obtain ⟨t, rfl⟩ := _root_.id r1
  exact ⟨"str", _, F.plainAttrs_str, slot, ty, typeIs_str _ _ _, (fun _ e => nomatch e), Calls.callWith_builtin rfl (PySem.evalArgs_none (rule pins s1 σ H1 _ [] _ [] Q I1 r1 .nil q1))⟩
theorem pe_m1 {id : String} {name : Str} {apos pos : Pos} {r : V → List V → Hp → VK → Prop} (slot : Slot "str" name id) (ty : typeOf (.builtin id) = pure (.type "method_descriptor")) (rule : MtR X id r) (ho : PE X o to) (he : PE X e te)
    (hs : starEach [e] X.env = [(false, eval e X.env)] := by rfl) (hbase : attributeBase o name X.env (eval o X.env) = eval o X.env := by rfl) (hline : (apos.endLine == pos.line) = true := by rfl) :
    PE X (.Call (.Attribute o name apos) [e] [] pos) (tM1 r to te) := by
  intro pins s σ H Q I h
  refine PySem.Call_method1 hbase hs hline (thn (ho pins s σ H _ I h) fun v s1 ⟨x, H1, I1, r1, q1⟩ => ?_)
  obtain ⟨⟨a, rfl⟩, q1⟩ := q1
  obtain ⟨t, rfl⟩ := _root_.id r1
  refine ⟨"str", _, F.plainAttrs_str, slot, ty, typeIs_str _ _ _, (fun _ e => nomatch e), Calls.callWith_builtin rfl (Calls.evalArgs_plain (Calls.spliced_cons ?_))⟩
  exact thn (he pins s1 σ H1 _ I1 q1) fun u s2 ⟨y, H2, I2, r2, q2⟩ => Calls.spliced_nil (rule pins s2 σ H2 _ [y] _ [u] Q I2 r1 (.cons r2 .nil) q2)
theorem pe_split {apos pos : Pos} (ho : PE X o to) (he : PE X e te) (hs : starEach [e] X.env = [(false, eval e X.env)] := by rfl) (hbase : attributeBase o "split" X.env (eval o X.env) = eval o X.env := by rfl) (hline : (apos.endLine == pos.line) = true := by rfl) :
    PE X (.Call (.Attribute o "split" apos) [e] [] pos) (tM1 (fun x xs H Q => ∃ a b, x = .str a ∧ xs = [.str b] ∧ (b.length == 0) = false ∧ a.length + 2 ≤ sizeLine ∧ rNewStrs (Txt.split a b) H Q) to te) :=
  pe_m1 F.slot_str_split F.type_str_split mt_split ho he hs hbase hline
theorem pe_join {apos pos : Pos} (ho : PE X o to) (he : PE X e te) (hs : starEach [e] X.env = [(false, eval e X.env)] := by rfl) (hbase : attributeBase o "join" X.env (eval o X.env) = eval o X.env := by rfl) (hline : (apos.endLine == pos.line) = true := by rfl) :
    PE X (.Call (.Attribute o "join" apos) [e] [] pos) (tM1 (fun x xs H Q => ∃ a p, ∃ ys : List Str, x = .str a ∧ xs = [.ref p] ∧ (SqL X.K H p (ys.map V.str) ∨ SqT X.K H p (ys.map V.str)) ∧
      (ys.map (·.length)).sum + ys.length * a.length ≤ 16777216 ∧ Q (.str (Txt.join a ys)) H) to te) :=
  pe_m1 F.slot_str_join F.type_str_join mt_join ho he hs hbase hline
theorem pe_upper {apos pos : Pos} (ho : PE X o to) (hbase : attributeBase o "upper" X.env (eval o X.env) = eval o X.env := by rfl) (hline : (apos.endLine == pos.line) = true := by rfl) :
    PE X (.Call (.Attribute o "upper" apos) [] [] pos) (tM0 (fun x xs H Q => ∃ a, x = .str a ∧ xs = [] ∧ a.length ≤ 5592405 ∧ Q (.str (Txt.upper a)) H) to) :=
  pe_m0 F.slot_str_upper F.type_str_upper mt_upper ho hbase hline
end
end L2
namespace L2
open PySem PySem.Spec PyProof.Rows
section
variable {X : Cx}
theorem op_in_sign : OpR X (compareOp .In) (fun x y H Q => ∃ (c : Nat) (z : Str), x = .str ⟨#[c]⟩ ∧ y = .str z ∧ Q (.bl (decide (c ∈ z.cps.toList))) H) := by
  intro pins s σ H x y v u Q I rx ry h
  obtain ⟨c, z, rfl, rfl, q⟩ := h
  obtain ⟨t, rfl⟩ := rx
  obtain ⟨t', rfl⟩ := ry
  exact PyProof.Rows.in_str (fin_bl I q (PySem.StrLaws.found_one z c).symm)
theorem op_notIn_sign : OpR X (compareOp .NotIn) (fun x y H Q => ∃ (c : Nat) (z : Str), x = .str ⟨#[c]⟩ ∧ y = .str z ∧ Q (.bl (!decide (c ∈ z.cps.toList))) H) := by
  intro pins s σ H x y v u Q I rx ry h
  obtain ⟨c, z, rfl, rfl, q⟩ := h
  obtain ⟨t, rfl⟩ := rx
  obtain ⟨t', rfl⟩ := ry
  exact PyProof.Rows.notIn_str (fin_bl I q (congrArg Bool.not (PySem.StrLaws.found_one z c).symm))
end
theorem IsPart.raw {v : Value} {o : Option Int} (p : IsPart v o) : ∃ l : Option (Int × Tok), v = partValue l ∧ l.map (·.1) = o := by
  cases p with
  | none => exact ⟨none, rfl, rfl⟩
  | int i t => exact ⟨some (i, t), rfl, rfl⟩
def clipS (n d : Nat) : Option Int → Int
  | none => (d : Int)
  | some i => max 0 (min (if i < 0 then i + (n : Int) else i) (n : Int))
theorem clipS_eq (n d : Nat) (o : Option Int) : clipS n d o = ((HT.sIx n d o : Nat) : Int) := by
  cases o with
  | none => rfl
  | some v =>
    show max (0 : Int) (min (if v < 0 then v + (n : Int) else v) (n : Int)) = (((if v < 0 then (v + (n : Int)).toNat else min v.toNat n) : Nat) : Int)
    by_cases hv : v < 0
    · simp only [if_pos hv]
      omega
    · simp only [if_neg hv]
      omega
theorem sidx_clip (a b : Option Int) (n : Nat) : Builtin.Str.strSliceIndices a b 1 n = sliceRange (clipS n 0 a) (clipS n n b) 1 := by
  have h1 : ((1 : Int) > 0) = True := by simp
  cases a <;> cases b <;> first
    | rfl
    | (simp only [Builtin.Str.strSliceIndices, clipS, h1, if_true]; rfl)
    | simp [Builtin.Str.strSliceIndices, clipS]
theorem sidx (a b : Option Int) (n : Nat) : Builtin.Str.strSliceIndices a b 1 n = (List.range (HT.sIx n n b - HT.sIx n 0 a)).map (fun k => HT.sIx n 0 a + k) := by
  rw [sidx_clip, clipS_eq, clipS_eq]
  generalize HT.sIx n 0 a = p
  generalize HT.sIx n n b = q
  simp only [sliceRange, show ((1 : Int) > 0) = True from by simp, if_true]
  by_cases hlt : (p : Int) < q
  · have e3 : (((q : Int) - p + 1 - 1) / 1).toNat = q - p := by first | omega | (simp; done) | (simp; omega)
    simp only [hlt, if_true, e3]
    refine List.map_congr_left fun k _ => ?_
    omega
  · have : q - p = 0 := by omega
    simp [hlt, this]
def cutS (z : Str) (lo hi : Option Int) : Str :=
  ⟨((z.cps.toList.drop (HT.sIx z.length 0 lo)).take (HT.sIx z.length z.length hi - HT.sIx z.length 0 lo)).toArray⟩
theorem sliceText_cut (z : Str) (lo hi : Option Int) : PySem.StrLaws.sliceText z lo hi = cutS z lo hi := by
  have h1 : HT.sIx z.length 0 lo ≤ z.length := HT.sIx_le _ _ (Nat.zero_le _) _
  have h2 : HT.sIx z.length z.length hi ≤ z.length := HT.sIx_le _ _ (Nat.le_refl _) _
  have hp : HT.sIx z.length 0 lo ≤ max (HT.sIx z.length 0 lo) (HT.sIx z.length z.length hi) := Nat.le_max_left _ _
  have hq : max (HT.sIx z.length 0 lo) (HT.sIx z.length z.length hi) ≤ z.length := Nat.max_le.mpr ⟨h1, h2⟩
  have hd : max (HT.sIx z.length 0 lo) (HT.sIx z.length z.length hi) - HT.sIx z.length 0 lo = HT.sIx z.length z.length hi - HT.sIx z.length 0 lo := by omega
  have e : Builtin.Str.strSliceIndices lo hi 1 z.length =
      Builtin.Str.strSliceIndices (some ((HT.sIx z.length 0 lo : Nat) : Int)) (some ((max (HT.sIx z.length 0 lo) (HT.sIx z.length z.length hi) : Nat) : Int)) 1 z.length := by
    rw [PySem.StrLaws.strSliceIndices_plain hp hq, hd, sidx]
  have e2 : PySem.StrLaws.sliceText z lo hi =
      PySem.StrLaws.sliceText z (some ((HT.sIx z.length 0 lo : Nat) : Int)) (some ((max (HT.sIx z.length 0 lo) (HT.sIx z.length z.length hi) : Nat) : Int)) := by
    unfold PySem.StrLaws.sliceText
    rw [e]
  rw [e2, PySem.StrLaws.sliceText_nat z hp hq, hd]
  rfl
theorem cutS_length (z : Str) (lo hi : Option Int) : (cutS z lo hi).length ≤ z.length := by
  show (((z.cps.toList.drop (HT.sIx z.length 0 lo)).take (HT.sIx z.length z.length hi - HT.sIx z.length 0 lo)).toArray).size ≤ z.cps.size
  rw [List.size_toArray, List.length_take, List.length_drop, Array.length_toList]
  omega
def rSlS : V → Option Int → Option Int → Hp → VK → Prop := fun x lo hi H Q => ∃ z, x = .str z ∧ z.length ≤ sizeLine ∧ Q (.str (cutS z lo hi)) H
theorem sl_str {X : Cx} : SlR X rSlS := by
  intro pins s σ H x v vl vu lo hi sl Q I rx hs pl pu h
  obtain ⟨z, rfl, hz, q⟩ := h
  obtain ⟨t, rfl⟩ := rx
  obtain ⟨os, hos, hcs, hds⟩ := hs
  obtain ⟨l, rfl, rfl⟩ := IsPart.raw pl
  obtain ⟨u, rfl, rfl⟩ := IsPart.raw pu
  refine ⟨"str", _, F.slot_str_getitem.lookup, typeIs_str _ _ _, ?_⟩
  refine wpAny_getItem_str_slice (l := l) (u := u) (st := none) ⟨os, hos, hcs, hds⟩ rfl ?_
  have hl : (PySem.StrLaws.sliceText z (l.map (·.1)) (u.map (·.1))).length ≤ sizeLine := by
    rw [sliceText_cut]
    exact Nat.le_trans (cutS_length z _ _) hz
  rw [← sliceText_cut] at q
  unfold PySem.StrLaws.sliceText at q hl
  show Made.post (if ((1 : Int) == 1 && (Builtin.Str.strSliceIndices (l.map (·.1)) (u.map (·.1)) 1 z.length).length == z.length) = true then Made.val (.str z t)
    else Made.str ⟨((Builtin.Str.strSliceIndices (l.map (·.1)) (u.map (·.1)) 1 z.length).filterMap (z.cps[·]?)).toArray⟩) (EP X pins σ Q) s
  by_cases c : ((1 : Int) == 1 && (Builtin.Str.strSliceIndices (l.map (·.1)) (u.map (·.1)) 1 z.length).length == z.length) = true
  · rw [if_pos c] at q ⊢
    exact ⟨.str z, H, I, ⟨t, rfl⟩, q⟩
  · rw [if_neg c] at q hl ⊢
    exact ⟨hl, .str _, H, I.tok _, ⟨_, rfl⟩, q⟩
end L2
namespace Att
open PySem PySem.W PySem.Calls PyProof.Rows
theorem ints_of_wellAll {P : Params} {h : Heap} : ∀ (ns : List Int) (vs : List Value), WellAll P h vs (ns.map WData.int) → IntsAre vs ns := by
  intro ns
  induction ns with
  | nil =>
    intro vs w
    rw [List.map_nil] at w
    cases w
    exact .nil
  | cons n ns ih =>
    intro vs w
    rw [List.map_cons] at w
    cases w with
    | cons a b =>
      cases a
      exact .cons _ _ (ih _ b)
theorem script_of {l : OpenLaw} {n : Nat} (hn : l.most = some n) {P : Params} {h : Heap} {args : List WData} {vals : List Value}
    (hpre : l.row.toRowW.claim.pre args = true) (hwl : WellAll P h vals args) :
    ∃ a vs ns, vals = [Value.ref a] ∧ args = [WData.list (ns.map WData.int)] ∧ h.get? a = some { cls := .type "list", data := .seq vs.toArray } ∧ IntsAre vs ns ∧ ns.length ≤ n := by
  have hsh : WShape.hasAll [] args [.list .int] = true := (pre_splitW hpre).1
  have hc : l.pre.holds [] { args := args } = true := (pre_splitW hpre).2
  obtain ⟨d, r, rfl, h1, h2⟩ := hasAllW_cons hsh
  obtain rfl := hasAllW_nil h2
  obtain ⟨xs, rfl, h3⟩ := hasW_list h1
  obtain ⟨ns, rfl⟩ := items_int h3
  have hlen : ns.length ≤ n := by
    unfold OpenLaw.pre at hc
    have h4 : (WTm.not (.lt (.lit (.int (n : Int))) (.len (.arg 0)))).holds [] { args := [.list (ns.map .int)] } = true := by
      have h4 := (holds_andW hc).1
      rw [hn] at h4
      exact h4
    have h5 := condW_of h4 (w_not (w_lt w_lit (w_len_list (w_arg rfl))))
    rw [List.length_map] at h5
    refine Nat.le_of_not_lt fun q => ?_
    have q' : (n : Int) < ((ns.length : Nat) : Int) := by omega
    first
      | (rw [decide_eq_true q'] at h5; exact absurd h5 (by decide))
      | (simp at h5; omega)
  cases hwl with
  | cons w1 w2 =>
    cases w2
    cases w1 with
    | list ho hall => exact ⟨_, _, ns, rfl, rfl, ho, ints_of_wellAll ns _ hall, hlen⟩
theorem post_true (l : OpenLaw) (args : List WData) : l.row.toRowW.claim.post args (.bool true) args = true :=
  postW_of (r := l.row.toRowW) (X := (true == true))
    (show WShape.has [] (.bool true) .bool = true by first | rfl | decide | simp [WShape.has, WShape.arms, WShape.armsAll])
    (show (WTm.eq .res (.lit (.bool true))).value [] { args := args, res := some (.bool true), after := args } = some (.bool (true == true)) from w_eq_bool (w_res rfl) w_lit) rfl
theorem attach_call {l : OpenLaw} {n : Nat} {q : Program} {loose : List Str} {XP : (Str → Option Value) → Heap → Prop} {YP : World → Heap → Prop} {d : DefRec}
    (hn : l.most = some n) (hdf : d.params.defaults = [])
    (call : ∀ (w : World) (s₀ s₁ : Shared) (mg mb : Str → Option Value) (fa : Addr) (o : Obj) (pm cd doc : Value) (a : Addr) (vs : List Value) (ns : List Int),
      Ground q loose [] XP w s₀ mg mb s₁.heap → YP w s₁.heap →
      s₁.heap.get? fa = some o → o.data = .func (docDef d.name d.params d.body d.scope pm cd doc) → s₁.heap.CodeRec cd d.name → mg d.name = some (.ref fa) →
      s₁.heap.get? a = some { cls := .type "list", data := .seq vs.toArray } → IntsAre vs ns → ns.length ≤ n → s₁.gens = #[] →
      codeAny (model l.prog w) callerA (.call (.ref fa) ⟨[.ref a], []⟩) (fun r s' => r = .ok (.ret (.bool true)) ∧ OldK s₁.heap s'.heap ∧ s'.os = s₁.os ∧ AllBare s'.gens) s₁) :
    WalkO q loose XP YP l.row.toRowW d [] (fun f vs => PySem.call f vs) := by
  intro w s₀ s₁ mg mb G Y fa o pm cd doc dV kV ho hd hcd hD hmg hg args vals as hpre hlay hrd hwl hlo
  obtain rfl : dV = .none := Dflts.none hD hdf
  obtain rfl : kV = .none := Dflts.noKw hD
  obtain ⟨a, vs, ns, rfl, rfl, hobj, hints, hlen⟩ := script_of hn hpre hwl
  refine enter_call (codeAny_mono (call w s₀ s₁ mg mb fa o pm cd doc a vs ns G Y ho (fd_plain hd) hcd hmg hobj hints hlen hg) fun r s' hq => ?_)
  obtain ⟨rfl, h2, h3, h4⟩ := hq
  exact ⟨.inl ⟨.bool true, .bool true, [], rfl, fun _ => rfl, .bool true, post_true l _, fun _ => ⟨List.Pairwise.nil, fun _ hm => (nomatch hm)⟩⟩, h2, h3, h4⟩
end Att
namespace L2
open PySem PySem.Spec PyProof.Rows
theorem vals_ints : ∀ {vs : List Value} {ns : List Int}, IntsAre vs ns → Vals (ns.map V.int) vs
  | _, _, .nil => .nil
  | _, _, .cons n t h => .cons ⟨t, rfl⟩ (vals_ints h)
def Only (H : Hp) : Prop := ∀ b, H b = none ∨ ∃ o xs, H b = some (.frz o (.lst xs))
theorem law_call {P : Program} {w : World} {K : PySem.W.Frag} {mg mb : Str → Option Value} {CX : CXT} {k : Nat} {fa a : Addr} {fd : FuncData} {x : Str} {sp : Sp} {s₁ : Shared} {vs : List Value} {ns : List Int}
    (KX : K.In s₁.heap) (hns : s₁.heap.Ns mainGlobals mg) (hb : s₁.heap.Ns builtinsNs mb) (hbb : ∀ x : Str, x ≠ "__name__" → mb x = bootBuiltins x) (hlim : s₁.heap.NoLimit) (hg : s₁.gens = #[])
    (ha : s₁.heap.get? a = some { cls := .type "list", data := .seq vs.toArray }) (hi : IntsAre vs ns) (hl : ns.length ≤ sizeLine) (hr : Room k callerA)
    (F : ∀ base : Heap, K.In base → base.Ns mainGlobals mg → FnOk P w K mg base CX k fa fd [x] sp) (hbind : ∀ (s : Shared) (u : Value), BindsTo s fd ⟨[u], []⟩ [(x, u)])
    (hsp : ∀ H : Hp, Only H → SqL K H a (ns.map V.int) → sp [.ref a] H (fun v _ => v = .bl true) fun _ _ _ => False)
    (hCX : ∀ H e s', CX [] H s₁ (fun _ _ _ => False) e s' → False) :
    codeAny (model P w) callerA (.call (.ref fa) ⟨[.ref a], []⟩) (fun r s' => r = .ok (.ret (.bool true)) ∧ OldK s₁.heap s'.heap ∧ s'.os = s₁.os ∧ AllBare s'.gens) s₁ := by
  have rv := vals_ints hi
  have lenV := hi.length
  have core : ∀ H : Hp, Only H → SqL K H a (ns.map V.int) → HOk P w H s₁.heap → (∀ b, H b ≠ none → b = a) → (H a ≠ none → K.lookup a = none) →
      codeAny (model P w) callerA (.call (.ref fa) ⟨[.ref a], []⟩) (fun r s' => r = .ok (.ret (.bool true)) ∧ OldK s₁.heap s'.heap ∧ s'.os = s₁.os ∧ AllBare s'.gens) s₁ := by
    intro H hO hS hok hA hK
    have base_of : ∀ {b : Addr} {o : Obj}, s₁.heap.get? b = some o → H b = none → (hidT s₁.heap H).get? b = some o := fun e n => hidT_get e n
    have noA : ∀ {b : Addr} {o : Obj} {es : Array DictEntry} {ep : Nat}, s₁.heap.get? b = some o → o.data = .dict es ep → H b = none := fun {b o es ep} e d => by
      cases q : H b with
      | none => rfl
      | some u =>
        have e' : b = a := hA b (by rw [q]; simp)
        subst e'
        rw [ha] at e; cases e
        have d' : Data.seq vs.toArray _ = Data.dict es ep := d
        cases d'
    have nsK : ∀ {b : Addr} {m : Str → Option Value}, s₁.heap.Ns b m → (hidT s₁.heap H).Ns b m := fun {b m} ⟨o, es, ep, e, d, r⟩ => ⟨o, es, ep, base_of e (noA e d), d, r⟩
    have hKb : K.In (hidT s₁.heap H) := fun b o e => base_of (KX b o e) (by
      cases q : H b with
      | none => rfl
      | some u =>
        have e' : b = a := hA b (by rw [q]; simp)
        subst e'
        rw [hK (by rw [q]; simp)] at e; cases e)
    have hM : Mod K mg (hidT s₁.heap H) := ⟨hKb, nsK hns, ⟨mb, nsK hb, hbb⟩, let ⟨mc, h1, h2⟩ := hlim; ⟨mc, nsK h1, h2⟩⟩
    have e0 : Env0 P w K mg (hidT s₁.heap H) callerA [] s₁ H := ⟨rfl, hM, fun b o e => of_hidT e, Nat.le_of_eq (hidT_size _ _), trivial, fun b hb => absurd (show b ∈ ([] : List Addr) from hb) (by simp), hok, .of_eq hg⟩
    refine codeAny_mono ((F _ hKb (nsK hns)).run callerA [] s₁ H ⟨[.ref a], []⟩ [.ref a] [.ref a] _ _ hr e0 (hbind s₁ (.ref a)) (.cons rfl .nil) (hsp H hO hS)) fun r s' h => ?_
    cases r with
    | error e => exact (hCX H e s' h).elim
    | ok fl =>
      cases fl with
      | next => exact False.elim h
      | brk => exact False.elim h
      | cont => exact False.elim h
      | ret u =>
        obtain ⟨v, H', os, bare, un, hok', r', q⟩ := h
        have q' : v = .bl true := q
        subst q'
        obtain rfl : u = Value.bool true := r'
        refine ⟨rfl, OldK.of_keep fun b o e => ?_, os, bare⟩
        cases q : H b with
        | none => exact un.keep b o e q (by intro z; exact absurd (show b ∈ ([] : List Addr) from z) (by simp)) (by simp)
        | some u =>
          rcases hO b with z | ⟨ob, xs, z⟩
          · rw [q] at z; cases z
          · have z2 := un.frzs b ob _ z
            obtain ⟨e1, _⟩ := hok b _ z
            obtain ⟨e2, _⟩ := hok' b _ z2
            rw [e] at e1; cases e1
            exact e2
  cases hk : K.lookup a with
  | some o =>
    have e := KX a o hk
    rw [ha] at e
    cases e
    refine core (fun _ => none) (fun _ => .inl rfl) (.inr ⟨_, vs.toArray, _, hk, rfl, rfl, rfl, by rw [List.size_toArray, lenV]; exact hl, by simpa using rv⟩) (fun b u z => by have z' : (none : Option HO) = some u := z; cases z') (fun b z => absurd rfl z) fun z => absurd rfl z
  | none =>
    refine core (fun b => if b = a then some (.frz { cls := .type "list", data := .seq vs.toArray } (.lst (ns.map V.int))) else none) (fun b => ?_) (.inl (.inr ⟨{ cls := .type "list", data := .seq vs.toArray }, if_pos rfl⟩)) (fun b u z => ?_) (fun b z => ?_) fun _ => hk
    · by_cases hb : b = a
      · exact .inr ⟨_, _, if_pos hb⟩
      · exact .inl (if_neg hb)
    · by_cases hb : b = a
      · have z' := (if_pos hb).symm.trans z
        cases z'
        subst hb
        exact ⟨ha, by rw [List.length_map]; exact hl, vs, _, rv, ha⟩
      · have z' := (if_neg hb).symm.trans z
        cases z'
    · by_cases hb : b = a
      · exact hb
      · exact absurd (if_neg hb) z
end L2
namespace L2
open PySem PySem.Spec PyProof.Rows
theorem walk_of {l : PySem.W.OpenLaw} {n k : Nat} {q : Program} {loose : List Str} {XP : (Str → Option Value) → Heap → Prop} {YP : World → Heap → Prop} {d : DefRec} {K : Params → PySem.W.Frag} {CX : World → CXT} {sp : World → Sp} {x : Str}
    (hn : l.most = some n) (hn2 : n ≤ sizeLine) (hdf : d.params.defaults = []) (hr : Room k callerA)
    (hY : ∀ (w : World) (h : Heap), YP w h → (K w.params).In h)
    (F : ∀ (w : World) (mg : Str → Option Value) (fa : Addr) (h : Heap), (K w.params).In h → h.Ns mainGlobals mg → mg d.name = some (.ref fa) →
      ∃ fd : FuncData, (∀ (s : Shared) (u : Value), BindsTo s fd ⟨[u], []⟩ [(x, u)]) ∧
        ∀ base : Heap, (K w.params).In base → base.Ns mainGlobals mg → FnOk l.prog w (K w.params) mg base (CX w) k fa fd [x] (sp w))
    (hsp : ∀ (w : World) (H : Hp) (a : Addr) (ns : List Int), ns.length ≤ n → Only H → SqL (K w.params) H a (ns.map V.int) → sp w [.ref a] H (fun v _ => v = .bl true) fun _ _ _ => False)
    (hCX : ∀ (w : World) (H : Hp) (s : Shared) (e : Value) (s' : Shared), CX w [] H s (fun _ _ _ => False) e s' → False) :
    PySem.W.WalkO q loose XP YP l.row.toRowW d [] (fun f vs => PySem.call f vs) := by
  refine Att.attach_call hn hdf fun w s₀ s₁ mg mb fa o pm cd doc a vs ns G Y ho hd hcd hmg hobj hints hlen hg => ?_
  have KX := hY w _ Y
  obtain ⟨fd, hb, hF⟩ := F w mg fa _ KX G.T.g hmg
  exact law_call KX G.T.g G.T.b G.T.builtins G.T.nolimit hg hobj hints (Nat.le_trans hlen hn2) hr hF hb (fun H hO hS => hsp w H a ns hlen hO hS) fun H e s' => hCX w H s₁ e s'
end L2
namespace L2
open PySem PySem.Spec PyProof.Rows
def inClass (s : Stmt) (j : Nat) : Stmt := match s with
  | .ClassDef _ _ _ body _ _ _ _ _ _ _ => body.getD j (.Pass ⟨0, 0, 0, 0⟩)
  | _ => .Pass ⟨0, 0, 0, 0⟩
def defArgs (s : Stmt) : Arguments := match s with
  | .FunctionDef _ a _ _ _ _ _ _ _ _ => a
  | _ => { posonlyargs := [], args := [], vararg := none, kwonlyargs := [], kw_defaults := [], kwarg := none, defaults := [] }
def defBody (s : Stmt) : List Stmt := match s with
  | .FunctionDef _ _ b _ _ _ _ _ _ _ => b
  | _ => []
def defScope (s : Stmt) : Scope := match s with
  | .FunctionDef _ _ _ _ _ _ sc _ _ _ => sc
  | _ => { kind := .function, names := [], isGenerator := false, isCoroutine := false }
abbrev CX0 : CXT := fun _ _ _ _ _ _ => False
abbrev E0 : XK := fun _ _ _ => False
theorem pass0 {X : Cx} : Passes CX0 X E0 := fun _ _ _ _ _ _ _ h => h.elim
structure Fun (K : PySem.W.Frag) (x qual : Str) (st : Stmt) (f : Addr) (fd : FuncData) : Prop where
  ex : ∃ (oc : Value) (od : Option Addr) (kV doc pm : Value) (an : Option Addr) (cdv ct : Value) (osl : Array (Option Value)),
    fd = PySem.W.fnOf x qual (defArgs st) (defBody st) (defScope st) .none kV doc pm an cdv ct ∧ K.lookup f = some ⟨oc, od, .func fd, osl⟩ ∧ PySem.W.codeIn K cdv qual = true
  kp : PySem.W.keepIn K (.ref f) = true
section
variable {P : Program} {w : World} {K : PySem.W.Frag} {mg : Str → Option Value} {base : Heap}
theorem Fun.ok {x qual : Str} {st : Stmt} {f : Addr} {fd : FuncData} {N ps : List Str} {k : Nat} {sp : Sp} (F : Fun K x qual st f fd) (S : FnScope N ps (defScope st)) (len : ∀ vs H Q E, sp vs H Q E → vs.length = ps.length)
    (hbody : ∀ (cdv : Value) (A : Around) (outer : List Env) (s : Shared) (H : Hp) (vs : List V) (Q : VK) (E : XK), Room k (A.deeper (envOfC qual (defScope st) s.heap.objs.size f cdv)) → sp vs H Q E →
      ∃ t, PSs (cxOf CX0 P w K mg base N qual (defScope st) f cdv A outer s H E).nox (defBody st) t ∧ t { nx := fun _ H' => Q .non H', rt := Q } (start N vs) H) : FnOk P w K mg base CX0 (k + 1) f fd ps sp := by
  obtain ⟨oc, od, kV, doc, pm, an, cdv, ct, osl, rfl, lk, hcd⟩ := F.ex
  refine fn_of lk hcd S len fun A outer s H vs Q E hr hsp => ?_
  obtain ⟨t, h, q⟩ := hbody cdv A outer s H vs Q E hr hsp
  exact ⟨t, h.nox, q⟩
theorem Fun.binds {x qual : Str} {st : Stmt} {f : Addr} {fd : FuncData} {ps : List Str} (F : Fun K x qual st f fd)
    (h : ∀ (kV doc pm : Value) (an : Option Addr) (cdv ct : Value) (us : List Value), us.length = ps.length → bindArgs (PySem.W.fnOf x qual (defArgs st) (defBody st) (defScope st) .none kV doc pm an cdv ct) ⟨us, []⟩ = pure (ps.zip us)) : Binds K fd ps [] := by
  obtain ⟨oc, od, kV, doc, pm, an, cdv, ct, osl, rfl, lk, hcd⟩ := F.ex
  exact .all (h kV doc pm an cdv ct)
theorem fun_mk {x qual : Str} {st : Stmt} {f : Addr} {oc : Value} {od an : Option Addr} {osl : Array (Option Value)} {kV doc pm cdv ct : Value} (l : K.lookup f = some ⟨oc, od, .func (PySem.W.fnOf x qual (defArgs st) (defBody st) (defScope st) .none kV doc pm an cdv ct), osl⟩)
    (c : PySem.W.codeIn K cdv qual = true) (k : PySem.W.keepIn K (.ref f) = true) : Fun K x qual st f (PySem.W.fnOf x qual (defArgs st) (defBody st) (defScope st) .none kV doc pm an cdv ct) := ⟨⟨oc, od, kV, doc, pm, an, cdv, ct, osl, rfl, l, c⟩, k⟩
end
theorem hu_of {A : Around} {k : Nat} (hr : Room k A) : A.units + 1 < cLine := Nat.lt_of_le_of_lt (Nat.add_le_add_left (by decide : 1 ≤ 64) _) hr.units
theorem small1000 {n : Nat} (h : n ≤ 1000) : n < sizeLine := Nat.lt_of_le_of_lt h (by decide)
section
variable {X : Cx}
theorem pv (i : Nat) {x : Str} {pos : Pos} (hN : X.N[i]? = some x := by rfl) (hv : Vis X.env.scope x := by first | exact Or.inl rfl | exact Or.inr (Or.inl rfl) | exact Or.inr (Or.inr rfl)) (hd : (x == ("__debug__" : Str)) = false := by decide)
    (hcd : (x == ("__classdict__" : Str)) = false := by decide) : PE X (.Name x pos) (tVar i) := pe_var hN hv hd hcd
end
theorem iteF {A B : Prop} (h : B) : if false = true then A else B := by
  rw [if_neg Bool.false_ne_true]
  exact h
theorem iteT {A B : Prop} (h : A) : if true = true then A else B := by
  rw [if_pos rfl]
  exact h
theorem ite2 {c A B : Prop} [Decidable c] (h1 : c → A) (h2 : ¬ c → B) : if c then A else B := by
  by_cases h : c
  · rw [if_pos h]
    exact h1 h
  · rw [if_neg h]
    exact h2 h
def Same (H H' : Hp) : Prop := ∀ b o, H b = some o → H' b = some o
theorem Same.refl (H : Hp) : Same H H := fun _ _ h => h
theorem Same.trans {H H1 H2 : Hp} (a : Same H H1) (b : Same H1 H2) : Same H H2 := fun c o h => b c o (a c o h)
theorem Same.free {H H' : Hp} (e : Same H H') {l : Addr} (h : H' l = Option.none) : H l = Option.none := by
  cases q : H l with
  | none => rfl
  | some o =>
    rw [e l o q] at h
    cases h
theorem Same.seq {K : PySem.W.Frag} {H H' : Hp} {a : Addr} {xs : List V} (e : Same H H') (h : SqL K H a xs) : SqL K H' a xs := by
  rcases h with (h | ⟨o, h⟩) | h
  · exact .inl (.inl (e _ _ h))
  · exact .inl (.inr ⟨o, e _ _ h⟩)
  · exact .inr h
section
variable {κ : Type} [DecidableEq κ]
theorem valV_in {kvs : List (κ × V)} {k : κ} {v : V} (h : valV kvs k = some v) : k ∈ kvs.map (·.1) := by
  have q : (kvs.any fun kv => decide (kv.1 = k)) = true := by
    rw [valV_any, h]
    all_goals rfl
  obtain ⟨p, hp, e⟩ := List.any_eq_true.mp q
  exact List.mem_map.mpr ⟨p, hp, of_decide_eq_true e⟩
end
theorem at_of {xs : List V} {z : Int} {j : Nat} {v : V} (e : z = (j : Int)) (h : xs[j]? = some v) : atI xs z = some v := by
  rw [e]
  exact atI_nat h
theorem Same.made {H H1 : Hp} {x dx C : Addr} (nx : H x = Option.none) (nd : H dx = Option.none) (k : ∀ b o, (upd (upd H dx (.own x)) x (.ins C dx [])) b = some o → b ≠ x → H1 b = some o) : Same H H1 := fun b o e =>
  k b o (by rw [upd_ne (ne_of_none e nx), upd_ne (ne_of_none e nd)]; exact e) (ne_of_none e nx)
end L2
set_option Elab.async false
set_option linter.all false
set_option maxRecDepth 100000
set_option maxHeartbeats 4000000
namespace L2
open PySem PySem.Spec PyProof.Rows
structure QE (X : Cx) (e : Expr) (t : TE) : Prop where
  h : PE X e t
structure QT (X : Cx) (e : Expr) (t : TT) : Prop where
  h : PT X e t
structure QW (X : Cx) (e : Expr) (t : TT) : Prop where
  h : PW X e t
structure QA (X : Cx) (e : List Expr) (t : TA) : Prop where
  h : PA X e t
structure QS (X : Cx) (e : Stmt) (t : TS) : Prop where
  h : PS X e t
structure QSs (X : Cx) (e : List Stmt) (t : TS) : Prop where
  h : PSs X e t
structure QG (X : Cx) (e : Expr) (t : TG) : Prop where
  h : PG X e t
structure QGs (X : Cx) (e : List Expr) (t : TGs) : Prop where
  h : PGs X e t
structure QI (X : Cx) (g e : Expr) (t : TI) : Prop where
  h : PI X g e t
structure QO (X : Cx) (e : Option Expr) (t : TO) : Prop where
  h : PO X e t
structure QTs (X : Cx) (e : List Expr) (t : TT) : Prop where
  h : PTs X e t
theorem QW.pt {X : Cx} {e : Expr} {t : TT} (x : QW X e t) : QT X e t := ⟨x.h.pt⟩
section
variable {X : Cx}
theorem q_pe_int {i j pos} : QE X (.Constant (.int i) j pos) (tC (.int i)) := ⟨pe_int ⟩
end
section
variable {X : Cx}
theorem q_pe_bl {b j pos} : QE X (.Constant (.bool b) j pos) (tC (.bl b)) := ⟨pe_bl ⟩
end
section
variable {X : Cx}
theorem q_pe_non {j pos} : QE X (.Constant .none j pos) (tC .non) := ⟨pe_non ⟩
end
section
variable {X : Cx}
theorem q_pe_str {x j pos} : QE X (.Constant (.str x) j pos) (tC (.str x)) := ⟨pe_str ⟩
end
section
variable {X : Cx}
theorem q_pe_glob {x : Str} {v : V} {u : Value} {pos : Pos} (hg : Gl X x) (hm : X.mg x = some u) (r : RelV v u) (hd : (x == ("__debug__" : Str)) = false := by decide) : QE X (.Name x pos) (tC v) := ⟨pe_glob (hg := hg) (hm := hm) (r := r) (hd := hd)⟩
end
section
variable {X : Cx}
theorem q_pe_bltn {x : Str} {v : V} {u : Value} {pos : Pos} (hg : Gl X x) (hm : X.mg x = none) (hv : bootBuiltins x = some u) (r : RelV v u) (hn : x ≠ "__name__" := by decide) (hd : (x == ("__debug__" : Str)) = false := by decide) : QE X (.Name x pos) (tC v) := ⟨pe_bltn (hg := hg) (hm := hm) (hv := hv) (r := r) (hn := hn) (hd := hd)⟩
end
section
variable {X : Cx}
variable {a b : Expr} {ta tb : TE} {pos : Pos}
theorem q_pt_val {e : Expr} {t : TE} (h : QE X e t) (he : ∀ whole, isTrue e X.env whole = (do let v ← whole; standAt e.pos; holding [v] (truthy v)) := by intro _; rfl) : QT X e (tB t) := ⟨pt_val (h := h.h) (he := he)⟩
end
section
variable {X : Cx}
variable {a b : Expr} {ta tb : TE} {pos : Pos}
variable {tA tB' : TT} {rest : List Expr}
theorem q_pw_or1 (ha : QT X a tA) : QW X (.BoolOp .Or [a] pos) tA := ⟨pw_or1 (ha := ha.h)⟩
end
section
variable {X : Cx}
variable {a b : Expr} {ta tb : TE} {pos : Pos}
variable {tA tB' : TT} {rest : List Expr}
theorem q_pw_or (ha : QT X a tA) (hb : QW X (.BoolOp .Or (b :: rest) pos) tB') : QW X (.BoolOp .Or (a :: b :: rest) pos) (tOr tA tB') := ⟨pw_or (ha := ha.h) (hb := hb.h)⟩
end
section
variable {X : Cx}
variable {a b : Expr} {ta tb : TE} {pos : Pos}
variable {tA tB' : TT} {rest : List Expr}
theorem q_pt_not (ha : QT X a tA) : QT X (.UnaryOp .Not a pos) (tNot tA) := ⟨pt_not (ha := ha.h)⟩
end
section
variable {X : Cx}
variable {a b : Expr} {ta tb : TE} {pos : Pos}
variable {tA tB' : TT} {rest : List Expr}
theorem q_pe_one {op} {t : TE} (h : QE X a t) : QE X (.BoolOp op [a] pos) t := ⟨pe_one (h := h.h)⟩
end
section
variable {X : Cx}
variable {a b : Expr} {ta tb : TE} {pos : Pos}
variable {tA tB' : TT} {rest : List Expr}
theorem q_pe_and (ha : QE X a ta) (hb : QE X (.BoolOp .And (b :: rest) pos) tb) : QE X (.BoolOp .And (a :: b :: rest) pos) (tAndV ta tb) := ⟨pe_and (ha := ha.h) (hb := hb.h)⟩
end
section
variable {X : Cx}
variable {a b : Expr} {ta tb : TE} {pos : Pos}
variable {tA tB' : TT} {rest : List Expr}
theorem q_pe_or (ha : QE X a ta) (hb : QE X (.BoolOp .Or (b :: rest) pos) tb) : QE X (.BoolOp .Or (a :: b :: rest) pos) (tOrV ta tb) := ⟨pe_or (ha := ha.h) (hb := hb.h)⟩
end
section
variable {X : Cx}
variable {a b : Expr} {ta tb : TE} {pos : Pos}
variable {tA tB' : TT} {rest : List Expr}
theorem q_pe_not (ha : QE X a ta) : QE X (.UnaryOp .Not a pos) (tNotV ta) := ⟨pe_not (ha := ha.h)⟩
end
section
variable {X : Cx}
variable {a b : Expr} {ta tb : TE} {pos : Pos}
variable {tA tB' : TT} {rest : List Expr}
theorem q_pe_ifExp {c : Expr} (hc : QT X c tA) (ha : QE X a ta) (hb : QE X b tb) : QE X (.IfExp c a b pos) (tIf tA ta tb) := ⟨pe_ifExp (hc := hc.h) (ha := ha.h) (hb := hb.h)⟩
end
section
variable {X : Cx} {st : Stmt} {rest : List Stmt} {t u : TS} {e : Expr} {te : TE} {pos : Pos}
theorem q_pss_nil  : QSs X [] tNext := ⟨pss_nil ⟩
end
section
variable {X : Cx} {st : Stmt} {rest : List Stmt} {t u : TS} {e : Expr} {te : TE} {pos : Pos}
theorem q_pss_cons (h1 : QS X st t) (h2 : QSs X rest u) : QSs X (st :: rest) (tSeq t u) := ⟨pss_cons (h1 := h1.h) (h2 := h2.h)⟩
end
section
variable {X : Cx} {st : Stmt} {rest : List Stmt} {t u : TS} {e : Expr} {te : TE} {pos : Pos}
theorem q_pss_one (h1 : QS X st t) : QSs X [st] t := ⟨pss_one (h1 := h1.h)⟩
end
section
variable {X : Cx} {st : Stmt} {rest : List Stmt} {t u : TS} {e : Expr} {te : TE} {pos : Pos}
theorem q_ps_expr (he : QE X e te) (hs : swapsWith e none pos.line X.env = pure false := by rfl) : QS X (.Expr e pos) (tDrop te) := ⟨ps_expr (he := he.h) (hs := hs)⟩
end
section
variable {X : Cx} {st : Stmt} {rest : List Stmt} {t u : TS} {e : Expr} {te : TE} {pos : Pos}
theorem q_ps_ret (he : QE X e te) : QS X (.Return (some e) pos) (tRet te) := ⟨ps_ret (he := he.h)⟩
end
section
variable {X : Cx} {st : Stmt} {rest : List Stmt} {t u : TS} {e : Expr} {te : TE} {pos : Pos}
theorem q_ps_if {c : Expr} {a b : List Stmt} {tc : TT} (hc : QT X c tc) (ha : QSs X a t) (hb : QSs X b u) : QS X (.If c a b pos) (tIfS tc t u) := ⟨ps_if (hc := hc.h) (ha := ha.h) (hb := hb.h)⟩
end
section
variable {X : Cx} {st : Stmt} {rest : List Stmt} {t u : TS} {e : Expr} {te : TE} {pos : Pos}
theorem q_ps_never  : QS X st tNever := ⟨ps_never ⟩
end
section
variable {X : Cx} {pos : Pos}
theorem q_pg_name {i : Nat} {x : Str} (hN : X.N.Nodup) (hi : X.N[i]? = some x) (hx : Loc X.env.scope x) (hf : X.fn x = true ∨ X.env.scope.names.lookup x = some .local := by first | exact .inl rfl | exact .inr rfl | assumption) : QG X (.Name x pos) (gName i) := ⟨pg_name (hN := hN) (hi := hi) (hx := hx) (hf := hf)⟩
end
section
variable {X : Cx} {pos : Pos}
theorem q_pgs_nil  : QGs X [] gNil := ⟨pgs_nil ⟩
end
section
variable {X : Cx} {pos : Pos}
theorem q_pgs_cons {e : Expr} {es : List Expr} {t : TG} {u : TGs} (h1 : QG X e t) (h2 : QGs X es u) (hs : (assignEach (e :: es) X.env).map (·.2) = assign e X.env :: (assignEach es X.env).map (·.2) := by rfl) : QGs X (e :: es) (gCons t u) := ⟨pgs_cons (h1 := h1.h) (h2 := h2.h) (hs := hs)⟩
end
section
variable {X : Cx} {pos : Pos}
theorem q_pg_tup {es : List Expr} {k : Nat} {t : TGs} {n : Nat} (hc : X.calm = true) (h : QGs X es t) (hn : (assignEach es X.env).length = n := by rfl) (hst : (assignEach es X.env).findIdx? (·.1) = none := by rfl) : QG X (.Tuple es k pos) (gTup X.K n t) := ⟨pg_tup (hc := hc) (h := h.h) (hn := hn) (hst := hst)⟩
end
section
variable {X : Cx} {pos : Pos}
theorem q_pg_sub {o i : Expr} {to ti : TE} {t : TSet} (ho : QE X o to) (hi : QE X i ti) (hs : PSet X t) (ha : ∀ v, assign (.Subscript o i pos) X.env v = (do
      let ov ← holding [v] (eval o X.env)
      let iv ← holding [v, ov] (eval i X.env)
      standAt pos
      holding [v, ov, iv] (setItem ov iv v)
      release [v, ov, iv] []) := by intro _; rfl) : QG X (.Subscript o i pos) (gSub to ti t) := ⟨pg_sub (ho := ho.h) (hi := hi.h) (hs := hs) (ha := ha)⟩
end
section
variable {X : Cx} {pos : Pos}
theorem q_ps_asg {tg e : Expr} {te : TE} {g : TG} (he : QE X e te) (hg : QG X tg g) (hs : swapsWithSole [tg] e pos.line X.env = pure false := by rfl) (hw : swappedStores [tg] e X.env = pure none := by rfl) (h1 : (assignEach [tg] X.env).map (·.2) = [assign tg X.env] := by rfl) : QS X (.Assign [tg] e pos) (tAsg te g) := ⟨ps_asg (he := he.h) (hg := hg.h) (hs := hs) (hw := hw) (h1 := h1)⟩
end
section
variable {X : Cx} {pos : Pos}
theorem q_ps_set {i : Nat} {x : Str} {e : Expr} {te : TE} {pos' : Pos} (hN : X.N.Nodup) (hi : X.N[i]? = some x) (hx : Loc X.env.scope x) (he : QE X e te) (hs : swapsWith e (some (.Name x pos')) pos.line X.env = pure false := by rfl) (hf : X.fn x = true ∨ X.env.scope.names.lookup x = some .local := by first | exact .inl rfl | exact .inr rfl | assumption) : QS X (.Assign [.Name x pos'] e pos) (tAsg te (gName i)) := ⟨ps_set (hN := hN) (hi := hi) (hx := hx) (he := he.h) (hs := hs) (hf := hf)⟩
end
section
variable {X : Cx} {pos : Pos}
theorem q_ps_aug {i : Nat} {x : Str} {e : Expr} {te : TE} {op : Operator} {ti : TIp} {pos' : Pos} (hN : X.N.Nodup) (hi : X.N[i]? = some x) (hx : Loc X.env.scope x) (he : QE X e te) (ho : PIp X op ti) (hf : X.fn x = true ∨ X.env.scope.names.lookup x = some .local := by first | exact .inl rfl | exact .inr rfl | assumption) : QS X (.AugAssign (.Name x pos') op e pos) (tAug i te ti) := ⟨ps_aug (hN := hN) (hi := hi) (hx := hx) (he := he.h) (ho := ho) (hf := hf)⟩
end
section
variable {X : Cx} {tg : Expr}
theorem q_pi_list {l : Expr} {tl : TE} (hl : QE X l tl) : QI X tg l (iList X.K tl) := ⟨pi_list (hl := hl.h)⟩
end
section
variable {X : Cx} {tg : Expr}
theorem q_pi_tup {l : Expr} {tl : TE} (hl : QE X l tl) : QI X tg l (iTup X.K tl) := ⟨pi_tup (hl := hl.h)⟩
end
section
variable {X : Cx} {tg : Expr}
theorem q_pi_range1 {a : Expr} {ta : TA} {p pos : Pos} (hg : Gl X "range") (hm : X.mg "range" = none) (ha : QA X [a] ta) (hs : starEach [a] X.env = [(false, eval a X.env)] := by rfl) : QI X tg (.Call (.Name "range" p) [a] [] pos) (iRng1 ta) := ⟨pi_range1 (hg := hg) (hm := hm) (ha := ha.h) (hs := hs)⟩
end
section
variable {X : Cx} {tg : Expr}
theorem q_pi_range2 {a b : Expr} {ta : TA} {p pos : Pos} (hg : Gl X "range") (hm : X.mg "range" = none) (ha : QA X [a, b] ta) (hs : starEach [a, b] X.env = [(false, eval a X.env), (false, eval b X.env)] := by rfl) (hs2 : starEach [b] X.env = [(false, eval b X.env)] := by rfl) : QI X tg (.Call (.Name "range" p) [a, b] [] pos) (iRng2 ta) := ⟨pi_range2 (hg := hg) (hm := hm) (ha := ha.h) (hs := hs) (hs2 := hs2)⟩
end
section
variable {X : Cx} {tg : Expr}
theorem q_ps_for {iter : Expr} {body : List Stmt} {wi : TI} {g : TG} {tb : TS} {pos : Pos} (hp : PassesOwn (model X.prog X.w) X.A X.env X.xe) (hc : X.calm = true) (hi : QI X tg iter wi) (hg : QG X tg g) (hb : QSs X body tb) (hs : ∀ x, foldedSetIterable iter X.env x = pure x := by intro _; rfl) : QS X (.For tg iter body [] pos) (tFor wi g tb) := ⟨ps_for (hp := hp) (hc := hc) (hi := hi.h) (hg := hg.h) (hb := hb.h) (hs := hs)⟩
end
section
variable {X : Cx} {a b c : Expr} {ta tb tc : TE} {pos : Pos}
theorem q_pe_op {op : Operator} {r : R2} (ho : OpR X (binaryOp op) r) (ha : QE X a ta) (hb : QE X b tb) : QE X (.BinOp a op b pos) (tOp r ta tb) := ⟨pe_op (ho := ho) (ha := ha.h) (hb := hb.h)⟩
end
section
variable {X : Cx} {a b c : Expr} {ta tb tc : TE} {pos : Pos}
theorem q_pe_un {op : UnaryOp} {r : V → Hp → VK → Prop} (ho : UnR X (unaryOp op) r) (ha : QE X a ta) : QE X (.UnaryOp op a pos) (tUn r ta) := ⟨pe_un (ho := ho) (ha := ha.h)⟩
end
section
variable {X : Cx} {a b c : Expr} {ta tb tc : TE} {pos : Pos}
theorem q_pe_cmpR {op : CmpOp} {r : R2} (ho : OpR X (compareOp op) r) (ha : QE X a ta) (hb : QE X b tb) (hm : behindInMarks op b = false) : QE X (.Compare a [op] [b] pos) (tOp r ta tb) := ⟨pe_cmpR (ho := ho) (ha := ha.h) (hb := hb.h) (hm := hm)⟩
end
section
variable {X : Cx} {a b c : Expr} {ta tb tc : TE} {pos : Pos}
theorem q_pt_cmpR {op : CmpOp} {r : R2} (ho : OpR X (compareOp op) r) (ha : QE X a ta) (hb : QE X b tb) (hm : behindInMarks op b = false) : QT X (.Compare a [op] [b] pos) (tTest (tOp r ta tb)) := ⟨pt_cmpR (ho := ho) (ha := ha.h) (hb := hb.h) (hm := hm)⟩
end
section
variable {X : Cx} {a b c : Expr} {ta tb tc : TE} {pos : Pos}
theorem q_pe_chain {op op' : CmpOp} {r r' : R2} (ho : OpR X (compareOp op) r) (ho' : OpR X (compareOp op') r') (ha : QE X a ta) (hb : QE X b tb) (hc : QE X c tc) (hm : lastMarks [op, op'] [b, c] = false := by with_unfolding_all rfl) : QE X (.Compare a [op, op'] [b, c] pos) (tChain r r' ta tb tc) := ⟨pe_chain (ho := ho) (ho' := ho') (ha := ha.h) (hb := hb.h) (hc := hc.h) (hm := hm)⟩
end
section
variable {X : Cx} {a b c : Expr} {ta tb tc : TE} {pos : Pos}
theorem q_pt_chain {op op' : CmpOp} {r r' : R2} (ho : OpR X (compareOp op) r) (ho' : OpR X (compareOp op') r') (ha : QE X a ta) (hb : QE X b tb) (hc : QE X c tc) (hm : lastMarks [op, op'] [b, c] = false := by with_unfolding_all rfl) : QT X (.Compare a [op, op'] [b, c] pos) (tTest (tChain r r' ta tb tc)) := ⟨pt_chain (ho := ho) (ho' := ho') (ha := ha.h) (hb := hb.h) (hc := hc.h) (hm := hm)⟩
end
section
variable {X : Cx} {a b c : Expr} {ta tb tc : TE} {pos : Pos}
theorem q_pt_truth (ha : QE X a ta) (he : ∀ whole, isTrue a X.env whole = (do let v ← whole; standAt a.pos; holding [v] (truthy v))) : QT X a (fun σ H Q => ta σ H fun x H' => ∃ k, TruV X.K x H' k ∧ Q k H') := ⟨pt_truth (ha := ha.h) (he := he)⟩
end
section
variable {X : Cx} {o e value : Expr} {f : Str} {pos pos' tpos : Pos} {ta tv : TE}
theorem q_pe_fld (he : QE X e ta) (hb : attributeBase e f X.env (eval e X.env) = eval e X.env) : QE X (.Attribute e f pos) (tFld X.K ta f) := ⟨pe_fld (he := he.h) (hb := hb)⟩
end
section
variable {X : Cx} {o e value : Expr} {f : Str} {pos pos' tpos : Pos} {ta tv : TE}
theorem q_ps_fld (ha : QE X o ta) (hv : QE X value tv) (hs : swapsWith value (some (.Attribute o f pos')) pos.line X.env = pure false) : QS X (.Assign [.Attribute o f pos'] value pos) (sFld X.K ta tv f) := ⟨ps_fld (ha := ha.h) (hv := hv.h) (hs := hs)⟩
end
section
variable {X : Cx} {e : Expr} {es : List Expr} {te : TE} {t : TA} {pos : Pos}
theorem q_pa_nil  : QA X [] tNil := ⟨pa_nil ⟩
end
section
variable {X : Cx} {e : Expr} {es : List Expr} {te : TE} {t : TA} {pos : Pos}
theorem q_pa_cons (ha : QE X e te) (hr : QA X es t) (hs : starEach (e :: es) X.env = (false, eval e X.env) :: starEach es X.env := by rfl) : QA X (e :: es) (tCons te t) := ⟨pa_cons (ha := ha.h) (hr := hr.h) (hs := hs)⟩
end
section
variable {X : Cx} {e : Expr} {es : List Expr} {te : TE} {t : TA} {pos : Pos}
theorem q_pe_tup {x1} (h : QA X es t) : QE X (.Tuple es x1 pos) (tTup t) := ⟨pe_tup (h := h.h)⟩
end
section
variable {X : Cx} {e : Expr} {es : List Expr} {te : TE} {t : TA} {pos : Pos}
theorem q_pe_lst (h : QA X es t) : QE X (.List es pos) (tLst t) := ⟨pe_lst (h := h.h)⟩
end
section
variable {X : Cx} {CX : CXT} {k : Nat} {f C : Addr} {fd : FuncData} {ps : List Str} {sp : Sp} {dvs : List V} {ds : List Value} {E : XK} {x m : Str} {p pos apos : Pos} {e o : Expr} {es : List Expr} {ta : TE} {t : TA}
theorem q_pe_call (F : FnOk X.prog X.w X.K X.mg X.base CX k f fd ps sp) (hr : Room k X.A) (hg : Gl X x) (hm : X.mg x = some (.ref f)) (hk : PySem.W.keepIn X.K (.ref f) = true) (hb : Binds X.K fd ps ds) (hd : Vals dvs ds) (hx : Passes CX X E) (ha : QA X (e :: es) t) (hdb : (x == ("__debug__" : Str)) = false := by decide) (he : starEach (e :: es) X.env = (false, eval e X.env) :: starEach es X.env := by rfl) (hpl : (backTo pos (starEach es X.env)).any (·.1) = false := by rfl) : QE X (.Call (.Name x p) (e :: es) [] pos) (tCall sp dvs E t) := ⟨pe_call (F := F) (hr := hr) (hg := hg) (hm := hm) (hk := hk) (hb := hb) (hd := hd) (hx := hx) (ha := ha.h) (hdb := hdb) (he := he) (hpl := hpl)⟩
end
section
variable {X : Cx} {CX : CXT} {k : Nat} {f C : Addr} {fd : FuncData} {ps : List Str} {sp : Sp} {dvs : List V} {ds : List Value} {E : XK} {x m : Str} {p pos apos : Pos} {e o : Expr} {es : List Expr} {ta : TE} {t : TA}
theorem q_pe_call0 (F : FnOk X.prog X.w X.K X.mg X.base CX k f fd ps sp) (hr : Room k X.A) (hg : Gl X x) (hm : X.mg x = some (.ref f)) (hk : PySem.W.keepIn X.K (.ref f) = true) (hb : Binds X.K fd ps ds) (hd : Vals dvs ds) (hx : Passes CX X E) (hdb : (x == ("__debug__" : Str)) = false := by decide) : QE X (.Call (.Name x p) [] [] pos) (tCall sp dvs E tNil) := ⟨pe_call0 (F := F) (hr := hr) (hg := hg) (hm := hm) (hk := hk) (hb := hb) (hd := hd) (hx := hx) (hdb := hdb)⟩
end
section
variable {X : Cx} {CX : CXT} {k : Nat} {f C : Addr} {fd : FuncData} {ps : List Str} {sp : Sp} {dvs : List V} {ds : List Value} {E : XK} {x m : Str} {p pos apos : Pos} {e o : Expr} {es : List Expr} {ta : TE} {t : TA}
theorem q_pe_meth {pl : Sem Bool} (he : QE X o ta) (c : Cls X.K C) (hm : Meth X.K C m f) (F : FnOk X.prog X.w X.K X.mg X.base CX k f fd ps sp) (hr : Room k X.A) (hb : Binds X.K fd ps ds) (hd : Vals dvs ds) (hx : Passes CX X E) (ha : QA X (e :: es) t) (hst : starEach (e :: es) X.env = (false, eval e X.env) :: starEach es X.env := by rfl) (hpl : (backTo pos (starEach es X.env)).any (·.1) = false := by rfl) (ht : eval (.Call (.Attribute o m apos) (e :: es) [] pos) X.env = (do
      let ov ← eval o X.env
      standAt apos.atName
      let (f, first) ← holding [ov] (getMethod ov m pl)
      callWith pos f first (backTo pos (starEach (e :: es) X.env)) (backToKw pos (keywordEach [] X.env))) := by rfl) : QE X (.Call (.Attribute o m apos) (e :: es) [] pos) (tMeth C m sp dvs E ta t) := ⟨pe_meth (he := he.h) (c := c) (hm := hm) (F := F) (hr := hr) (hb := hb) (hd := hd) (hx := hx) (ha := ha.h) (hst := hst) (hpl := hpl) (ht := ht)⟩
end
section
variable {X : Cx} {CX : CXT} {k : Nat} {f C : Addr} {fd : FuncData} {ps : List Str} {sp : Sp} {dvs : List V} {ds : List Value} {E : XK} {x m : Str} {p pos apos : Pos} {e o : Expr} {es : List Expr} {ta : TE} {t : TA}
theorem q_pe_make (M : Mk X.K C f) (F : FnOk X.prog X.w X.K X.mg X.base CX k f fd ps sp) (hr : Room (k + 1) X.A) (hg : Gl X x) (hm : X.mg x = some (.ref C)) (hb : Binds X.K fd ps ds) (hd : Vals dvs ds) (hx : Passes CX X E) (ha : QA X (e :: es) t) (hdb : (x == ("__debug__" : Str)) = false := by decide) (he : starEach (e :: es) X.env = (false, eval e X.env) :: starEach es X.env := by rfl) (hpl : (backTo pos (starEach es X.env)).any (·.1) = false := by rfl) : QE X (.Call (.Name x p) (e :: es) [] pos) (tMake C sp dvs E t) := ⟨pe_make (M := M) (F := F) (hr := hr) (hg := hg) (hm := hm) (hb := hb) (hd := hd) (hx := hx) (ha := ha.h) (hdb := hdb) (he := he) (hpl := hpl)⟩
end
section
variable {X : Cx} {x : Str} {p pos : Pos} {e : Expr} {es : List Expr} {t : TA} {id T : String} {r : List V → Hp → VK → Prop}
theorem q_pe_callB (hc : CallR X (.builtin id) r) (hg : Gl X x) (hm : X.mg x = none) (hv : bootBuiltins x = some (.builtin id)) (ha : QA X (e :: es) t) (hn : x ≠ "__name__" := by decide) (hdb : (x == ("__debug__" : Str)) = false := by decide) (he : starEach (e :: es) X.env = (false, eval e X.env) :: starEach es X.env := by rfl) (hpl : (backTo pos (starEach es X.env)).any (·.1) = false := by rfl) : QE X (.Call (.Name x p) (e :: es) [] pos) (tCB r t) := ⟨pe_callB (hc := hc) (hg := hg) (hm := hm) (hv := hv) (ha := ha.h) (hn := hn) (hdb := hdb) (he := he) (hpl := hpl)⟩
end
section
variable {X : Cx} {x : Str} {p pos : Pos} {e : Expr} {es : List Expr} {t : TA} {id T : String} {r : List V → Hp → VK → Prop}
theorem q_pe_callTy (hc : CallR X (.type T) r) (hg : Gl X x) (hm : X.mg x = none) (hv : bootBuiltins x = some (.type T)) (ha : QA X (e :: es) t) (hn : x ≠ "__name__" := by decide) (hdb : (x == ("__debug__" : Str)) = false := by decide) (he : starEach (e :: es) X.env = (false, eval e X.env) :: starEach es X.env := by rfl) (hpl : (backTo pos (starEach es X.env)).any (·.1) = false := by rfl) : QE X (.Call (.Name x p) (e :: es) [] pos) (tCB r t) := ⟨pe_callTy (hc := hc) (hg := hg) (hm := hm) (hv := hv) (ha := ha.h) (hn := hn) (hdb := hdb) (he := he) (hpl := hpl)⟩
end
section
variable {X : Cx} {e : Expr} {te : TE} {lo hi : Option Expr} {tl th : TO} {pos p2 : Pos}
theorem q_po_none  : QO X none tNoPart := ⟨po_none ⟩
end
section
variable {X : Cx} {e : Expr} {te : TE} {lo hi : Option Expr} {tl th : TO} {pos p2 : Pos}
theorem q_po_some (h : QE X e te) : QO X (some e) (tPart te) := ⟨po_some (h := h.h)⟩
end
section
variable {X : Cx} {e : Expr} {te : TE} {lo hi : Option Expr} {tl th : TO} {pos p2 : Pos}
theorem q_pe_slice {r : V → Option Int → Option Int → Hp → VK → Prop} (hr : SlR X r) (he : QE X e te) (hl : QO X lo tl) (hu : QO X hi th) : QE X (.Subscript e (.Slice lo hi none p2) pos) (tSl r te tl th) := ⟨pe_slice (hr := hr) (he := he.h) (hl := hl.h) (hu := hu.h)⟩
end
section
variable {X : Cx} {a b : Expr} {ta tb : TE} {pos : Pos}
theorem q_pe_ix {r : R2} (hr : IxR X r) (ha : QE X a ta) (hb : QE X b tb) (hs : PlainIx b) : QE X (.Subscript a b pos) (tOp r ta tb) := ⟨pe_ix (hr := hr) (ha := ha.h) (hb := hb.h) (hs := hs)⟩
end
section
variable {X : Cx} {a b : Expr} {ta tb : TE} {pos : Pos}
variable {o e : Expr} {es : List Expr} {to : TE} {t : TA} {name : Str} {apos cpos : Pos} {T id : String} {r : V → List V → Hp → VK → Prop}
theorem q_pe_bm (pa : PlainAttrs T) (slot : Slot T name id) (hty : typeOf (.builtin id) = pure (.type "method_descriptor")) (hm : MtR X id r) (ho : QE X o to) (ha : QA X (e :: es) t) (hbase : attributeBase o name X.env (eval o X.env) = eval o X.env := by rfl) (hfew : ((backTo cpos (starEach (e :: es) X.env)).all (fun x => !x.1) && (backToKw cpos (keywordEach [] X.env)).all (fun x => x.1.isSome)
      && decide ((e :: es).length + ([] : List Keyword).length + (if ([] : List Keyword).isEmpty then 0 else 1) < 30)) = true := by rfl) (hline : (apos.endLine == cpos.line) = true := by rfl) (hs : starEach (e :: es) X.env = (false, eval e X.env) :: starEach es X.env := by rfl) (hplain : (backTo cpos (starEach es X.env)).any (·.1) = false := by rfl) : QE X (.Call (.Attribute o name apos) (e :: es) [] cpos) (tBM X.K T r to t) := ⟨pe_bm (pa := pa) (slot := slot) (hty := hty) (hm := hm) (ho := ho.h) (ha := ha.h) (hbase := hbase) (hfew := hfew) (hline := hline) (hs := hs) (hplain := hplain)⟩
end
section
variable {X : Cx} {pins : List (Addr × Obj)} {σ : St} {H : Hp} {s : Shared}
theorem q_pts_nil  : QTs X [] tYes := ⟨pts_nil ⟩
end
section
variable {X : Cx} {pins : List (Addr × Obj)} {σ : St} {H : Hp} {s : Shared}
theorem q_pts_one {c : Expr} {t : TT} (h : QT X c t) : QTs X [c] t := ⟨pts_one (h := h.h)⟩
end
section
variable {X : Cx}
theorem q_pe_lc {elt tg iter : Expr} {ifs : List Expr} {scope : Scope} {own : List (Str × Nat)} {pos : Pos} {wi : TI} {g : TG} {tt : TT} {te : TE} (hc : X.calm = true) (hN : X.N.Nodup) (hi : QI X tg iter wi) (ok : BlkOk X.N X.env.scope scope own) (hg : ∀ (s : Shared) (H : Hp) (C : Addr) (cl : List (Str × Addr)) (fp : List Addr), QG (X.blk s H scope (compEnvC scope cl C X.env) fp) tg g) (ht : ∀ (s : Shared) (H : Hp) (C : Addr) (cl : List (Str × Addr)) (fp : List Addr), QTs (X.blk s H scope (compEnvC scope cl C X.env) fp) ifs tt) (he : ∀ (s : Shared) (H : Hp) (C : Addr) (cl : List (Str × Addr)) (fp : List Addr), QE (X.blk s H scope (compEnvC scope cl C X.env) fp) elt te) (hs : ∀ x, foldedSetIterable iter X.env x = pure x := by intro _; rfl) : QE X (.ListComp elt [⟨tg, iter, ifs, 0⟩] scope pos) (tLc wi g tt te (own.map (·.2))) := ⟨pe_lc (hc := hc) (hN := hN) (hi := hi.h) (ok := ok) (hg := fun _ _ _ _ _ => (hg _ _ _ _ _).h) (ht := fun _ _ _ _ _ => (ht _ _ _ _ _).h) (he := fun _ _ _ _ _ => (he _ _ _ _ _).h) (hs := hs)⟩
end
section
variable {X : Cx}
theorem q_ps_setLc {i : Nat} {y : Str} {py : Pos} {elt tg iter : Expr} {ifs : List Expr} {scope : Scope} {own : List (Str × Nat)} {pos spos : Pos} {wi : TI} {g : TG} {tt : TT} {te : TE} (hc : X.calm = true) (hN : X.N.Nodup) (hy : X.N[i]? = some y) (hyl : X.env.scope.names.lookup y = some .local) (hsw : swapsWith (.ListComp elt [⟨tg, iter, ifs, 0⟩] scope pos) (some (.Name y py)) spos.line X.env = pure true) (hi : QI X tg iter wi) (ok : BlkOk X.N X.env.scope scope own) (hg : ∀ (s : Shared) (H : Hp) (C : Addr) (cl : List (Str × Addr)) (fp : List Addr), QG (X.blk s H scope (compEnvC scope cl C X.env) fp) tg g) (ht : ∀ (s : Shared) (H : Hp) (C : Addr) (cl : List (Str × Addr)) (fp : List Addr), QTs (X.blk s H scope (compEnvC scope cl C X.env) fp) ifs tt) (he : ∀ (s : Shared) (H : Hp) (C : Addr) (cl : List (Str × Addr)) (fp : List Addr), QE (X.blk s H scope (compEnvC scope cl C X.env) fp) elt te) (hs : ∀ x, foldedSetIterable iter X.env x = pure x := by intro _; rfl) : QS X (.Assign [.Name y py] (.ListComp elt [⟨tg, iter, ifs, 0⟩] scope pos) spos) (tAsg (tLc wi g tt te (own.map (·.2))) (gName i)) := ⟨ps_setLc (hc := hc) (hN := hN) (hy := hy) (hyl := hyl) (hsw := hsw) (hi := hi.h) (ok := ok) (hg := fun _ _ _ _ _ => (hg _ _ _ _ _).h) (ht := fun _ _ _ _ _ => (ht _ _ _ _ _).h) (he := fun _ _ _ _ _ => (he _ _ _ _ _).h) (hs := hs)⟩
end
section
variable {X : Cx} {o e f : Expr} {apos cpos : Pos} {td ty tx : TE}
theorem q_pe_dget2 (hu : X.A.units + 1 < cLine) (ho : QE X o td) (he : QE X e ty) (hf : QE X f tx) (m : M2 X o "get" apos e f cpos) : QE X (.Call (.Attribute o "get" apos) [e, f] [] cpos) (tDGet2 td ty tx) := ⟨pe_dget2 (hu := hu) (ho := ho.h) (he := he.h) (hf := hf.h) (m := m)⟩
end
section
theorem q_pi_str {X : Cx} {tg e : Expr} {te : TE} (he : QE X e te) : QI X tg e (iStr te) := ⟨pi_str (he := he.h)⟩
end
section
variable {X : Cx} {o e : Expr} {to te : TE}
theorem q_pe_split {apos pos : Pos} (ho : QE X o to) (he : QE X e te) (hs : starEach [e] X.env = [(false, eval e X.env)] := by rfl) (hbase : attributeBase o "split" X.env (eval o X.env) = eval o X.env := by rfl) (hline : (apos.endLine == pos.line) = true := by rfl) : QE X (.Call (.Attribute o "split" apos) [e] [] pos) (tM1 (fun x xs H Q => ∃ a b, x = .str a ∧ xs = [.str b] ∧ (b.length == 0) = false ∧ a.length + 2 ≤ sizeLine ∧ rNewStrs (Txt.split a b) H Q) to te) := ⟨pe_split (ho := ho.h) (he := he.h) (hs := hs) (hbase := hbase) (hline := hline)⟩
end
section
variable {X : Cx} {o e : Expr} {to te : TE}
theorem q_pe_join {apos pos : Pos} (ho : QE X o to) (he : QE X e te) (hs : starEach [e] X.env = [(false, eval e X.env)] := by rfl) (hbase : attributeBase o "join" X.env (eval o X.env) = eval o X.env := by rfl) (hline : (apos.endLine == pos.line) = true := by rfl) : QE X (.Call (.Attribute o "join" apos) [e] [] pos) (tM1 (fun x xs H Q => ∃ a p, ∃ ys : List Str, x = .str a ∧ xs = [.ref p] ∧ (SqL X.K H p (ys.map V.str) ∨ SqT X.K H p (ys.map V.str)) ∧
      (ys.map (·.length)).sum + ys.length * a.length ≤ 16777216 ∧ Q (.str (Txt.join a ys)) H) to te) := ⟨pe_join (ho := ho.h) (he := he.h) (hs := hs) (hbase := hbase) (hline := hline)⟩
end
section
variable {X : Cx}
theorem q_pv (i : Nat) {x : Str} {pos : Pos} (hN : X.N[i]? = some x := by rfl) (hv : Vis X.env.scope x := by first | exact Or.inl rfl | exact Or.inr (Or.inl rfl) | exact Or.inr (Or.inr rfl)) (hd : (x == ("__debug__" : Str)) = false := by decide) (hcd : (x == ("__classdict__" : Str)) = false := by decide) : QE X (.Name x pos) (tVar i) := ⟨pv (i := i) (hN := hN) (hv := hv) (hd := hd) (hcd := hcd)⟩
end
section
variable {P : Program} {w : World} {K : PySem.W.Frag} {mg : Str → Option Value} {base : Heap}
theorem Fun.okQ {x qual : Str} {st : Stmt} {f : Addr} {fd : FuncData} {N ps : List Str} {k : Nat} {sp : Sp} (F : Fun K x qual st f fd) (S : FnScope N ps (defScope st)) (len : ∀ vs H Q E, sp vs H Q E → vs.length = ps.length)
    (hbody : ∀ (cdv : Value) (A : Around) (outer : List Env) (s : Shared) (H : Hp) (vs : List V) (Q : VK) (E : XK), Room k (A.deeper (envOfC qual (defScope st) s.heap.objs.size f cdv)) → sp vs H Q E →
      ∃ t, QSs (cxOf CX0 P w K mg base N qual (defScope st) f cdv A outer s H E).nox (defBody st) t ∧ t { nx := fun _ H' => Q .non H', rt := Q } (start N vs) H) : FnOk P w K mg base CX0 (k + 1) f fd ps sp :=
  F.ok S len fun cdv A outer s H vs Q E hr h => let ⟨t, q, r⟩ := hbody cdv A outer s H vs Q E hr h; ⟨t, q.h, r⟩
end
end L2
set_option Elab.async false
set_option linter.all false
set_option maxRecDepth 100000
set_option maxHeartbeats 4000000
namespace Ck
open PySem L2
theorem star_Constant {c k p es env} : starEach (.Constant c k p :: es) env = (false, eval (.Constant c k p) env) :: starEach es env := by rfl
theorem star_Name {c p es env} : starEach (.Name c p :: es) env = (false, eval (.Name c p) env) :: starEach es env := by rfl
theorem star_Call {c k z p es env} : starEach (.Call c k z p :: es) env = (false, eval (.Call c k z p) env) :: starEach es env := by rfl
theorem star_BinOp {a o b p es env} : starEach (.BinOp a o b p :: es) env = (false, eval (.BinOp a o b p) env) :: starEach es env := by rfl
theorem star_Subscript {a b p es env} : starEach (.Subscript a b p :: es) env = (false, eval (.Subscript a b p) env) :: starEach es env := by rfl
theorem star_List {a p es env} : starEach (.List a p :: es) env = (false, eval (.List a p) env) :: starEach es env := by rfl
theorem star_Tuple {a k p es env} : starEach (.Tuple a k p :: es) env = (false, eval (.Tuple a k p) env) :: starEach es env := by rfl
theorem star_ListComp {a b sc p es env} : starEach (.ListComp a b sc p :: es) env = (false, eval (.ListComp a b sc p) env) :: starEach es env := by rfl
section
variable {X : Cx}
def CDivL (i j : Int) : Prop := 0 < j ∧ j.natAbs.log2 < 9000
theorem op_fdivL : OpR X (binaryOp .FloorDiv) (rI CDivL fun i j => .int (i / j)) := opI fun i j _ _ _ _ _ hc q => by
  have h1 : (0 : Int) < j := hc.1
  exact PyProof.Rows.floordiv_int (by omega) (by rw [Int.fdiv_eq_ediv_of_nonneg i (by omega)]; exact q) (.inl (PyProof.noPylong_of_log2 hc.2))
theorem call_isinst : CallR X (.builtin "isinstance") (fun xs H Q => ∃ x n t b, xs = [x, .ty n] ∧ TyOf X.K H x t ∧ PySem.W.kitOne X.K t (.type n) = some b ∧ Q (.bl b) H) := by
  intro pins s σ H xs us Q I r h
  obtain ⟨x, n, t, b, rfl, ty, e, q⟩ := h
  obtain ⟨u, u', rfl, ru, ru'⟩ := vals2 r
  cases ru'
  exact isinst_ok I ru ty e fun tk => ⟨.bl b, H, I.tok _, rfl, q⟩
theorem kit_same {K : PySem.W.Frag} {n : String} : PySem.W.kitOne K (.type n) (.type n) = some true := by
  unfold PySem.W.kitOne
  rw [if_pos (by simp)]
end
theorem lc_str {x : Str} {g : TG} {tt : TT} {te : TE} {vs : List Nat} {σ : St} {H1 : Hp} {D : Addr} {Qd : Hp → Prop} (Pv : Nat → Hp → Prop) (h0 : Pv 0 (upd H1 D (.lst [])))
    (hs : ∀ i c H, x.cps.toList[i]? = some c → Pv i H → g (.str ⟨#[c]⟩) (wipe σ vs) H fun σ2 H2 => wipe σ2 vs = wipe σ vs ∧ tt σ2 H2 fun b H3 =>
      if b = true then te σ2 H3 fun y H4 => ∃ acc, H4 D = some (.lst acc) ∧ acc.length < sizeLine ∧ Pv (i + 1) (upd H4 D (.lst (acc ++ [y]))) else Pv (i + 1) H3) (hd : ∀ H, Pv x.cps.toList.length H → Qd H) :
    ∃ W : Nat → Nat → Hp → Prop, (∃ m, W 0 m (upd H1 D (.lst []))) ∧ ∀ i m H, W i m H →
      ((Its x).stop i H ∧ Qd H) ∨ ((Its x).go i H ∧ ∃ Nx : Hp → Prop, (∀ H', Nx H' → ∃ m', m' < m ∧ W (i + 1) m' H') ∧ ∀ y H', (Its x).yld i H y H' → g y (wipe σ vs) H' fun σ2 H2 => wipe σ2 vs = wipe σ vs ∧ tt σ2 H2 fun b H3 =>
        if b = true then te σ2 H3 fun y H4 => ∃ acc, H4 D = some (.lst acc) ∧ acc.length < sizeLine ∧ Nx (upd H4 D (.lst (acc ++ [y]))) else Nx H3) := by
  refine ⟨fun i m H => m = x.cps.toList.length - i ∧ i ≤ x.cps.toList.length ∧ Pv i H, ⟨x.cps.toList.length, by simp, Nat.zero_le _, h0⟩, ?_⟩
  rintro i m H ⟨rfl, hi, p⟩
  by_cases hlt : i < x.cps.toList.length
  · refine .inr ⟨(show i < x.cps.size by simpa using hlt), Pv (i + 1), fun H' p' => ⟨x.cps.toList.length - (i + 1), by omega, rfl, hlt, p'⟩, fun y H' z => ?_⟩
    obtain ⟨e, c, hc, rfl⟩ := z
    subst e
    exact hs i c _ (by simpa using hc) p
  · have e : i = x.cps.toList.length := by omega
    subst e
    exact .inl ⟨by simp [Its], hd H p⟩
def Keep (d : Addr) (H H' : Hp) : Prop := ∀ b o, H b = some o → b ≠ d → H' b = some o
theorem Keep.refl (d : Addr) (H : Hp) : Keep d H H := fun _ _ h _ => h
theorem Keep.trans {d : Addr} {H H1 H2 : Hp} (a : Keep d H H1) (b : Keep d H1 H2) : Keep d H H2 := fun c o h n => b c o (a c o h n) n
theorem Keep.of {d : Addr} {H H' : Hp} (s : Same H H') : Keep d H H' := fun b o h _ => s b o h
def Scr (K : PySem.W.Frag) (H : Hp) (a : Addr) (ns : List Int) : Prop :=
  (∃ o, H a = some (.frz o (.lst (ns.map V.int)))) ∨ ∃ (o : Obj) (its : Array Value) (n : Nat), K.lookup a = some o ∧ o.cls = .type "list" ∧ o.dict = none ∧ o.data = .seq its n ∧ its.size ≤ sizeLine ∧ Vals (ns.map V.int) its.toList
theorem Scr.sq {K : PySem.W.Frag} {H : Hp} {a : Addr} {ns : List Int} (h : Scr K H a ns) : SqL K H a (ns.map V.int) := h.elim (fun z => .inl (.inr z)) .inr
theorem Scr.of {K : PySem.W.Frag} {H : Hp} {a : Addr} {ns : List Int} (h : SqL K H a (ns.map V.int)) (o : Only H) : Scr K H a ns := by
  rcases h with (h | h) | h
  · rcases o a with z | ⟨u, xs, z⟩
    · rw [h] at z; cases z
    · rw [h] at z; cases z
  · exact .inl h
  · exact .inr h
theorem Scr.keep {K : PySem.W.Frag} {H H' : Hp} {a d : Addr} {ns : List Int} (h : Scr K H a ns) (k : Keep d H H') (hd : ∀ o u, H d ≠ some (.frz o u)) : Scr K H' a ns := by
  rcases h with ⟨o, h⟩ | h
  · refine .inl ⟨o, k _ _ h ?_⟩
    rintro rfl
    exact hd _ _ h
  · exact .inr h
structure DrawAt (K : PySem.W.Frag) (H : Hp) (d a : Addr) (ns : List Int) : Prop where
  ex : ∃ z : Int, 0 ≤ z ∧ H d = some (.lst [.ref a, .int z])
  sc : Scr K H a ns
  len : ns.length ≤ 63
theorem DrawAt.sq {K : PySem.W.Frag} {H : Hp} {d a : Addr} {ns : List Int} (D : DrawAt K H d a ns) : SqL K H a (ns.map V.int) := D.sc.sq
theorem Scr.same {K : PySem.W.Frag} {H H' : Hp} {a : Addr} {ns : List Int} (h : Scr K H a ns) (s : Same H H') : Scr K H' a ns :=
  h.elim (fun ⟨o, z⟩ => .inl ⟨o, s _ _ z⟩) .inr
theorem DrawAt.same {K : PySem.W.Frag} {H H' : Hp} {d a : Addr} {ns : List Int} (D : DrawAt K H d a ns) (s : Same H H') : DrawAt K H' d a ns :=
  ⟨let ⟨z, h0, h⟩ := D.ex; ⟨z, h0, s _ _ h⟩, D.sc.same s, D.len⟩
theorem DrawAt.ne {K : PySem.W.Frag} {H : Hp} {d a p : Addr} {ns : List Int} (D : DrawAt K H d a ns) (h : H p = none) : p ≠ d := by
  obtain ⟨z, _, e⟩ := D.ex
  exact (ne_of_none e h).symm
theorem DrawAt.upd {K : PySem.W.Frag} {H : Hp} {d a p : Addr} {ns : List Int} {o : HO} (D : DrawAt K H d a ns) (np : p ≠ d) (hp : ∀ o u, H p ≠ some (.frz o u)) : DrawAt K (upd H p o) d a ns :=
  ⟨let ⟨z, h0, h⟩ := D.ex; ⟨z, h0, by rw [upd_ne np.symm]; exact h⟩, D.sc.keep (d := p) (fun b u e nb => by rw [upd_ne nb]; exact e) hp, D.len⟩
theorem nofrz {H : Hp} {p : Addr} {xs : List V} (h : H p = some (.lst xs)) : ∀ o u, H p ≠ some (.frz o u) := fun o u z => by rw [h] at z; cases z
theorem Keep.updNew {d L : Addr} {H H' : Hp} {o : HO} (k : Keep d H H') (hL : H L = none) : Keep d H (upd H' L o) := fun b u e nb => by
  rw [upd_ne (ne_of_none e hL)]
  exact k b u e nb
theorem same_new {H : Hp} {p : Addr} {o : HO} (h : H p = none) : Same H (upd H p o) := fun b u e => by
  rw [upd_ne (ne_of_none e h)]
  exact e
theorem dp_ints {K : PySem.W.Frag} {H : Hp} : ∀ ns : List Int, DpAll K H (ns.map V.int) (ns.map PyData.int)
  | [] => .nil
  | n :: r => .cons (.int n) (dp_ints r)
theorem dp_strs {K : PySem.W.Frag} {H : Hp} : ∀ ns : List Str, DpAll K H (ns.map V.str) (ns.map PyData.str)
  | [] => .nil
  | n :: r => .cons (.str n) (dp_strs r)
theorem lay_ints : ∀ ns : List Int, PyData.canLayAll0 (ns.map PyData.int) = true
  | [] => rfl
  | n :: r => by
    show PyData.canLayAll0 (PyData.int n :: r.map PyData.int) = true
    simp [PyData.canLayAll0, PyData.canLay0, lay_ints r]
def Okt (x : Str) : Prop := ∀ c ∈ x.cps.toList, c < 1114112
theorem Okt.ok {x : Str} (h : Okt x) : PyData.strOk x = true := by
  unfold PyData.strOk
  rw [← Array.all_toList, List.all_eq_true]
  intro c hc
  exact decide_eq_true (h c hc)
theorem lay_strs : ∀ ns : List Str, (∀ x ∈ ns, Okt x) → PyData.canLayAll0 (ns.map PyData.str) = true
  | [], _ => rfl
  | n :: r, h => by
    show PyData.canLayAll0 (PyData.str n :: r.map PyData.str) = true
    simp [PyData.canLayAll0, PyData.canLay0, lay_strs r fun x hx => h x (List.mem_cons_of_mem _ hx), (h n List.mem_cons_self).ok]
theorem shaped_ints (ns : List Int) : SeqAt.shaped (.list (ns.map PyData.int)) = true := by
  unfold SeqAt.shaped
  rw [Bool.and_eq_true_iff]
  refine ⟨by simp [PyData.canLay0, lay_ints ns], ?_⟩
  simp [PyData.depth, PyProof.Rows.depthAll_ints]
theorem shaped_strs (ns : List Str) (h : ∀ x ∈ ns, Okt x) : SeqAt.shaped (.list (ns.map PyData.str)) = true := by
  unfold SeqAt.shaped
  rw [Bool.and_eq_true_iff]
  refine ⟨by simp [PyData.canLay0, lay_strs ns h], ?_⟩
  simp [PyData.depth, PyProof.Rows.depthAll_strs']
theorem eqv_nil (xs : List PyData) : PyData.eqv (.list xs) (.list []) = xs.isEmpty := by
  cases xs <;> simp [PyData.eqv, PyData.eqvAll]
theorem Okt.append {x y : Str} (h : Okt x) (h' : Okt y) : Okt (x ++ y) := by
  intro c hc
  have e : (x ++ y).cps.toList = x.cps.toList ++ y.cps.toList := by
    show (x.cps ++ y.cps).toList = _
    simp
  rw [e] at hc
  exact (List.mem_append.mp hc).elim (h c) (h' c)
theorem len_app (x y : Str) : (x ++ y).length = x.length + y.length := by
  show (x.cps ++ y.cps).size = x.cps.size + y.cps.size
  simp
theorem len_cut (z : Str) (lo hi : Option Int) : (cutS z lo hi).length ≤ z.length := by
  show (cutS z lo hi).cps.size ≤ z.cps.size
  unfold cutS
  simp only [List.size_toArray, List.length_take, List.length_drop, Array.length_toList]
  omega
theorem Okt.cut {z : Str} (h : Okt z) (lo hi : Option Int) : Okt (cutS z lo hi) := by
  intro c hc
  unfold cutS at hc
  exact h c (List.mem_of_mem_drop (List.mem_of_mem_take hc))
theorem Okt.sign {z : Str} (h : Okt z) {c : Nat} (hc : c ∈ z.cps.toList) : Okt ⟨#[c]⟩ := by
  intro b hb
  have e : b = c := by simpa using hb
  rw [e]; exact h c hc
abbrev sgn (c : Nat) : Str := ⟨#[c]⟩
theorem at_bound {α : Type} {xs : List α} {r : Int} (h0 : 0 ≤ r) (h1 : r < xs.length) : ∃ v, atI xs r = some v ∧ v ∈ xs := by
  have hj : r.toNat < xs.length := by omega
  refine ⟨xs[r.toNat], ?_, List.getElem_mem hj⟩
  have e : ((r.toNat : Nat) : Int) = r := by omega
  exact (congrArg (atI xs) e).symm.trans (atI_nat (List.getElem?_eq_getElem hj))
theorem str_len (x : Str) : x.length = x.cps.toList.length := by
  show x.cps.size = _
  simp
theorem yes_i {σ : St} {H : Hp} {A B : Hp → Prop} (h : A H) : tYes σ H (fun b H3 => if b = true then A H3 else B H3) := by
  show (if true = true then A H else B H)
  rw [if_pos rfl]
  exact h
end Ck
set_option Elab.async false
set_option linter.all false
set_option maxRecDepth 100000
set_option maxHeartbeats 4000000
namespace L2
open PySem PySem.Spec PyProof.Rows
def CX1 (P : Program) (w : World) : CXT := fun outer H s E e s' => ∃ (ea C : Addr) (a0 : Value) (B : Heap) (H' : Hp), e = .ref ea ∧ s'.os = s.os ∧ AllBare s'.gens ∧ Un (frs outer) [] H H' s.heap s'.heap ∧ HOk P w H' B ∧
  Heap.FlyingW B outer ea (.ref C) a0 s'.heap ∧ (∀ b o, s.heap.get? b = some o → H b = none → b ∉ frs outer → B.get? b = some o) ∧ (∀ b o, s.heap.get? b = some o → b ∉ frs outer → ∃ o', B.get? b = some o') ∧ E (.ref C) none H'
section
variable {X : Cx} {pins : List (Addr × Obj)} {σ : St} {H : Hp} {s : Shared}
theorem Inv.notFrame (I : Inv X pins σ H s) (hst : X.stack = X.env :: X.outer) (hf : X.env.frame = some X.env.locals) {b : Addr} {o : Obj} (e : X.s_0.heap.get? b = some o) (n : b ∉ X.fs) : b ∉ frs X.stack := fun hm => by
  rw [hst] at hm
  unfold frs at hm
  rw [List.filterMap_cons, hf] at hm
  rcases List.mem_cons.mp hm with z | z
  · exact absurd (Nat.lt_of_lt_of_le (Heap.lt_size e) (by rw [z]; exact I.ok.above)) (Nat.lt_irrefl _)
  · exact n z
theorem frame_data {h base : Heap} {l : List Env} (F : h.FunFrames base l) {b : Addr} {o : Obj} (hb : b ∈ frs l) (e : h.get? b = some o) : ∀ vs, o.data ≠ .fields vs := by
  obtain ⟨_, o', e', d⟩ := F.mem hb
  rw [e] at e'
  cases e'
  exact d
theorem HOk.hidden {P : Program} {w : World} {h : Heap} {H : Hp} {fs : List Addr} (x : HOk P w H h) (n : ∀ b ∈ fs, H b = none) : HOk P w H (PySem.W.hideAll h fs) := fun a o e =>
  (x a o e).stay (fun b u hb q => PySem.W.hideAll_get _ q fun hm => by
    have z := n b hm
    rcases hb with rfl | hb
    · rw [z] at e; cases e
    · rw [z] at hb; cases hb) (fun _ q => q) fun _ _ q => q
theorem raise_leaves {E : XK} {ea C : Addr} {vs : List Value} {h' : Heap} {A : Around} {E' : Value → Shared → Prop} (I : Inv X pins σ H s) (hex : X.ex = []) (hst : X.stack = X.env :: X.outer) (hf : X.env.frame = some X.env.locals)
    (hx : Heap.MadeExcOf s.heap h' ea (.ref C) vs) (q : E (.ref C) none H) (hA : A.frames = some X.stack) :
    wpAny (model X.prog X.w) A (leaving X.env (.ref ea)) (fun _ s'' => CX1 X.prog X.w X.outer X.H_0 X.s_0 E (.ref ea) s'') E' { s with heap := h' } := by
  have hin : ∀ env ∈ X.stack, ∀ b, env.frame = some b → b ∈ frs X.stack := fun env he b hb => List.mem_filterMap.mpr ⟨env, he, hb⟩
  have F := I.stack
  have F2 : s.heap.FunFrames (PySem.W.hideAll s.heap (frs X.stack)) X.stack := PySem.W.funFrames_hide F hin
  have st : (PySem.W.hideAll s.heap (frs X.stack)).StaysIn s.heap := fun b o e => PySem.W.of_hideAll _ e
  have nex : ∀ b : Addr, b ∉ X.ex := fun b z => by rw [hex] at z; cases z
  have inB : ∀ b o, X.s_0.heap.get? b = some o → X.H_0 b = none → b ∉ X.fs → (PySem.W.hideAll s.heap (frs X.stack)).get? b = some o := fun b o e n nf =>
    PySem.W.hideAll_get _ (I.base.keep b o e n nf (nex b)) (I.notFrame hst hf e nf)
  have thB : ∀ b o, X.s_0.heap.get? b = some o → b ∉ X.fs → ∃ o', (PySem.W.hideAll s.heap (frs X.stack)).get? b = some o' := fun b o e nf => by
    obtain ⟨o', e'⟩ := I.base.there b o e (nex b)
    exact ⟨o', PySem.W.hideAll_get _ e' (I.notFrame hst hf e nf)⟩
  have F3 : s.heap.FunFrames (PySem.W.hideAll s.heap (frs X.stack)) (X.env :: X.outer) := by
    have z := F2
    generalize PySem.W.hideAll s.heap (frs X.stack) = BB at z ⊢
    rw [hst] at z
    exact z
  rw [hst] at hA
  refine wpAny_leaves_madeW (s := { s with heap := h' }) hA hf st F3 hx fun h'' t fl _ _ up => ?_
  have slot : ∀ b o, X.s_0.heap.get? b = some o → X.H_0 b = none → b ∈ X.fs → ∃ sl, h''.get? b = some { o with slots := sl } := fun b o e n hb => by
    obtain ⟨sl, e1⟩ := I.base.slot b o e n hb (nex b)
    have hb' : b ∈ frs X.stack := by rw [hst]; unfold frs; rw [List.filterMap_cons, hf]; exact List.mem_cons_of_mem _ hb
    obtain ⟨sl', e2⟩ := up b _ (hx.keeps _ _ e1) (frame_data F hb' e1)
    exact ⟨sl', e2⟩
  refine ⟨ea, C, _, _, H, rfl, I.os, I.bare, ⟨fun b o e n nf _ => fl.1 b o (inB b o e n nf), fun b o e n hb _ => slot b o e n hb, fun b o e n _ => I.base.free b o e n (nex b), fun b o e _ => ?_, I.base.tups, I.base.frzs, I.base.tbls⟩, I.hok.hidden I.stkFree, fl, inB, thB, q⟩
  by_cases hb : b ∈ X.fs
  · have n := I.ok.frf b hb
    obtain ⟨sl, e2⟩ := slot b o e n hb
    exact ⟨_, e2⟩
  · obtain ⟨o', e'⟩ := thB b o e hb
    exact ⟨o', fl.1 b o' e'⟩
theorem flight_leaves {E E0 : XK} {e : Value} {s' : Shared} {A : Around} {E' : Value → Shared → Prop} (I : Inv X pins σ H s) (hex : X.ex = []) (hst : X.stack = X.env :: X.outer) (hf : X.env.frame = some X.env.locals)
    (h : CX1 X.prog X.w X.stack H s E e s') (hE : ∀ c d H', E c d H' → E0 c d H') (hA : A.frames = some X.stack) :
    wpAny (model X.prog X.w) A (leaving X.env e) (fun _ s'' => CX1 X.prog X.w X.outer X.H_0 X.s_0 E0 e s'') E' s' := by
  obtain ⟨ea, C, a0, B, H', rfl, os, bare, un, okB, fl, keepB, thB, q⟩ := h
  have nex : ∀ b : Addr, b ∉ X.ex := fun b z => by rw [hex] at z; cases z
  have F := fl.2.2.1
  rw [hst] at hA fl
  refine wpAny_leaves_onW hA hf fl fun h'' fl' up => ?_
  have nfr : ∀ b o, X.s_0.heap.get? b = some o → b ∉ X.fs → b ∉ frs X.stack := fun b o e nf => I.notFrame hst hf e nf
  have inB : ∀ b o, X.s_0.heap.get? b = some o → X.H_0 b = none → b ∉ X.fs → B.get? b = some o := fun b o e n nf =>
    keepB b o (I.base.keep b o e n nf (nex b)) (I.base.free b o e n (nex b)) (nfr b o e nf)
  have thB' : ∀ b o, X.s_0.heap.get? b = some o → b ∉ X.fs → ∃ o', B.get? b = some o' := fun b o e nf => by
    obtain ⟨o1, e1⟩ := I.base.there b o e (nex b)
    exact thB b o1 e1 (nfr b o e nf)
  have slot : ∀ b o, X.s_0.heap.get? b = some o → X.H_0 b = none → b ∈ X.fs → ∃ sl, h''.get? b = some { o with slots := sl } := fun b o e n hb => by
    have hb' : b ∈ frs X.stack := by rw [hst]; unfold frs; rw [List.filterMap_cons, hf]; exact List.mem_cons_of_mem _ hb
    obtain ⟨sl, e1⟩ := I.base.slot b o e n hb (nex b)
    obtain ⟨sl1, e2⟩ := un.slot b _ e1 (I.base.free b o e n (nex b)) hb' (by simp)
    obtain ⟨sl2, e3⟩ := up b _ e2 (frame_data F hb' e2)
    exact ⟨sl2, e3⟩
  refine ⟨ea, C, a0, B, H', rfl, os.trans I.os, bare, ⟨fun b o e n nf _ => fl'.1 b o (inB b o e n nf), fun b o e n hb _ => slot b o e n hb, fun b o e n _ => ?_, fun b o e _ => ?_, fun b xs e => un.tups b xs (I.base.tups b xs e), fun b o u e => un.frzs b o u (I.base.frzs b o u e), fun b ps e => ?_⟩, okB, fl', inB, thB', hE _ _ _ q⟩
  · obtain ⟨o1, e1⟩ := I.base.there b o e (nex b)
    exact un.free b o1 e1 (I.base.free b o e n (nex b)) (by simp)
  · by_cases hb : b ∈ X.fs
    · obtain ⟨sl, e2⟩ := slot b o e (I.ok.frf b hb) hb
      exact ⟨_, e2⟩
    · obtain ⟨o', e'⟩ := thB' b o e hb
      exact ⟨o', fl'.1 b o' e'⟩
  · obtain ⟨m1, e1⟩ := I.base.tbls b ps e
    obtain ⟨m2, e2⟩ := un.tbls b _ e1
    exact ⟨m1 ++ m2, by rw [e2, Array.append_assoc]⟩
end
structure XOk (X : Cx) (E : XK) : Prop where
  ex : X.ex = []
  st : X.stack = X.env :: X.outer
  fr : X.env.frame = some X.env.locals
  calm : X.calm = true
  xe : X.xe = fun e s' => wpAny (model X.prog X.w) X.A (leaving X.env e) (fun _ s'' => CX1 X.prog X.w X.outer X.H_0 X.s_0 E e s'') (fun e' s'' => CX1 X.prog X.w X.outer X.H_0 X.s_0 E e' s'') s'
theorem passX {X : Cx} {E E0 : XK} (O : XOk X E0) (hE : ∀ c d H', E c d H' → E0 c d H') : Passes (CX1 X.prog X.w) X E := fun pins σ H s e s' I h => by
  rw [O.xe]
  exact flight_leaves I O.ex O.st O.fr h hE I.ok.frames
structure ExcCls (K : PySem.W.Frag) (C : Addr) : Prop where
  ex : PySem.W.excIn K C [.type "ValueError", .type "Exception", .type "BaseException", .type "object"] "ValueError.__new__" = true
def tRaise (E : XK) (C : Addr) (ta : TA) : TS := fun _ σ H => ta σ H fun vs H1 => vs.length ≤ sizeLine ∧ E (.ref C) none H1
theorem exc_obj {K : PySem.W.Frag} {h : Heap} {C : Addr} {bmB : List Value} {newId : String} (X : K.In h) (q : PySem.W.excIn K C bmB newId = true) :
    ∃ bm N nm q bs hdct sn sub ab col dd k0 k1 k2 k3 k5 mN, h.get? C = some (excClassObj nm q C N bs bm hdct sn sub ab col dd k0 k1 k2 k3 k5 newId) ∧ h.Ns N mN ∧ mN "__init__" = none ∧ OwnTail h bmB bm := by
  unfold PySem.W.excIn at q
  split at q
  · rename_i dd cd sl ho
    split at q
    · rename_i C' bm k0 k1 k2 k3 n k5 hm hs
      simp only [Bool.and_eq_true, beq_iff_eq, Bool.not_eq_true'] at q
      obtain ⟨⟨⟨⟨⟨rfl, rfl⟩, hdel⟩, ht⟩, hok⟩, hni⟩ := q
      obtain ⟨nm, bs, mro, ns, qn, hd, sn, sub, ab, col, del⟩ := cd
      dsimp only at hm hdel hok hni
      subst hm hdel
      have hsl : sl = #[k0, k1, k2, k3, some (.builtin n), k5] := by
        obtain ⟨l⟩ := sl
        simp only at hs
        rw [hs]
      subst hsl
      exact ⟨bm, ns, nm, qn, bs, hd, sn, sub, ab, col, dd, k0, k1, k2, k3, k5, _, X _ _ ho, .of_isNs (PySem.W.isNs_of_in X hok), PySem.W.nsMap_none_of_in X hok hni, PySem.W.tail_of_in X ht⟩
    · cases q
  · cases q
theorem ps_raise {X : Cx} {E : XK} {C : Addr} {x : Str} {np cpos pos : Pos} {e : Expr} {es : List Expr} {ta : TA} (O : XOk X E) (c : ExcCls X.K C) (hg : Gl X x) (hm : X.mg x = some (.ref C)) (ha : PA X (e :: es) ta)
    (hdb : (x == ("__debug__" : Str)) = false := by decide) (he : starEach (e :: es) X.env = (false, eval e X.env) :: starEach es X.env := by rfl) (hpl : (backTo cpos (starEach es X.env)).any (·.1) = false := by rfl) :
    PS X (.Raise (some (.Call (.Name x np) (e :: es) [] cpos)) none pos) (tRaise E C ta) := by
  intro pins s σ H D I h
  obtain ⟨tl, N, nm, q, bs, hdct, sn, sub, ab, col, dd, k0, k1, k2, k3, k5, mN, hC, hN, hni, T⟩ := exc_obj I.ok.mod.kin c.ex
  refine wpAny_Raise_call_subT (C := C) (nm := nm) (q := q) (N := N) (bs := bs) (bm := tl) (hdct := hdct) (sn := sn) (sub := sub) (ab := ab) (col := col) (dd := dd) (k0 := k0) (k1 := k1) (k2 := k2) (k3 := k3) (k5 := k5)
    F.excBase_ValueError (mN := mN) (T.hasType F.excBase_ValueError.hasBase) (I.ok.hd O.calm) (by rw [he]; show (false || (backTo cpos (starEach es X.env)).any (·.1)) = false; rw [hpl]; rfl) hni (ld_glob I hg hm ⟨rfl, ?_⟩ hdb)
  have h2 := ha cpos pins s σ H _ I h
  rw [he] at h2 ⊢
  refine Calls.evalArgs_plain (thn h2 fun us s2 ⟨vs, H1, I1, r, hl, q⟩ => ?_)
  refine ⟨rfl, by rw [← r.length]; exact hl, I1.bk _ _ hC, hN.keeps I1.bk, T.keeps I1.bk, fun h' ea hx => ?_⟩
  rw [O.xe]
  exact raise_leaves I1 O.ex O.st O.fr hx q I1.ok.frames
structure QX (X : Cx) (e : Stmt) (t : TS) : Prop where
  h : PS X e t
theorem q_ps_raise {X : Cx} {E : XK} {C : Addr} {x : Str} {np cpos pos : Pos} {e : Expr} {es : List Expr} {ta : TA} (O : XOk X E) (c : ExcCls X.K C) (hg : Gl X x) (hm : X.mg x = some (.ref C)) (ha : QA X (e :: es) ta)
    (hdb : (x == ("__debug__" : Str)) = false := by decide) (he : starEach (e :: es) X.env = (false, eval e X.env) :: starEach es X.env := by rfl) (hpl : (backTo cpos (starEach es X.env)).any (·.1) = false := by rfl) :
    QS X (.Raise (some (.Call (.Name x np) (e :: es) [] cpos)) none pos) (tRaise E C ta) := ⟨ps_raise O c hg hm ha.h hdb he hpl⟩
section
variable {P : Program} {w : World} {K : PySem.W.Frag} {mg : Str → Option Value} {base : Heap}
theorem Fun.okX {x qual : Str} {st : Stmt} {f : Addr} {fd : FuncData} {N ps : List Str} {k : Nat} {sp : Sp} (F : Fun K x qual st f fd) (S : FnScope N ps (defScope st)) (len : ∀ vs H Q E, sp vs H Q E → vs.length = ps.length)
    (hbody : ∀ (cdv : Value) (A : Around) (outer : List Env) (s : Shared) (H : Hp) (vs : List V) (Q : VK) (E : XK), Room k (A.deeper (envOfC qual (defScope st) s.heap.objs.size f cdv)) → sp vs H Q E →
      XOk (cxOf (CX1 P w) P w K mg base N qual (defScope st) f cdv A outer s H E) E →
      ∃ t, QSs (cxOf (CX1 P w) P w K mg base N qual (defScope st) f cdv A outer s H E) (defBody st) t ∧ t { nx := fun _ H' => Q .non H', rt := Q } (start N vs) H) : FnOk P w K mg base (CX1 P w) (k + 1) f fd ps sp := by
  obtain ⟨oc, od, kV, doc, pm, an, cdv, ct, osl, rfl, lk, hcd⟩ := F.ex
  refine fn_of lk hcd S len fun A outer s H vs Q E hr hsp => ?_
  obtain ⟨t, h, q⟩ := hbody cdv A outer s H vs Q E hr hsp ⟨rfl, rfl, rfl, rfl, rfl⟩
  exact ⟨t, h.h, q⟩
end
abbrev XC := Addr → St → Hp → Prop
def XS (X : Cx) (pins : List (Addr × Obj)) (EX : XC) (ex : Value) (s' : Shared) : Prop := ∃ σ H1 s1, Inv X pins σ H1 s1 ∧ CX1 X.prog X.w X.stack H1 s1 (fun c _ H' => ∃ C, c = .ref C ∧ EX C σ H') ex s'
abbrev TX := St → Hp → VK → XK → Prop
abbrev TSX := Ends → XC → St → Hp → Prop
structure QEX (X : Cx) (e : Expr) (t : TX) : Prop where
  h : ∀ (pins : List (Addr × Obj)) (s : Shared) (σ : St) (H : Hp) (Q : VK) (EX : XC), Inv X pins σ H s → t σ H Q (fun c _ H' => ∃ C, c = .ref C ∧ EX C σ H') →
    wpAny (model X.prog X.w) X.A (eval e X.env) (EP X pins σ Q) (XS X pins EX) s
structure QSX (X : Cx) (sts : List Stmt) (t : TSX) : Prop where
  h : ∀ (pins : List (Addr × Obj)) (s : Shared) (σ : St) (H : Hp) (D : Ends) (EX : XC), Inv X pins σ H s → t D EX σ H → wpAny (model X.prog X.w) X.A (execs sts X.env) (SP X pins D) (XS X pins EX) s
theorem thnX {α : Type} {t : Sem α} {Q Q' : α → Shared → Prop} {M : Model} {A : Around} {E : Value → Shared → Prop} {s : Shared} (h : wpAny M A t Q (fun _ _ => False) s) (hQ : ∀ a s, Q a s → Q' a s) : wpAny M A t Q' E s := wpAny_mono h hQ fun _ _ z => False.elim z
section
variable {X : Cx} {k : Nat} {f C : Addr} {fd : FuncData} {ps : List Str} {sp : Sp} {dvs : List V} {ds : List Value} {x m : Str} {p pos apos : Pos} {e o : Expr} {es : List Expr} {ta : TE} {t : TA}
theorem run_fnX {pins : List (Addr × Obj)} {σ : St} {H : Hp} {s : Shared} {Q : VK} {EX : XC} {us : List Value} {vs : List V} (F : FnOk X.prog X.w X.K X.mg X.base (CX1 X.prog X.w) k f fd ps sp) (hr : Room k X.A) (hb : Binds X.K fd ps ds) (hd : Vals dvs ds)
    (I : Inv X pins σ H s) (r : Vals vs us) (h : sp (vs ++ dvs) H Q (fun c _ H' => ∃ C, c = .ref C ∧ EX C σ H')) : wpAny (model X.prog X.w) X.A (call (.ref f) us) (EP X pins σ Q) (XS X pins EX) s := by
  have r2 : Vals (vs ++ dvs) (us ++ ds) := r.append hd
  have hl : (us ++ ds).length = ps.length := by rw [← r2.length]; exact F.len _ _ _ _ h
  refine wpAny_call (codeAny_mono (F.run X.A X.stack s H ⟨us, []⟩ (us ++ ds) (vs ++ dvs) Q _ hr I.env0 (hb s us I.kIn hl) r2 h) fun r s' hq => ?_)
  cases r with
  | error e => exact ⟨σ, H, s, I, hq⟩
  | ok fl =>
    cases fl with
    | ret u => exact I.after hq
    | next => exact False.elim hq
    | brk => exact False.elim hq
    | cont => exact False.elim hq
def xMeth (C : Addr) (m : Str) (sp : Sp) (dvs : List V) (ta : TE) (t : TA) : TX := fun σ H Q E => ta σ H fun x H1 => ∃ a dx fs, x = .ref a ∧ H1 a = some (.ins C dx fs) ∧ fs.lookup m = none ∧
  t σ H1 fun vs H2 => sp (x :: (vs ++ dvs)) H2 Q E
theorem qx_meth {pl : Sem Bool} (he : QE X.nox o ta) (c : Cls X.K C) (hm : Meth X.K C m f) (F : FnOk X.prog X.w X.K X.mg X.base (CX1 X.prog X.w) k f fd ps sp) (hr : Room k X.A) (hb : Binds X.K fd ps ds) (hd : Vals dvs ds) (ha : QA X.nox (e :: es) t)
    (hst : starEach (e :: es) X.env = (false, eval e X.env) :: starEach es X.env := by rfl) (hpl : (backTo pos (starEach es X.env)).any (·.1) = false := by rfl)
    (ht : eval (.Call (.Attribute o m apos) (e :: es) [] pos) X.env = (do
      let ov ← eval o X.env
      standAt apos.atName
      let (f, first) ← holding [ov] (getMethod ov m pl)
      callWith pos f first (backTo pos (starEach (e :: es) X.env)) (backToKw pos (keywordEach [] X.env))) := by rfl) :
    QEX X (.Call (.Attribute o m apos) (e :: es) [] pos) (xMeth C m sp dvs ta t) := by
  refine ⟨fun pins s σ H Q EX I h => ?_⟩
  refine PySem.W.methodCall_KW (pl := pl) (thnX (he.h pins s σ H _ (I.wish _) h) fun u s1 ⟨x, H1, I1, rx, a, dx, fs, ex, ea, l, q⟩ => ?_) ht
  subst ex
  obtain rfl : u = Value.ref a := rx
  have I1 := I1.unwish
  refine getmeth_ok I1 ea c hm l ?_
  refine PySem.W.callWith_K (first := [.ref a]) (h₀ := X.base) I.ok.mod.kin hm.kp (thnX (ha.h pos pins s1 σ H1 _ (I1.wish _) q) fun us s2 ⟨vs, H2, I2, r, q2⟩ => ⟨I2.kIn, ?_⟩) hst hpl
  exact run_fnX (us := .ref a :: us) (vs := .ref a :: vs) F hr hb hd I2.unwish (.cons rfl r) q2
end
section
variable {X : Cx} {e : Expr} {tx : TX} {pos : Pos}
theorem one_x {pins : List (Addr × Obj)} {D : Ends} {E : Value → Shared → Prop} {s : Shared} {st : Stmt} (h : wpAny (model X.prog X.w) X.A (exec st X.env) (SP X pins D) E s) : wpAny (model X.prog X.w) X.A (execs [st] X.env) (SP X pins D) E s := by
  refine wpAny_execs_cons (thn h fun f s1 q => ?_)
  cases f with
  | next => exact wpAny_execs_nil q
  | ret v => exact q
  | brk => exact q
  | cont => exact q
theorem qsx_set {i : Nat} {x : Str} {pos' : Pos} (hN : X.N.Nodup) (hi : X.N[i]? = some x) (hx : Loc X.env.scope x) (he : QEX X e tx) (hs : swapsWith e (some (.Name x pos')) pos.line X.env = pure false := by rfl) (hf : X.fn x = true ∨ X.env.scope.names.lookup x = some .local := by first | exact .inl rfl | exact .inr rfl | assumption) :
    QSX X [.Assign [.Name x pos'] e pos] (fun D EX σ H => tx σ H (fun v H1 => D.nx (σ.set i (some v)) H1) (fun c _ H' => ∃ C, c = .ref C ∧ EX C σ H')) :=
  ⟨fun pins s σ H D EX I h => one_x (wpAny_Assign_Name (thn (he.h pins s σ H _ EX I h) fun v s1 ⟨y, H1, I1, r1, q1⟩ => store_ok I1 hN hi hx r1 (fun s2 I2 => ⟨_, H1, I2, q1⟩) hf) hs)⟩
end
section
variable {X : Cx} {pins : List (Addr × Obj)} {σ : St} {H : Hp} {s : Shared}
def excAt (ea C : Addr) (h : Heap) : Prop := ∃ o vs, h.get? ea = some o ∧ o.cls = .ref C ∧ o.data = .fields vs
theorem landed {s0 s1 : Shared} {H1 H' : Hp} {B h5 : Heap} {ea C : Addr} {a0 : Value} (I0 : Inv X pins σ H1 s0) (os : s1.os = s0.os) (bare : AllBare s1.gens) (un : Un (frs X.stack) [] H1 H' s0.heap s1.heap) (okB : HOk X.prog X.w H' B)
    (keepB : ∀ b o, s0.heap.get? b = some o → H1 b = none → b ∉ frs X.stack → B.get? b = some o) (thB : ∀ b o, s0.heap.get? b = some o → b ∉ frs X.stack → ∃ o', B.get? b = some o')
    (F1 : s1.heap.FunFrames B X.stack) (fl : Heap.FlyingW B X.stack ea (.ref C) a0 h5) (up : s1.heap.UpToSlots h5) : Inv X pins σ H' { s1 with heap := h5 } := by
  have slot : ∀ b o, s0.heap.get? b = some o → H1 b = none → b ∈ frs X.stack → ∃ sl, h5.get? b = some { o with slots := sl } := fun b o e n hb => by
    obtain ⟨sl1, e2⟩ := un.slot b _ e n hb (by simp)
    obtain ⟨sl2, e3⟩ := up b _ e2 (frame_data F1 hb e2)
    exact ⟨sl2, e3⟩
  refine I0.call' (ch := []) os ⟨fun b o e n nf _ => fl.1 b o (keepB b o e n nf), fun b o e n hb _ => slot b o e n hb, un.free, fun b o e _ => ?_, un.tups, un.frzs, un.tbls⟩ (okB.kept fl.1) bare (fun _ z => nomatch z)
  by_cases hb : b ∈ frs X.stack
  · obtain ⟨sl, e2⟩ := slot b o e (I0.stkFree b hb) hb
    exact ⟨_, e2⟩
  · obtain ⟨o', e'⟩ := thB b o e hb
    exact ⟨o', fl.1 b o' e'⟩
theorem Inv.trackExc {ea C : Addr} (I : Inv X pins σ H s) (hex : X.ex = []) (n0 : X.s_0.heap.get? ea = none) (np : ∀ p ∈ X.pn ++ pins, p.1 ≠ ea) (nH : H ea = none) (x : excAt ea C s.heap) : Inv X pins σ (upd H ea (.ext (excAt ea C))) s := by
  have nex : ∀ b : Addr, b ∉ X.ex := fun b z => by rw [hex] at z; cases z
  obtain ⟨oe, vs, he, hc, hd⟩ := id x
  have nL : X.env.locals ≠ ea := fun z => by
    obtain ⟨m, ⟨o, es, ep, ho, hdd, _⟩, _⟩ := I.loc
    rw [z, he] at ho; cases ho; rw [hd] at hdd; cases hdd
  have old : ∀ b o, H b = some o → b ≠ ea := fun b o e => ne_of_none e nH
  refine ⟨I.ok, I.os, I.bare, ⟨I.base.keep, I.base.slot, fun b o e n hx => ?_, I.base.there, fun b xs e => ?_, fun b o u e => ?_, fun b ps e => ?_⟩, I.loc, I.cell, ?_, fun y c e => ?_, fun p hp => ?_, fun b o e => ?_, I.len⟩
  · rw [upd_ne (fun z => by rw [z, n0] at e; cases e)]
    exact I.base.free b o e n hx
  · have z := I.base.tups b xs e
    rw [upd_ne (old _ _ z)]; exact z
  · have z := I.base.frzs b o u e
    rw [upd_ne (old _ _ z)]; exact z
  · obtain ⟨more, z⟩ := I.base.tbls b ps e
    exact ⟨more, by rw [upd_ne (old _ _ z)]; exact z⟩
  · rw [upd_ne nL]; exact I.free
  · obtain ⟨v, o, ho, hdd⟩ := I.cell y c e
    rw [upd_ne (fun z => by rw [z, he] at ho; cases ho; rw [hd] at hdd; cases hdd)]
    exact I.freeC y c e
  · obtain ⟨e1, n, ne, nf, dd⟩ := I.pin p hp
    exact ⟨e1, by rw [upd_ne (np p hp)]; exact n, ne, nf, dd⟩
  · by_cases hb : b = ea
    · subst hb
      rw [upd_same] at e
      cases e
      refine ⟨x, ⟨oe, he⟩, fun h1 h2 ⟨o, vs, e1, c1, d1⟩ k => ⟨o, vs, k o e1, c1, d1⟩⟩
    · rw [upd_ne hb] at e
      exact (I.hok b o e).stay (fun _ _ _ q => q) (fun c q => by rw [upd_ne (old _ _ q)]; exact q) fun c xs q => by rw [upd_ne (old _ _ q)]; exact q
theorem del_ok {M : Model} {A : Around} {E : Value → Shared → Prop} {i : Nat} {x : Str} {v : V} {Q : Unit → Shared → Prop} (I : Inv X pins σ H s) (hN : X.N.Nodup) (hi : X.N[i]? = some x) (hx : X.env.scope.names.lookup x = some .local) (hv : σ[i]? = some (some v))
    (h : ∀ s', Inv X pins (σ.set i none) H s' → Q () s') : wpAny M A (unbindName X.env x) Q E s := by
  obtain ⟨m, hn, hl⟩ := id I.loc
  have hcls : (X.env.scope.kind == .class || (X.env.scope.kind == .module && X.env.locals != X.env.globals)) = false := by rw [I.ok.kind]; rfl
  have hiσ : i < σ.length := by rw [I.len]; exact (List.getElem?_eq_some_iff.mp hi).1
  have cne := I.cne
  obtain ⟨u, r, l⟩ := hl i x v hi hv (.inl hx)
  have e : m x = some u := by
    rcases l with ⟨_, e⟩ | ⟨k, _⟩
    · exact e
    · rcases k with k | k <;> rw [show X.env.kindOf x = some .local from hx] at k <;> cases k
  refine wpAny_unbindName_local hx hn e hcls fun h' u' hn' hs => ?_
  obtain ⟨oL, _, _, hoL, _⟩ := id hn
  have tracked : HOk X.prog X.w H h' := fun b ob e => by
    refine (I.hok b ob e).stay (fun c w' hc q => (hs.2 c ?_).trans q) (fun _ q => q) fun _ _ q => q
    intro z
    rw [z] at hc
    rcases hc with rfl | hc
    · rw [I.free] at e; cases e
    · rw [I.free] at hc; cases hc
  refine h _ ⟨I.ok, I.os, I.bare, ⟨fun b o e n hb hx => ?_, fun b o e n hb hx => ?_, I.base.free, fun b o e hx => ?_, I.base.tups, I.base.frzs, I.base.tbls⟩, ⟨_, hn', fun j y v' e1 e2 e3 => ?_⟩, fun y c e => ?_, I.free, I.freeC, fun p hp => ?_, tracked, by simpa using I.len⟩
  · exact (hs.2 b (Nat.ne_of_lt (Nat.lt_of_lt_of_le (Heap.lt_size e) I.ok.above))).trans (I.base.keep b o e n hb hx)
  · obtain ⟨sl, e1⟩ := I.base.slot b o e n hb hx
    exact ⟨sl, (hs.2 b (Nat.ne_of_lt (Nat.lt_of_lt_of_le (Heap.lt_size e) I.ok.above))).trans e1⟩
  · obtain ⟨o', e1⟩ := I.base.there b o e hx
    exact ⟨o', (hs.2 b (Nat.ne_of_lt (Nat.lt_of_lt_of_le (Heap.lt_size e) I.ok.above))).trans e1⟩
  · by_cases hj : j = i
    · subst hj
      rw [List.getElem?_set_self hiσ] at e2
      cases e2
    · rw [List.getElem?_set_ne (Ne.symm hj)] at e2
      obtain ⟨u', r', q⟩ := hl j y v' e1 e2 e3
      refine ⟨u', r', ?_⟩
      rcases q with ⟨k, e⟩ | ⟨k, c, e, z⟩
      · refine .inl ⟨k, ?_⟩
        have : y ≠ x := fun e => hj (nodup_ix hN e1 (e ▸ hi))
        simp [this, e]
      · exact .inr ⟨k, c, e, z.sameBut hs (cne y c e)⟩
  · obtain ⟨w', z⟩ := I.cell y c e
    exact ⟨w', z.sameBut hs (cne y c e)⟩
  · obtain ⟨e, n, ne, nf, d⟩ := I.pin p hp
    exact ⟨(hs.2 p.1 ne).trans e, n, ne, nf, d⟩
end
section
theorem ObjOk.thereO {P : Program} {w : World} {H : Hp} {h : Heap} {a : Addr} {o : HO} (x : ObjOk P w H h a o) : ∃ ob, h.get? a = some ob := by
  cases o with
  | lst xs => obtain ⟨_, _, _, _, e⟩ := x; exact ⟨_, e⟩
  | tup xs => obtain ⟨_, _, _, p⟩ := x; obtain ⟨ob, e, _⟩ := p; exact ⟨_, e⟩
  | dK kvs => obtain ⟨_, _, _, _, o, _, _, e, _⟩ := x; exact ⟨_, e⟩
  | dT kvs => obtain ⟨_, _, _, _, o, _, _, e, _⟩ := x; exact ⟨_, e⟩
  | set S n => obtain ⟨o, _, _, _, e, _⟩ := x; exact ⟨_, e⟩
  | ins C dx fs => obtain ⟨_, _, _, e, _⟩ := x; exact ⟨_, e⟩
  | own y => exact x
  | xd fs => obtain ⟨_, ⟨_, _, _, e, _⟩, _⟩ := x; exact ⟨_, e⟩
  | rng lo hi => obtain ⟨_, _, _, e⟩ := x; exact ⟨_, e⟩
  | frz ob u => obtain ⟨e, _⟩ := x; exact ⟨_, e⟩
  | tbl ps => exact ⟨_, x⟩
  | met f y => exact ⟨_, x⟩
  | ext φ => obtain ⟨_, e, _⟩ := x; exact e
abbrev Cx.hnd (X : Cx) (ea : Addr) : Cx := { X with A := X.A.mark (some (.ref ea)), calm := false, xe := fun _ _ => False }
variable {X : Cx} {pins : List (Addr × Obj)} {σ : St} {H : Hp} {s : Shared}
theorem Inv.hnd (I : Inv X pins σ H s) (ea : Addr) : Inv (X.hnd ea) pins σ H s :=
  ⟨⟨I.ok.mod, I.ok.kind, I.ok.glob, I.ok.blt, I.ok.above, I.ok.inj, I.ok.has, I.ok.cab, fun z => (by cases z), I.ok.frames, I.ok.stk, I.ok.exf, I.ok.bs, I.ok.bsz, I.ok.noex, I.ok.exfs, I.ok.funs, I.ok.frf⟩, I.os, I.bare, I.base, I.loc, I.cell, I.free, I.freeC, I.pin, I.hok, I.len⟩
theorem Inv.unhnd {ea : Addr} (I : Inv (X.hnd ea) pins σ H s) (ok : X.Ok) : Inv X pins σ H s := ⟨ok, I.os, I.bare, I.base, I.loc, I.cell, I.free, I.freeC, I.pin, I.hok, I.len⟩
def tTryAs (K : PySem.W.Frag) (Cb : Addr) (i : Nat) (tb : TSX) (th : TS) : TS := fun D σ H => tb D (fun C σ' H' => PySem.W.exmOne K (.ref C) (.ref Cb) = some true ∧
  ∀ ea, H' ea = none → th { nx := fun σ2 H2 => D.nx (σ2.set i none) H2, rt := D.rt, bk := fun σ2 H2 => D.bk (σ2.set i none) H2, ct := fun σ2 H2 => D.ct (σ2.set i none) H2 } (σ'.set i (some (.ref ea))) (upd H' ea (.ext (excAt ea C)))) σ H
theorem q_ps_tryAs {x n : Str} {Cb : Addr} {i : Nat} {body : List Stmt} {b0 : Stmt} {suite : List Stmt} {np hpos tpos : Pos} {tb : TSX} {th : TS} (hN : X.N.Nodup) (hi : X.N[i]? = some n) (hl : X.env.scope.names.lookup n = some .local)
    (hg : Gl X x) (hm : X.mg x = some (.ref Cb)) (hb : QSX X body tb) (hs : ∀ ea, QSs (X.hnd ea) (b0 :: suite) th) (hdb : (x == ("__debug__" : Str)) = false := by decide)
    (hex : X.ex = [] := by rfl) (hst : X.stack = X.env :: X.outer := by rfl) (hf : X.env.frame = some X.env.locals := by rfl) :
    QS X (.Try body [.ExceptHandler (some (.Name x np)) (some n) (b0 :: suite) hpos] [] [] tpos) (tTryAs X.K Cb i tb th) := by
  refine ⟨fun pins s σ H D I h => ?_⟩
  refine wpAny_Try_except (wpAny_mono (hb.h pins s σ H D _ I h) (fun f s1 q => ?_) fun e s1 hx => ?_)
  · cases f with
    | next => exact wpAny_execs_nil q
    | ret v => exact q
    | brk => exact q
    | cont => exact q
  obtain ⟨σ', H1, s0, I0, ea, C, a0, B, H', rfl, os, bare, un, okB, fl, keepB, thB, C', eC, hm1, hq⟩ := hx
  cases eC
  have F1 := fl.2.2.1
  have hA : X.A.frames = some (X.env :: X.outer) := by rw [← hst]; exact I.ok.frames
  have fl' : Heap.FlyingW B (X.env :: X.outer) ea (.ref C) a0 s1.heap := by rw [← hst]; exact fl
  refine wpAny_looks_onW hA hf fl' fun h4 held up4 => ?_
  refine wpAny_landsW held fun h5 fl5' up5 => ?_
  have fl5 : Heap.FlyingW B X.stack ea (.ref C) a0 h5 := by rw [hst]; exact fl5'
  have I5 : Inv X pins σ' H' { s1 with heap := h5 } := landed I0 os bare un okB keepB thB F1 fl5 (up4.trans up5)
  refine wpAny_handleBy_cons (codeAny_handlers_test (ld_glob (X := X.hnd ea) (I5.hnd ea) hg hm ?_ hdb)) (by intro q; cases q)
  have LT : PySem.W.Looks (model X.prog X.w) h5 (typeOf (.ref ea)) (.ref C) := by
    obtain ⟨ob, e1, e2⟩ := fl5.there
    exact e2 ▸ (PySem.W.Looks.ld e1).andThen .now
  refine PySem.W.exm_one I5.kIn LT hm1 _ _ _ _ (fun _ _ q => q) ?_
  refine codeAny_handlers_suite_as ?_
  refine lands_againW fl5 fun h6 fl6 up6 => ?_
  have I6 : Inv X pins σ' H' { s1 with heap := h6 } := landed I0 os bare un okB keepB thB F1 fl6 ((up4.trans up5).trans up6)
  have x6 : excAt ea C h6 := by
    obtain ⟨oe, vs, T, oT, ts, he, ⟨hc, _⟩, hd, _⟩ := fl6.2.2.2
    exact ⟨oe, vs, he, hc, hd⟩
  have nH : H' ea = none := by
    cases q : H' ea with
    | none => rfl
    | some o =>
      obtain ⟨ob, e⟩ := (okB ea o q).thereO
      rw [fl.2.1] at e; cases e
  have n0 : X.s_0.heap.get? ea = none := by
    cases q : X.s_0.heap.get? ea with
    | none => rfl
    | some o =>
      by_cases hfr : ea ∈ X.fs
      · have hfr' : ea ∈ frs X.stack := by rw [hst]; unfold frs; rw [List.filterMap_cons, hf]; exact List.mem_cons_of_mem _ hfr
        obtain ⟨oe, vs, he, hc, hd⟩ := x6
        exact absurd hd (frame_data fl6.2.2.1 hfr' he vs)
      · obtain ⟨o1, e1⟩ := I0.base.there ea o q (by rw [hex]; simp)
        obtain ⟨o2, e2⟩ := thB ea o1 e1 (I0.notFrame hst hf q hfr)
        rw [fl.2.1] at e2; cases e2
  have np : ∀ p ∈ X.pn ++ pins, p.1 ≠ ea := fun p hp z => by
    obtain ⟨e1, n1, nL, nf, _⟩ := I0.pin p hp
    have nst : p.1 ∉ frs X.stack := fun hm => by
      rcases List.mem_cons.mp (I0.stkSub _ hm) with y | y
      · exact nL y
      · exact nf y
    have e2 := keepB _ _ e1 n1 nst
    rw [z, fl.2.1] at e2; cases e2
  have I7 := I6.trackExc hex n0 np nH x6
  refine store_ok (v := V.ref ea) I7 hN hi (.inl hl) rfl (fun s8 I8 => ?_) (.inr hl)
  refine thnX ((hs ea).h pins s8 _ _ _ (I8.hnd ea) (hq ea nH)) fun f s9 q9 => ?_
  have fin : ∃ σ9 H9, Inv X pins σ9 H9 s9 ∧ ∀ s', Inv X pins (σ9.set i none) H9 s' → SP X pins D f s' := by
    cases f with
    | next => obtain ⟨σ9, H9, I9, q⟩ := q9; exact ⟨σ9, H9, I9.unhnd I.ok, fun s' I' => ⟨_, H9, I', q⟩⟩
    | brk => obtain ⟨σ9, H9, I9, q⟩ := q9; exact ⟨σ9, H9, I9.unhnd I.ok, fun s' I' => ⟨_, H9, I', q⟩⟩
    | cont => obtain ⟨σ9, H9, I9, q⟩ := q9; exact ⟨σ9, H9, I9.unhnd I.ok, fun s' I' => ⟨_, H9, I', q⟩⟩
    | ret u => obtain ⟨v, σ9, H9, I9, r, q⟩ := q9; exact ⟨σ9, H9, I9.unhnd I.ok, fun s' I' => ⟨v, _, H9, I', r, q⟩⟩
  obtain ⟨σ9, H9, I9, k9⟩ := fin
  have hiσ : i < σ9.length := by rw [I9.len]; exact (List.getElem?_eq_some_iff.mp hi).1
  refine wpAny_bind (wpAny_bindName (store_ok (v := V.non) I9 hN hi (.inl hl) rfl (fun s10 I10 => ?_) (.inr hl)))
  unfold unbindBehindTheSuite
  refine wpAny_onRaise (del_ok (v := V.non) I10 hN hi hl (List.getElem?_set_self hiσ) fun s11 I11 => k9 s11 ?_)
  rw [List.set_set] at I11
  exact I11
end
end L2
set_option Elab.async false
set_option linter.all false
set_option maxRecDepth 100000
set_option maxHeartbeats 4000000
namespace PySem
open Sem (wp)
section
variable {prog : Program} {w : World} {A : Around} {E : Value → Shared → Prop} {h : Heap} {g : Array GenState} {d : Drawn} {t : Nat} {os : OsState} {a : Addr} {o : Obj}
  {nm q : Str} {C N : Addr} {bs bm : List Value} {hdct : Bool} {sn : List Str} {sub : List Value} {ab : Bool} {col : Option Bool} {dd : Option Addr} {k0 k1 k2 k3 k5 : Option Value} {newId : String}
theorem ck_get {R : Result → Shared → Prop} (hC : h.get? C = some (excClassObj nm q C N bs bm hdct sn sub ab col dd k0 k1 k2 k3 k5 newId)) (hobj : bm.contains (.type "object") = true)
    (hx : h.get? a = some o) (hc : o.cls = .ref C) (hq : R (.ok (.ret (.ref C))) ⟨h, g, d, t, os⟩) :
    codeAny (model prog w) A (.call (.builtin "getset_descriptor.__get__") ⟨[.builtin "object.__class__", .ref a, .ref C], []⟩) R ⟨h, g, d, t, os⟩ := by
  have hT5 : (⟨h, g, d, t, os⟩ : Shared).TypeIs (.builtin "object.__class__") "getset_descriptor" := F.typeOf_object_class
  have hcB : (Value.ref C :: bm).contains (.type (".".intercalate ("object.__class__".cutAt '.').dropLast)) = true := by
    rw [F.owner_object_class, List.contains_cons, hobj]; rfl
  refine codeAny_call_builtin F.slot_gs_get.plain F.entry_gs_get (F.slot_gs_get.check _ _ _ _ _ _ _ _ hT5 (F.args_gs_get _ _ _) ?_)
  repeat (any_goals (first | assumption | (with_reducible refine wpAny_loadPart_at hx ?_; rw [hc]) | (with_reducible refine wpAny_isSubtype_exc hC ?_; rw [hcB]) | wp_step))
  refine ⟨Code.quiet_builtin _ (by decide +kernel), codeAny_builtin F.entry_object_class ?_⟩
  repeat (any_goals (first | assumption | (with_reducible refine wpAny_loadPart_at hx ?_; rw [hc]) | wp_step))
theorem ck_entry {tk : Tok} {Q : Fin → Shared → Prop} (hC : h.get? C = some (excClassObj nm q C N bs bm hdct sn sub ab col dd k0 k1 k2 k3 k5 newId)) (hobj : bm.contains (.type "object") = true)
    (L : PySem.W.Looks (model prog w) h (typeLookup (.ref C) "__class__") (some (.builtin "object.__class__"))) (hx : h.get? a = some o) (hc : o.cls = .ref C) (hq : Q (.done (.ret (.ref C))) ⟨h, g, d, t, os⟩) :
    wpAny (model prog w) A (Builtin.«object.__getattribute__» ⟨[.ref a, .str "__class__" tk], []⟩) Q E ⟨h, g, d, t, os⟩ := by
  have L' : ∀ (A : Around) (Q : Option Value → Shared → Prop) (E : Value → Shared → Prop) (g : Array GenState) (d : Drawn) (t : Nat) (os : OsState), Q (some (.builtin "object.__class__")) ⟨h, g, d, t, os⟩ → wpAny (model prog w) A (typeLookup (.ref C) "__class__") Q E ⟨h, g, d, t, os⟩ := fun A Q E g d t os hq => L A Q E ⟨h, g, d, t, os⟩ (fun _ _ e => e) hq
  have hT5 : (⟨h, g, d, t, os⟩ : Shared).TypeIs (.builtin "object.__class__") "getset_descriptor" := F.typeOf_object_class
  have f5 := F.typeOf_object_class
  have f6 := F.slot_gs_get.lookup
  have f7 := F.slot_gs_set.lookup
  repeat (any_goals (first | assumption | (with_reducible refine wpAny_loadPart_at hx ?_; rw [hc]) | with_reducible refine L' _ _ _ _ _ _ _ ?_ | wp_step))
  refine ck_get hC hobj hx hc ?_
  repeat (any_goals (first | assumption | wp_step))
theorem ck_check {M : Model} {nameV : Value} {Q : Unit → Shared → Prop} (hC : h.get? C = some (excClassObj nm q C N bs bm hdct sn sub ab col dd k0 k1 k2 k3 k5 newId)) (hbe : bm.contains (.type "BaseException") = true)
    (hx : h.get? a = some o) (hc : o.cls = .ref C) (hq : Q () ⟨h, g, d, t, os⟩) : wpAny M A (checkBuiltinCall "BaseException.__getattribute__" ⟨[.ref a, nameV], []⟩) Q E ⟨h, g, d, t, os⟩ := by
  have hk : builtinKind "BaseException.__getattribute__" = some .slot := by decide +kernel
  have hsplit : splitId "BaseException.__getattribute__" = some ("BaseException", "__getattribute__") := by decide +kernel
  have hcB : (Value.ref C :: bm).contains (.type "BaseException") = true := by rw [List.contains_cons, hbe]; rfl
  have ha := F.args_bexc_ga (.ref a) nameV
  simp only [checkBuiltinCall, hk, hsplit]
  refine wpAny_bind ?_
  · unfold isInstance
    repeat (first | (with_reducible refine wpAny_loadPart_at hx ?_; rw [hc]) | (with_reducible refine wpAny_isSubtype_exc hC ?_; rw [hcB]) | wp_step)
    exact hq
theorem ck_call {tk : Tok} {R : Result → Shared → Prop} (hC : h.get? C = some (excClassObj nm q C N bs bm hdct sn sub ab col dd k0 k1 k2 k3 k5 newId)) (hobj : bm.contains (.type "object") = true) (hbe : bm.contains (.type "BaseException") = true)
    (L : PySem.W.Looks (model prog w) h (typeLookup (.ref C) "__class__") (some (.builtin "object.__class__"))) (hx : h.get? a = some o) (hc : o.cls = .ref C) (hq : R (.ok (.ret (.ref C))) ⟨h, g, d, t, os⟩) :
    codeAny (model prog w) A (.call (.builtin "BaseException.__getattribute__") ⟨[.ref a, .str "__class__" tk], []⟩) R ⟨h, g, d, t, os⟩ :=
  codeAny_call_builtin F.attr_ValueError.ga.plain F.entry_bexc_ga (ck_check hC hbe hx hc (ck_entry hC hobj L hx hc hq))
theorem ck_by {tk : Tok} {Q : Value → Shared → Prop} (hC : h.get? C = some (excClassObj nm q C N bs bm hdct sn sub ab col dd k0 k1 k2 k3 k5 newId)) (hobj : bm.contains (.type "object") = true) (hbe : bm.contains (.type "BaseException") = true)
    (L : PySem.W.Looks (model prog w) h (typeLookup (.ref C) "__class__") (some (.builtin "object.__class__"))) (L1 : PySem.W.Looks (model prog w) h (typeLookup (.ref C) "__getattribute__") (some (.builtin "BaseException.__getattribute__")))
    (L2 : PySem.W.Looks (model prog w) h (typeLookup (.ref C) "__getattr__") none) (hx : h.get? a = some o) (hc : o.cls = .ref C) (hq : Q (.ref C) ⟨h, g, d, t, os⟩) :
    wpAny (model prog w) A (getAttrBy (.ref a) (.str "__class__" tk) false) Q E ⟨h, g, d, t, os⟩ := by
  have L1' : ∀ (A : Around) (Q : Option Value → Shared → Prop) (E : Value → Shared → Prop) (g : Array GenState) (d : Drawn) (t : Nat) (os : OsState), Q (some (.builtin "BaseException.__getattribute__")) ⟨h, g, d, t, os⟩ → wpAny (model prog w) A (typeLookup (.ref C) "__getattribute__") Q E ⟨h, g, d, t, os⟩ := fun A Q E g d t os hq => L1 A Q E ⟨h, g, d, t, os⟩ (fun _ _ e => e) hq
  have L2' : ∀ (A : Around) (Q : Option Value → Shared → Prop) (E : Value → Shared → Prop) (g : Array GenState) (d : Drawn) (t : Nat) (os : OsState), Q none ⟨h, g, d, t, os⟩ → wpAny (model prog w) A (typeLookup (.ref C) "__getattr__") Q E ⟨h, g, d, t, os⟩ := fun A Q E g d t os hq => L2 A Q E ⟨h, g, d, t, os⟩ (fun _ _ e => e) hq
  have f3 := F.attr_ValueError.ga.bind (.ref a)
  have hx2 : (Value.builtin "BaseException.__getattribute__" == Value.builtin "object.__getattribute__") = false := by decide +kernel
  have hx1 : (onTheHeap (Value.ref C) && Value.builtin "BaseException.__getattribute__" == Value.builtin "object.__getattribute__") = false := by rw [hx2]; rfl
  repeat (any_goals (first | assumption | (with_reducible refine wpAny_loadPart_at hx ?_; rw [hc]) | with_reducible refine L1' _ _ _ _ _ _ _ ?_ | with_reducible refine L2' _ _ _ _ _ _ _ ?_ | wp_step))
  refine ck_call hC hobj hbe L hx hc ?_
  repeat (any_goals (first | assumption | wp_step))
theorem ck_attr {Q : Option Value → Shared → Prop} (hC : h.get? C = some (excClassObj nm q C N bs bm hdct sn sub ab col dd k0 k1 k2 k3 k5 newId)) (hobj : bm.contains (.type "object") = true) (hbe : bm.contains (.type "BaseException") = true)
    (L : PySem.W.Looks (model prog w) h (typeLookup (.ref C) "__class__") (some (.builtin "object.__class__"))) (L1 : PySem.W.Looks (model prog w) h (typeLookup (.ref C) "__getattribute__") (some (.builtin "BaseException.__getattribute__")))
    (L2 : PySem.W.Looks (model prog w) h (typeLookup (.ref C) "__getattr__") none) (hx : h.get? a = some o) (hc : o.cls = .ref C) (hq : Q (some (.ref C)) ⟨h, g, d, t + 1, os⟩) :
    wpAny (model prog w) A (getAttr? (.ref a) "__class__") Q E ⟨h, g, d, t, os⟩ := by
  unfold getAttr? getAttrBy?
  repeat (any_goals (first | assumption | with_reducible apply ck_by hC hobj hbe L L1 L2 hx hc | wp_step))
end
end PySem
namespace L2
open PySem PySem.Spec PyProof.Rows
structure ExcI (K : PySem.W.Frag) (C : Addr) : Prop extends ExcCls K C where
  cl : PySem.W.findIn K (.ref C) "__class__" = some (some (.builtin "object.__class__"))
  ga : PySem.W.findIn K (.ref C) "__getattribute__" = some (some (.builtin "BaseException.__getattribute__"))
  gt : PySem.W.findIn K (.ref C) "__getattr__" = some none
theorem ExcCls.look {K : PySem.W.Frag} {C : Addr} (c : ExcCls K C) : ∃ o d cd sl, K.lookup C = some ⟨o, d, .cls cd, sl⟩ := by
  have q := c.ex
  unfold PySem.W.excIn at q
  split at q
  · rename_i dd cd sl ho
    exact ⟨_, _, _, _, ho⟩
  · cases q
theorem kitx_exc {K : PySem.W.Frag} {ea C : Addr} (c : ExcI K C) : PySem.W.KitX K (.ref ea) (.ref C) (excAt ea C) where
  ty := fun M h _ ⟨o, vs, e, hc, _⟩ => hc ▸ (PySem.W.Looks.ld e).andThen .now
  it := fun M h X _ => by
    obtain ⟨o, d, cd, sl, ho⟩ := c.toExcCls.look
    intro A' Q' E' s' k q
    unfold isType loadHead
    exact wpAny_bind (wpAny_loadPart (k _ _ (X _ _ ho)) (wpAny_pure q))
  ne := fun h tp dd its n sl X htp => by
    obtain ⟨o, d, cd, sl', ho⟩ := c.toExcCls.look
    refine Bool.eq_false_iff.mpr fun q => ?_
    have e : C = tp := Value.ref.inj (beq_iff_eq.mp q)
    subst e
    have z := (X _ _ ho).symm.trans htp
    cases z
  ca := fun {prog w A E Q s} X p k => by
    obtain ⟨o, vs, e, hc, _⟩ := p
    obtain ⟨tl, N, nm, q, bs, hdct, sn, sub, ab, col, dd, k0, k1, k2, k3, k5, mN, hC, hN, hni, T⟩ := exc_obj X c.ex
    obtain ⟨hh, g, d, tt, os⟩ := s
    exact ck_attr hC (T.hasType (by decide)) (T.hasType (by decide)) (PySem.W.looks_findIn X c.cl) (PySem.W.looks_findIn X c.ga) (PySem.W.looks_findIn X c.gt) e hc k
inductive TyX (K : PySem.W.Frag) (H : Hp) : V → Value → Prop where
  | of {v : V} {t : Value} : TyOf K H v t → TyX K H v t
  | exc {ea C : Addr} (e : H ea = some (.ext (excAt ea C))) (c : ExcI K C) : TyX K H (.ref ea) (.ref C)
def clsV : V → Option Value
  | .ty n => some (.type n)
  | .ref C => some (.ref C)
  | _ => none
section
variable {X : Cx}
theorem call_isinstG : CallR X (.builtin "isinstance") (fun xs H Q => ∃ x c cv t b, xs = [x, c] ∧ clsV c = some cv ∧ TyX X.K H x t ∧ PySem.W.kitOne X.K t cv = some b ∧ Q (.bl b) H) := by
  intro pins s σ H xs us Q I r h
  obtain ⟨x, c, cv, t, b, rfl, hcv, ty, e, q⟩ := h
  obtain ⟨u, u', rfl, ru, ru'⟩ := vals2 r
  have eu : u' = cv := by
    cases c with
    | ty n => cases hcv; exact ru'
    | ref C => cases hcv; exact ru'
    | _ => cases hcv
  rw [eu]
  cases ty with
  | of ty => exact isinst_ok I ru ty e fun tk => ⟨.bl b, H, I.tok _, rfl, q⟩
  | @exc ea C eH c =>
    cases (show u = Value.ref ea from ru)
    obtain ⟨hp, _, _⟩ := (show ObjOk X.prog X.w H s.heap ea (.ext (excAt ea C)) from I.hok ea _ eH)
    exact PySem.W.kia_one (kitx_exc c) I.kIn hp e (fun z => nomatch z) fun tk => ⟨.bl b, H, I.tok _, rfl, q⟩
end
end L2
set_option Elab.async false
set_option linter.all false
set_option maxRecDepth 100000
set_option maxHeartbeats 4000000
namespace PySem
namespace F
theorem owner_rvd : Manifest.owners.lookup (String.ofList ['d', 'e', 's', 'r', 'e', 'v', 'e', 'r'].reverse) = some Manifest.sig_reversed := by kernel_rfl
theorem slot_rvd_next : Slot "reversed" "__next__" "reversed.__next__" :=
  .of (owner := "reversed") (n := "__next__") (by rw [typeLookup_type, builtinLookup_eq_fast]; kernel_rfl) (by decide +kernel) (by decide +kernel) (by decide +kernel)
    (by first | exact .inl (by decide +kernel) | exact .inr (by decide +kernel)) (by rw [isSubtype_type]; kernel_rfl)
theorem entry_rvd_next : entryFor table "reversed.__next__" = some Builtin.«reversed.__next__» := entryFor_of_tree (by kernel_rfl)
theorem args_rvd_next_1 (a : Value) : argsOk "reversed.__next__" ⟨[a], []⟩ := by
  unfold argsOk; rw [signature?_of (id := "reversed.__next__") (n := ['_', '_', 't', 'x', 'e', 'n', '_', '_']) (o := ['d', 'e', 's', 'r', 'e', 'v', 'e', 'r']) (by kernel_rfl) owner_rvd]; kernel_rfl
theorem slot_rvd_iter : Slot "reversed" "__iter__" "reversed.__iter__" :=
  .of (owner := "reversed") (n := "__iter__") (by rw [typeLookup_type, builtinLookup_eq_fast]; kernel_rfl) (by decide +kernel) (by decide +kernel) (by decide +kernel)
    (by first | exact .inl (by decide +kernel) | exact .inr (by decide +kernel)) (by rw [isSubtype_type]; kernel_rfl)
theorem args_rvd_iter_1 (a : Value) : argsOk "reversed.__iter__" ⟨[a], []⟩ := by
  unfold argsOk; rw [signature?_of (id := "reversed.__iter__") (n := ['_', '_', 'r', 'e', 't', 'i', '_', '_']) (o := ['d', 'e', 's', 'r', 'e', 'v', 'e', 'r']) (by kernel_rfl) owner_rvd]; kernel_rfl
theorem entry_rvd_iter : entryFor table "reversed.__iter__" = some Builtin.«dict_keyiterator.__iter__» :=
  entryFor_alias (id' := "dict_keyiterator.__iter__") (by kernel_rfl) (by first | rfl | decide +kernel | (unfold String.splitOn; simp +decide [String.splitOnAux])) (by decide +kernel) (by kernel_rfl)
theorem tuple_no_reversed : typeLookup (.type "tuple") "__reversed__" = pure none := by rw [typeLookup_type, builtinLookup_eq_fast]; kernel_rfl
theorem tuple_not_dict : isSubtype (.type "tuple") (.type "dict") = pure false := by rw [isSubtype_type]; kernel_rfl
end F
section
variable {prog : Program} {w : World} {A : Around} {E : Value → Shared → Prop} {s : Shared}
def rvdObj (l : Addr) (i : Int) : Obj := { cls := .type "reversed", data := .fields #[.ref l, rawInt i] }
def Heap.IsRvd (h : Heap) (a l : Addr) (i : Int) : Prop := ∃ o, h.get? a = some o ∧ o.cls = .type "reversed" ∧ o.data = .fields #[.ref l, rawInt i]
theorem Heap.IsRvd.typeIs {a l : Addr} {i : Int} (x : s.heap.IsRvd a l i) : s.TypeIs (.ref a) "reversed" := let ⟨o, ho, hc, _⟩ := x; ⟨o, ho, hc⟩
theorem Heap.IsRvd.at {h h' : Heap} {a l : Addr} {i : Int} (x : h.IsRvd a l i) (e : ∀ o, h.get? a = some o → h'.get? a = some o) : h'.IsRvd a l i := let ⟨o, ho, r⟩ := x; ⟨o, e _ ho, r⟩
theorem meets_rvd_new (l : Addr) (items : Array Value) : Meets (Builtin.«reversed.__new__» ⟨[.type "reversed", .ref l], []⟩) (fun _ R s =>
    (PyProof.Rows.IsTup s.heap l items ∧ (items.size : Int) < 2 ^ 63) ∧ ∀ tk, R (.ok (.ret (.ref s.heap.objs.size))) { s with heap := s.heap.push (rvdObj l ((items.size : Int) - 1)), toks := tk }) := by
  refine .of_wp fun prog w A R s h => ?_
  obtain ⟨⟨hl, hfit⟩, h⟩ := h
  obtain ⟨o, ho, hc, n, hd⟩ := id hl
  have hT : s.TypeIs (.ref l) "tuple" := ⟨o, ho, hc⟩
  unfold Builtin.«reversed.__new__»
  refine wpAny_bind (wpAny_of_eq (newClass_reversed _) ?_)
  try dsimp only
  refine wpAny_bind (wpAny_of_eq (a := ()) (by first | rfl | kernel_rfl) ?_)
  refine wpAny_bind (wpAny_of_eq (a := ()) (by first | rfl | kernel_rfl) ?_)
  try dsimp only
  refine wpAny_bind (wpAny_specialOf hT F.tuple_no_reversed ?_)
  try dsimp only
  refine wpAny_bind ?_
  k_delta "hasItemSlot"
  refine wpAny_bind (wpAny_isInstance hT F.tuple_not_dict ?_)
  rw [if_neg Bool.false_ne_true]
  refine wpAny_bind (wpAny_specialOf hT F.slot_tuple_getitem.lookup ?_)
  try dsimp only
  rw [if_pos (by decide +kernel)]
  refine wpAny_pure ?_
  rw [if_neg (by decide)]
  refine wpAny_bind (PyProof.Rows.len_tuple hl hfit ?_)
  refine wpAny_bind (wpAny_of_eq (a := some ((items.size : Nat) : Int)) rfl ?_)
  try dsimp only
  unfold Builtin.SmallTypes.newRecord
  try dsimp only
  refine wpAny_bind (wpAny_newObj_type (wpAny_pure ?_) (by size_fits))
  exact ⟨_, rfl, h _⟩
theorem called_reversed : TypeCalled "reversed" "reversed.__new__" "object.__init__" :=
  ⟨by decide +kernel, F.create_reversed, ⟨_, _, F.mro_reversed⟩, F.made_reversed, F.plain_reversed_new, F.sub_reversed_self,
    .of (owner := "object") (n := "__init__") (by rw [typeLookup_type, builtinLookup_eq_fast]; kernel_rfl) (by decide +kernel) (by decide +kernel) (by decide +kernel) (by first | exact .inl (by decide +kernel) | exact .inr (by decide +kernel)) (by rw [isSubtype_type]; kernel_rfl)⟩
theorem call_rvd {l : Addr} {items : Array Value} {Q : Value → Shared → Prop} (hl : PyProof.Rows.IsTup s.heap l items) (hfit : (items.size : Int) < 2 ^ 63)
    (h : ∀ tk, Q (.ref s.heap.objs.size) { s with heap := s.heap.push (rvdObj l ((items.size : Int) - 1)), toks := tk }) : wpAny (model prog w) A (call (.type "reversed") [.ref l]) Q E s := by
  refine callType_new called_reversed (by decide) (F.typeCall_reversed_1 _) (F.newCall_reversed_1 _) (fun obj => F.args_object_init_2 obj _) F.entry_reversed_new (meets_rvd_new l items) ⟨⟨hl, hfit⟩, fun tk => ?_⟩
  exact ⟨⟨_, Heap.get?_push_size _ rfl, rfl⟩, h tk⟩
theorem wpAny_pyNext_rvd_item {it l : Addr} {i : Nat} {items : Array Value} {x : Value} {Q : Option Value → Shared → Prop} (hit : s.heap.IsRvd it l (i : Int)) (hl : PyProof.Rows.IsTup s.heap l items) (hne : l ≠ it) (hfit : (items.size : Int) < 2 ^ 63) (hx : items[i]? = some x)
    (hQ : ∀ h' tk, h'.IsRvd it l ((i : Int) - 1) → Heap.SameBut it s.heap h' → Q (some x) { s with heap := h', toks := tk }) : wpAny (model prog w) A (pyNext (.ref it)) Q E s := by
  obtain ⟨o, ho, hc, hd⟩ := id hit
  have hT : s.TypeIs (.ref l) "tuple" := by obtain ⟨ol, hol, hcl, nl, hdl⟩ := hl; exact ⟨ol, hol, hcl⟩
  have hi : i < items.size := (Array.getElem?_eq_some_iff.mp hx).1
  unfold pyNext
  refine wpAny_bind (wpAny_attempt (wpAny_callSpecial?_slot (name := Str.ofString "__next__") hit.typeIs F.slot_rvd_next
    (wpAny_call_entry F.slot_rvd_next hit.typeIs F.entry_rvd_next ?_ (F.args_rvd_next_1 _))))
  unfold Builtin.«reversed.__next__»
  refine wpAny_bind (wpAny_of_eq (a := (Value.ref it, [])) rfl ?_)
  try dsimp only
  refine wpAny_bind (wpAny_field ho hd (x := .ref l) rfl ?_)
  refine wpAny_bind (wpAny_field ho hd (x := rawInt (i : Int)) rfl ?_)
  show wpAny _ _ (if (i : Int) < 0 then _ else _) _ _ s
  rw [if_neg (by omega)]
  refine wpAny_bind (wpAny_specialOf hT F.slot_tuple_getitem.lookup ?_)
  try dsimp only
  rw [if_neg (by simp)]
  refine wpAny_bind (wpAny_mkInt ?_)
  refine wpAny_bind (wpAny_attempt (PyProof.Rows.getItem_tuple (j := i) hl (by omega) (by omega) (by simp [seqIndex?, hi]; refine ⟨⟨?_, ?_⟩, ?_⟩ <;> split <;> omega) hx ?_))
  try dsimp only
  refine wpAny_bind (wpAny_field ho hd (x := rawInt (i : Int)) rfl ?_)
  try dsimp only
  refine wpAny_bind (wpAny_setField ho hd (by simp) ?_)
  refine wpAny_pure ⟨x, rfl, wpAny_pure (hQ _ _ ?_ (Heap.SameBut.update ..))⟩
  exact ⟨_, Heap.get?_update_self _ ho (Obj.isFreed_of_fields (Obj.data_mapFields hd _)), (Obj.cls_mapFields ..).trans hc, by
    rw [Obj.data_mapFields hd]; simp⟩
theorem wpAny_pyNext_rvd_end {it l : Addr} {Q : Option Value → Shared → Prop} (hh : A.handled = none) (hit : s.heap.IsRvd it l (-1))
    (hQ : ∀ h', Heap.ExtBut it s.heap h' → Q none { s with heap := h' }) : wpAny (model prog w) A (pyNext (.ref it)) Q E s := by
  obtain ⟨o, ho, hc, hd⟩ := id hit
  unfold pyNext
  refine wpAny_bind (wpAny_attempt (wpAny_callSpecial?_slot (name := Str.ofString "__next__") hit.typeIs F.slot_rvd_next
    (wpAny_call_entry F.slot_rvd_next hit.typeIs F.entry_rvd_next ?_ (F.args_rvd_next_1 _))))
  unfold Builtin.«reversed.__next__»
  refine wpAny_bind (wpAny_of_eq (a := (Value.ref it, [])) rfl ?_)
  try dsimp only
  refine wpAny_bind (wpAny_field ho hd (x := .ref l) rfl ?_)
  refine wpAny_bind (wpAny_field ho hd (x := rawInt (-1)) rfl ?_)
  show wpAny _ _ (if (-1 : Int) < 0 then _ else _) _ _ s
  rw [if_pos (by decide)]
  refine wpAny_bind (wpAny_rule ?_)
  refine wpAny_bind ?_
  k_delta "reversedEnd"
  have e1 := Heap.get?_update_self (Obj.mapFields (·.setIfInBounds 1 (rawInt (-1)))) ho (Obj.isFreed_of_fields (Obj.data_mapFields hd _))
  refine wpAny_bind (wpAny_setField ho hd (by simp) ?_)
  refine wpAny_setField e1 (Obj.data_mapFields hd _) (by simp) ?_
  refine wpAny_bind ?_
  show wpAny _ _ (newExc (.type "StopIteration") [] >>= _) _ _ _
  refine wpAny_bind ?_
  simp only [newExc, newTuple]
  refine wpAny_bind (wpAny_newObj_type ?_ (by size_fits))
  refine wpAny_bind (m := firstArgMember _ _) (wpAny_of_eq (a := Value.none) (by first | rfl | (simp only [firstArgMember]; rfl)) ?_)
  refine wpAny_newObj_type ?_ (by size_fits)
  simp only [raiseNew]
  refine wpAny_bind (wpAny_handled ?_)
  rw [show A.in1.handled = none from hh]
  refine wpAny_bind (wpAny_pure (wpAny_throw ?_))
  refine wpAny_bind (wpAny_isInstance (T := "StopIteration") (b := true) ⟨_, Heap.get?_push_size _ rfl, rfl⟩ isSubtype_stop ?_)
  exact wpAny_pure (hQ _ fun b o hb e => Heap.get?_push_of_some _ (Heap.get?_push_of_some _ ((Heap.get?_update_other _ _ (Ne.symm hb)).trans ((Heap.get?_update_other _ _ (Ne.symm hb)).trans e))))
theorem wpAny_pyIter_rvd {it l : Addr} {i : Int} {Q : Value → Shared → Prop} (hit : s.heap.IsRvd it l i) (h : Q (.ref it) s) : wpAny (model prog w) A (pyIter (.ref it)) Q E s := by
  refine wpAny_pyIter_slot hit.typeIs F.slot_rvd_iter (wpAny_call_entry F.slot_rvd_iter hit.typeIs F.entry_rvd_iter ?_ (F.args_rvd_iter_1 _))
  show wpAny _ _ (ret (.ref it)) _ _ s
  exact wpAny_pure ⟨_, rfl, "reversed", _, hit.typeIs, F.slot_rvd_next.lookup, h⟩
end
end PySem
namespace L2
open PySem PySem.Spec PyProof.Rows
def Itw (K : PySem.W.Frag) (a : Addr) (n : Nat) : It :=
  ⟨fun i H => i < n ∧ ∃ (xs : List V) (x : V), SqT K H a xs ∧ xs[n - 1 - i]? = some x, fun i H x H' => H' = H ∧ ∀ xs, SqT K H a xs → xs[n - 1 - i]? = some x, fun i _ => n ≤ i⟩
theorem turn_rvd {P : Program} {w : World} {K : PySem.W.Frag} {tg : Expr} (a it : Addr) (n : Nat) (hne : a ≠ it) : Turn P w K tg (Itw K a n) [it] it (fun i h => i ≤ n ∧ h.IsRvd it a ((n : Int) - 1 - (i : Nat))) where
  mem := by simp
  obj := fun i h st b hb => by
    have e : b = it := by simpa using hb
    subst e
    obtain ⟨_, o, e, c, d⟩ := st
    exact ⟨o, e, fun v z => by rw [d] at z; cases z⟩
  keep := fun i h h' st k => ⟨st.1, st.2.at fun o e => k it (by simp) o e⟩
  item := by
    intro X hP hw hK hc i pins s σ H E I hf st hg
    subst hP hw hK
    obtain ⟨hin, xs, x, hq, hx⟩ := hg
    obtain ⟨its, rv, p, hz⟩ := I.tuple hq
    obtain ⟨u, hu, ru⟩ := rv.get hx
    obtain ⟨f0, f1, f2, f3, f4, f5⟩ := hf it (by simp)
    obtain ⟨_, hit⟩ := st
    have hl := rv.length
    have hn := line63
    have e1 : (n : Int) - 1 - ((i : Nat) : Int) = ((n - 1 - i : Nat) : Int) := by omega
    rw [e1] at hit
    refine wpAny_pyNext_rvd_item hit p hne (by rw [List.size_toArray, ← hl]; omega) (x := u) (by simpa using hu) fun h' tk st' sb => ?_
    have e2 : ((n - 1 - i : Nat) : Int) - 1 = (n : Int) - 1 - ((i + 1 : Nat) : Int) := by omega
    rw [e2] at st'
    have I1 : Inv X pins σ H { s with heap := h', toks := tk } := I.turned (t' := tk) (fun b o hb e => (sb.2 b hb).trans e) f0 f1 f3 f4 f5
    obtain ⟨o, e, c, d⟩ := id st'
    exact ⟨u, rfl, go_of (s := { s with heap := h', toks := tk }) e c d (by decide) ⟨x, H, I1, ru, ⟨rfl, fun ys hy => by rw [I.tuple_inj hy hq]; exact hx⟩, ⟨hin, st'⟩, fun b hb => (hf b hb).1⟩⟩
  done := by
    intro X hP hw hK hc i pins s σ H E I hf st hg
    subst hP hw hK
    obtain ⟨f0, f1, f2, f3, f4, f5⟩ := hf it (by simp)
    obtain ⟨hin, hit⟩ := st
    have hge : n ≤ i := hg
    have e1 : (n : Int) - 1 - ((i : Nat) : Int) = -1 := by omega
    rw [e1] at hit
    exact wpAny_pyNext_rvd_end (I.ok.hd hc) hit fun h' eb => ⟨rfl, I.turned (t' := s.toks) (fun b o hb e => eb b o hb e) f0 f1 f3 f4 f5⟩
  self := fun A i s Q E st h => wpAny_pyIter_rvd st.2 h
def iRevT (K : PySem.W.Frag) (ta : TA) : TI := fun σ H R => ta σ H fun vs H1 => ∃ (a : Addr) (xs : List V), vs = [.ref a] ∧ SqT K H1 a xs ∧ R (Itw K a xs.length) H1
section
variable {X : Cx} {tg : Expr}
theorem q_pi_revT {e : Expr} {ta : TA} {p pos : Pos} (hg : Gl X "reversed") (hm : X.mg "reversed" = none) (ha : QA X [e] ta) (hs : starEach [e] X.env = [(false, eval e X.env)] := by rfl) : QI X tg (.Call (.Name "reversed" p) [e] [] pos) (iRevT X.K ta) := by
  refine ⟨?_⟩
  intro pins s σ H R I h
  refine Call_ (ld_blt I hg hm boot_reversed5 (PyProof.Rows.callWith_type1 (thn (ha.h pos pins s σ H _ I h) fun us s1 ⟨vs, H1, I1, r1, q1⟩ => ?_) hs rfl))
  obtain ⟨a, xs, e, hq, q⟩ := q1
  subst e
  cases r1 with
  | cons r rr =>
    cases rr
    cases r
    obtain ⟨its, rv, p', hz⟩ := I1.tuple hq
    have hl := rv.length
    have hn := line63
    have e1 : ((its.toArray.size : Nat) : Int) - 1 = (xs.length : Int) - 1 - ((0 : Nat) : Int) := by simp only [List.size_toArray]; omega
    have hne : a ≠ s1.heap.objs.size := by
      obtain ⟨o, ho, _⟩ := id p'
      exact Nat.ne_of_lt (Heap.lt_size ho)
    refine call_rvd p' (by rw [List.size_toArray, ← hl]; omega) fun tk => ?_
    refine wpAny_pyIter_rvd (l := a) (i := ((its.toArray.size : Nat) : Int) - 1) ⟨_, Heap.get?_push_size _ rfl, rfl, rfl⟩ ?_
    refine pi_one (tk := tk) I1 _ (turn_rvd a _ xs.length hne) ⟨Nat.zero_le _, ?_⟩ q
    rw [← e1]
    exact ⟨_, Heap.get?_push_size _ rfl, rfl, rfl⟩
end
end L2
set_option Elab.async false
set_option linter.all false
set_option maxRecDepth 100000
set_option maxHeartbeats 4000000
namespace PySem
namespace F
theorem nolen_lri : typeLookup (.type "list_reverseiterator") "__len__" = pure none := by rw [typeLookup_type, builtinLookup_eq_fast]; kernel_rfl
theorem hint_lri : typeLookup (.type "list_reverseiterator") "__length_hint__" = pure (some (.builtin "list_reverseiterator.__length_hint__")) := by rw [typeLookup_type, builtinLookup_eq_fast]; kernel_rfl
end F
section
variable {prog : Program} {w : World} {A : Around} {E : Value → Shared → Prop} {s : Shared} {I : Addr} {fp wr : List Addr} {G : Array GenState → Array GenState → Prop} {n : Nat} {P : Nat → Value → Prop} {St : Nat → Shared → Prop}
theorem collect_lri {Q : List Value → Shared → Prop}
    (W : WalksS prog w A.in1 I fp wr G n P St) (hT : ∀ i s, St i s → s.TypeIs (.ref I) "list_reverseiterator") (hst : St 0 s) (hfp : ∀ b ∈ fp, b < s.heap.objs.size) (hI : I ∈ fp)
    (hQ : ∀ s' acc, Moved wr G s s' → ItemsOf P acc n → Q acc.toList s') (hn : n ≤ sizeLine := by size_fits) : wpAny (model prog w) A (collect (.ref I)) Q E s := by
  have hSf : s.heap.objs.size ∉ fp := fun hm => Nat.lt_irrefl _ (hfp _ hm)
  have hSI : s.heap.objs.size ≠ I := fun e => hSf (e ▸ hI)
  unfold collect
  refine wpAny_bind (wpAny_runValue (codeAny_builtin F.entry_proto_collect ?_))
  rw [Around.under_plainId F.plain_proto_collect _]
  show wpAny _ A.in1 (newList [] >>= fun l => again (.builtin "list.__iadd__" ⟨[l, .ref I], []⟩)) _ _ s
  refine wpAny_bind (wpAny_newObj_type ?_)
  refine wpAny_pure ⟨plainId_quiet F.plain_list_iadd _, codeAny_builtin F.entry_list_iadd ?_⟩
  rw [Around.under_plainId F.plain_list_iadd _]
  have hst₁ := W.frame 0 s (s.heap.push { cls := .type "list", data := .seq ([] : List Value).toArray }) s.toks hst (Nat.le_refl _) fun b _ o e => Heap.get?_push_of_some _ e
  have hS₁ : (s.heap.push { cls := .type "list", data := .seq ([] : List Value).toArray }).get? s.heap.objs.size = some { cls := .type "list", data := .seq ([] : List Value).toArray } := Heap.get?_push_size _ rfl
  have h1 : Builtin.List.listSameRef (.ref s.heap.objs.size) (.ref I) = false := by simp [Builtin.List.listSameRef, hSI]
  show wpAny _ A.in1 (Builtin.List.listExtendWith (.ref s.heap.objs.size) (.ref I) (.ref s.heap.objs.size)) _ _ _
  unfold Builtin.List.listExtendWith
  refine wpAny_bind (wpAny_typeOf (hT 0 _ hst₁) ?_)
  rw [if_neg (by rw [h1]; decide)]
  refine wpAny_bind (W.self 0 _ _ _ hst₁ ?_)
  refine wpAny_bind (wpAny_holding ?_)
  unfold Builtin.List.listLengthHint
  refine wpAny_bind (wpAny_specialOf (hT 0 _ hst₁) F.nolen_lri ?_)
  show wpAny _ A.in1 (specialOf (Value.ref I) (Str.ofString "__length_hint__") >>= _) _ _ _
  refine wpAny_bind (wpAny_specialOf (hT 0 _ hst₁) F.hint_lri ?_)
  (generalize hid : ("list_reverseiterator.__length_hint__" : String) = id0; (fail_if_success (clear hid id0)); wp_delta; rw [show splitId id0 = some ("list_reverseiterator", "__length_hint__") from by subst hid; decide +kernel]; subst hid)
  refine wpAny_bind (wpAny_isInstance (b := true) (hT 0 _ hst₁) (by rw [isSubtype_type]; kernel_rfl) ?_)
  refine wpAny_pure ?_
  rw [if_neg (by decide)]
  refine wpAny_pure ⟨plainId_quiet F.plain_extend_loop _, codeAny_extend_loopS W hn _ hSf _ n 0 _ _ _ rfl (Nat.zero_le _) hst₁ hS₁ (ItemsOf.nil P) fun s' acc' c' hm hS' hacc => ?_⟩
  show wpAny _ A (load s.heap.objs.size >>= _) _ _ s'
  refine wpAny_bind (wpAny_load hS' ?_)
  exact wpAny_pure (hQ s' acc' (Moved.drop_new (o := { cls := .type "list", data := .seq ([] : List Value).toArray }) (tk := s.toks) hm (Nat.le_refl _)) hacc)
theorem code_tuple_new_lri {Q₁ : Value → Shared → Prop} (W : WalksS prog w A.in1.in1 I fp wr G n P St) (hT : ∀ i s, St i s → s.TypeIs (.ref I) "list_reverseiterator") (hst : St 0 s) (hfp : ∀ b ∈ fp, b < s.heap.objs.size) (hI : I ∈ fp)
    (h : ∀ s' acc, Moved wr G s s' → ItemsOf P acc n → Q₁ (.ref s'.heap.objs.size) { s' with heap := s'.heap.push { cls := .type "tuple", data := .seq acc } }) (hsz : n ≤ sizeLine := by size_fits) :
    codeAny (model prog w) A (.call (.builtin "tuple.__new__") ⟨[.type "tuple", .ref I], []⟩) (wants Q₁ E) s := by
  refine codeAny_of_tree ?_
  show wpAny _ A.in1 (do checkBuiltinCall "tuple.__new__" ⟨[.type "tuple", .ref I], []⟩; again (.builtin "tuple.__new__" ⟨[.type "tuple", .ref I], []⟩)) _ _ s
  refine wpAny_bind (wpAny_of_eq (F.newCall_tuple_1 _) (wpAny_pure ⟨plainId_quiet F.plain_tuple_new _, codeAny_builtin F.entry_tuple_new ?_⟩))
  rw [Around.under_plainId F.plain_tuple_new _]
  have hsub := sub_tuple_self
  have hinit := init_tuple_lookup
  have hmh := madeHere_tuple
  have hTI := hT 0 s hst
  wp_walk using wpAny_typeOf hTI, collect_lri (hn := hsz) W hT hst hfp hI
  intro s' acc hm hacc
  show wpAny _ _ (Builtin.Tuple.tupleExact acc.toList.toArray >>= fun v => ret v) _ _ _
  unfold Builtin.Tuple.tupleExact
  refine wpAny_bind (wpAny_newObj_type ?_ (by show acc.toList.toArray.size ≤ sizeLine; simp only [Array.toArray_toList]; rw [hacc.1]; exact hsz))
  refine wpAny_pure ?_
  have e : acc.toList.toArray = acc := by simp
  rw [e]
  exact h s' acc hm hacc
theorem call_tuple_lri {Q : Value → Shared → Prop} (W : WalksS prog w A.in1.in1.in1 I fp wr G n P St) (hT : ∀ i s, St i s → s.TypeIs (.ref I) "list_reverseiterator") (hst : St 0 s) (hfp : ∀ b ∈ fp, b < s.heap.objs.size) (hI : I ∈ fp)
    (hQ : ∀ s' acc, Moved wr G s s' → ItemsOf P acc n → Q (.ref s'.heap.objs.size) { s' with heap := s'.heap.push { cls := .type "tuple", data := .seq acc } }) (hsz : n ≤ sizeLine := by size_fits) :
    wpAny (model prog w) A (call (.type "tuple") [.ref I]) Q E s := by
  refine callType_codes (Q₁ := fun obj s₁ => s₁.TypeIs obj "tuple" ∧ Q obj s₁) F.called_tuple (F.typeCall_tuple_1 _) F.entry_object_init
    (code_tuple_new_lri (hsz := hsz) W hT hst hfp hI fun s' acc hm hacc => ⟨⟨_, Heap.get?_push_size _ rfl, rfl⟩, hQ s' acc hm hacc⟩) fun obj s₁ h₁ => ?_
  exact ⟨h₁.1, F.args_object_init_2 obj _, object_init_meets F.called_tuple.init.lookup F.called_tuple.made (by decide) prog w A.in1 _ s₁ ⟨h₁.1, rfl, h₁.2⟩⟩
end
end PySem
namespace L2
open PySem PySem.Spec PyProof.Rows
theorem paired_rev {xs : List V} {its : List Value} (r : Vals xs its) {acc : Array Value} (hs : acc.size = its.length) (ha : ∀ (j : Nat) (v : Value), acc[j]? = some v → its[its.length - 1 - j]? = some v) : acc.toList = its.reverse := by
  refine List.ext_getElem? fun j => ?_
  rw [Array.getElem?_toList]
  by_cases hj : j < acc.size
  · obtain ⟨v, hv⟩ : ∃ v, acc[j]? = some v := ⟨_, Array.getElem?_eq_getElem hj⟩
    rw [hv, List.getElem?_reverse (by omega), ha j v hv]
  · rw [Array.getElem?_eq_none (by omega), List.getElem?_eq_none (by rw [List.length_reverse]; omega)]
theorem Vals.rev : ∀ {xs : List V} {its : List Value}, Vals xs its → Vals xs.reverse its.reverse
  | _, _, .nil => .nil
  | _, _, .cons r t => by
    rw [List.reverse_cons, List.reverse_cons]
    exact (Vals.rev t).append (.cons r .nil)
def tTupRev (K : PySem.W.Frag) (ta : TA) : TE := fun σ H Q => ta σ H fun vs H1 => ∃ (a : Addr) (xs : List V), vs = [.ref a] ∧ SqL K H1 a xs ∧ ∀ p, H1 p = none → Q (.ref p) (upd H1 p (.tup xs.reverse))
section
variable {X : Cx}
theorem q_pe_tuprev {e : Expr} {ta : TA} {p p2 pos pos2 : Pos} (hc : X.calm = true) (hg : Gl X "reversed") (hm : X.mg "reversed" = none) (hg2 : Gl X "tuple") (hm2 : X.mg "tuple" = none) (ha : QA X [e] ta)
    (hs : starEach [e] X.env = [(false, eval e X.env)] := by rfl) : QE X (.Call (.Name "tuple" p2) [.Call (.Name "reversed" p) [e] [] pos] [] pos2) (tTupRev X.K ta) := by
  refine ⟨?_⟩
  intro pins s σ H Q I h
  refine wpAny_Call_Name_kw (ld_blt I hg2 hm2 (show bootBuiltins "tuple" = some (.type "tuple") by decide +kernel) ?_)
  refine PyProof.Rows.callWith_type1 ?_ Ck.star_Call rfl
  rw [Ck.star_Call]
  refine Calls.spliced_cons ?_
  refine Call_ (ld_blt I hg hm boot_reversed5 (PyProof.Rows.callWith_type1 (thn (ha.h pos pins s σ H _ I h) fun us s1 ⟨vs, H1, I1, r1, q1⟩ => ?_) hs rfl))
  obtain ⟨a, xs, e, hq, q⟩ := q1
  subst e
  cases r1 with
  | cons r rr =>
    cases rr
    cases r
    obtain ⟨its, rv, p', hz⟩ := I1.list hq
    have hl := rv.length
    have hh := I1.ok.hd hc
    have hlt : a < s1.heap.objs.size := by
      obtain ⟨o, ho, _⟩ := p'.isList
      exact Heap.lt_size ho
    refine call_reversed_list p'.isList (Calls.spliced_nil ?_)
    have W := (Walks.listRev (prog := X.prog) (w := X.w) (A := X.A.in1.in1.in1) hh s1.heap.objs.size a (Nat.ne_of_lt hlt) its.toArray).toS
    refine call_tuple_lri (s := { s1 with heap := s1.heap.push (revObj a ((its.toArray.size : Int) - 1)) }) W (fun i s st => st.2.1.typeIs) ⟨Nat.zero_le _, ⟨_, Heap.get?_push_size _ rfl, rfl, by simp; rfl⟩, p'.isList.push _⟩ (fun b hb => ?_) (by simp) (fun s' acc hm hacc => ?_) (by rw [List.size_toArray, ← hl]; exact hz)
    · show b < (s1.heap.push _).objs.size
      rw [Heap.size_push]
      rcases List.mem_cons.mp hb with rfl | hb
      · exact Nat.lt_succ_self _
      · rw [List.mem_singleton.mp hb]; exact Nat.lt_succ_of_lt hlt
    have kp : ∀ b o, s1.heap.get? b = some o → s'.heap.get? b = some o := fun b o e => hm.heap b o (fun z => absurd (Heap.lt_size e) (by rw [List.mem_singleton.mp z]; exact Nat.lt_irrefl _)) (Heap.get?_push_of_some _ e)
    have eacc : acc.toList = its.reverse := by
      refine paired_rev rv (by rw [hacc.1, List.size_toArray]) fun j v hv => ?_
      have z := hacc.2 j v hv
      simpa using z
    obtain ⟨h2, g2, d2, t2, os2⟩ := s'
    have eg : g2 = s1.gens := hm.gens
    have ed : d2 = s1.drawn := hm.drawn
    have eo : os2 = s1.os := hm.os
    subst eg ed eo
    have fr : H1 h2.objs.size = none := by
      cases q : H1 h2.objs.size with
      | none => rfl
      | some o =>
        obtain ⟨ob, e⟩ := (I1.hok _ _ q).thereO
        exact absurd (Heap.lt_size (kp _ _ e)) (Nat.lt_irrefl _)
    have I2 : Inv X pins σ H1 { s1 with heap := h2, toks := t2 } := I1.kept kp
    have I3 : Inv X pins σ (upd H1 h2.objs.size (.tup xs.reverse)) { s1 with heap := h2.push { cls := .type "tuple", data := .seq acc }, toks := t2 } := by
      refine I2.laid (t' := t2) (fun b o e => Heap.get?_push_of_some _ e) (Nat.le_refl _) ⟨by rw [List.length_reverse]; exact hz, its.reverse, rv.rev, ?_⟩
      refine ⟨_, Heap.get?_push_size _ rfl, rfl, 0, ?_⟩
      show Data.seq acc 0 = Data.seq its.reverse.toArray 0
      rw [← eacc]
    exact ⟨.ref h2.objs.size, _, I3, rfl, q _ fr⟩
end
end L2
set_option Elab.async false
set_option linter.all false
set_option maxRecDepth 100000
set_option maxHeartbeats 4000000
namespace L2
open PySem PySem.Spec PyProof.Rows
theorem compLoop_dct {prog : Program} {w : World} {A : Around} {R : Result → Shared → Prop} {s : Shared} {kx vx target iter : Expr} {ifs : List Expr} {scope : Scope} {pos : Pos} {it : Value} {D : Addr} {env : Env} (I : Nat → Shared → Prop)
    (turn : ∀ n s, I n s → wpAny (model prog w) A (pyNext it) (fun r s₁ => match r with
      | none => R (.ok .next) s₁
      | some v => wpAny (model prog w) A (letOwnedTupleGo target it v) (fun _ s₁' => wpAny (model prog w) A (assign target env v) (fun _ s₂ =>
          wpAny (model prog w) A (forIn ifs true fun c r => if r = true then do let ok ← isTrue c env (eval c env); pure (ForInStep.yield ok) else pure (ForInStep.yield r)) (fun ok s₃ =>
            if ok = true then wpAny (model prog w) A (eval kx env) (fun kv s₄ => wpAny (model prog w) A (eval vx env) (fun vv s₅ =>
              wpAny (model prog w) A (dictSet D kv vv) (fun _ s₆ => ∃ m, m < n ∧ I m s₆) (notedBy (model prog w) A env fun e s' => R (.error e) s') s₅) (notedBy (model prog w) A env fun e s' => R (.error e) s') s₄) (notedBy (model prog w) A env fun e s' => R (.error e) s') s₃
            else ∃ m, m < n ∧ I m s₃) (notedBy (model prog w) A env fun e s' => R (.error e) s') s₂) (notedBy (model prog w) A env fun e s' => R (.error e) s') s₁') (notedBy (model prog w) A env fun e s' => R (.error e) s') s₁) (notedBy (model prog w) A env fun e s' => R (.error e) s') s)
    (n : Nat) (h : I n s) :
    codeAny (model prog w) A (.compLoop (.DictComp kx vx [⟨target, iter, ifs, 0⟩] scope pos) 0 it (.ref D) env) R s := by
  refine codeAny_loop rfl I (fun n s hI => ?_) n h
  show wpAny _ A ((compTurn (.DictComp kx vx [⟨target, iter, ifs, 0⟩] scope pos) 0 it (.ref D) env).onRaise (fun x => do noteFrame x env; theTreesLotGoes x)) _ _ s
  refine wpAny_noted ?_
  rw [compTurn_dict]
  refine wpAny_bind (wpAny_standAt (wpAny_bind (wpAny_mono (turn n s hI) (fun r s₁ h₁ => ?_) fun _ _ h' => h')))
  cases r with
  | none => exact wpAny_pure h₁
  | some v =>
    refine wpAny_bind (wpAny_mono h₁ (fun _ s₁' h₁' => ?_) fun _ _ h' => h')
    refine wpAny_bind (wpAny_mono h₁' (fun _ s₂ h₂ => wpAny_bind (wpAny_mono h₂ (fun ok s₃ h₃ => ?_) fun _ _ h' => h')) fun _ _ h' => h')
    cases ok with
    | false => exact wpAny_pure ⟨rfl, h₃⟩
    | true =>
      exact wpAny_bind (wpAny_bind (wpAny_mono h₃ (fun kv s₄ h₄ => wpAny_bind (wpAny_holding (wpAny_mono h₄ (fun vv s₅ h₅ => wpAny_bind (wpAny_standAt (wpAny_holding (wpAny_mono h₅ (fun _ s₆ h₆ => wpAny_pure ⟨rfl, h₆⟩) fun _ _ h' => h')))) fun _ _ h' => h'))) fun _ _ h' => h'))
section
variable {X : Cx} {pins : List (Addr × Obj)} {σ : St} {H : Hp} {s : Shared}
theorem dset_ok {E : Value → Shared → Prop} {D : Addr} {kvs : List (Key × V)} {k : Key} {v : V} {u r : Value} {Q : Unit → Shared → Prop} (I : Inv X pins σ H s) (hD : H D = some (.dK kvs)) (hz : kvs.length < sizeLine) (ru : RelV (kV k) u) (rv : RelV v r)
    (h : ∀ s', Inv X pins σ (upd H D (.dK (putK kvs k v))) s' → Q () s') : wpAny (model X.prog X.w) X.A (dictSet D u r) Q E s := by
  obtain ⟨z, hd, vs, rel, dd⟩ := dk_of I.hok hD
  have hz' : vs.length ≤ sizeLine := by rw [← rel.length]; exact z
  have hl : (putK kvs k v).length ≤ sizeLine := by have := length_putK kvs k v; omega
  refine wpAny_dictSet_pairs (hsz := hz') (kV_is ru) dd fun h' dd' hs => h _ ?_
  have he : ∃ q, h'.get? D = some q := let ⟨q, _, _, hq, _⟩ := dd'; ⟨q, hq⟩
  exact d_write I (by rw [hD]; exact True.intro) hs he (dk_new hl hd (rel.put k rv) dd')
end
section
variable {X : Cx}
def tDc (wi : TI) (g : TG) (tt : TT) (tk te : TE) (vs : List Nat) : TE := fun σ H Q => wi σ H fun J H1 => ∀ D, H1 D = none → ∃ W : Nat → Nat → Hp → Prop, (∃ m, W 0 m (upd H1 D (.dK []))) ∧ ∀ i m H, W i m H →
  (J.stop i H ∧ Q (.ref D) H) ∨ (J.go i H ∧ ∃ Nx : Hp → Prop, (∀ H', Nx H' → ∃ m', m' < m ∧ W (i + 1) m' H') ∧ ∀ x H', J.yld i H x H' → g x (wipe σ vs) H' fun σ2 H2 => wipe σ2 vs = wipe σ vs ∧ tt σ2 H2 fun b H3 =>
    if b = true then tk σ2 H3 fun yk H4 => te σ2 H4 fun yv H5 => ∃ kvs k, H5 D = some (.dK kvs) ∧ yk = kV k ∧ kvs.length < sizeLine ∧ Nx (upd H5 D (.dK (putK kvs k yv))) else Nx H3)
theorem dc_core {pins : List (Addr × Obj)} {s : Shared} {σ : St} {H : Hp} {Q : VK} {kx vx tg iter : Expr} {ifs : List Expr} {scope : Scope} {own : List (Str × Nat)} {pos pos' : Pos} {wi : TI} {g : TG} {tt : TT} {tk te : TE} {use : Option (Value → Sem Unit)} {Qf : Value → Shared → Prop}
    (hc : X.calm = true) (hN : X.N.Nodup) (I : Inv X pins σ H s) (hi : PI X tg iter wi) (ok : BlkOk X.N X.env.scope scope own)
    (hg : ∀ (s : Shared) (H : Hp) (C : Addr) (cl : List (Str × Addr)) (fp : List Addr), PG (X.blk s H scope (compEnvC scope cl C X.env) fp) tg g) (ht : ∀ (s : Shared) (H : Hp) (C : Addr) (cl : List (Str × Addr)) (fp : List Addr), PTs (X.blk s H scope (compEnvC scope cl C X.env) fp) ifs tt)
    (hk : ∀ (s : Shared) (H : Hp) (C : Addr) (cl : List (Str × Addr)) (fp : List Addr), PE (X.blk s H scope (compEnvC scope cl C X.env) fp) kx tk) (he : ∀ (s : Shared) (H : Hp) (C : Addr) (cl : List (Str × Addr)) (fp : List Addr), PE (X.blk s H scope (compEnvC scope cl C X.env) fp) vx te) (hs : ∀ x, foldedSetIterable iter X.env x = pure x)
    (h : tDc wi g tt tk te (own.map (·.2)) σ H Q)
    (hRR : ∀ D C s' m H', Inv X pins σ H' s' → Q (.ref D) H' → s'.heap.Ns C m → FpOk X pins H' C → compPost (model X.prog X.w) X.A X.xe use Qf (.ref D) C (.ok .next) s') :
    wpAny (model X.prog X.w) X.A (comprehension (.DictComp kx vx [⟨tg, iter, ifs, 0⟩] scope pos) scope X.env pos' newDict false (eval iter X.env) use) Qf X.xe s := by
  have hfree : ∀ y ∈ scope.names, y.2 = .free → ∃ c, X.env.cells.lookup y.1 = some c := fun y hy e => by
    rcases ok.free y hy e with k | k
    · exact I.ok.has _ (.inl k)
    · exact I.ok.has _ (.inr k)
  refine wpAny_comprehension_free (use := use) rfl hs (closure_ok hfree) ok.kind (fun y hy e => by rw [ok.uniq y hy, e])
    (thn (hi pins s σ H _ I h) fun xv s1 hx => thn hx fun itv s2 h2 => ?_)
  obtain ⟨it, fp, tn, J, H2, e, I2, T, st2, f2, q⟩ := h2
  subst e
  refine wpAny_newObj_type (newEnv_comp ?_) (by first | trivial | size_fits | decide)
  generalize hD : s2.heap.objs.size = D
  have hDn : H2 D = none := I2.hok.fresh (Nat.le_of_eq hD)
  obtain ⟨W, ⟨m0, w0⟩, turn⟩ := q D hDn
  generalize hs3 : ({ s2 with heap := s2.heap.push { cls := .type "dict", data := .dict #[] } } : Shared) = s3
  have I3 : Inv X pins σ (upd H2 D (.dK [])) s3 := by
    rw [← hs3]
    refine I2.laid (t' := s2.toks) (fun b o e => Heap.get?_push_of_some _ e) (Nat.le_of_eq hD) ?_
    rw [← hD]
    exact dk_empty s2.heap I2.big
  have h3 : s3.heap = s2.heap.push { cls := .type "dict", data := .dict #[] } := by rw [← hs3]
  have sz : ∀ b ∈ fp, b < s2.heap.objs.size := fun b hb => by
    obtain ⟨o, e, _⟩ := T.obj _ _ st2 b hb
    exact Heap.lt_size e
  have f3 : ∀ b ∈ fp, FpOk X pins (upd H2 D (.dK [])) b ∧ b < s3.heap.objs.size := fun b hb => by
    have hlt := sz b hb
    refine ⟨⟨?_, (f2 b hb).2⟩, by rw [h3, Heap.size_push]; exact Nat.lt_succ_of_lt hlt⟩
    rw [upd_ne (by rw [← hD]; exact Nat.ne_of_lt hlt)]
    exact (f2 b hb).1
  have st3 : tn 0 s3.heap := T.keep _ _ _ st2 fun b _ o e => by rw [h3]; exact Heap.get?_push_of_some _ e
  have I4 := block_start I3 ok hN f3
  have pg := hg s3 (upd H2 D (.dK [])) s3.heap.objs.size (cellsFrom (s3.heap.objs.size + 1) scope.names (cloFrom X.env.cells scope.names [])) fp
  have pt := ht s3 (upd H2 D (.dK [])) s3.heap.objs.size (cellsFrom (s3.heap.objs.size + 1) scope.names (cloFrom X.env.cells scope.names [])) fp
  have pk := hk s3 (upd H2 D (.dK [])) s3.heap.objs.size (cellsFrom (s3.heap.objs.size + 1) scope.names (cloFrom X.env.cells scope.names [])) fp
  have pe := he s3 (upd H2 D (.dK [])) s3.heap.objs.size (cellsFrom (s3.heap.objs.size + 1) scope.names (cloFrom X.env.cells scope.names [])) fp
  show codeAny _ _ (.compStart (.DictComp kx vx [⟨tg, iter, ifs, 0⟩] scope pos) 0 (.ref it) (.ref D) (compEnvC scope (cellsFrom (s3.heap.objs.size + 1) scope.names (cloFrom X.env.cells scope.names [])) s3.heap.objs.size X.env)) (compPost (model X.prog X.w) X.A X.xe use Qf (.ref D) s3.heap.objs.size) { s3 with heap := pushCells (s3.heap.push { cls := .type "dict", data := .dict #[] }) scope.names }
  have nfp : ∀ b ∈ fp, (upd H2 D (.dK [])) b = none := fun b hb => (f3 b hb).1.1
  generalize hce : compEnvC scope (cellsFrom (s3.heap.objs.size + 1) scope.names (cloFrom X.env.cells scope.names [])) s3.heap.objs.size X.env = ce at I4 pg pt pk pe ⊢
  have cL : ce.locals = s3.heap.objs.size := by subst hce; rfl
  generalize hH3 : upd H2 D (.dK []) = H3 at I3 I4 pg pt pk pe w0 nfp f3
  generalize hs4 : ({ s3 with heap := pushCells (s3.heap.push { cls := .type "dict", data := .dict #[] }) scope.names } : Shared) = s4 at I4 ⊢
  have st4 : tn 0 s4.heap := T.keep _ _ _ st3 fun b _ o e => by rw [← hs4]; exact pushCells_keeps _ _ _ _ (Heap.get?_push_of_some _ e)
  have stat : ∀ {σ' : St} {H' : Hp} {s' : Shared}, Inv (X.blk s3 H3 scope ce fp) [] σ' H' s' → (∀ b ∈ fp, H' b = none) → ∀ b ∈ fp, FpOk (X.blk s3 H3 scope ce fp) [] H' b := fun {σ' H' s'} I' hn b hb =>
    ⟨hn b hb, (I'.ok.exf b hb).1, I'.ok.exfs b hb, .inl hb, fun x c e => (I'.ok.exf b hb).2 x c e, fun p hp => absurd (show p ∈ ([] : List (Addr × Obj)) ++ [] from hp) (by simp)⟩
  have loop : codeAny (model X.prog X.w) X.A (.compLoop (.DictComp kx vx [⟨tg, iter, ifs, 0⟩] scope pos) 0 (.ref it) (.ref D) ce) (compPost (model X.prog X.w) X.A X.xe use Qf (.ref D) s3.heap.objs.size) s4 := by
    refine compLoop_dct (fun n s' => ∃ i H', Inv (X.blk s3 H3 scope ce fp) [] (wipe σ (own.map (·.2))) H' s' ∧ tn i s'.heap ∧ (∀ b ∈ fp, H' b = none) ∧ W i n H') ?_ m0 ⟨0, H3, I4, st4, nfp, w0⟩
    rintro n s5 ⟨i, H5, I5, st5, n5, w5⟩
    rcases turn i n H5 w5 with ⟨stop, qq⟩ | ⟨go, Nx, hNx, step⟩
    · have td := T.done (X.blk s3 H3 scope ce fp) rfl rfl rfl hc i [] s5 _ H5 (fun _ _ => False) I5 (stat I5 n5) st5 stop
      refine thnF td fun r s6 ⟨hr, I6⟩ => ?_
      subst hr
      have I7 : Inv X pins σ H5 s6 := I3.call' (ch := fp) I6.os I6.base I6.hok I6.bare fun b hb => ⟨(f3 b hb).1.2.2.2.1, (f3 b hb).1.2.1, (f3 b hb).1.2.2.2.2.1, (f3 b hb).1.2.2.2.2.2⟩
      have nC : H5 s3.heap.objs.size = none := by
        have z : H5 ce.locals = none := I6.free
        rw [cL] at z
        exact z
      obtain ⟨m, hn, _⟩ := I6.loc
      have hn : s6.heap.Ns ce.locals m := hn
      rw [cL] at hn
      exact hRR D s3.heap.objs.size s6 m H5 I7 qq hn (I3.fpOk (Nat.le_refl _) nC)
    · have ti := T.item (X.blk s3 H3 scope ce fp) rfl rfl rfl hc i [] s5 _ H5 (fun _ _ => False) I5 (stat I5 n5) st5 go
      refine thnF ti fun r s6 ⟨u, hr, h6⟩ => ?_
      subst hr
      refine thnF h6 fun _ s7 ⟨x, H7, I7, r7, y7, st7, n7⟩ => ?_
      have I7' := I7.pinned (stat I7 n7) (T.obj _ _ st7)
      refine thnF (pg _ s7 _ H7 x u _ I7' r7 (step x H7 y7)) fun _ s8 ⟨σ8, H8, I8, hw8, q8⟩ => ?_
      refine thnF (pt _ s8 σ8 H8 _ I8 q8) fun b s9 ⟨H9, I9, q9⟩ => ?_
      have fin : ∀ {s' : Shared} {H' : Hp}, Inv (X.blk s3 H3 scope ce fp) ([] ++ pinsAt fp s7.heap) σ8 H' s' → Nx H' → ∃ m, m < n ∧ ∃ i H', Inv (X.blk s3 H3 scope ce fp) [] (wipe σ (own.map (·.2))) H' s' ∧ tn i s'.heap ∧ (∀ b ∈ fp, H' b = none) ∧ W i m H' := fun {s' H'} I' nx => by
        obtain ⟨m', hm, w'⟩ := hNx H' nx
        have pin' : ∀ b ∈ fp, ∀ o, s7.heap.get? b = some o → s'.heap.get? b = some o ∧ H' b = none := fun b hb o e =>
          let z := I'.pin (b, o) (List.mem_append_right _ (List.mem_append_right _ (mem_pinsAt hb e)))
          ⟨z.1, z.2.1⟩
        have hl : (wipe σ (own.map (·.2))).length = σ8.length := by rw [← hw8, wipe_length]
        refine ⟨m', hm, i + 1, H', (I'.unpinned (pins := [])).weak hl (fun j v e => ?_), T.keep _ _ _ st7 fun b hb o e => (pin' b hb o e).1, fun b hb => ?_, w'⟩
        · rw [← hw8] at e
          exact (wipe_some e).1
        · obtain ⟨o, e, _⟩ := T.obj _ _ st7 b hb
          exact (pin' b hb o e).2
      cases b with
      | false =>
        simp only [Bool.false_eq_true, if_false] at q9 ⊢
        exact fin I9 q9
      | true =>
        simp only [if_true] at q9 ⊢
        refine thnF (pk _ s9 σ8 H9 _ I9 q9) fun z s10 ⟨yk, H10, I10, r10, q10⟩ => ?_
        refine thnF (pe _ s10 σ8 H10 _ I10 q10) fun y s11 ⟨yv, H11, I11, r11, kvs, k, hD11, ek, hz11, nx⟩ => ?_
        exact dset_ok (X := X.blk s3 H3 scope ce fp) I11 hD11 hz11 (by rw [← ek]; exact r10) r11 fun s12 I12 => fin I12 nx
  exact codeAny_compStart_dict loop (T.self X.A 0 _ _ _ st4 loop)
theorem q_pe_dc {kx vx tg iter : Expr} {ifs : List Expr} {scope : Scope} {own : List (Str × Nat)} {pos : Pos} {wi : TI} {g : TG} {tt : TT} {tk te : TE} (hc : X.calm = true) (hN : X.N.Nodup) (hi : QI X tg iter wi) (ok : BlkOk X.N X.env.scope scope own)
    (hg : ∀ (s : Shared) (H : Hp) (C : Addr) (cl : List (Str × Addr)) (fp : List Addr), QG (X.blk s H scope (compEnvC scope cl C X.env) fp) tg g) (ht : ∀ (s : Shared) (H : Hp) (C : Addr) (cl : List (Str × Addr)) (fp : List Addr), QTs (X.blk s H scope (compEnvC scope cl C X.env) fp) ifs tt)
    (hk : ∀ (s : Shared) (H : Hp) (C : Addr) (cl : List (Str × Addr)) (fp : List Addr), QE (X.blk s H scope (compEnvC scope cl C X.env) fp) kx tk) (he : ∀ (s : Shared) (H : Hp) (C : Addr) (cl : List (Str × Addr)) (fp : List Addr), QE (X.blk s H scope (compEnvC scope cl C X.env) fp) vx te) (hs : ∀ x, foldedSetIterable iter X.env x = pure x := by intro _; rfl) :
    QE X (.DictComp kx vx [⟨tg, iter, ifs, 0⟩] scope pos) (tDc wi g tt tk te (own.map (·.2))) := by
  refine ⟨?_⟩
  intro pins s σ H Q I h
  rw [arm_eval_DictComp]
  refine dc_core hc hN I hi.h ok (fun _ _ _ _ _ => (hg _ _ _ _ _).h) (fun _ _ _ _ _ => (ht _ _ _ _ _).h) (fun _ _ _ _ _ => (hk _ _ _ _ _).h) (fun _ _ _ _ _ => (he _ _ _ _ _).h) hs h fun D C s' m H' I' q hn f => ⟨m, hn, fun h'' sb => ?_⟩
  obtain ⟨f0, f1, f2, f3, f4, f5⟩ := f
  exact ⟨.ref D, H', I'.turned (t' := s'.toks) (fun b o hb e => (sb.2 b hb).trans e) f0 f1 f3 f4 f5, rfl, q⟩
end
end L2
set_option Elab.async false
set_option linter.all false
set_option maxRecDepth 100000
set_option maxHeartbeats 4000000
namespace PySem
section
variable {prog : Program} {w : World} {A : Around} {E : Value → Shared → Prop} {s : Shared}
theorem nextOf_tup_item {it t : Addr} {i : Nat} {items : Array Value} {x : Value} {Q : Value → Shared → Prop} (hit : s.heap.IsTupleIter it t i) (ht : s.heap.IsTuple t items) (hx : items[i]? = some x)
    (hQ : ∀ h', h'.IsTupleIter it t (i + 1) → Heap.SameBut it s.heap h' → Q x { s with heap := h' }) : wpAny (model prog w) A (Builtin.SmallTypes.nextOf (.ref it)) Q E s := by
  obtain ⟨o, ho, hc, hd⟩ := id hit
  obtain ⟨ol, hol, _, nl, hdl⟩ := ht
  unfold Builtin.SmallTypes.nextOf
  refine wpAny_bind (wpAny_callSpecial?_slot (name := Str.ofString "__next__") hit.typeIs F.slot_tuple_iterator_next
    (wpAny_call_entry F.slot_tuple_iterator_next hit.typeIs F.entry_tuple_iterator_next ?_ (F.args_tuple_iterator_next_1 _)))
  show wpAny _ _ (field (.ref it) 0 >>= _) _ _ s
  refine wpAny_bind (wpAny_field ho hd (x := .ref t) rfl ?_)
  show wpAny _ _ (if (Value.ref t == Value.none) = true then _ else _) _ _ s
  rw [if_neg (show ¬ ((Value.ref t == Value.none) = true) from Bool.false_ne_true)]
  show wpAny _ _ (field (.ref it) 1 >>= _) _ _ s
  refine wpAny_bind (wpAny_field ho hd (x := .int i 0) rfl ?_)
  show wpAny _ _ (seqItems? (.ref t) >>= _) _ _ s
  refine wpAny_bind (wpAny_seqItems hol hdl ?_)
  simp only [Int.toNat_natCast, hx]
  refine wpAny_bind (wpAny_setField ho hd (by simp) (wpAny_pure ⟨x, rfl, wpAny_pure (hQ _ ?_ (Heap.SameBut.update ..))⟩))
  exact ⟨_, Heap.get?_update_self _ ho (Obj.isFreed_of_fields (Obj.data_mapFields hd _)), (Obj.cls_mapFields ..).trans hc, by
    rw [Obj.data_mapFields hd]; simp [rawInt]⟩
theorem nextOf_tup_end {it t : Addr} {i : Nat} {items : Array Value} {Q : Value → Shared → Prop} (hh : A.handled = none) (hit : s.heap.IsTupleIter it t i) (ht : s.heap.IsTuple t items) (hx : items[i]? = none)
    (hE : ∀ h' e, Heap.ExtBut it s.heap h' → (∃ o, h'.get? e = some o ∧ o.cls = .type "StopIteration") → E (.ref e) { s with heap := h' }) : wpAny (model prog w) A (Builtin.SmallTypes.nextOf (.ref it)) Q E s := by
  obtain ⟨o, ho, hc, hd⟩ := id hit
  obtain ⟨ol, hol, _, nl, hdl⟩ := ht
  unfold Builtin.SmallTypes.nextOf
  refine wpAny_bind (wpAny_callSpecial?_slot (name := Str.ofString "__next__") hit.typeIs F.slot_tuple_iterator_next
    (wpAny_call_entry F.slot_tuple_iterator_next hit.typeIs F.entry_tuple_iterator_next ?_ (F.args_tuple_iterator_next_1 _)))
  show wpAny _ _ (field (.ref it) 0 >>= _) _ _ s
  refine wpAny_bind (wpAny_field ho hd (x := .ref t) rfl ?_)
  show wpAny _ _ (if (Value.ref t == Value.none) = true then _ else _) _ _ s
  rw [if_neg (show ¬ ((Value.ref t == Value.none) = true) from Bool.false_ne_true)]
  show wpAny _ _ (field (.ref it) 1 >>= _) _ _ s
  refine wpAny_bind (wpAny_field ho hd (x := .int i 0) rfl ?_)
  show wpAny _ _ (seqItems? (.ref t) >>= _) _ _ s
  refine wpAny_bind (wpAny_seqItems hol hdl ?_)
  simp only [Int.toNat_natCast, hx]
  refine wpAny_bind (wpAny_rule (wpAny_bind (wpAny_setField ho hd (by simp) ?_)))
  show wpAny _ _ (newExc (.type "StopIteration") [] >>= _) _ _ _
  refine wpAny_bind ?_
  simp only [newExc, newTuple]
  refine wpAny_bind (wpAny_newObj_type ?_ (by size_fits))
  refine wpAny_bind (m := firstArgMember _ _) (wpAny_of_eq (a := Value.none) (by first | rfl | (simp only [firstArgMember]; rfl)) ?_)
  refine wpAny_newObj_type ?_ (by size_fits)
  simp only [raiseNew]
  refine wpAny_bind (wpAny_handled ?_)
  first | rw [show A.in1.handled = none from hh] | rw [hh]
  refine wpAny_bind (wpAny_pure (wpAny_throw ?_))
  refine hE _ _ (fun b ob hb e => Heap.get?_push_of_some _ (Heap.get?_push_of_some _ ((Heap.get?_update_other _ _ (Ne.symm hb)).trans e))) ⟨_, Heap.get?_push_size _ rfl, rfl⟩
theorem Draws.tup {A : Around} (hh : A.handled = none) (it l : Addr) (hne : l ≠ it) (items : Array Value) :
    Draws prog w A it [it, l] items.size (fun i v => items[i]? = some v) (fun i h => h.IsTupleIter it l i ∧ h.IsTuple l items) where
  live := fun _ _ st => let ⟨o, ho, _⟩ := st.1; ⟨o, ho⟩
  frame := fun _ _ _ st hk => ⟨st.1.at fun o e => hk it (by simp) o e, let ⟨o, ho, r⟩ := st.2; ⟨o, hk l (by simp) o ho, r⟩⟩
  item := fun i s Q E hi st hQ => by
    refine nextOf_tup_item st.1 st.2 (x := items[i]) (by simp [hi]) fun h' hit' hs' => ?_
    exact hQ _ h' s.toks (by simp [hi]) ⟨hit', let ⟨o, ho, r⟩ := st.2; ⟨o, (hs'.2 l hne).trans ho, r⟩⟩ hs'
  done := fun s Q E st hE => nextOf_tup_end hh st.1 st.2 (by simp) hE
theorem meets_enum_newT (l : Addr) (items : Array Value) (n : Nat) (dct : Option Addr) (sl : Array (Option Value)) :
    Meets (Builtin.«enumerate.__new__» ⟨[.type "enumerate", .ref l], []⟩) (fun _ R s => s.heap.get? l = some { cls := .type "tuple", dict := dct, data := .seq items n, slots := sl } ∧
      R (.ok (.ret (.ref (s.heap.push { cls := .type "tuple_iterator", data := .fields #[.ref l, .int 0 0] }).objs.size)))
        { s with heap := (s.heap.push { cls := .type "tuple_iterator", data := .fields #[.ref l, .int 0 0] }).push { cls := .type "enumerate", data := .fields #[.none, .bool false, .ref s.heap.objs.size, rawInt 0, .none, .none] } }) :=
  .of_wp fun prog w A R s h => by
    obtain ⟨hp, g, d, tk, os⟩ := s; obtain ⟨hl, h⟩ := h
    have hsub := sub_enumerate
    have hL : Heap.IsTuple (Shared.heap ⟨hp, g, d, tk, os⟩) l items := ⟨_, hl, rfl, n, rfl⟩
    wp_walk using AutoSeq1.wpAny_loadPart' hl
    refine wpAny_stack_any fun st => wpAny_pure ?_
    split
    · rename_i c _ _ _ _ _
      cases (c == Value.type "enumerate")
      · wp_walk using AutoSeq1.wpAny_loadPart' hl, wpAny_pyIter_tuple hL
        exact ⟨_, rfl, h⟩
      · wp_walk using AutoSeq1.wpAny_loadPart' hl, wpAny_pyIter_tuple hL
        exact ⟨_, rfl, h⟩
    · wp_walk using AutoSeq1.wpAny_loadPart' hl, wpAny_pyIter_tuple hL
      exact ⟨_, rfl, h⟩
theorem call_enum_tup {l : Addr} {items : Array Value} {Q : Value → Shared → Prop} (hL : s.heap.IsTuple l items)
    (h : ∀ h', IsEnum h' (s.heap.objs.size + 1) s.heap.objs.size 0 .none → h'.IsTupleIter s.heap.objs.size l 0 → h'.objs.size = s.heap.objs.size + 2 →
      (∀ b o, s.heap.get? b = some o → h'.get? b = some o) → Q (.ref (s.heap.objs.size + 1)) { s with heap := h' }) :
    wpAny (model prog w) A (call (.type "enumerate") [.ref l]) Q E s := by
  obtain ⟨⟨c, dct, dt, sl⟩, hl, hc, n, hd⟩ := hL
  replace hc : c = .type "tuple" := hc
  replace hd : dt = .seq items n := hd
  subst hc hd
  refine callType_new F.called_enumerate (by decide) (F.typeCall_enumerate_1 _) (F.newCall_enumerate_1 _) (fun obj => F.args_object_init_2 obj _) F.entry_enumerate_new
    (meets_enum_newT l items n dct sl) ⟨hl, ?_⟩
  have hz : (s.heap.push { cls := .type "tuple_iterator", data := .fields #[.ref l, .int 0 0] }).objs.size = s.heap.objs.size + 1 := Heap.size_push ..
  show _ ∧ _
  rw [hz]
  have he : IsEnum ((s.heap.push { cls := .type "tuple_iterator", data := .fields #[.ref l, .int 0 0] }).push
      { cls := .type "enumerate", data := .fields #[.none, .bool false, .ref s.heap.objs.size, rawInt 0, .none, .none] }) (s.heap.objs.size + 1) s.heap.objs.size 0 .none := by
    have := Heap.get?_push_size (s.heap.push { cls := .type "tuple_iterator", data := .fields #[.ref l, .int 0 0] })
      (o := { cls := .type "enumerate", data := .fields #[.none, .bool false, .ref s.heap.objs.size, rawInt 0, .none, .none] }) rfl
    rw [hz] at this
    exact this
  refine ⟨⟨_, he, rfl⟩, h _ he ⟨_, Heap.get?_push_of_some _ (Heap.get?_push_size _ rfl), rfl, rfl⟩ (by rw [Heap.size_push, hz]) fun b o e => Heap.get?_push_of_some _ (Heap.get?_push_of_some _ e)⟩
end
end PySem
namespace L2
open PySem PySem.Spec PyProof.Rows
def IteT (K : PySem.W.Frag) (a : Addr) : It :=
  ⟨fun i H => ∃ (xs : List V) (x : V), SqT K H a xs ∧ xs[i]? = some x, fun i H v H' => ∃ T x, v = .ref T ∧ H T = none ∧ H' = upd H T (.tup [.int (i : Nat), x]) ∧ ∀ xs, SqT K H a xs → xs[i]? = some x, fun i H => ∃ xs : List V, SqT K H a xs ∧ xs.length = i⟩
theorem turn_enumT {P : Program} {w : World} {K : PySem.W.Frag} {elts : List Expr} {kk : Nat} {tpos : Pos} (a e it : Addr) (hae : a ≠ e) (hai : a ≠ it) :
    Turn P w K (.Tuple elts kk tpos) (IteT K a) [e, it] e (fun i h => (∃ old, IsEnum h e it ((i : Nat) : Int) old) ∧ h.IsTupleIter it a i ∧ e ≠ it) where
  mem := by simp
  obj := fun i h st b hb => by
    obtain ⟨⟨old, he⟩, ⟨o, ho, hc, hd⟩, _⟩ := st
    have e' : b = e ∨ b = it := by simpa using hb
    rcases e' with z | z
    · rw [z]; exact ⟨_, he, fun v q => nomatch q⟩
    · rw [z]; exact ⟨o, ho, fun v q => by rw [hd] at q; cases q⟩
  keep := fun i h h' st k => let ⟨⟨old, he⟩, hi, hne⟩ := st; ⟨⟨old, k e (by simp) _ he⟩, hi.at fun o q => k it (by simp) o q, hne⟩
  item := by
    intro X hP hw hK hc i pins s σ H E I hf st hg
    subst hP hw hK
    obtain ⟨⟨old, he⟩, hit, hne⟩ := st
    obtain ⟨xs, x, hq, hx⟩ := hg
    obtain ⟨its, rv, p, hz⟩ := I.tuple hq
    obtain ⟨u, hu, ru⟩ := rv.get hx
    have hel : e < s.heap.objs.size := Heap.lt_size he
    have hil : it < s.heap.objs.size := by obtain ⟨_, q, _⟩ := hit; exact Heap.lt_size q
    have hh := I.ok.hd hc
    have hlt : i < its.toArray.size := by rw [List.size_toArray]; exact (List.getElem?_eq_some_iff.mp hu).1
    refine wpAny_pyNext_enum_itemD (Draws.tup (prog := X.prog) (w := X.w) (A := X.A.in1) hh it a hai its.toArray) he ⟨hit, p⟩ hlt hne (by simp [hne, Ne.symm hae]) fun y h' tk hy ho hit' hT hsz hk => ?_
    have ey : y = u := by
      have z : its[i]? = some y := by simpa using hy
      rw [hu] at z
      exact (Option.some.inj z).symm
    subst ey
    refine ⟨_, rfl, wpAny_letOwnedTupleGo_enum (s := { s with heap := h', toks := tk + 1 }) ho fun h'' he' sb => ?_⟩
    have hT2 : h''.get? s.heap.objs.size = some { cls := .type "tuple", data := .seq #[.int i tk, y] } := (sb.2 _ (Nat.ne_of_gt hel)).trans hT
    have new : ObjOk X.prog X.w (upd H s.heap.objs.size (.tup [.int (i : Nat), x])) h'' s.heap.objs.size (.tup [.int (i : Nat), x]) :=
      ⟨by show 2 ≤ sizeLine; decide, [.int i tk, y], .cons ⟨_, rfl⟩ (.cons ru .nil), ⟨_, hT2, rfl, _, rfl⟩⟩
    have I1 : Inv X pins σ (upd H s.heap.objs.size (.tup [.int (i : Nat), x])) { s with heap := h'', toks := tk + 1 } :=
      I.turnedNew (ch := [e, it]) (fun b ob hb q => (sb.2 b (fun z => hb (by simp [z]))).trans (hk b ob (fun z => hb (by simp [z])) (fun z => hb (by simp [z])) q)) hf (Nat.le_refl _) new
    refine ⟨.ref s.heap.objs.size, _, I1, rfl, ⟨_, x, rfl, I.hok.fresh (Nat.le_refl _), rfl, fun ys hy => by rw [I.tuple_inj hy hq]; exact hx⟩, ⟨⟨y, ?_⟩, hit'.1.at fun o q => (sb.2 it (Ne.symm hne)).trans q, hne⟩, fun b hb => ?_⟩
    · have e1 : ((i + 1 : Nat) : Int) = (i : Int) + 1 := by omega
      rw [e1]; exact he'
    · have hb' : b < s.heap.objs.size := by
        have e' : b = e ∨ b = it := by simpa using hb
        rcases e' with z | z
        · rw [z]; exact hel
        · rw [z]; exact hil
      rw [upd_ne (Nat.ne_of_lt hb')]
      exact (hf b hb).1
  done := by
    intro X hP hw hK hc i pins s σ H E I hf st hg
    subst hP hw hK
    obtain ⟨⟨old, he⟩, hit, hne⟩ := st
    obtain ⟨xs, hq, hx⟩ := hg
    obtain ⟨its, rv, p, hz⟩ := I.tuple hq
    obtain ⟨f0, f1, f2, f3, f4, f5⟩ := hf it (by simp)
    have hl := rv.length
    have ei : i = its.toArray.size := by rw [List.size_toArray]; omega
    subst ei
    exact wpAny_pyNext_enum_endD (Draws.tup (prog := X.prog) (w := X.w) (A := X.A.in1) (I.ok.hd hc) it a hai its.toArray) he ⟨hit, p⟩ fun h' eb => ⟨rfl, I.turned (t' := s.toks) (fun b o hb q => eb b o hb q) f0 f1 f3 f4 f5⟩
  self := fun A i s Q E st h => let ⟨⟨_, he⟩, _⟩ := st; wpAny_pyIter_enum he h
def iEnumT (K : PySem.W.Frag) (ta : TA) : TI := fun σ H R => ta σ H fun vs H1 => ∃ a xs, vs = [.ref a] ∧ SqT K H1 a xs ∧ R (IteT K a) H1
theorem q_pi_enumT {X : Cx} {e : Expr} {ta : TA} {p pos tpos : Pos} {elts : List Expr} {kk : Nat} (hg : Gl X "enumerate") (hm : X.mg "enumerate" = none) (ha : QA X [e] ta) (hs : starEach [e] X.env = [(false, eval e X.env)] := by rfl) :
    QI X (.Tuple elts kk tpos) (.Call (.Name "enumerate" p) [e] [] pos) (iEnumT X.K ta) := by
  refine ⟨?_⟩
  intro pins s σ H R I h
  refine Call_ (ld_blt I hg hm boot_enumerate (PyProof.Rows.callWith_type1 (thn (ha.h pos pins s σ H _ I h) fun us s1 ⟨vs, H1, I1, r1, q1⟩ => ?_) hs rfl))
  obtain ⟨a, xs, ex, hq, q⟩ := q1
  subst ex
  cases r1 with
  | cons r rr =>
    cases rr
    cases r
    obtain ⟨its, rv, p', hz⟩ := I1.tuple hq
    have hal : a < s1.heap.objs.size := by obtain ⟨o, ho, _⟩ := id p'; exact Heap.lt_size ho
    refine call_enum_tup p' fun h' he hit hsz hk => wpAny_pyIter_enum he ?_
    have I2 : Inv X pins σ H1 { s1 with heap := h' } := I1.kept (t' := s1.toks) hk
    refine ⟨s1.heap.objs.size + 1, [s1.heap.objs.size + 1, s1.heap.objs.size], _, _, H1, rfl, I2, turn_enumT a (s1.heap.objs.size + 1) s1.heap.objs.size (Nat.ne_of_lt (Nat.lt_succ_of_lt hal)) (Nat.ne_of_lt hal), ⟨⟨.none, he⟩, hit, Nat.succ_ne_self _⟩, fun b hb => ?_, q⟩
    have e' : b = s1.heap.objs.size + 1 ∨ b = s1.heap.objs.size := by simpa using hb
    have hle : s1.heap.objs.size ≤ b := by
      rcases e' with z | z
      · rw [z]; exact Nat.le_add_right _ _
      · rw [z]; exact Nat.le_refl _
    exact I1.fpOk hle (I1.hok.fresh hle)
end L2
set_option Elab.async false
set_option linter.all false
set_option maxRecDepth 100000
set_option maxHeartbeats 4000000
namespace PySem
open PyProof.Rows (SetOf_congr setObjOf_fresh)
def Cnt (ss : List Str) (i m : Nat) : Prop := m ≤ i ∧ (m = i ↔ (ss.take i).Nodup)
theorem Cnt.zero (ss : List Str) : Cnt ss 0 0 := ⟨Nat.le_refl _, by simp⟩
theorem take_nodup {ss : List Str} {i : Nat} {x : Str} (hx : ss[i]? = some x) : (ss.take (i + 1)).Nodup ↔ (ss.take i).Nodup ∧ x ∉ ss.take i := by
  rw [List.take_succ, hx]
  show (ss.take i ++ [x]).Nodup ↔ _
  rw [List.nodup_append]
  constructor
  · intro h
    exact ⟨h.1, fun m => h.2.2 x m x (by simp) rfl⟩
  · intro h
    refine ⟨h.1, by simp, fun a ha b hb e => ?_⟩
    have : b = x := by simpa using hb
    exact h.2 (by rw [← this, ← e]; exact ha)
theorem Cnt.next {ss : List Str} {i m : Nat} {x : Str} (h : Cnt ss i m) (hx : ss[i]? = some x) : Cnt ss (i + 1) (if decide (x ∈ ss.take i) = true then m else m + 1) := by
  obtain ⟨h1, h2⟩ := h
  refine ⟨by split <;> omega, ?_⟩
  rw [take_nodup hx]
  by_cases hm : x ∈ ss.take i
  · rw [if_pos (by simpa using hm)]
    constructor
    · intro e; omega
    · intro z; exact absurd hm z.2
  · rw [if_neg (by simpa using hm)]
    constructor
    · intro e; exact ⟨h2.mp (by omega), hm⟩
    · intro z; rw [h2.mpr z.1]
section
variable {prog : Program} {w : World} {A : Around} {R : Result → Shared → Prop} {I : Addr} {fp wr : List Addr} {G : Array GenState → Array GenState → Prop} {n : Nat} {P : Nat → Value → Prop} {St : Nat → Shared → Prop}
theorem set_turns (W : WalksS prog w A.in1 I fp wr G n P St) (S : Addr) (hSf : S ∉ fp) (ss : List Str) (hval : ∀ i v, P i v → ∃ x t, ss[i]? = some x ∧ v = .str x t) (hb : n + 1 < scanBound) :
    ∀ (k i m : Nat) (s : Shared), n - i = k → i ≤ n → St i s → s.heap.SetOf (strKind prog w) S (fun x => decide (x ∈ ss.take i)) m → Cnt ss i m →
      (∀ s' m', Moved (S :: wr) G s s' → s'.heap.SetOf (strKind prog w) S (fun x => decide (x ∈ ss.take n)) m' → Cnt ss n m' → R (.ok (.ret .none)) s') →
      codeAny (model prog w) A (.builtin "set.update.loop" ⟨[.ref S, .ref I], []⟩) R s := by
  have hSw : S ∉ wr := fun h => hSf (W.sub _ h)
  have hsub : ∀ b ∈ wr, b ∈ S :: wr := fun b hb => List.mem_cons_of_mem _ hb
  intro k
  induction k with
  | zero =>
    intro i m s hk hi hst hS hc hR
    have hin : i = n := by omega
    subst hin
    refine codeAny_builtin PyProof.Rows.F.entry_set_update_loop ?_
    rw [Around.under_plainId PyProof.Rows.F.plain_set_update_loop _]
    show wpAny _ A.in1 (pyNext (.ref I) >>= _) _ _ s
    refine wpAny_bind (W.done s _ _ hst fun s' hm => ?_)
    show wpAny _ A.in1 (ret Value.none) _ _ s'
    refine wpAny_pure (hR s' m (hm.mono hsub) ?_ hc)
    obtain ⟨o, es, ep, t, ho, rest⟩ := hS
    exact ⟨o, es, ep, t, hm.heap S _ hSw ho, rest⟩
  | succ k ih =>
    intro i m s hk hi hst hS hc hR
    have hlt : i < n := by omega
    refine codeAny_builtin PyProof.Rows.F.entry_set_update_loop ?_
    rw [Around.under_plainId PyProof.Rows.F.plain_set_update_loop _]
    show wpAny _ A.in1 (pyNext (.ref I) >>= _) _ _ s
    refine wpAny_bind (W.item i s _ _ hlt hst fun v s' hP hst' hm => ?_)
    obtain ⟨x, t, hx, rfl⟩ := hval i v hP
    have hS' : s'.heap.SetOf (strKind prog w) S (fun x => decide (x ∈ ss.take i)) m := by
      obtain ⟨o, es, ep, tb, ho, rest⟩ := hS
      exact ⟨o, es, ep, tb, hm.heap S _ hSw ho, rest⟩
    show wpAny _ A.in1 (holding [Value.str x t] (setAdd S (.str x t)) >>= _) _ _ s'
    refine wpAny_bind (wpAny_holding ?_)
    unfold setAdd
    refine wpAny_holding ?_
    refine wpAny_bind ((strKind prog w).pyHash (k := x) (strKind_is _ _ _ _) ?_)
    have hroom : m + 1 < scanBound := by have := hc.1; omega
    refine wpAny_setAddHashed_of (knd := strKind prog w) (s := { s' with toks := s'.toks + 1 }) (strKind_is _ _ _ _) rfl hS' hroom fun h' hsb hS2 => ?_
    have hSi : h'.SetOf (strKind prog w) S (fun y => decide (y ∈ ss.take (i + 1))) (if decide (x ∈ ss.take i) = true then m else m + 1) := by
      refine SetOf_congr hS2 (fun y => ?_) rfl
      have e : (y ∈ ss.take (i + 1)) ↔ (y ∈ ss.take i ∨ y = x) := by
        rw [List.take_succ, hx, List.mem_append]
        show _ ∨ y ∈ [x] ↔ _
        rw [List.mem_singleton]
      rw [decide_eq_decide.mpr e, Bool.decide_or]
    refine wpAny_pure ⟨plainId_quiet PyProof.Rows.F.plain_set_update_loop _, ih (i + 1) _ _ (by omega) hlt (W.frame _ s' _ _ hst' (Nat.le_succ _) fun b hb o e => ?_) hSi (hc.next hx) fun s'' m'' hm'' hS'' hc'' => ?_⟩
    · rw [hsb.2 b (fun h : b = S => hSf (by rw [← h]; exact hb))]; exact e
    · refine hR s'' m'' (Moved.trans W.gtrans ((hm.mono hsub).then_heap (Nat.le_succ _) fun b o hb e => ?_) hm'') hS'' hc''
      rw [hsb.2 b (fun h : b = S => hb (by rw [h]; exact List.mem_cons_self))]; exact e
end
section
variable {prog : Program} {w : World} {A : Around} {E : Value → Shared → Prop} {s : Shared}
def SetMade (prog : Program) (w : World) (s : Shared) (ss : List Str) (h' : Heap) : Prop :=
  ∃ m, h'.SetOf (strKind prog w) s.heap.objs.size (fun x => decide (x ∈ ss)) m ∧ Cnt ss ss.length m ∧ ∀ b o, b < s.heap.objs.size → s.heap.get? b = some o → h'.get? b = some o
theorem call_set_strs {l : Addr} {items : Array Value} {ss : List Str} {Q : Value → Shared → Prop} (hh : A.handled = none) (hl : s.heap.IsList l items) (hsz : items.size = ss.length) (hi : ∀ (i : Nat) (v : Value), items[i]? = some v → ∃ x t, ss[i]? = some x ∧ v = .str x t) (hb : ss.length + 1 < scanBound)
    (h : ∀ (h' : Heap) (tk : Nat), SetMade prog w s ss h' → Q (.ref s.heap.objs.size) { s with heap := h', toks := tk }) : wpAny (model prog w) A (call (.type "set") [.ref l]) Q E s := by
  obtain ⟨c, tl, hmro⟩ := F.called_set.mro
  have hmade := F.called_set.made
  have hsub := F.called_set.sub
  refine wpAny_call (codeAny_of_tree ?_)
  show wpAny _ _ (callAny (.type "set") _) _ _ _
  refine wpAny_pure ⟨Code.quiet_builtin _ (by decide +kernel), codeAny_builtin F.entry_type_call ?_⟩
  rw [Around.under_plain (weight_type_call_type "set" [.ref l] []) rfl]
  have h1 := F.called_set.notType
  have h2 := F.called_set.canCreate
  have hct := F.typeCall_set_1 (.ref l)
  repeat (any_goals (first | assumption | wp_step))
  refine codeAny_mono (code_set_new_1 (.ref l) (E := E) (Q₁ := fun obj s₁ => ∃ led : Bool, obj = .ref s.heap.objs.size ∧ s₁ = { s with heap := s.heap.push { cls := .type "set", dict := none, data := .set #[] 0 (.fresh 0 0 led) } }) fun led => ⟨led, rfl, rfl⟩) fun r s₁ hr => ?_
  cases r with
  | error e => exact hr
  | ok fl =>
    cases fl with
    | ret obj =>
      obtain ⟨led, rfl, rfl⟩ := hr
      generalize hob : ({ cls := .type "set", dict := none, data := .set #[] 0 (.fresh 0 0 led) } : Obj) = so
      have hS : (s.heap.push so).get? s.heap.objs.size = some so := Heap.get?_push_size _ (by rw [← hob]; rfl)
      have hT : Shared.TypeIs { s with heap := s.heap.push so } (.ref s.heap.objs.size) "set" := ⟨_, hS, by rw [← hob]⟩
      have hli := F.called_set.init.lookup
      have hbi := F.called_set.init.bind (.ref s.heap.objs.size)
      repeat (any_goals (first | assumption | wp_step))
      refine codeAny_mono (codeAny_call_builtin (R := wants (fun r s₂ => r = .none ∧ ∃ h' tk, s₂ = { s with heap := h', toks := tk } ∧ SetMade prog w s ss h') E) F.called_set.init.plain F.entry_set_init (check_set_init_1 hT ?_)) fun r₂ s₂ hr₂ => ?_
      · subst hob
        obtain ⟨ol, hol, hcl, nl, hdl⟩ := hl
        obtain ⟨ocls, odict, odata, oslots⟩ := ol
        simp only at hcl hdl
        subst hcl; subst hdl
        have hol' : (s.heap.push { cls := .type "set", dict := none, data := .set #[] 0 (.fresh 0 0 led) }).get? l = some { cls := .type "list", dict := odict, data := .seq items nl, slots := oslots } := Heap.get?_push_of_some _ hol
        have hsls := F.sub_list_set
        have hslf := F.sub_list_frozenset
        have hne : (Value.type "list" == Value.type "dict") = false := by decide
        have hl1 : (s.heap.push { cls := .type "set", dict := none, data := .set #[] 0 (.fresh 0 0 led) }).IsList l items := ⟨_, hol', rfl, nl, rfl⟩
        unfold Builtin.«set.__init__» noKeywords Builtin.Frozenset.updateFrom
        generalize hPI : pyIter = PI
        wp_walk
        subst hPI
        refine wpAny_pyIter_list (s := { s with heap := s.heap.push { cls := .type "set", dict := none, data := .set #[] 0 (.fresh 0 0 led) } }) hl1 ?_
        refine wpAny_bind (wpAny_runValue ?_)
        have hlS : l < s.heap.objs.size := Heap.lt_size hol
        have hh3 : A.in1.in1.in1.handled = none := by simp [hh]
        have hz : (s.heap.push { cls := .type "set", dict := none, data := .set #[] 0 (.fresh 0 0 led) }).objs.size = s.heap.objs.size + 1 := Heap.size_push ..
        have hneI : l ≠ (s.heap.push { cls := .type "set", dict := none, data := .set #[] 0 (.fresh 0 0 led) }).objs.size := by rw [hz]; exact Nat.ne_of_lt (Nat.lt_succ_of_lt hlS)
        have hSf : s.heap.objs.size ∉ [(s.heap.push { cls := .type "set", dict := none, data := .set #[] 0 (.fresh 0 0 led) }).objs.size, l] := by
          rw [hz]; simp only [List.mem_cons, List.mem_singleton, List.not_mem_nil, or_false, not_or]
          exact ⟨Nat.ne_of_lt (Nat.lt_succ_self _), Nat.ne_of_gt hlS⟩
        refine set_turns ((Walks.list hh3 _ l hneI items).toS) s.heap.objs.size hSf ss hi (by rw [hsz]; exact hb) (items.size - 0) 0 0 _ (by omega) (Nat.zero_le _)
          ⟨⟨_, Heap.get?_push_size _ rfl, rfl, rfl⟩, (hl1.push _)⟩ ?hS0 (Cnt.zero ss) ?hR
        case hS0 =>
          have hget := Heap.get?_push_of_some { cls := .type "list_iterator", data := .fields #[.ref l, .int 0 0] } hS
          have z := setObjOf_fresh (knd := strKind prog w) led
          exact SetOf_congr (z.setOf hget (by unfold scanBound; omega)) (fun _ => by simp) rfl
        case hR =>
          intro s' m' hm hS' hc'
          obtain ⟨h', g', d', tk', os'⟩ := s'
          have eg : g' = s.gens := hm.gens
          have ed : d' = s.drawn := hm.drawn
          have eo : os' = s.os := hm.os
          subst eg; subst ed; subst eo
          refine wpAny_pure ?_
          show wpAny _ _ (ret Value.none) _ _ _
          rw [hsz] at hS' hc'
          rw [List.take_length] at hS'
          refine wpAny_pure ⟨rfl, h', tk', rfl, m', hS', hc', fun b o hb e => ?_⟩
          refine hm.heap b o ?_ (Heap.get?_push_of_some _ (Heap.get?_push_of_some _ e))
          rw [hz]
          simp only [List.mem_cons, List.mem_singleton, List.not_mem_nil, or_false, not_or]
          exact ⟨Nat.ne_of_lt hb, Nat.ne_of_lt (Nat.lt_succ_of_lt hb)⟩
      · cases r₂ with
        | error e => exact hr₂
        | ok fl₂ =>
          cases fl₂ with
          | ret r =>
            obtain ⟨rfl, h', tk, rfl, hM⟩ := hr₂
            repeat (any_goals (first | assumption | wp_step))
            exact h _ _ hM
          | _ => exact hr₂.elim
    | _ => exact hr.elim
end
end PySem
namespace L2
open PySem PySem.Spec PyProof.Rows
theorem strs_at : ∀ {ss : List Str} {us : List Value}, Vals (ss.map V.str) us → ∀ (i : Nat) (v : Value), us[i]? = some v → ∃ x t, ss[i]? = some x ∧ v = .str x t
  | [], _, .nil, i, v, h => by simp at h
  | x :: r, _, .cons rx rr, 0, v, h => by
    obtain ⟨t, e⟩ := (show ∃ t, _ = Value.str x t from rx)
    simp at h
    exact ⟨x, t, rfl, by rw [← h, e]⟩
  | x :: r, _, .cons rx rr, i + 1, v, h => by
    obtain ⟨y, t, e1, e2⟩ := strs_at rr i v (by simpa using h)
    exact ⟨y, t, by simpa using e1, e2⟩
def tLenSet (K : PySem.W.Frag) (ta : TA) : TE := fun σ H Q => ta σ H fun vs H1 => ∃ (a : Addr) (ss : List Str), vs = [.ref a] ∧ SqL K H1 a (ss.map V.str) ∧ ss.length < 1000 ∧ ∀ m : Nat, Cnt ss ss.length m → Q (.int m) H1
theorem q_pe_lenset {X : Cx} {e : Expr} {ta : TA} {p p2 pos pos2 : Pos} (hc : X.calm = true) (hg : Gl X "set") (hm : X.mg "set" = none) (hg2 : Gl X "len") (hm2 : X.mg "len" = none) (ha : QA X [e] ta)
    (hs : starEach [e] X.env = [(false, eval e X.env)] := by rfl) : QE X (.Call (.Name "len" p2) [.Call (.Name "set" p) [e] [] pos] [] pos2) (tLenSet X.K ta) := by
  refine ⟨?_⟩
  intro pins s σ H Q I h
  refine wpAny_Call_Name_kw (ld_blt I hg2 hm2 PySem.boot_len ?_)
  refine PyProof.Rows.callWith_builtin1 ?_ Ck.star_Call rfl
  rw [Ck.star_Call]
  refine Calls.spliced_cons ?_
  refine Call_ (ld_blt I hg hm (show bootBuiltins "set" = some (.type "set") by decide +kernel) (PyProof.Rows.callWith_type1 (thn (ha.h pos pins s σ H _ I h) fun us s1 ⟨vs, H1, I1, r1, q1⟩ => ?_) hs rfl))
  obtain ⟨a, ss, e, hq, hb, q⟩ := q1
  subst e
  cases r1 with
  | cons r rr =>
    cases rr
    cases r
    obtain ⟨its, rv, p', hz⟩ := I1.list hq
    have hl := rv.length
    rw [List.length_map] at hl
    refine call_set_strs (I1.ok.hd hc) p'.isList (ss := ss) (by rw [List.size_toArray]; exact hl.symm) (fun i v hv => strs_at rv i v (by simpa using hv)) (by unfold scanBound; omega) fun h' tk ⟨m, hS, hcn, kp⟩ => Calls.spliced_nil ?_
    have I2 : Inv X pins σ H1 { s1 with heap := h', toks := tk } := I1.kept (t' := tk) fun b o e => kp b o (Heap.lt_size e) e
    obtain ⟨o, es, ep, t, ho, hex, hd, hel, hmem, hbd, hff, hn⟩ := hS
    have big : ((es.size : Nat) : Int) < 2 ^ 63 := by
      have z : (4096 : Int) < 2 ^ 63 := by decide
      unfold scanBound at hbd
      omega
    refine call_len_set (s := { s1 with heap := h', toks := tk }) ho hex hd hff big ?_
    refine ⟨.int m, H1, (I2.tok _), ⟨_, by rw [← hn]⟩, q m hcn⟩
end L2
set_option Elab.async false
set_option linter.all false
set_option maxRecDepth 100000
set_option maxHeartbeats 4000000
namespace L2
open PySem PySem.Spec PyProof.Rows
theorem Vals.pick {xs : List V} {its : List Value} (r : Vals xs its) : ∀ js : List Nat, Vals (js.filterMap (xs[·]?)) (js.filterMap (its[·]?))
  | [] => .nil
  | j :: js => by
    have ih := Vals.pick r js
    rw [List.filterMap_cons, List.filterMap_cons]
    have hl := r.length
    cases e : its[j]? with
    | none =>
      have e' : xs[j]? = none := by
        rw [List.getElem?_eq_none_iff] at e ⊢; omega
      rw [e']; exact ih
    | some v =>
      have hj : j < xs.length := by
        have := (List.getElem?_eq_some_iff.mp e).1; omega
      rw [List.getElem?_eq_getElem hj]
      obtain ⟨u, eu, ru⟩ := r.get (List.getElem?_eq_getElem hj)
      rw [e] at eu
      cases eu
      exact .cons ru ih
def pickV (xs : List V) (lo hi st : Option Int) : List V := (sliceRange (sliceBounds lo hi st xs.length).1 (sliceBounds lo hi st xs.length).2.1 (sliceBounds lo hi st xs.length).2.2).filterMap (xs[·]?)
section
variable {X : Cx}
theorem call_divmodL : CallR X (.builtin "divmod") (fun xs H Q => ∃ i j, xs = [.int i, .int j] ∧ (0 < j ∧ j.natAbs.log2 < 9000) ∧ ∀ p, H p = none → Q (.ref p) (upd H p (.tup [.int (i / j), .int (i % j)]))) := by
  intro pins s σ H xs us Q I r h
  obtain ⟨i, j, rfl, ⟨h1, h2⟩, q⟩ := h
  obtain ⟨u, w', rfl, ⟨t, rfl⟩, ⟨t', rfl⟩⟩ := vals2 r
  refine divmod_int (by omega) ?_ (.inl (PyProof.noPylong_of_log2 h2))
  rw [Int.fdiv_eq_ediv_of_nonneg i (by omega), Int.fmod_eq_emod_of_nonneg i (by omega)]
  have hn : H s.heap.objs.size = none := I.hok.fresh (Nat.le_refl _)
  refine ⟨.ref s.heap.objs.size, _, ?_, rfl, q _ hn⟩
  refine I.laid (fun b o e => Heap.get?_push_of_some _ e) (Nat.le_refl _) ⟨by simp only [List.length_cons, List.length_nil]; rw [sizeLine_eq]; decide, [.int (i / j) s.toks, .int (i % j) (s.toks + 1)], .cons ⟨_, rfl⟩ (.cons ⟨_, rfl⟩ .nil), ?_⟩
  exact ⟨_, Heap.get?_push_size s.heap rfl, rfl, 0, rfl⟩
def tSl3 (K : PySem.W.Frag) (te : TE) (tl th ts : TO) : TE := fun σ H Q => te σ H fun x H1 => tl σ H1 fun l H2 => th σ H2 fun u H3 => ts σ H3 fun st H4 => ∃ a xs, x = .ref a ∧ SqL K H4 a xs ∧ st ≠ some 0 ∧ (pickV xs l u st).length ≤ xs.length ∧
  ∀ p, H4 p = none → Q (.ref p) (upd H4 p (.lst (pickV xs l u st)))
variable {e : Expr} {te : TE} {lo hi : Option Expr} {ste : Expr} {tl th ts : TO} {pos p2 : Pos}
theorem q_pe_sl3 (he : QE X e te) (hl : QO X lo tl) (hu : QO X hi th) (hst : QO X (some ste) ts) (ht : ∀ v w, ∃ ops, subscripted (.Slice lo hi (some ste) p2) false v w = operate ops (getItem v w) := by intro _ _; exact ⟨_, by with_unfolding_all rfl⟩) : QE X (.Subscript e (.Slice lo hi (some ste) p2) pos) (tSl3 X.K te tl th ts) := by
  refine ⟨?_⟩
  intro pins s σ H Q I h
  refine Subscript_ (thn (he.h pins s σ H _ I h) fun v s1 ⟨x, H1, I1, r1, q1⟩ => ?_)
  refine wpAny_Slice (thn (hl.h pins s1 σ H1 _ I1 q1) fun vl s2 ⟨l, H2, I2, pl, q2⟩ => thn (hu.h pins s2 σ H2 _ I2 q2) fun vu s3 ⟨u, H3, I3, pu, q3⟩ => thn (hst.h pins s3 σ H3 _ I3 q3) fun vs s4 ⟨st, H4, I4, ps, a, xs, ex, hx, h0, hle, q4⟩ => ?_)
  have I5 : Inv X pins σ H4 { s4 with heap := s4.heap.push { cls := .type "slice", data := .fields #[vl, vu, vs] } } := I4.kept (t' := s4.toks) fun b ob q => Heap.get?_push_of_some _ q
  subst ex
  cases r1
  obtain ⟨its, r, hL, hz⟩ := I5.list hx
  have hlen := r.length
  obtain ⟨ops, hops⟩ := ht (.ref a) (.ref s4.heap.objs.size)
  refine tail_any (ops := ops) hL.isList.typeIs slot_list_getitem.lookup ?_ hops
  refine wpAny_getItem_list_slice hL.isList (Heap.IsSliceOf.new ..) pl pu ps h0 ?_ (by rw [List.size_toArray] <;> omega)
  have e : slicePick its.toArray l u st = ((sliceRange (sliceBounds l u st xs.length).1 (sliceBounds l u st xs.length).2.1 (sliceBounds l u st xs.length).2.2).filterMap (its[·]?)).toArray := by
    unfold slicePick
    rw [List.size_toArray, ← hlen]
    simp only [List.getElem?_toArray]
  rw [e]
  refine ⟨.ref _, _, I5.laid (t' := s4.toks) (o := .lst (pickV xs l u st)) (fun b ob q => Heap.get?_push_of_some _ q) (Nat.le_refl _) ?_, rfl, q4 _ (I5.hok.fresh (Nat.le_refl _))⟩
  exact ⟨Nat.le_trans hle hz, _, 0, r.pick _, Heap.get?_push_size _ rfl⟩
end
section
variable {X : Cx} {K : PySem.W.Frag}
theorem op_in_seqK (e : X.K = K) : OpR X (compareOp .In) (rIn K false) := e ▸ op_in_seq
theorem op_notIn_seqK (e : X.K = K) : OpR X (compareOp .NotIn) (rIn K true) := e ▸ op_notIn_seq
theorem ix_listK (e : X.K = K) : IxR X (rIxL K) := e ▸ ix_list
theorem q_pg_tupK {pos : Pos} {es : List Expr} {k : Nat} {t : TGs} (n : Nat) (e : X.K = K) (hc : X.calm = true) (h : QGs X es t) (hn : (assignEach es X.env).length = n := by rfl) (hst : (assignEach es X.env).findIdx? (·.1) = none := by rfl) : QG X (.Tuple es k pos) (gTup K n t) := by subst e; exact q_pg_tup hc h hn hst
end
end L2
set_option Elab.async false
set_option linter.all false
set_option maxRecDepth 100000
set_option maxHeartbeats 4000000
namespace Ck
open PySem L2
abbrev letters : Str := "abcdefghijklmnopqrstuvwxyz"
def madeOf (x y : Str) : Bool := decide (0 < x.length) && x.cps.toList.all fun c => decide (c ∈ y.cps.toList)
def nameOk (x : Str) : Bool := madeOf x letters && decide (x.length ≤ 8)
theorem tl_app (x y : Str) : (x ++ y).cps.toList = x.cps.toList ++ y.cps.toList := by
  show (x.cps ++ y.cps).toList = _
  simp
theorem str_ext {x y : Str} (h : x.cps.toList = y.cps.toList) : x = y := by
  cases x with
  | mk a => cases y with
    | mk b =>
      have e : a = b := Array.ext' h
      rw [e]
theorem nameOk_iff {x : Str} : nameOk x = true ↔ 0 < x.length ∧ x.length ≤ 8 ∧ ∀ c ∈ x.cps.toList, c ∈ letters.cps.toList := by
  unfold nameOk madeOf
  rw [Bool.and_eq_true, Bool.and_eq_true, decide_eq_true_eq, decide_eq_true_eq, List.all_eq_true]
  constructor
  · rintro ⟨⟨a, b⟩, c⟩
    exact ⟨a, c, fun z hz => of_decide_eq_true (b z hz)⟩
  · rintro ⟨a, c, b⟩
    exact ⟨⟨a, fun z hz => decide_eq_true (b z hz)⟩, c⟩
theorem letters_lt : ∀ c ∈ letters.cps.toList, c < 1114112 := by
  have all : letters.cps.toList.all (fun c => decide (c < 1114112)) = true := by decide +kernel
  exact fun c hc => of_decide_eq_true (List.all_eq_true.mp all c hc)
theorem nameOk.okt {x : Str} (h : nameOk x = true) : Okt x := fun c hc => letters_lt c ((nameOk_iff.mp h).2.2 c hc)
theorem inV_strs (x : Str) (ws : List Str) : inV (.str x) (ws.map V.str) = decide (x ∈ ws) := by
  unfold inV
  induction ws with
  | nil => rfl
  | cons y r ih =>
    rw [List.map_cons, List.any_cons, ih, Bool.eq_iff_iff]
    have e : eqV (V.str y) (V.str x) = (y == x) := rfl
    rw [e, Bool.or_eq_true, beq_iff_eq, decide_eq_true_eq, decide_eq_true_eq, List.mem_cons]
    constructor
    · rintro (rfl | z)
      · exact .inl rfl
      · exact .inr z
    · rintro (rfl | z)
      · exact .inl rfl
      · exact .inr z
theorem flat_strs (ws : List Str) : (ws.map V.str).all flatV = true := by
  rw [List.all_map, List.all_eq_true]
  intro x _
  rfl
theorem pigeon {α : Type} [DecidableEq α] : ∀ (l f : List α), l.Nodup → (∀ x ∈ l, x ∈ f) → l.length ≤ f.length
  | [], _, _, _ => Nat.zero_le _
  | x :: l, f, hn, h => by
    have hx := h x List.mem_cons_self
    rw [List.nodup_cons] at hn
    have ih := pigeon l (f.erase x) hn.2 fun y hy => by
      have ne : y ≠ x := fun e => hn.1 (e ▸ hy)
      exact (List.mem_erase_of_ne ne).mpr (h y (List.mem_cons_of_mem _ hy))
    rw [List.length_erase_of_mem hx] at ih
    have := List.length_pos_of_mem hx
    rw [List.length_cons]
    omega
theorem letters_nodup : letters.cps.toList.Nodup := by decide +kernel
theorem letters_len : letters.cps.toList.length = 26 := by decide +kernel
theorem free_sign (y : Str) (ws : List Str) (h : ws.length < 26) : (letters.cps.toList.filter fun c => !decide (y ++ sgn c ∈ ws)) ≠ [] := by
  intro e
  have hall : ∀ c ∈ letters.cps.toList, y ++ sgn c ∈ ws := fun c hc => by
    have z := List.filter_eq_nil_iff.mp e c hc
    simpa using z
  have hn : (letters.cps.toList.map fun c => y ++ sgn c).Nodup := by
    refine List.Pairwise.map _ ?_ letters_nodup
    intro a b ne e
    have e2 := congrArg (fun z : Str => z.cps.toList) e
    simp only [tl_app] at e2
    have e3 := List.append_cancel_left e2
    exact ne (by simpa using e3)
  have := pigeon _ ws hn fun x hx => by
    obtain ⟨c, hc, rfl⟩ := List.mem_map.mp hx
    exact hall c hc
  rw [List.length_map, letters_len] at this
  omega
theorem nameOk_cut {x : Str} {c : Nat} (h : nameOk x = true) (hc : c ∈ letters.cps.toList) : nameOk (cutS x none (some 7) ++ sgn c) = true := by
  obtain ⟨h0, h1, h2⟩ := nameOk_iff.mp h
  have hl : (cutS x none (some 7)).length ≤ 7 := by
    have e : (cutS x none (some 7)).length = (cutS x none (some 7)).cps.toList.length := str_len _
    rw [e]
    unfold cutS
    rw [List.length_take]
    have : HT.sIx x.length x.length (some 7) ≤ 7 := by
      unfold HT.sIx; dsimp only; split <;> omega
    first | omega | (show min (HT.sIx x.length x.length (some 7) - HT.sIx x.length 0 none) _ ≤ 7; omega)
  refine nameOk_iff.mpr ⟨by rw [len_app]; show 0 < _ + 1; omega, by rw [len_app]; show _ + 1 ≤ 8; omega, fun b hb => ?_⟩
  rw [tl_app] at hb
  rcases List.mem_append.mp hb with z | z
  · unfold cutS at z
    exact h2 b (List.mem_of_mem_drop (List.mem_of_mem_take z))
  · rw [show b = c by simpa using z]; exact hc
end Ck
set_option Elab.async false
set_option linter.all false
set_option maxRecDepth 100000
set_option maxHeartbeats 4000000
namespace Ck
open PySem L2
abbrev Un1 := Str × Int
structure UsAt (H : Hp) (rs : List Addr) (us : List Un1) : Prop where
  len : rs.length = us.length
  at_ : ∀ (i : Nat) (r : Addr), rs[i]? = some r → ∃ u, us[i]? = some u ∧ H r = some (.tup [.str u.1, .int u.2])
def Tups (H H' : Hp) : Prop := ∀ b xs, H b = some (.tup xs) → H' b = some (.tup xs)
theorem Tups.refl (H : Hp) : Tups H H := fun _ _ h => h
theorem Tups.trans {H H1 H2 : Hp} (a : Tups H H1) (b : Tups H1 H2) : Tups H H2 := fun c xs h => b c xs (a c xs h)
theorem Tups.same {H H' : Hp} (s : Same H H') : Tups H H' := fun b xs h => s b _ h
theorem Keep.tups {d : Addr} {H H' : Hp} {xs : List V} (k : Keep d H H') (hd : H d = some (.lst xs)) : Tups H H' := fun b ys h => k b _ h fun e => by rw [e, hd] at h; cases h
theorem DrawAt.tups {K : PySem.W.Frag} {H H' : Hp} {d a : Addr} {ns : List Int} (D : DrawAt K H d a ns) (k : Keep d H H') : Tups H H' := by
  obtain ⟨z, _, h⟩ := D.ex
  exact k.tups h
theorem Tups.upd {H : Hp} {p : Addr} {xs : List V} {o : HO} (h : H p = some (.lst xs)) : Tups H (upd H p o) := fun b ys e => by
  rw [upd_ne (fun z => by rw [z, h] at e; cases e)]
  exact e
theorem UsAt.mono {H H' : Hp} {rs : List Addr} {us : List Un1} (u : UsAt H rs us) (t : Tups H H') : UsAt H' rs us :=
  ⟨u.len, fun i r h => let ⟨x, hx, e⟩ := u.at_ i r h; ⟨x, hx, t _ _ e⟩⟩
theorem UsAt.nil (H : Hp) : UsAt H [] [] := ⟨rfl, fun i r h => by simp at h⟩
theorem UsAt.snoc {H : Hp} {rs : List Addr} {us : List Un1} {r : Addr} {n : Str} {m : Int} (u : UsAt H rs us) (h : H r = some (.tup [.str n, .int m])) : UsAt H (rs ++ [r]) (us ++ [(n, m)]) := by
  refine ⟨by rw [List.length_append, List.length_append, u.len]; rfl, fun i q hq => ?_⟩
  rw [List.getElem?_append] at hq ⊢
  by_cases hi : i < rs.length
  · rw [if_pos hi] at hq
    rw [if_pos (by rw [← u.len]; exact hi)]
    exact u.at_ i q hq
  · rw [if_neg hi] at hq
    rw [if_neg (by rw [← u.len]; exact hi), ← u.len]
    have e : i - rs.length = 0 := by
      have := (List.getElem?_eq_some_iff.mp hq).1
      simp at this; omega
    rw [e] at hq ⊢
    cases hq
    exact ⟨_, rfl, h⟩
theorem UsAt.init {H : Hp} {rs : List Addr} {us : List Un1} {r : Addr} {x : Un1} (u : UsAt H (rs ++ [r]) (us ++ [x])) : UsAt H rs us ∧ H r = some (.tup [.str x.1, .int x.2]) := by
  have l : rs.length = us.length := by have := u.len; simp at this; exact this
  refine ⟨⟨l, fun i q hq => ?_⟩, ?_⟩
  · have hi := (List.getElem?_eq_some_iff.mp hq).1
    obtain ⟨v, hv, e⟩ := u.at_ i q (by rw [List.getElem?_append_left hi]; exact hq)
    rw [List.getElem?_append_left (by omega)] at hv
    exact ⟨v, hv, e⟩
  · obtain ⟨v, hv, e⟩ := u.at_ rs.length r (by rw [List.getElem?_append_right (Nat.le_refl _)]; simp)
    rw [l, List.getElem?_append_right (Nat.le_refl _)] at hv
    simp at hv
    rw [← hv] at e; exact e
theorem snoc_of {α : Type} : ∀ (l : List α), 0 < l.length → ∃ i x, l = i ++ [x] := fun l h => by
  have ne : l ≠ [] := by intro e; rw [e] at h; cases h
  exact ⟨l.dropLast, l.getLast ne, (List.dropLast_concat_getLast ne).symm⟩
structure Good (pre : List Un1) (z : Str) : Prop where
  len : pre.length ≤ 5
  nm : ∀ u ∈ pre, nameOk u.1 = true
  nz : nameOk z = true
  many : ∀ u ∈ pre, 2 ≤ u.2 ∧ u.2 ≤ 1000
  nd : (pre.map (·.1) ++ [z]).Nodup
def Units (H : Hp) (p : Addr) (pre : List Un1) (z : Str) : Prop := ∃ (rs : List Addr) (r : Addr), H p = some (.tup (rs.map V.ref ++ [.ref r])) ∧ UsAt H rs pre ∧ H r = some (.tup [.str z, .int 1])
theorem Units.mono {H H' : Hp} {p : Addr} {pre : List Un1} {z : Str} (u : Units H p pre z) (t : Tups H H') : Units H' p pre z :=
  let ⟨rs, r, h, a, e⟩ := u; ⟨rs, r, t _ _ h, a.mono t, t _ _ e⟩
theorem cut_last (xs : List V) (v : V) : cutV (xs ++ [v]) none (some (-1)) = xs := by
  unfold cutV
  have e1 : HT.sIx (xs ++ [v]).length 0 none = 0 := rfl
  have e2 : HT.sIx (xs ++ [v]).length (xs ++ [v]).length (some (-1)) = xs.length := by
    unfold HT.sIx
    dsimp only
    rw [if_pos (by decide), List.length_append]
    simp only [List.length_cons, List.length_nil]
    omega
  rw [e1, e2]
  simp
theorem Units.all {H : Hp} {p : Addr} {pre : List Un1} {z : Str} (u : Units H p pre z) : ∃ rs : List Addr, H p = some (.tup (rs.map V.ref)) ∧ UsAt H rs (pre ++ [(z, 1)]) := by
  obtain ⟨rs, r, h, a, e⟩ := u
  refine ⟨rs ++ [r], ?_, a.snoc e⟩
  rw [h, List.map_append]; rfl
theorem ref_at {rs : List Addr} {i : Nat} {x : V} (h : (rs.map V.ref)[i]? = some x) : ∃ r, rs[i]? = some r ∧ x = .ref r := by
  rw [List.getElem?_map] at h
  cases e : rs[i]? with
  | none => rw [e] at h; cases h
  | some r => rw [e] at h; cases h; exact ⟨r, rfl, rfl⟩
theorem str_at {ws : List Str} {i : Nat} {x : V} (h : (ws.map V.str)[i]? = some x) : ∃ r, ws[i]? = some r ∧ x = .str r := by
  rw [List.getElem?_map] at h
  cases e : ws[i]? with
  | none => rw [e] at h; cases h
  | some r => rw [e] at h; cases h; exact ⟨r, rfl, rfl⟩
theorem fst_take {us : List Un1} {i : Nat} {u : Un1} (h : us[i]? = some u) : (us.take (i + 1)).map (fun u => V.str u.1) = (us.take i).map (fun u => V.str u.1) ++ [.str u.1] := by
  rw [List.take_succ, h, List.map_append]; rfl
theorem Good.names {pre : List Un1} {z : Str} (g : Good pre z) : ∀ x ∈ (pre ++ [(z, (1 : Int))]).map (·.1), nameOk x = true := by
  intro x hx
  rw [List.map_append] at hx
  rcases List.mem_append.mp hx with h | h
  · obtain ⟨u, hu, rfl⟩ := List.mem_map.mp h
    exact g.nm u hu
  · rw [show x = z by simpa using h]; exact g.nz
theorem Good.nodup {pre : List Un1} {z : Str} (g : Good pre z) : ((pre ++ [(z, (1 : Int))]).map (·.1)).Nodup := by
  rw [List.map_append]; exact g.nd
end Ck
set_option Elab.async false
set_option linter.all false
set_option maxRecDepth 100000
set_option maxHeartbeats 4000000
namespace Ck
open PySem L2
theorem kit_int_bool {K : PySem.W.Frag} : PySem.W.kitOne K (.type "int") (.type "bool") = some false := by
  unfold PySem.W.kitOne PySem.W.kitCls
  rw [if_neg (by decide)]
  dsimp only
  rw [if_pos (by decide +kernel)]
  rfl
theorem kit_bool_int {K : PySem.W.Frag} : PySem.W.kitOne K (.type "bool") (.type "int") = some true := by
  unfold PySem.W.kitOne PySem.W.kitCls
  rw [if_neg (by decide)]
  dsimp only
  rw [if_pos (by decide +kernel)]
  rfl
theorem iteN {b : Bool} {A B : Prop} (hb : b = true) (h : B) : if (!b) = true then A else B := by subst hb; exact iteF h
theorem all_true {α : Type} (l : List α) : (l.map fun _ => true).all id = true := by
  rw [List.all_map, List.all_eq_true]; intro _ _; rfl
theorem iteD {c : Prop} [Decidable c] {A B : Prop} (hc : c) (h : A) : if decide c = true then A else B := by rw [if_pos (decide_eq_true hc)]; exact h
theorem notwhole (xs : List V) (v : V) : ¬ (HT.sIx (xs ++ [v]).length 0 none = 0 ∧ HT.sIx (xs ++ [v]).length (xs ++ [v]).length (some (-1)) = (xs ++ [v]).length) := by
  rintro ⟨_, h⟩
  have e2 : HT.sIx (xs ++ [v]).length (xs ++ [v]).length (some (-1)) = xs.length := by
    unfold HT.sIx
    dsimp only
    rw [if_pos (by decide), List.length_append]
    simp only [List.length_cons, List.length_nil]
    omega
  rw [e2, List.length_append] at h
  simp at h
theorem for_revT {K : PySem.W.Frag} {a : Addr} {xs : List V} {g : TG} {tb : TS} {D : Ends} {σ : St} {H : Hp} (Pv : Nat → St → Hp → Prop) (h0 : Pv 0 σ H) (hl : ∀ i σ H, i ≤ xs.length → Pv i σ H → SqT K H a xs)
    (hs : ∀ i x σ H, i < xs.length → xs[xs.length - 1 - i]? = some x → Pv i σ H → g x σ H fun σ2 H2 => tb { D with nx := Pv (i + 1), ct := Pv (i + 1), bk := D.nx } σ2 H2) (hd : ∀ σ H, Pv xs.length σ H → D.nx σ H) :
    ∃ W : Nat → Nat → St → Hp → Prop, (∃ m, W 0 m σ H) ∧ ∀ i m σ H, W i m σ H →
      ((Itw K a xs.length).stop i H ∧ D.nx σ H) ∨ ((Itw K a xs.length).go i H ∧ ∃ N : St → Hp → Prop, (∀ σ' H', N σ' H' → ∃ m', m' < m ∧ W (i + 1) m' σ' H') ∧ ∀ x H', (Itw K a xs.length).yld i H x H' → g x σ H' fun σ2 H2 => tb { D with nx := N, ct := N, bk := D.nx } σ2 H2) := by
  refine ⟨fun i m σ H => m = xs.length - i ∧ i ≤ xs.length ∧ Pv i σ H, ⟨xs.length, by simp, Nat.zero_le _, h0⟩, ?_⟩
  rintro i m σ H ⟨rfl, hi, p⟩
  have q := hl i σ H hi p
  by_cases hlt : i < xs.length
  · refine .inr ⟨⟨hlt, xs, xs[xs.length - 1 - i], q, List.getElem?_eq_getElem (by omega)⟩, Pv (i + 1), fun σ' H' p' => ⟨xs.length - (i + 1), by omega, rfl, hlt, p'⟩, fun x H' y => ?_⟩
    obtain ⟨e, y⟩ := y
    subst e
    exact hs i x σ _ hlt (y xs q) p
  · have e : i = xs.length := by omega
    subst e
    exact .inl ⟨Nat.le_refl _, hd σ H p⟩
theorem dc_enumT {K : PySem.W.Frag} {a : Addr} {xs : List V} {g : TG} {tt : TT} {tk te : TE} {vs : List Nat} {σ : St} {H1 : Hp} {D : Addr} {Qd : Hp → Prop} (Pv : Nat → Hp → Prop) (h0 : Pv 0 (upd H1 D (.dK []))) (hl : ∀ i H, i ≤ xs.length → Pv i H → SqT K H a xs)
    (hs : ∀ (i : Nat) (x : V) (T : Addr) (H : Hp), xs[i]? = some x → Pv i H → H T = none → g (.ref T) (wipe σ vs) (upd H T (.tup [.int (i : Nat), x])) fun σ2 H2 => wipe σ2 vs = wipe σ vs ∧ tt σ2 H2 fun b H3 =>
      if b = true then tk σ2 H3 fun yk H4 => te σ2 H4 fun yv H5 => ∃ kvs k, H5 D = some (.dK kvs) ∧ yk = kV k ∧ kvs.length < sizeLine ∧ Pv (i + 1) (upd H5 D (.dK (putK kvs k yv))) else Pv (i + 1) H3) (hd : ∀ H, Pv xs.length H → Qd H) :
    ∃ W : Nat → Nat → Hp → Prop, (∃ m, W 0 m (upd H1 D (.dK []))) ∧ ∀ i m H, W i m H →
      ((IteT K a).stop i H ∧ Qd H) ∨ ((IteT K a).go i H ∧ ∃ Nx : Hp → Prop, (∀ H', Nx H' → ∃ m', m' < m ∧ W (i + 1) m' H') ∧ ∀ x H', (IteT K a).yld i H x H' → g x (wipe σ vs) H' fun σ2 H2 => wipe σ2 vs = wipe σ vs ∧ tt σ2 H2 fun b H3 =>
        if b = true then tk σ2 H3 fun yk H4 => te σ2 H4 fun yv H5 => ∃ kvs k, H5 D = some (.dK kvs) ∧ yk = kV k ∧ kvs.length < sizeLine ∧ Nx (upd H5 D (.dK (putK kvs k yv))) else Nx H3) := by
  refine ⟨fun i m H => m = xs.length - i ∧ i ≤ xs.length ∧ Pv i H, ⟨xs.length, by simp, Nat.zero_le _, h0⟩, ?_⟩
  rintro i m H ⟨rfl, hi, p⟩
  have q := hl i H hi p
  by_cases hlt : i < xs.length
  · refine .inr ⟨⟨xs, xs[i], q, List.getElem?_eq_getElem hlt⟩, Pv (i + 1), fun H' p' => ⟨xs.length - (i + 1), by omega, rfl, hlt, p'⟩, fun v H' y => ?_⟩
    obtain ⟨T, x, rfl, hT, rfl, y⟩ := y
    exact hs i x T H (y xs q) p hT
  · have e : i = xs.length := by omega
    subst e
    exact .inl ⟨⟨xs, q, rfl⟩, hd H p⟩
def pr : List Int → Int
  | [] => 1
  | m :: r => m * pr r
def sz : List Int → List Int
  | [] => [1]
  | m :: r => m * pr r :: sz r
theorem sz_len : ∀ ms : List Int, (sz ms).length = ms.length + 1
  | [] => rfl
  | m :: r => by show (sz r).length + 1 = _; rw [sz_len r]; rfl
theorem sz_at : ∀ (ms : List Int) (k : Nat), k ≤ ms.length → (sz ms)[k]? = some (pr (ms.drop k))
  | [], k, h => by have : k = 0 := by simpa using h
                   subst this; rfl
  | m :: r, 0, _ => rfl
  | m :: r, k + 1, h => by
    show (sz r)[k]? = some (pr (r.drop k))
    exact sz_at r k (by simpa using h)
theorem sz_head (ms : List Int) : ∃ r, sz ms = pr ms :: r := by
  cases ms with
  | nil => exact ⟨[], rfl⟩
  | cons m r => exact ⟨sz r, rfl⟩
theorem pr_drop {ms : List Int} {k : Nat} {m : Int} (h : ms[k]? = some m) : pr (ms.drop k) = m * pr (ms.drop (k + 1)) := by
  have hk := (List.getElem?_eq_some_iff.mp h).1
  have e : ms.drop k = m :: ms.drop (k + 1) := by
    rw [List.drop_eq_getElem_cons hk]
    rw [List.getElem?_eq_getElem hk] at h
    rw [Option.some.inj h]
  rw [e]; rfl
theorem sz_drop {ms : List Int} {k : Nat} {m : Int} (h : ms[k]? = some m) : sz (ms.drop k) = (m * pr (ms.drop (k + 1))) :: sz (ms.drop (k + 1)) := by
  have hk := (List.getElem?_eq_some_iff.mp h).1
  have e : ms.drop k = m :: ms.drop (k + 1) := by
    rw [List.drop_eq_getElem_cons hk]
    rw [List.getElem?_eq_getElem hk] at h
    rw [Option.some.inj h]
  rw [e]; rfl
theorem pr_bound : ∀ (ms : List Int), (∀ m ∈ ms, 2 ≤ m ∧ m ≤ 1000) → 1 ≤ pr ms ∧ pr ms ≤ 1000 ^ ms.length
  | [], _ => ⟨by decide, by decide⟩
  | m :: r, h => by
    obtain ⟨a, b⟩ := pr_bound r fun x hx => h x (List.mem_cons_of_mem _ hx)
    obtain ⟨c, d⟩ := h m List.mem_cons_self
    refine ⟨?_, ?_⟩
    · show 1 ≤ m * pr r
      have := Int.mul_le_mul c a (by omega) (by omega)
      omega
    · show m * pr r ≤ 1000 ^ (r.length + 1)
      rw [Int.pow_succ, Int.mul_comm (1000 ^ r.length)]
      exact Int.mul_le_mul d b (by omega) (by omega)
theorem pow5 {n : Nat} (h : n ≤ 5) : (1000 : Int) ^ n ≤ 1000000000000000 := by
  have : n = 0 ∨ n = 1 ∨ n = 2 ∨ n = 3 ∨ n = 4 ∨ n = 5 := by omega
  rcases this with rfl | rfl | rfl | rfl | rfl | rfl <;> decide
theorem pr_le {ms : List Int} (h : ∀ m ∈ ms, 2 ≤ m ∧ m ≤ 1000) (hl : ms.length ≤ 5) (k : Nat) : 1 ≤ pr (ms.drop k) ∧ pr (ms.drop k) ≤ 1000000000000000 := by
  obtain ⟨a, b⟩ := pr_bound (ms.drop k) fun x hx => h x (List.mem_of_mem_drop hx)
  exact ⟨a, Int.le_trans b (pow5 (by rw [List.length_drop]; omega))⟩
theorem log2_le {j : Int} (h0 : 1 ≤ j) (h1 : j ≤ 1000000000000000) : 0 < j ∧ j.natAbs.log2 < 9000 := by
  refine ⟨by omega, ?_⟩
  have h2 : j.natAbs < 2 ^ 9000 := by
    have : j.natAbs ≤ 1000000000000000 := by omega
    have h3 : (1000000000000000 : Nat) < 2 ^ 50 := by decide
    have h4 : (2 : Nat) ^ 50 ≤ 2 ^ 9000 := Nat.pow_le_pow_right (by decide) (by decide)
    omega
  exact (Nat.log2_lt (by omega)).mpr h2
def rest (a : Int) (ms : List Int) : Nat → Int
  | 0 => a
  | k + 1 => a % pr (ms.drop k)
def part (a : Int) (ms : List Int) (k : Nat) : Int := rest a ms k / pr (ms.drop k)
theorem rest_next (a : Int) (ms : List Int) (k : Nat) (hk : k ≤ ms.length) : rest a ms k % pr (ms.drop k) = rest a ms (k + 1) := by
  cases k with
  | zero => rfl
  | succ k =>
    show a % pr (ms.drop k) % pr (ms.drop (k + 1)) = a % pr (ms.drop (k + 1))
    refine Int.emod_emod_of_dvd a ?_
    have hk' : k < ms.length := by omega
    rw [pr_drop (List.getElem?_eq_getElem hk')]
    exact ⟨_, Int.mul_comm _ _⟩
theorem rest_nonneg {a : Int} {ms : List Int} (h : ∀ m ∈ ms, 2 ≤ m ∧ m ≤ 1000) (hl : ms.length ≤ 5) (ha : 0 ≤ a) (k : Nat) : 0 ≤ rest a ms k := by
  cases k with
  | zero => exact ha
  | succ k => exact Int.emod_nonneg _ (by have := (pr_le h hl k).1; omega)
theorem part_nonneg {a : Int} {ms : List Int} (h : ∀ m ∈ ms, 2 ≤ m ∧ m ≤ 1000) (hl : ms.length ≤ 5) (ha : 0 ≤ a) (k : Nat) : 0 ≤ part a ms k :=
  Int.ediv_nonneg (rest_nonneg h hl ha k) (by have := (pr_le h hl k).1; omega)
end Ck
namespace L2
open PySem
end L2
set_option Elab.async false
set_option linter.all false
set_option maxRecDepth 100000
set_option maxHeartbeats 4000000
namespace L2
open PySem PySem.Spec PyProof.Rows
def fmtV : V → Option Str
  | .int i => if i.natAbs.log2 < 1920 then some (toString i) else none
  | .str x => some x
  | _ => none
structure QF (X : Cx) (e : Expr) (t : St → Hp → (Str → Hp → Prop) → Prop) : Prop where
  h : ∀ (pins : List (Addr × Obj)) (s : Shared) (σ : St) (H : Hp) (Q : Str → Hp → Prop), Inv X pins σ H s → t σ H Q →
    wpAny (model X.prog X.w) X.A (eval e X.env) (fun u s' => ∃ x H' tk, Inv X pins σ H' s' ∧ u = .str x tk ∧ Q x H') X.xe s
section
variable {X : Cx} {e : Expr} {te : TE} {pos : Pos}
theorem qf_lit {x : Str} {k : Nat} {p : Pos} : QF X (.Constant (.str x) k p) (fun _ H Q => Q x H) := by
  refine ⟨fun pins s σ H Q I h => ?_⟩
  have z := (q_pe_str (X := X) (x := x) (j := k) (pos := p)).h pins s σ H (fun v H' => v = .str x ∧ Q x H') I ⟨rfl, h⟩
  refine wpAny_mono z (fun u s' ⟨v, H', I', r, ev, q⟩ => ?_) fun _ _ z => z
  subst ev
  obtain ⟨tk, rfl⟩ := r
  exact ⟨x, H', tk, I', rfl, q⟩
theorem qf_val (he : QE X e te) : QF X (.FormattedValue e (-1) none pos) (fun σ H Q => te σ H fun v H1 => ∃ y, fmtV v = some y ∧ y.length ≤ sizeLine ∧ Q y H1) := by
  refine ⟨fun pins s σ H Q I h => ?_⟩
  refine FormattedValue_plain (thn (he.h pins s σ H _ I h) fun u s1 ⟨v, H1, I1, r, y, ey, hy, q⟩ => ?_)
  cases v with
  | int i =>
    obtain ⟨tk, rfl⟩ := r
    by_cases hl : i.natAbs.log2 < 1920
    · have e2 : fmtV (.int i) = some (toString i) := if_pos hl
      rw [e2] at ey
      cases ey
      exact formatField_int_small hl ⟨_, H1, _, I1.tok _, rfl, q⟩
    · have e2 : fmtV (.int i) = none := if_neg hl
      rw [e2] at ey; cases ey
  | str x =>
    obtain ⟨tk, rfl⟩ := r
    cases ey
    exact formatField_str (fun t' tk' => ⟨_, H1, _, I1.tok _, rfl, q⟩) hy
  | _ => cases ey
inductive QFs (X : Cx) : List Expr → (St → Hp → Str → (Str → Hp → Prop) → Prop) → Prop
  | nil : QFs X [] (fun _ H out Q => Q out H)
  | cons {e : Expr} {es : List Expr} {t : St → Hp → (Str → Hp → Prop) → Prop} {r : St → Hp → Str → (Str → Hp → Prop) → Prop} : QF X e t → QFs X es r → QFs X (e :: es) (fun σ H out Q => t σ H fun y H1 => (out ++ y).length ≤ sizeLine ∧ r σ H1 (out ++ y) Q)
theorem QFs.run {es : List Expr} {r : St → Hp → Str → (Str → Hp → Prop) → Prop} (h : QFs X es r) : ∀ (pins : List (Addr × Obj)) (s : Shared) (σ : St) (H : Hp) (out : Str) (Q : VK), out.length ≤ sizeLine → Inv X pins σ H s → r σ H out (fun x H' => Q (.str x) H') →
    wpAny (model X.prog X.w) X.A (joinParts out (evalEach es X.env)) (EP X pins σ Q) X.xe s := by
  induction h with
  | nil =>
    intro pins s σ H out Q hz I h
    exact joinParts_nil ⟨.str out, H, I.tok _, ⟨_, rfl⟩, h⟩ hz
  | cons he hr ih =>
    intro pins s σ H out Q hz I h
    refine joinParts_cons (wpAny_mono (he.h pins s σ H _ I h) (fun u s1 ⟨y, H1, tk, I1, eu, hz1, q⟩ => ?_) fun _ _ z => z)
    subst eu
    exact ⟨hz1, ih pins s1 σ H1 _ Q hz1 I1 q⟩
def tFstr (r : St → Hp → Str → (Str → Hp → Prop) → Prop) : TE := fun σ H Q => r σ H Str.empty fun x H' => Q (.str x) H'
theorem q_pe_fstr {e1 e2 : Expr} {es : List Expr} {r : St → Hp → Str → (Str → Hp → Prop) → Prop} (h : QFs X (e1 :: e2 :: es) r) : QE X (.JoinedStr (e1 :: e2 :: es) pos) (tFstr r) :=
  ⟨fun pins s σ H Q I hw => JoinedStr_many (h.run pins s σ H Str.empty Q (by decide) I hw)⟩
end
end L2
set_option Elab.async false
set_option linter.all false
set_option maxRecDepth 100000
set_option maxHeartbeats 4000000
namespace PySem
open Sem (wp)
def ItG (t : Bool) (h : Heap) (it l : Addr) (k : Nat) : Prop := ∃ o, h.get? it = some o ∧ o.cls = .type (cond t "tuple_iterator" "list_iterator") ∧ o.data = .fields #[.ref l, .int k 0]
def SqG (t : Bool) (h : Heap) (l : Addr) (xs : Array Value) : Prop := ∃ o, h.get? l = some o ∧ o.cls = .type (cond t "tuple" "list") ∧ ∃ n, o.data = .seq xs n
theorem ItG.at_ {t : Bool} {h h' : Heap} {it l : Addr} {k : Nat} (x : ItG t h it l k) (e : ∀ o, h.get? it = some o → h'.get? it = some o) : ItG t h' it l k := let ⟨o, ho, r⟩ := x; ⟨o, e _ ho, r⟩
theorem SqG.at_ {t : Bool} {h h' : Heap} {l : Addr} {xs : Array Value} (x : SqG t h l xs) (e : ∀ o, h.get? l = some o → h'.get? l = some o) : SqG t h' l xs := let ⟨o, ho, r⟩ := x; ⟨o, e _ ho, r⟩
section
variable {prog : Program} {w : World} {A : Around} {E : Value → Shared → Prop} {s : Shared}
theorem nextG_item {t : Bool} {it l : Addr} {i : Nat} {items : Array Value} {x : Value} {Q : Value → Shared → Prop} (hit : ItG t s.heap it l i) (ht : SqG t s.heap l items) (hx : items[i]? = some x)
    (hQ : ∀ h', ItG t h' it l (i + 1) → Heap.SameBut it s.heap h' → Q x { s with heap := h' }) : wpAny (model prog w) A (Builtin.SmallTypes.nextOf (.ref it)) Q E s := by
  cases t with
  | true => exact nextOf_tup_item (it := it) (t := l) hit ht hx hQ
  | false => exact wpAny_nextOf_list_item (it := it) (l := l) hit ht hx hQ
theorem nextG_end {t : Bool} {it l : Addr} {i : Nat} {items : Array Value} {Q : Value → Shared → Prop} (hh : A.handled = none) (hit : ItG t s.heap it l i) (ht : SqG t s.heap l items) (hx : items[i]? = none)
    (hE : ∀ h' e, Heap.ExtBut it s.heap h' → (∃ o, h'.get? e = some o ∧ o.cls = .type "StopIteration") → E (.ref e) { s with heap := h' }) : wpAny (model prog w) A (Builtin.SmallTypes.nextOf (.ref it)) Q E s := by
  cases t with
  | true => exact nextOf_tup_end (it := it) (t := l) hh hit ht hx hE
  | false => exact wpAny_nextOf_list_end (it := it) (l := l) hh hit ht hx hE
theorem iterG {t : Bool} {l : Addr} {items : Array Value} {Q : Value → Shared → Prop} (hl : SqG t s.heap l items)
    (hQ : Q (.ref s.heap.objs.size) { s with heap := s.heap.push { cls := .type (cond t "tuple_iterator" "list_iterator"), data := .fields #[.ref l, .int 0 0] } }) : wpAny (model prog w) A (pyIter (.ref l)) Q E s := by
  cases t with
  | true => exact wpAny_pyIter_tuple (t := l) hl hQ
  | false => exact wpAny_pyIter_list (l := l) hl hQ
theorem zipG_item {t1 t2 : Bool} {z TI TO i1 i2 l1 l2 : Addr} {k1 k2 : Nat} {xs ys : Array Value} {x y a b : Value} {Q : Value → Shared → Prop} (D : ZipApart z TI TO i1 i2 l1 l2)
    (hz : IsZip s.heap z TI TO .none) (hTI : IsPair s.heap TI (.ref i1) (.ref i2)) (hTO : IsPair s.heap TO a b) (h1 : ItG t1 s.heap i1 l1 k1) (h2 : ItG t2 s.heap i2 l2 k2) (hl1 : SqG t1 s.heap l1 xs) (hl2 : SqG t2 s.heap l2 ys) (hx : xs[k1]? = some x) (hy : ys[k2]? = some y)
    (hQ : ∀ h', IsZip h' z TI TO (rawInt s.heap.objs.size) → IsPair h' TO x y → ItG t1 h' i1 l1 (k1 + 1) → ItG t2 h' i2 l2 (k2 + 1) → IsPair h' s.heap.objs.size x y → h'.objs.size = s.heap.objs.size + 1 →
      (∀ c o, c ≠ z → c ≠ TO → c ≠ i1 → c ≠ i2 → s.heap.get? c = some o → h'.get? c = some o) → Q (.ref s.heap.objs.size) { s with heap := h' }) :
    wpAny (model prog w) A (Builtin.«zip.__next__» ⟨[.ref z], []⟩) (fun fin s' => ∃ v, fin = .done (.ret v) ∧ Q v s') E s := by
  show wpAny _ _ (field (.ref z) 2 >>= _) _ _ _; refine wpAny_bind (wpAny_field hz rfl (x := .bool false) rfl ?_)
  show wpAny _ _ (field (.ref z) 3 >>= _) _ _ _; refine wpAny_bind (wpAny_field hz rfl (x := .ref TI) rfl (wpAny_bind (wpAny_seqItems hTI rfl ?_)))
  show wpAny _ _ (Builtin.SmallTypes.ownedTupleIsFree (.ref z) >>= _) _ _ _; refine wpAny_bind ?_; unfold Builtin.SmallTypes.ownedTupleIsFree
  refine wpAny_bind (wpAny_field hz rfl (x := .none) rfl (wpAny_pure ?_)); simp only [if_true]
  refine wpAny_bind (wpAny_rule (wpAny_bind (wpAny_field hz rfl (x := .ref TO) rfl (wpAny_bind (wpAny_setField_rec hz (by simp) fun g1 hz1 s1 => ?_)))))
  replace hz1 : IsZip g1 z TI TO .ellipsis := hz1
  refine wpAny_bind ?_; simp only [List.zipIdx_cons, List.zipIdx_nil, List.forIn_cons, List.forIn_nil]
  refine wpAny_bind (wpAny_bind (wpAny_onRaise ?_)); show wpAny _ _ (Builtin.SmallTypes.nextOf (.ref i1) >>= _) _ _ _
  refine wpAny_bind (nextG_item (h1.at_ fun _ q => s1.extBut _ _ D.i1z q) (hl1.at_ fun _ q => s1.extBut _ _ D.l1z q) hx fun g2 j1 s2 => wpAny_pure ?_)
  have q2 : IsPair g2 TO a b := s2.extBut _ _ D.TOi1 (s1.extBut _ _ D.TOz hTO)
  refine wpAny_bind (wpAny_seqItems q2 rfl (wpAny_bind (wpAny_updateSeq_pair q2 fun g3 q3 s3 => ?_)))
  replace q3 : IsPair g3 TO x b := q3
  refine wpAny_bind (wpAny_letGo (wpAny_pure (wpAny_bind (wpAny_bind (wpAny_onRaise ?_))))); show wpAny _ _ (Builtin.SmallTypes.nextOf (.ref i2) >>= _) _ _ _
  refine wpAny_bind (nextG_item (h2.at_ fun _ q => s3.extBut _ _ D.TOi2.symm (s2.extBut _ _ D.i12.symm (s1.extBut _ _ D.i2z q))) (hl2.at_ fun _ q => s3.extBut _ _ D.l2TO (s2.extBut _ _ D.l2i1 (s1.extBut _ _ D.l2z q))) hy fun g4 j2 s4 => wpAny_pure ?_)
  have q4 : IsPair g4 TO x b := s4.extBut _ _ D.TOi2 q3
  refine wpAny_bind (wpAny_seqItems q4 rfl (wpAny_bind (wpAny_updateSeq_pair q4 fun g5 q5 s5 => ?_)))
  replace q5 : IsPair g5 TO x y := q5
  refine wpAny_bind (wpAny_letGo (wpAny_pure (wpAny_pure (wpAny_bind (wpAny_seqItems q5 rfl (wpAny_bind (wpAny_newTuple ?_)))))))
  have sz5 : g5.objs.size = s.heap.objs.size := by rw [s5.1, s4.1, s3.1, s2.1, s1.1]
  have z5 : IsZip g5 z TI TO .ellipsis := s5.extBut _ _ D.TOz.symm (s4.extBut _ _ D.i2z.symm (s3.extBut _ _ D.TOz.symm (s2.extBut _ _ D.i1z.symm hz1)))
  have kp : ∀ c o, c ≠ z → c ≠ TO → c ≠ i1 → c ≠ i2 → s.heap.get? c = some o → g5.get? c = some o := fun c o a1 a2 a3 a4 e => s5.extBut _ _ a2 (s4.extBut _ _ a4 (s3.extBut _ _ a2 (s2.extBut _ _ a3 (s1.extBut _ _ a1 e))))
  have j15 : ItG t1 g5 i1 l1 (k1 + 1) := j1.at_ fun _ q => s5.extBut _ _ D.TOi1.symm (s4.extBut _ _ D.i12 (s3.extBut _ _ D.TOi1.symm q))
  have j25 : ItG t2 g5 i2 l2 (k2 + 1) := j2.at_ fun _ q => s5.extBut _ _ D.TOi2.symm q
  have zl : z < g5.objs.size := Heap.lt_size z5
  show wpAny _ _ (Builtin.SmallTypes.ownedTupleHandOut (.ref z) (.ref g5.objs.size) >>= _) _ _ _; refine wpAny_bind ?_; unfold Builtin.SmallTypes.ownedTupleHandOut
  have z6 : IsZip (g5.push { cls := .type "tuple", data := .seq #[x, y] }) z TI TO .ellipsis := Heap.get?_push_of_some _ z5
  refine wpAny_bind (wpAny_setField_rec z6 (by simp) fun g7 z7 s7 => ?_)
  replace z7 : IsZip g7 z TI TO (rawInt g5.objs.size) := z7
  refine wpAny_setField_rec z7 (by simp) fun g8 z8 s8 => ?_
  replace z8 : IsZip g8 z TI TO (rawInt g5.objs.size) := z8
  have up : ∀ c o, c ≠ z → g5.get? c = some o → g8.get? c = some o := fun c o a1 e => s8.extBut _ _ a1 (s7.extBut _ _ a1 (Heap.get?_push_of_some _ e))
  have T8 : IsPair g8 g5.objs.size x y := s8.extBut _ _ (Nat.ne_of_gt zl) (s7.extBut _ _ (Nat.ne_of_gt zl) (Heap.get?_push_size _ rfl))
  have sz8 : g8.objs.size = g5.objs.size + 1 := by rw [s8.1, s7.1, Heap.size_push]
  rw [sz5] at z8 T8 sz8
  refine wpAny_pure ⟨_, rfl, ?_⟩; show Q (.ref g5.objs.size) _; rw [sz5]
  exact hQ g8 z8 (up _ _ D.TOz q5) (j15.at_ fun o e => up _ o D.i1z e) (j25.at_ fun o e => up _ o D.i2z e) T8 sz8 fun c o a1 a2 a3 a4 e => up c o a1 (kp c o a1 a2 a3 a4 e)
theorem zipG_end {t1 t2 : Bool} {z TI TO i1 i2 l1 l2 : Addr} {k1 k2 : Nat} {xs ys : Array Value} {a b : Value} {Q : Fin → Shared → Prop} (hh : A.handled = none) (D : ZipApart z TI TO i1 i2 l1 l2)
    (hz : IsZip s.heap z TI TO .none) (hTI : IsPair s.heap TI (.ref i1) (.ref i2)) (hTO : IsPair s.heap TO a b) (h1 : ItG t1 s.heap i1 l1 k1) (h2 : ItG t2 s.heap i2 l2 k2) (hl1 : SqG t1 s.heap l1 xs) (hl2 : SqG t2 s.heap l2 ys) (hend : xs[k1]? = none ∨ ys[k2]? = none)
    (hE : ∀ h' e, (∀ c o, c ≠ z → c ≠ TO → c ≠ i1 → c ≠ i2 → s.heap.get? c = some o → h'.get? c = some o) → (∃ o, h'.get? e = some o ∧ o.cls = .type "StopIteration") → E (.ref e) { s with heap := h' }) :
    wpAny (model prog w) A (Builtin.«zip.__next__» ⟨[.ref z], []⟩) Q E s := by
  show wpAny _ _ (field (.ref z) 2 >>= _) _ _ _; refine wpAny_bind (wpAny_field hz rfl (x := .bool false) rfl ?_)
  show wpAny _ _ (field (.ref z) 3 >>= _) _ _ _; refine wpAny_bind (wpAny_field hz rfl (x := .ref TI) rfl (wpAny_bind (wpAny_seqItems hTI rfl ?_)))
  show wpAny _ _ (Builtin.SmallTypes.ownedTupleIsFree (.ref z) >>= _) _ _ _; refine wpAny_bind ?_; unfold Builtin.SmallTypes.ownedTupleIsFree
  refine wpAny_bind (wpAny_field hz rfl (x := .none) rfl (wpAny_pure ?_)); simp only [if_true]
  refine wpAny_bind (wpAny_rule (wpAny_bind (wpAny_field hz rfl (x := .ref TO) rfl (wpAny_bind (wpAny_setField_rec hz (by simp) fun g1 hz1 s1 => ?_)))))
  replace hz1 : IsZip g1 z TI TO .ellipsis := hz1
  refine wpAny_bind ?_; simp only [List.zipIdx_cons, List.zipIdx_nil, List.forIn_cons, List.forIn_nil]
  refine wpAny_bind (wpAny_bind (wpAny_onRaise ?_)); show wpAny _ _ (Builtin.SmallTypes.nextOf (.ref i1) >>= _) _ _ _
  cases hx : xs[k1]? with
  | none =>
    refine wpAny_bind (nextG_end hh (h1.at_ fun _ q => s1.extBut _ _ D.i1z q) (hl1.at_ fun _ q => s1.extBut _ _ D.l1z q) hx fun g2 e s2 he => ?_)
    obtain ⟨oe, hoe, hce⟩ := he
    have z2 : IsZip g2 z TI TO .ellipsis := s2 _ _ D.i1z.symm hz1
    have ez : e ≠ z := fun q => by subst q; rw [z2] at hoe; cases hoe; simp at hce
    refine wpAny_setField_rec z2 (by simp) fun g3 _ s3 => hE g3 e (fun c o a1 _ a3 _ q => s3.extBut _ _ a1 (s2 _ _ a3 (s1.extBut _ _ a1 q))) ⟨oe, s3.extBut _ _ ez hoe, hce⟩
  | some x =>
    have hy : ys[k2]? = none := hend.elim (fun q => by rw [hx] at q; cases q) id
    refine wpAny_bind (nextG_item (h1.at_ fun _ q => s1.extBut _ _ D.i1z q) (hl1.at_ fun _ q => s1.extBut _ _ D.l1z q) hx fun g2 j1 s2 => wpAny_pure ?_)
    have q2 : IsPair g2 TO a b := s2.extBut _ _ D.TOi1 (s1.extBut _ _ D.TOz hTO)
    refine wpAny_bind (wpAny_seqItems q2 rfl (wpAny_bind (wpAny_updateSeq_pair q2 fun g3 q3 s3 => ?_)))
    refine wpAny_bind (wpAny_letGo (wpAny_pure (wpAny_bind (wpAny_bind (wpAny_onRaise ?_))))); show wpAny _ _ (Builtin.SmallTypes.nextOf (.ref i2) >>= _) _ _ _
    refine wpAny_bind (nextG_end hh (h2.at_ fun _ q => s3.extBut _ _ D.TOi2.symm (s2.extBut _ _ D.i12.symm (s1.extBut _ _ D.i2z q))) (hl2.at_ fun _ q => s3.extBut _ _ D.l2TO (s2.extBut _ _ D.l2i1 (s1.extBut _ _ D.l2z q))) hy fun g4 e s4 he => ?_)
    obtain ⟨oe, hoe, hce⟩ := he
    have z4 : IsZip g4 z TI TO .ellipsis := s4 _ _ D.i2z.symm (s3.extBut _ _ D.TOz.symm (s2.extBut _ _ D.i1z.symm hz1))
    have ez : e ≠ z := fun q => by subst q; rw [z4] at hoe; cases hoe; simp at hce
    refine wpAny_setField_rec z4 (by simp) fun g5 _ s5 => hE g5 e (fun c o a1 a2 a3 a4 q => s5.extBut _ _ a1 (s4 _ _ a4 (s3.extBut _ _ a2 (s2.extBut _ _ a3 (s1.extBut _ _ a1 q))))) ⟨oe, s5.extBut _ _ ez hoe, hce⟩
theorem pyNext_zipG_item {t1 t2 : Bool} {z TI TO i1 i2 l1 l2 : Addr} {k1 k2 : Nat} {xs ys : Array Value} {x y a b : Value} {Q : Option Value → Shared → Prop} (D : ZipApart z TI TO i1 i2 l1 l2)
    (hz : IsZip s.heap z TI TO .none) (hTI : IsPair s.heap TI (.ref i1) (.ref i2)) (hTO : IsPair s.heap TO a b) (h1 : ItG t1 s.heap i1 l1 k1) (h2 : ItG t2 s.heap i2 l2 k2) (hl1 : SqG t1 s.heap l1 xs) (hl2 : SqG t2 s.heap l2 ys) (hx : xs[k1]? = some x) (hy : ys[k2]? = some y)
    (hQ : ∀ h', IsZip h' z TI TO (rawInt s.heap.objs.size) → IsPair h' TO x y → ItG t1 h' i1 l1 (k1 + 1) → ItG t2 h' i2 l2 (k2 + 1) → IsPair h' s.heap.objs.size x y → h'.objs.size = s.heap.objs.size + 1 →
      (∀ c o, c ≠ z → c ≠ TO → c ≠ i1 → c ≠ i2 → s.heap.get? c = some o → h'.get? c = some o) → Q (some (.ref s.heap.objs.size)) { s with heap := h' }) : wpAny (model prog w) A (pyNext (.ref z)) Q E s := by
  have hT : s.TypeIs (.ref z) "zip" := ⟨_, hz, rfl⟩
  unfold pyNext
  exact wpAny_bind (wpAny_attempt (wpAny_callSpecial?_slot (name := Str.ofString "__next__") hT F.slot_zip_next (wpAny_call_entry F.slot_zip_next hT F.entry_zip_next (zipG_item D hz hTI hTO h1 h2 hl1 hl2 hx hy fun h' a1 a2 a3 a4 a5 a6 a7 => wpAny_pure (hQ h' a1 a2 a3 a4 a5 a6 a7)) (F.args_zip_next_1 _))))
theorem pyNext_zipG_end {t1 t2 : Bool} {z TI TO i1 i2 l1 l2 : Addr} {k1 k2 : Nat} {xs ys : Array Value} {a b : Value} {Q : Option Value → Shared → Prop} (hh : A.handled = none) (D : ZipApart z TI TO i1 i2 l1 l2)
    (hz : IsZip s.heap z TI TO .none) (hTI : IsPair s.heap TI (.ref i1) (.ref i2)) (hTO : IsPair s.heap TO a b) (h1 : ItG t1 s.heap i1 l1 k1) (h2 : ItG t2 s.heap i2 l2 k2) (hl1 : SqG t1 s.heap l1 xs) (hl2 : SqG t2 s.heap l2 ys) (hend : xs[k1]? = none ∨ ys[k2]? = none)
    (hQ : ∀ h', (∀ c o, c ≠ z → c ≠ TO → c ≠ i1 → c ≠ i2 → s.heap.get? c = some o → h'.get? c = some o) → Q none { s with heap := h' }) : wpAny (model prog w) A (pyNext (.ref z)) Q E s := by
  have hT : s.TypeIs (.ref z) "zip" := ⟨_, hz, rfl⟩
  unfold pyNext
  refine wpAny_bind (wpAny_attempt (wpAny_callSpecial?_slot (name := Str.ofString "__next__") hT F.slot_zip_next (wpAny_call_entry F.slot_zip_next hT F.entry_zip_next (zipG_end hh D hz hTI hTO h1 h2 hl1 hl2 hend fun h' e hk he => ?_) (F.args_zip_next_1 _))))
  obtain ⟨o, ho, hc⟩ := he
  exact wpAny_bind (wpAny_isInstance (T := "StopIteration") (b := true) ⟨o, ho, hc⟩ isSubtype_stop (wpAny_pure (hQ _ hk)))
end
abbrev itO (t : Bool) (l : Addr) : Obj := { cls := .type (cond t "tuple_iterator" "list_iterator"), data := .fields #[.ref l, .int 0 0] }
abbrev zg1 (t1 : Bool) (h : Heap) (l1 : Addr) : Heap := h.push (itO t1 l1)
abbrev zg2 (t1 t2 : Bool) (h : Heap) (l1 l2 : Addr) : Heap := (zg1 t1 h l1).push (itO t2 l2)
abbrev zg3 (t1 t2 : Bool) (h : Heap) (l1 l2 : Addr) : Heap := (zg2 t1 t2 h l1 l2).push { cls := .type "tuple", data := .seq #[.ref h.objs.size, .ref (zg1 t1 h l1).objs.size] }
abbrev zg4 (t1 t2 : Bool) (h : Heap) (l1 l2 : Addr) : Heap := (zg3 t1 t2 h l1 l2).push { cls := .type "tuple", data := .seq #[.none, .none] }
abbrev zg5 (t1 t2 : Bool) (h : Heap) (l1 l2 : Addr) : Heap := (zg4 t1 t2 h l1 l2).push { cls := .type "zip", data := .fields #[.none, .bool false, .bool false, .ref (zg2 t1 t2 h l1 l2).objs.size, .ref (zg3 t1 t2 h l1 l2).objs.size] }
theorem meets_zipG (t1 t2 : Bool) (l1 l2 : Addr) (xs ys : Array Value) :
    Meets (Builtin.«zip.__new__» ⟨[.type "zip", .ref l1, .ref l2], []⟩) (fun _ R s => SqG t1 s.heap l1 xs ∧ SqG t2 s.heap l2 ys ∧ R (.ok (.ret (.ref (zg4 t1 t2 s.heap l1 l2).objs.size))) { s with heap := zg5 t1 t2 s.heap l1 l2 }) :=
  .of_wp fun prog w A R s h => by
    obtain ⟨hp, g, d, tk, os⟩ := s; obtain ⟨hl1, hl2, h⟩ := h
    have hsub := sub_zip
    have hL1 : SqG t1 (Shared.heap ⟨hp, g, d, tk, os⟩) l1 xs := hl1
    have hL2 : SqG t2 (Shared.heap ⟨hp.push (itO t1 l1), g, d, tk, os⟩) l2 ys := hl2.at_ fun o e => Heap.get?_push_of_some _ e
    wp_walk using iterG hL1, iterG hL2
    exact ⟨_, rfl, h⟩
end PySem
set_option Elab.async false
set_option linter.all false
set_option maxRecDepth 100000
set_option maxHeartbeats 4000000
namespace PySem
section
variable {prog : Program} {w : World} {A : Around} {E : Value → Shared → Prop} {s : Shared}
theorem call_zipG {t1 t2 : Bool} {l1 l2 : Addr} {xs ys : Array Value} {Q : Value → Shared → Prop} (hl1 : SqG t1 s.heap l1 xs) (hl2 : SqG t2 s.heap l2 ys)
    (h : ∀ h', IsZip h' (s.heap.objs.size + 4) (s.heap.objs.size + 2) (s.heap.objs.size + 3) .none → IsPair h' (s.heap.objs.size + 2) (.ref s.heap.objs.size) (.ref (s.heap.objs.size + 1)) → IsPair h' (s.heap.objs.size + 3) .none .none →
      ItG t1 h' s.heap.objs.size l1 0 → ItG t2 h' (s.heap.objs.size + 1) l2 0 → h'.objs.size = s.heap.objs.size + 5 → (∀ c o, s.heap.get? c = some o → h'.get? c = some o) → Q (.ref (s.heap.objs.size + 4)) { s with heap := h' }) :
    wpAny (model prog w) A (call (.type "zip") [.ref l1, .ref l2]) Q E s := by
  refine callType_new F.called_zip (by decide) (F.typeCall_zip_2 _ _) (F.newCall_zip_2 _ _) (fun obj => F.args_object_init_3 obj _ _) F.entry_zip_new (meets_zipG t1 t2 l1 l2 xs ys) ⟨hl1, hl2, ?_⟩
  have z1 : (zg1 t1 s.heap l1).objs.size = s.heap.objs.size + 1 := Heap.size_push ..
  have z2 : (zg2 t1 t2 s.heap l1 l2).objs.size = s.heap.objs.size + 2 := by rw [Heap.size_push, z1]
  have z3 : (zg3 t1 t2 s.heap l1 l2).objs.size = s.heap.objs.size + 3 := by rw [Heap.size_push, z2]
  have z4 : (zg4 t1 t2 s.heap l1 l2).objs.size = s.heap.objs.size + 4 := by rw [Heap.size_push, z3]
  have z5 : (zg5 t1 t2 s.heap l1 l2).objs.size = s.heap.objs.size + 5 := by rw [Heap.size_push, z4]
  have g5 : (zg5 t1 t2 s.heap l1 l2).get? (zg4 t1 t2 s.heap l1 l2).objs.size = some _ := Heap.get?_push_size _ rfl
  have g4 : (zg5 t1 t2 s.heap l1 l2).get? (zg3 t1 t2 s.heap l1 l2).objs.size = some _ := Heap.get?_push_of_some _ (Heap.get?_push_size _ rfl)
  have g3 : (zg5 t1 t2 s.heap l1 l2).get? (zg2 t1 t2 s.heap l1 l2).objs.size = some _ := Heap.get?_push_of_some _ (Heap.get?_push_of_some _ (Heap.get?_push_size _ rfl))
  have g2 : (zg5 t1 t2 s.heap l1 l2).get? (zg1 t1 s.heap l1).objs.size = some _ := Heap.get?_push_of_some _ (Heap.get?_push_of_some _ (Heap.get?_push_of_some _ (Heap.get?_push_size _ rfl)))
  have g1 : (zg5 t1 t2 s.heap l1 l2).get? s.heap.objs.size = some _ := Heap.get?_push_of_some _ (Heap.get?_push_of_some _ (Heap.get?_push_of_some _ (Heap.get?_push_of_some _ (Heap.get?_push_size _ rfl))))
  show _ ∧ _
  rw [z2, z3, z4] at g5
  rw [z1, z2] at g3
  rw [z3] at g4
  rw [z1] at g2
  rw [z4]
  exact ⟨⟨_, g5, rfl⟩, h _ g5 g3 g4 ⟨_, g1, rfl, rfl⟩ ⟨_, g2, rfl, rfl⟩ z5 fun c o e => Heap.get?_push_of_some _ (Heap.get?_push_of_some _ (Heap.get?_push_of_some _ (Heap.get?_push_of_some _ (Heap.get?_push_of_some _ e))))⟩
end
end PySem
namespace L2
open PySem PySem.Spec PyProof.Rows
def SqB (t : Bool) (K : PySem.W.Frag) (H : Hp) (a : Addr) (xs : List V) : Prop := match t with
  | true => SqT K H a xs
  | false => SqL K H a xs
section
variable {X : Cx} {pins : List (Addr × Obj)} {σ : St} {H : Hp} {s : Shared}
theorem Inv.sqB {t : Bool} {a : Addr} {xs : List V} (I : Inv X pins σ H s) (h : SqB t X.K H a xs) : ∃ its : List Value, Vals xs its ∧ SqG t s.heap a its.toArray ∧ a < s.heap.objs.size := by
  cases t with
  | true =>
    obtain ⟨its, r, ⟨o, e, c, n, d⟩, _⟩ := I.tuple h
    exact ⟨its, r, ⟨o, e, c, n, d⟩, Heap.lt_size e⟩
  | false =>
    obtain ⟨its, r, p, _⟩ := I.list h
    obtain ⟨o, e, c, n, d⟩ := p.isList
    exact ⟨its, r, ⟨o, e, c, n, d⟩, Heap.lt_size e⟩
theorem Inv.sqB_inj {t : Bool} {a : Addr} {xs ys : List V} (I : Inv X pins σ H s) (h : SqB t X.K H a xs) (h' : SqB t X.K H a ys) : xs = ys := by
  cases t with
  | true => exact I.tuple_inj h h'
  | false => exact I.list_inj h h'
end
def ItzG (t1 t2 : Bool) (K : PySem.W.Frag) (a b : Addr) : It :=
  ⟨fun i H => ∃ (xs ys : List V) (x y : V), SqB t1 K H a xs ∧ SqB t2 K H b ys ∧ xs[i]? = some x ∧ ys[i]? = some y,
    fun i H v H' => ∃ T x y, v = .ref T ∧ H T = none ∧ H' = upd H T (.tup [x, y]) ∧ (∀ xs, SqB t1 K H a xs → xs[i]? = some x) ∧ ∀ ys, SqB t2 K H b ys → ys[i]? = some y,
    fun i H => ∃ xs ys : List V, SqB t1 K H a xs ∧ SqB t2 K H b ys ∧ (xs.length ≤ i ∨ ys.length ≤ i)⟩
theorem turn_zipG {P : Program} {w : World} {K : PySem.W.Frag} {t1 t2 : Bool} {elts : List Expr} {kk : Nat} {tpos : Pos} {a b z TI TO i1 i2 : Addr} (D : ZipApart z TI TO i1 i2 a b) :
    Turn P w K (.Tuple elts kk tpos) (ItzG t1 t2 K a b) [z, TI, TO, i1, i2] z (fun i h => IsZip h z TI TO .none ∧ IsPair h TI (.ref i1) (.ref i2) ∧ (∃ x y, IsPair h TO x y) ∧ ItG t1 h i1 a i ∧ ItG t2 h i2 b i) where
  mem := by simp
  obj := fun i h st c hc => by
    obtain ⟨hz, hTI, ⟨x, y, hTO⟩, ⟨o1, e1, _, d1⟩, ⟨o2, e2, _, d2⟩⟩ := st
    have e' : c = z ∨ c = TI ∨ c = TO ∨ c = i1 ∨ c = i2 := by simpa using hc
    rcases e' with q | q | q | q | q <;> rw [q]
    · exact ⟨_, hz, fun v q => nomatch q⟩
    · exact ⟨_, hTI, fun v q => nomatch q⟩
    · exact ⟨_, hTO, fun v q => nomatch q⟩
    · exact ⟨o1, e1, fun v q => by rw [d1] at q; cases q⟩
    · exact ⟨o2, e2, fun v q => by rw [d2] at q; cases q⟩
  keep := fun i h h' ⟨hz, hTI, ⟨x, y, hTO⟩, h1, h2⟩ k => ⟨k z (by simp) _ hz, k TI (by simp) _ hTI, ⟨x, y, k TO (by simp) _ hTO⟩, h1.at_ fun o q => k i1 (by simp) o q, h2.at_ fun o q => k i2 (by simp) o q⟩
  item := by
    intro X hP hw hK hc i pins s σ H E I hf st hg
    subst hP hw hK
    obtain ⟨hz, hTI, ⟨x0, y0, hTO⟩, h1, h2⟩ := st
    obtain ⟨xs, ys, x, y, hqx, hqy, hx, hy⟩ := hg
    obtain ⟨its, rv, p, _⟩ := I.sqB hqx
    obtain ⟨its2, rv2, p2, _⟩ := I.sqB hqy
    obtain ⟨u, hu, ru⟩ := rv.get hx
    obtain ⟨u2, hu2, ru2⟩ := rv2.get hy
    have zl : z < s.heap.objs.size := Heap.lt_size hz
    refine pyNext_zipG_item D hz hTI hTO h1 h2 p p2 (x := u) (y := u2) (by simpa using hu) (by simpa using hu2) fun h' z' TO' h1' h2' hT hsz hk => ?_
    refine ⟨_, rfl, wpAny_letOwnedTupleGo_zip (s := { s with heap := h' }) z' fun h'' z'' sb => ?_⟩
    have hT2 : h''.get? s.heap.objs.size = some { cls := .type "tuple", data := .seq #[u, u2] } := (sb.2 _ (Nat.ne_of_gt zl)).trans hT
    have new : ObjOk X.prog X.w (upd H s.heap.objs.size (.tup [x, y])) h'' s.heap.objs.size (.tup [x, y]) := ⟨by show 2 ≤ sizeLine; decide, [u, u2], .cons ru (.cons ru2 .nil), ⟨_, hT2, rfl, _, rfl⟩⟩
    have off : ∀ c o, c ∉ [z, TI, TO, i1, i2] → s.heap.get? c = some o → h''.get? c = some o := fun c o hb q =>
      (sb.2 c (fun q' => hb (by simp [q']))).trans (hk c o (fun q' => hb (by simp [q'])) (fun q' => hb (by simp [q'])) (fun q' => hb (by simp [q'])) (fun q' => hb (by simp [q'])) q)
    have I1 : Inv X pins σ (upd H s.heap.objs.size (.tup [x, y])) { s with heap := h'' } := I.turnedNew (t' := s.toks) (ch := [z, TI, TO, i1, i2]) off hf (Nat.le_refl _) new
    refine ⟨.ref s.heap.objs.size, _, I1, rfl, ⟨_, x, y, rfl, I.hok.fresh (Nat.le_refl _), rfl, fun l hl => by rw [I.sqB_inj hl hqx]; exact hx, fun l hl => by rw [I.sqB_inj hl hqy]; exact hy⟩, ⟨z'', (sb.2 _ D.TIz).trans (hk _ _ D.TIz D.TITO D.TIi1 D.TIi2 hTI), ⟨u, u2, (sb.2 _ D.TOz).trans TO'⟩, h1'.at_ fun o q => (sb.2 _ D.i1z).trans q, h2'.at_ fun o q => (sb.2 _ D.i2z).trans q⟩, fun c hcm => ?_⟩
    have lt : c < s.heap.objs.size := by
      have e' : c = z ∨ c = TI ∨ c = TO ∨ c = i1 ∨ c = i2 := by simpa using hcm
      rcases e' with q | q | q | q | q <;> rw [q]
      · exact zl
      · exact Heap.lt_size hTI
      · exact Heap.lt_size hTO
      · obtain ⟨_, e1, _⟩ := h1; exact Heap.lt_size e1
      · obtain ⟨_, e2, _⟩ := h2; exact Heap.lt_size e2
    rw [upd_ne (Nat.ne_of_lt lt)]
    exact (hf c hcm).1
  done := by
    intro X hP hw hK hc i pins s σ H E I hf st hg
    subst hP hw hK
    obtain ⟨hz, hTI, ⟨x0, y0, hTO⟩, h1, h2⟩ := st
    obtain ⟨xs, ys, hqx, hqy, hend⟩ := hg
    obtain ⟨its, rv, p, _⟩ := I.sqB hqx
    obtain ⟨its2, rv2, p2, _⟩ := I.sqB hqy
    have l1 := rv.length
    have l2 := rv2.length
    have he : its.toArray[i]? = none ∨ its2.toArray[i]? = none := hend.elim (fun q => .inl (by simp; omega)) fun q => .inr (by simp; omega)
    refine pyNext_zipG_end (I.ok.hd hc) D hz hTI hTO h1 h2 p p2 he fun h' hk => ⟨rfl, I.turnedL (t' := s.toks) (ch := [z, TI, TO, i1, i2]) (fun c o hb q => ?_) hf⟩
    exact hk c o (fun q' => hb (by simp [q'])) (fun q' => hb (by simp [q'])) (fun q' => hb (by simp [q'])) (fun q' => hb (by simp [q'])) q
  self := fun A i s Q E st h => wpAny_pyIter_zip st.1 h
def iZipG (t1 t2 : Bool) (K : PySem.W.Frag) (ta : TA) : TI := fun σ H R => ta σ H fun vs H1 => ∃ a b xs ys, vs = [.ref a, .ref b] ∧ SqB t1 K H1 a xs ∧ SqB t2 K H1 b ys ∧ R (ItzG t1 t2 K a b) H1
theorem q_pi_zipG (t1 t2 : Bool) {X : Cx} {e e2 : Expr} {ta : TA} {p pos tpos : Pos} {elts : List Expr} {kk : Nat} (hg : Gl X "zip") (hm : X.mg "zip" = none) (ha : QA X [e, e2] ta)
    (hs : starEach [e, e2] X.env = (false, eval e X.env) :: starEach [e2] X.env := by rfl) (hpl : (backTo pos (starEach [e2] X.env)).any (·.1) = false := by rfl) :
    QI X (.Tuple elts kk tpos) (.Call (.Name "zip" p) [e, e2] [] pos) (iZipG t1 t2 X.K ta) := by
  refine ⟨?_⟩
  intro pins s σ H R I h
  refine Call_ (ld_blt I hg hm boot_zip5 (PyProof.Rows.callWith_type1 (thn (ha.h pos pins s σ H _ I h) fun us s1 ⟨vs, H1, I1, r1, a, b, xs, ys, ex, hqx, hqy, q⟩ => ?_) hs hpl))
  subst ex
  obtain ⟨u, u', rfl, ru, ru'⟩ := vals2 r1
  cases ru
  cases ru'
  obtain ⟨its, rv, p1, la⟩ := I1.sqB hqx
  obtain ⟨its2, rv2, p2, lb⟩ := I1.sqB hqy
  refine call_zipG p1 p2 fun h' hz hTI hTO h1 h2 hsz hk => wpAny_pyIter_zip hz ?_
  have I2 : Inv X pins σ H1 { s1 with heap := h' } := I1.kept (t' := s1.toks) hk
  refine ⟨s1.heap.objs.size + 4, [s1.heap.objs.size + 4, s1.heap.objs.size + 2, s1.heap.objs.size + 3, s1.heap.objs.size, s1.heap.objs.size + 1], _, _, H1, rfl, I2, turn_zipG (PySem.W.ktu_apart s1.heap.objs.size a b la lb), ⟨hz, hTI, ⟨_, _, hTO⟩, h1, h2⟩, fun c hcm => ?_, q⟩
  have hle : s1.heap.objs.size ≤ c := by
    have e' : c = s1.heap.objs.size + 4 ∨ c = s1.heap.objs.size + 2 ∨ c = s1.heap.objs.size + 3 ∨ c = s1.heap.objs.size ∨ c = s1.heap.objs.size + 1 := by simpa using hcm
    rcases e' with y | y | y | y | y <;> rw [y] <;> first | exact Nat.le_refl _ | exact Nat.le_add_right _ _
  exact I1.fpOk hle (I1.hok.fresh hle)
end L2
set_option Elab.async false
set_option linter.all false
set_option maxRecDepth 100000
set_option maxHeartbeats 4000000
namespace L2
open PySem PySem.Spec PyProof.Rows
end L2
set_option Elab.async false
set_option linter.all false
set_option maxRecDepth 100000
set_option maxHeartbeats 4000000
namespace Ck
open PySem L2
theorem lc_zipG {t1 t2 : Bool} {K : PySem.W.Frag} {a b : Addr} {xs ys : List V} {g : TG} {tt : TT} {te : TE} {vs : List Nat} {σ : St} {H1 : Hp} {D : Addr} {Qd : Hp → Prop} (he : xs.length = ys.length) (Pv : Nat → Hp → Prop) (h0 : Pv 0 (upd H1 D (.lst [])))
    (hl : ∀ i H, i ≤ xs.length → Pv i H → SqB t1 K H a xs ∧ SqB t2 K H b ys)
    (hs : ∀ (i : Nat) (x y : V) (T : Addr) (H : Hp), xs[i]? = some x → ys[i]? = some y → Pv i H → H T = none → g (.ref T) (wipe σ vs) (upd H T (.tup [x, y])) fun σ2 H2 => wipe σ2 vs = wipe σ vs ∧ tt σ2 H2 fun b H3 =>
      if b = true then te σ2 H3 fun y H4 => ∃ acc, H4 D = some (.lst acc) ∧ acc.length < sizeLine ∧ Pv (i + 1) (upd H4 D (.lst (acc ++ [y]))) else Pv (i + 1) H3) (hd : ∀ H, Pv xs.length H → Qd H) :
    ∃ W : Nat → Nat → Hp → Prop, (∃ m, W 0 m (upd H1 D (.lst []))) ∧ ∀ i m H, W i m H →
      ((ItzG t1 t2 K a b).stop i H ∧ Qd H) ∨ ((ItzG t1 t2 K a b).go i H ∧ ∃ Nx : Hp → Prop, (∀ H', Nx H' → ∃ m', m' < m ∧ W (i + 1) m' H') ∧ ∀ x H', (ItzG t1 t2 K a b).yld i H x H' → g x (wipe σ vs) H' fun σ2 H2 => wipe σ2 vs = wipe σ vs ∧ tt σ2 H2 fun b H3 =>
        if b = true then te σ2 H3 fun y H4 => ∃ acc, H4 D = some (.lst acc) ∧ acc.length < sizeLine ∧ Nx (upd H4 D (.lst (acc ++ [y]))) else Nx H3) := by
  refine ⟨fun i m H => m = xs.length - i ∧ i ≤ xs.length ∧ Pv i H, ⟨xs.length, by simp, Nat.zero_le _, h0⟩, ?_⟩
  rintro i m H ⟨rfl, hi, p⟩
  obtain ⟨q1, q2⟩ := hl i H hi p
  by_cases hlt : i < xs.length
  · have hlt2 : i < ys.length := by omega
    refine .inr ⟨⟨xs, ys, xs[i], ys[i], q1, q2, List.getElem?_eq_getElem hlt, List.getElem?_eq_getElem hlt2⟩, Pv (i + 1), fun H' p' => ⟨xs.length - (i + 1), by omega, rfl, hlt, p'⟩, fun v H' y => ?_⟩
    obtain ⟨T, x, y, rfl, hT, rfl, y1, y2⟩ := y
    exact hs i x y T H (y1 xs q1) (y2 ys q2) p hT
  · have e : i = xs.length := by omega
    subst e
    exact .inl ⟨⟨xs, ys, q1, q2, .inl (Nat.le_refl _)⟩, hd H p⟩
theorem for_zipG {t1 t2 : Bool} {K : PySem.W.Frag} {a b : Addr} {xs ys : List V} {g : TG} {tb : TS} {D : Ends} {σ : St} {H : Hp} (he : xs.length = ys.length) (Pv : Nat → St → Hp → Prop) (h0 : Pv 0 σ H) (hl : ∀ i σ H, i ≤ xs.length → Pv i σ H → SqB t1 K H a xs ∧ SqB t2 K H b ys)
    (hs : ∀ (i : Nat) (x y : V) (T : Addr) (σ : St) (H : Hp), xs[i]? = some x → ys[i]? = some y → Pv i σ H → H T = none → g (.ref T) σ (upd H T (.tup [x, y])) fun σ2 H2 => tb { D with nx := Pv (i + 1), ct := Pv (i + 1), bk := D.nx } σ2 H2) (hd : ∀ σ H, Pv xs.length σ H → D.nx σ H) :
    ∃ W : Nat → Nat → St → Hp → Prop, (∃ m, W 0 m σ H) ∧ ∀ i m σ H, W i m σ H →
      ((ItzG t1 t2 K a b).stop i H ∧ D.nx σ H) ∨ ((ItzG t1 t2 K a b).go i H ∧ ∃ N : St → Hp → Prop, (∀ σ' H', N σ' H' → ∃ m', m' < m ∧ W (i + 1) m' σ' H') ∧ ∀ x H', (ItzG t1 t2 K a b).yld i H x H' → g x σ H' fun σ2 H2 => tb { D with nx := N, ct := N, bk := D.nx } σ2 H2) := by
  refine ⟨fun i m σ H => m = xs.length - i ∧ i ≤ xs.length ∧ Pv i σ H, ⟨xs.length, by simp, Nat.zero_le _, h0⟩, ?_⟩
  rintro i m σ H ⟨rfl, hi, p⟩
  obtain ⟨q1, q2⟩ := hl i σ H hi p
  by_cases hlt : i < xs.length
  · have hlt2 : i < ys.length := by omega
    refine .inr ⟨⟨xs, ys, xs[i], ys[i], q1, q2, List.getElem?_eq_getElem hlt, List.getElem?_eq_getElem hlt2⟩, Pv (i + 1), fun σ' H' p' => ⟨xs.length - (i + 1), by omega, rfl, hlt, p'⟩, fun v H' y => ?_⟩
    obtain ⟨T, x, y, rfl, hT, rfl, y1, y2⟩ := y
    exact hs i x y T σ H (y1 xs q1) (y2 ys q2) p hT
  · have e : i = xs.length := by omega
    subst e
    exact .inl ⟨⟨xs, ys, q1, q2, .inl (Nat.le_refl _)⟩, hd σ H p⟩
def dig (i : Int) : Str := toString i
def wd (i : Int) (nm : Str) : Str := (dig i ++ " ") ++ nm
def wordsOf (n : Int) (ms : List Int) (ws : List Str) (i : Nat) : List Str := (List.range i).filterMap fun k => if 0 < part n ms k then some (wd (part n ms k) (ws.getD k Str.empty)) else none
theorem words_next (n : Int) (ms : List Int) (ws : List Str) (i : Nat) : wordsOf n ms ws (i + 1) = wordsOf n ms ws i ++ (if 0 < part n ms i then [wd (part n ms i) (ws.getD i Str.empty)] else []) := by
  unfold wordsOf
  rw [List.range_succ, List.filterMap_append]
  congr 1
  rw [List.filterMap_cons, List.filterMap_nil]
  split <;> rename_i h <;> split at h <;> simp_all
theorem words_len (n : Int) (ms : List Int) (ws : List Str) (i : Nat) : (wordsOf n ms ws i).length ≤ i := by
  induction i with
  | zero => simp [wordsOf]
  | succ i ih => rw [words_next, List.length_append]; split <;> simp <;> omega
def textOf (n : Int) (ms : List Int) (ws : List Str) (z : Str) : Str := if (wordsOf n ms ws ws.length).isEmpty then (("0 " : Str) ++ z) else Txt.join " " (wordsOf n ms ws ws.length)
theorem emp_app (x : Str) : Str.empty ++ x = x := str_ext (by rw [tl_app]; rfl)
theorem dig_len {p : Int} (h0 : 0 ≤ p) (h1 : p ≤ 1000000000000000) : (dig p).length ≤ 17 := by
  have e : (toString p).length ≤ 16 + 1 := int_text_length_le10 (k := 16) (by decide) (by
    have : (10 : Nat) ^ 16 = 10000000000000000 := by decide
    omega)
  show (Str.ofString (toString p)).length ≤ 17
  rw [ofString_length]; exact e
theorem fmt_int {p : Int} (h0 : 0 ≤ p) (h1 : p ≤ 1000000000000000) : fmtV (.int p) = some (dig p) := by
  show (if p.natAbs.log2 < 1920 then some (Str.ofString (toString p)) else none) = _
  rw [if_pos]
  · rfl
  · by_cases hp : p.natAbs = 0
    · rw [hp]; decide
    · refine (Nat.log2_lt hp).mpr ?_
      have a : p.natAbs ≤ 1000000000000000 := by omega
      have b : (1000000000000000 : Nat) < 2 ^ 50 := by decide
      have c : (2 : Nat) ^ 50 ≤ 2 ^ 1920 := Nat.pow_le_pow_right (by decide) (by decide)
      omega
theorem part_le {a : Int} {ms : List Int} (h : ∀ m ∈ ms, 2 ≤ m ∧ m ≤ 1000) (hl : ms.length ≤ 5) (ha : 0 ≤ a) (k : Nat) : part a ms k ≤ a := by
  have p1 := (pr_le h hl k).1
  have r0 := rest_nonneg h hl ha k
  have r1 : rest a ms k ≤ a := by
    cases k with
    | zero => exact Int.le_refl _
    | succ k =>
      have p0 := (pr_le h hl k).1
      have e := Int.mul_ediv_add_emod a (pr (ms.drop k))
      have f : 0 ≤ pr (ms.drop k) * (a / pr (ms.drop k)) := Int.mul_nonneg (by omega) (Int.ediv_nonneg ha (by omega))
      show a % pr (ms.drop k) ≤ a
      omega
  exact Int.le_trans (Int.ediv_le_self _ r0) r1
theorem words_sum (n : Int) (ms : List Int) (ws : List Str) : ∀ i : Nat, (∀ k, k < i → (wd (part n ms k) (ws.getD k Str.empty)).length ≤ 26) → ((wordsOf n ms ws i).map (·.length)).sum ≤ 26 * i
  | 0, _ => by simp [wordsOf]
  | i + 1, h => by
    have ih := words_sum n ms ws i fun k hk => h k (by omega)
    have hi := h i (by omega)
    rw [words_next, List.map_append, List.sum_append]
    split
    · simp only [List.map_cons, List.map_nil, List.sum_cons, List.sum_nil]; omega
    · simp only [List.map_nil, List.sum_nil]; omega
end Ck
set_option Elab.async false
set_option linter.all false
set_option maxRecDepth 100000
set_option maxHeartbeats 4000000
namespace L2
open PySem PySem.Spec PyProof.Rows
structure FunD (K : PySem.W.Frag) (x qual : Str) (st : Stmt) (f : Addr) (fd : FuncData) (ds : List Value) : Prop where
  ex : ∃ (oc : Value) (od : Option Addr) (kV doc pm : Value) (an : Option Addr) (cdv ct : Value) (osl : Array (Option Value)) (T : Addr) (oT : Value) (dT : Option Addr) (nT : Nat) (sT : Array (Option Value)),
    fd = PySem.W.fnOf x qual (defArgs st) (defBody st) (defScope st) (.ref T) kV doc pm an cdv ct ∧ K.lookup f = some ⟨oc, od, .func fd, osl⟩ ∧ PySem.W.codeIn K cdv qual = true ∧ K.lookup T = some ⟨oT, dT, .seq ds.toArray nT, sT⟩
  kp : PySem.W.keepIn K (.ref f) = true
section
variable {P : Program} {w : World} {K : PySem.W.Frag} {mg : Str → Option Value} {base : Heap}
theorem FunD.okQ {x qual : Str} {st : Stmt} {f : Addr} {fd : FuncData} {ds : List Value} {N ps : List Str} {k : Nat} {sp : Sp} (F : FunD K x qual st f fd ds) (S : FnScope N ps (defScope st)) (len : ∀ vs H Q E, sp vs H Q E → vs.length = ps.length)
    (hbody : ∀ (cdv : Value) (A : Around) (outer : List Env) (s : Shared) (H : Hp) (vs : List V) (Q : VK) (E : XK), Room k (A.deeper (envOfC qual (defScope st) s.heap.objs.size f cdv)) → sp vs H Q E →
      ∃ t, QSs (cxOf CX0 P w K mg base N qual (defScope st) f cdv A outer s H E).nox (defBody st) t ∧ t { nx := fun _ H' => Q .non H', rt := Q } (start N vs) H) : FnOk P w K mg base CX0 (k + 1) f fd ps sp := by
  obtain ⟨oc, od, kV, doc, pm, an, cdv, ct, osl, T, oT, dT, nT, sT, rfl, lk, hcd, _⟩ := F.ex
  refine fn_of lk hcd S len fun A outer s H vs Q E hr hsp => ?_
  obtain ⟨t, h, q⟩ := hbody cdv A outer s H vs Q E hr hsp
  exact ⟨t, h.h.nox, q⟩
theorem FunD.okX {x qual : Str} {st : Stmt} {f : Addr} {fd : FuncData} {ds : List Value} {N ps : List Str} {k : Nat} {sp : Sp} (F : FunD K x qual st f fd ds) (S : FnScope N ps (defScope st)) (len : ∀ vs H Q E, sp vs H Q E → vs.length = ps.length)
    (hbody : ∀ (cdv : Value) (A : Around) (outer : List Env) (s : Shared) (H : Hp) (vs : List V) (Q : VK) (E : XK), Room k (A.deeper (envOfC qual (defScope st) s.heap.objs.size f cdv)) → sp vs H Q E →
      XOk (cxOf (CX1 P w) P w K mg base N qual (defScope st) f cdv A outer s H E) E →
      ∃ t, QSs (cxOf (CX1 P w) P w K mg base N qual (defScope st) f cdv A outer s H E) (defBody st) t ∧ t { nx := fun _ H' => Q .non H', rt := Q } (start N vs) H) : FnOk P w K mg base (CX1 P w) (k + 1) f fd ps sp := by
  obtain ⟨oc, od, kV, doc, pm, an, cdv, ct, osl, T, oT, dT, nT, sT, rfl, lk, hcd, _⟩ := F.ex
  refine fn_of lk hcd S len fun A outer s H vs Q E hr hsp => ?_
  obtain ⟨t, h, q⟩ := hbody cdv A outer s H vs Q E hr hsp ⟨rfl, rfl, rfl, rfl, rfl⟩
  exact ⟨t, h.h, q⟩
theorem FunD.binds {x qual : Str} {st : Stmt} {f : Addr} {fd : FuncData} {ds : List Value} {ps : List Str} (F : FunD K x qual st f fd ds)
    (h : ∀ (T : Addr) (kV doc pm : Value) (an : Option Addr) (cdv ct : Value) (us : List Value), us.length = ps.length →
      ∃ k, bindArgs (PySem.W.fnOf x qual (defArgs st) (defBody st) (defScope st) (.ref T) kV doc pm an cdv ct) ⟨us, []⟩ = seqItems? (.ref T) >>= k ∧ k (some ds.toArray) = pure (ps.zip us)) : Binds K fd ps [] := by
  obtain ⟨oc, od, kV, doc, pm, an, cdv, ct, osl, T, oT, dT, nT, sT, rfl, lk, hcd, lT⟩ := F.ex
  intro s us X hl
  rw [List.append_nil] at hl ⊢
  obtain ⟨k, h1, h2⟩ := h T kV doc pm an cdv ct us hl
  exact BindsTo.of_defaults (T := T) rfl (X _ _ lT) rfl h1 h2
end
end L2
set_option Elab.async false
set_option linter.all false
set_option maxRecDepth 100000
set_option maxHeartbeats 4000000
namespace Ck
open PySem L2
abbrev CRow := Str × Str × Int × Int
def rowVs (r : CRow) : List V := [.str r.1, .str r.2.1, .int r.2.2.1, .int r.2.2.2]
structure RowsAt (H : Hp) (rs : List Addr) (rows : List CRow) : Prop where
  len : rs.length = rows.length
  at_ : ∀ (i : Nat) (r : Addr), rs[i]? = some r → ∃ u, rows[i]? = some u ∧ H r = some (.tup (rowVs u))
theorem RowsAt.mono {H H' : Hp} {rs : List Addr} {rows : List CRow} (u : RowsAt H rs rows) (t : Tups H H') : RowsAt H' rs rows :=
  ⟨u.len, fun i r h => let ⟨x, hx, e⟩ := u.at_ i r h; ⟨x, hx, t _ _ e⟩⟩
theorem RowsAt.nil (H : Hp) : RowsAt H [] [] := ⟨rfl, fun i r h => by simp at h⟩
theorem RowsAt.snoc {H : Hp} {rs : List Addr} {rows : List CRow} {r : Addr} {x : CRow} (u : RowsAt H rs rows) (h : H r = some (.tup (rowVs x))) : RowsAt H (rs ++ [r]) (rows ++ [x]) := by
  refine ⟨by rw [List.length_append, List.length_append, u.len]; rfl, fun i q hq => ?_⟩
  rw [List.getElem?_append] at hq ⊢
  by_cases hi : i < rs.length
  · rw [if_pos hi] at hq
    rw [if_pos (by rw [← u.len]; exact hi)]
    exact u.at_ i q hq
  · rw [if_neg hi] at hq
    rw [if_neg (by rw [← u.len]; exact hi), ← u.len]
    have e : i - rs.length = 0 := by
      have := (List.getElem?_eq_some_iff.mp hq).1
      simp at this; omega
    rw [e] at hq ⊢
    cases hq
    exact ⟨_, rfl, h⟩
theorem RowsAt.take {H : Hp} {rs : List Addr} {rows : List CRow} (u : RowsAt H rs rows) (n : Nat) : RowsAt H (rs.take n) (rows.take n) := by
  refine ⟨by rw [List.length_take, List.length_take, u.len], fun i q hq => ?_⟩
  rw [List.getElem?_take] at hq ⊢
  by_cases hi : i < n
  · rw [if_pos hi] at hq ⊢
    exact u.at_ i q hq
  · rw [if_neg hi] at hq
    cases hq
def lastFor (rows : List CRow) (t k : Str) (d : Int) : Option Int := rows.foldl (fun acc r => if r.1 = t ∧ r.2.1 = k ∧ r.2.2.1 = d then some r.2.2.2 else acc) none
theorem lastFor_snoc (rows : List CRow) (r : CRow) (t k : Str) (d : Int) : lastFor (rows ++ [r]) t k d = if r.1 = t ∧ r.2.1 = k ∧ r.2.2.1 = d then some r.2.2.2 else lastFor rows t k d := by
  unfold lastFor
  rw [List.foldl_append]
  rfl
structure DOf (kvs : List (Key × V)) (rows : List CRow) (t k : Str) : Prop where
  ks : ∀ p ∈ kvs, ∃ d : Int, p.1 = .inl d
  vs : ∀ d : Int, valV kvs (.inl d) = (lastFor rows t k d).map V.int
  len : kvs.length ≤ rows.length
theorem DOf.nil (t k : Str) : DOf [] [] t k := ⟨fun p h => by simp at h, fun d => rfl, Nat.le_refl _⟩
theorem putK_keys {kvs : List (Key × V)} {d : Int} {v : V} (h : ∀ p ∈ kvs, ∃ d : Int, p.1 = .inl d) : ∀ p ∈ putK kvs (.inl d) v, ∃ d : Int, p.1 = .inl d := by
  intro p hp
  unfold putK at hp
  split at hp
  · obtain ⟨q, hq, rfl⟩ := List.mem_map.mp hp
    split
    · exact h q hq
    · exact h q hq
  · rcases List.mem_append.mp hp with z | z
    · exact h p z
    · rw [List.mem_singleton.mp z]; exact ⟨d, rfl⟩
theorem DOf.put {kvs : List (Key × V)} {rows : List CRow} {t k : Str} (D : DOf kvs rows t k) (r : CRow) (h1 : r.1 = t) (h2 : r.2.1 = k) : DOf (putK kvs (.inl r.2.2.1) (.int r.2.2.2)) (rows ++ [r]) t k := by
  refine ⟨putK_keys D.ks, fun d => ?_, ?_⟩
  · rw [valV_put, lastFor_snoc]
    by_cases e : r.2.2.1 = d
    · rw [if_pos (by rw [e]), if_pos ⟨h1, h2, e⟩]; rfl
    · rw [if_neg (fun z => e (by injection z with z; exact z.symm)), if_neg (fun z => e z.2.2)]
      exact D.vs d
  · have := length_putK kvs (.inl r.2.2.1) (.int r.2.2.2)
    have := D.len
    rw [List.length_append]
    simp only [List.length_cons, List.length_nil]
    omega
theorem DOf.skip {kvs : List (Key × V)} {rows : List CRow} {t k : Str} (D : DOf kvs rows t k) (r : CRow) (h : ¬ (r.1 = t ∧ r.2.1 = k)) : DOf kvs (rows ++ [r]) t k := by
  refine ⟨D.ks, fun d => ?_, ?_⟩
  · rw [lastFor_snoc, if_neg (fun z => h ⟨z.1, z.2.1⟩)]
    exact D.vs d
  · have := D.len
    rw [List.length_append]; omega
def IsWorth (rows : List CRow) (t k : Str) (day r : Int) : Prop :=
  (∃ d, d ≤ day ∧ lastFor rows t k d = some r ∧ ∀ d', d' ≤ day → (lastFor rows t k d').isSome = true → d' ≤ d) ∨ (r = 0 ∧ ∀ d', d' ≤ day → lastFor rows t k d' = none)
def dayOf : Key × V → Int
  | (.inl d, _) => d
  | (.inr _, _) => 0
def daysTo (kvs : List (Key × V)) (day : Int) : List Int := (kvs.filter fun p => decide (dayOf p ≤ day)).map dayOf
theorem valV_mem {kvs : List (Key × V)} {k : Key} {v : V} (h : valV kvs k = some v) : ∃ p ∈ kvs, p.1 = k := by
  obtain ⟨p, hp, e⟩ := List.mem_map.mp (valV_in h)
  exact ⟨p, hp, e⟩
theorem mem_valV {kvs : List (Key × V)} {p : Key × V} (h : p ∈ kvs) : (valV kvs p.1).isSome = true := by
  rw [← valV_any]
  exact List.any_eq_true.mpr ⟨p, h, decide_eq_true rfl⟩
theorem DOf.days {kvs : List (Key × V)} {rows : List CRow} {t k : Str} (D : DOf kvs rows t k) (day d : Int) : d ∈ daysTo kvs day ↔ d ≤ day ∧ (lastFor rows t k d).isSome = true := by
  unfold daysTo
  rw [List.mem_map]
  constructor
  · rintro ⟨p, hp, rfl⟩
    rw [List.mem_filter, decide_eq_true_eq] at hp
    obtain ⟨e, he⟩ := D.ks p hp.1
    have z := mem_valV hp.1
    have hd : dayOf p = e := by
      obtain ⟨a, b⟩ := p
      cases he
      rfl
    rw [he, D.vs, Option.isSome_map] at z
    rw [hd] at hp ⊢
    exact ⟨hp.2, z⟩
  · rintro ⟨h1, h2⟩
    have z : (valV kvs (.inl d)).isSome = true := by rw [D.vs, Option.isSome_map]; exact h2
    obtain ⟨v, hv⟩ := Option.isSome_iff_exists.mp z
    obtain ⟨p, hp, e⟩ := valV_mem hv
    have hd : dayOf p = d := by
      obtain ⟨a, b⟩ := p
      cases e
      rfl
    exact ⟨p, List.mem_filter.mpr ⟨hp, decide_eq_true (by rw [hd]; exact h1)⟩, hd⟩
theorem DOf.none {kvs : List (Key × V)} {rows : List CRow} {t k : Str} (D : DOf kvs rows t k) {day : Int} (h : daysTo kvs day = []) : IsWorth rows t k day 0 := by
  refine .inr ⟨rfl, fun d' l => ?_⟩
  cases e : lastFor rows t k d' with
  | none => rfl
  | some r =>
    have z := (D.days day d').mpr ⟨l, by rw [e]; rfl⟩
    rw [h] at z
    cases z
def CallsAt (C : Addr) (H : Hp) (x L : Addr) (rows : List CRow) : Prop := ∃ (dx : Addr) (rs : List Addr), H x = some (.ins C dx [("rows", .ref L)]) ∧ H L = some (.lst (rs.map V.ref)) ∧ RowsAt H rs rows
theorem CallsAt.same {C : Addr} {H H' : Hp} {x L : Addr} {rows : List CRow} (c : CallsAt C H x L rows) (s : Same H H') : CallsAt C H' x L rows := by
  obtain ⟨dx, rs, h1, h2, h3⟩ := c
  exact ⟨dx, rs, s _ _ h1, s _ _ h2, h3.mono (.same s)⟩
theorem CallsAt.keep {C : Addr} {H H' : Hp} {x L d : Addr} {rows : List CRow} {xs : List V} (c : CallsAt C H x L rows) (k : Keep d H H') (hd : H d = some (.lst xs)) (nL : L ≠ d) : CallsAt C H' x L rows := by
  obtain ⟨dx, rs, h1, h2, h3⟩ := c
  refine ⟨dx, rs, k _ _ h1 fun e => ?_, k _ _ h2 nL, h3.mono (k.tups hd)⟩
  rw [e, hd] at h1; cases h1
end Ck
namespace Ck
open PySem L2
end Ck
set_option Elab.async false
set_option linter.all false
set_option maxRecDepth 100000
set_option maxHeartbeats 4000000
namespace Ck
open PySem L2
theorem at_last {xs : List V} {v : V} (h : xs.getLast? = some v) : atI xs (-1) = some v := by
  have ne : xs ≠ [] := by rintro rfl; cases h
  have l0 : 0 < xs.length := List.length_pos_iff.mpr ne
  unfold atI ixN
  rw [if_neg (by omega), if_pos (by omega)]
  show xs[((-1 : Int) + (xs.length : Int)).toNat]? = some v
  have e : ((-1 : Int) + (xs.length : Int)).toNat = xs.length - 1 := by omega
  rw [e, ← List.getLast?_eq_getElem?]
  exact h
theorem filtm_yes {α : Type} {ns : List α} {p : α → Bool} {f : α → V} {i : Nat} {n : α} (h : ns[i]? = some n) (hp : p n = true) : ((ns.take (i + 1)).filter p).map f = ((ns.take i).filter p).map f ++ [f n] := by
  rw [List.take_succ, h, List.filter_append, List.map_append]
  show _ ++ List.map f (List.filter p [n]) = _
  rw [List.filter_cons, if_pos hp]; rfl
theorem filtm_no {α : Type} {ns : List α} {p : α → Bool} {f : α → V} {i : Nat} {n : α} (h : ns[i]? = some n) (hp : ¬ p n = true) : ((ns.take (i + 1)).filter p).map f = ((ns.take i).filter p).map f := by
  rw [List.take_succ, h, List.filter_append, List.map_append]
  show _ ++ List.map f (List.filter p [n]) = _
  rw [List.filter_cons, if_neg hp]; simp
theorem filtm_len {α : Type} {ns : List α} {p : α → Bool} {f : α → V} {i : Nat} : (((ns.take i).filter p).map f).length ≤ ns.length := by
  rw [List.length_map]
  have := List.length_filter_le p (ns.take i)
  have := List.length_take_le' i ns
  omega
theorem int_at {ns : List Int} {i : Nat} {x : V} (h : (ns.map V.int)[i]? = some x) : ∃ n, ns[i]? = some n ∧ x = .int n := by
  rw [List.getElem?_map] at h
  cases e : ns[i]? with
  | none => rw [e] at h; cases h
  | some r => rw [e] at h; cases h; exact ⟨r, rfl, rfl⟩
theorem new_at {H : Hp} {p : Addr} {o : HO} (h : H p = none) : (upd H p o) p = some o := upd_same
theorem made_same {H H' : Hp} {x dx : Addr} {o1 o2 : HO} (hx : H x = none) (hdx : H dx = none) (k : Keep x (upd (upd H dx o1) x o2) H') : Same H H' := fun b o e => by
  have nx := ne_of_none e hx
  refine k b o ?_ nx
  rw [upd_ne nx, upd_ne (ne_of_none e hdx)]
  exact e
end Ck
set_option Elab.async false
set_option linter.all false
set_option maxRecDepth 100000
set_option maxHeartbeats 4000000
namespace L2
open PySem PySem.Spec PyProof.Rows Builtin
section
variable {X : Cx} {CX : CXT} {k n l : Nat} {f C : Addr} {fd : FuncData} {ps ks : List Str} {sp : Sp} {E : XK} {x m : Str} {p pos apos kpos : Pos} {e o : Expr} {es : List Expr} {kws : List Keyword} {te ta : TE} {t tk : TA} {nm : Option Str}
structure QK (X : Cx) (kws : List Keyword) (t : TA) : Prop where
  h : PK X kws t
end
end L2
namespace Ck
open PySem L2
end Ck
set_option Elab.async false
set_option linter.all false
set_option maxRecDepth 100000
set_option maxHeartbeats 4000000
namespace HT
open PySem PySem.Spec PyProof.Rows
end HT
namespace L2
open PySem PySem.Spec PyProof.Rows
end L2
set_option Elab.async false
set_option linter.all false
set_option maxRecDepth 100000
set_option maxHeartbeats 4000000
namespace L2
open PySem PySem.Spec PyProof.Rows
theorem rep_size (c : Array Nat) : ∀ (n : Nat) (acc : Array Nat), ((List.replicate n c).foldl (· ++ ·) acc).size = acc.size + n * c.size
  | 0, acc => by simp
  | n + 1, acc => by
    rw [List.replicate_succ, List.foldl_cons, rep_size c n (acc ++ c), Array.size_append, Nat.succ_mul]
    omega
end L2
set_option Elab.async false
set_option linter.all false
set_option maxRecDepth 100000
set_option maxHeartbeats 4000000
namespace PySem
abbrev Ris (l : List Nat) : Prop := l.Pairwise (· < ·)
theorem belowGo_spec (xs : Array Nat) (j : Nat) (hR : Ris xs.toList) : ∀ (fuel lo hi : Nat), lo ≤ hi → hi ≤ xs.size → hi - lo ≤ fuel →
    (∀ i v, i < lo → xs.toList[i]? = some v → v < j) → (∀ i v, hi ≤ i → xs.toList[i]? = some v → j ≤ v) →
    ∃ r, SetTable.below.go xs j fuel lo hi = r ∧ r ≤ xs.size ∧ (∀ i v, i < r → xs.toList[i]? = some v → v < j) ∧ (∀ i v, r ≤ i → xs.toList[i]? = some v → j ≤ v) := by
  intro fuel
  induction fuel with
  | zero =>
    intro lo hi h1 h2 h3 a b
    have e : lo = hi := by omega
    subst e
    exact ⟨lo, rfl, h2, a, b⟩
  | succ n ih =>
    intro lo hi h1 h2 h3 a b
    unfold SetTable.below.go
    by_cases hl : lo < hi
    · rw [if_pos hl]
      dsimp only
      have hm : (lo + hi) / 2 < xs.size := by omega
      have hm1 : (lo + hi) / 2 < hi := by omega
      have hm0 : lo ≤ (lo + hi) / 2 := by omega
      generalize (lo + hi) / 2 = m at hm hm1 hm0 ⊢
      have hg : xs.toList[m]? = some xs[m] := by rw [Array.getElem?_toList]; exact Array.getElem?_eq_getElem hm
      have hgd : xs.getD m j = xs[m] := by simp [Array.getD, hm]
      rw [hgd]
      have mono : ∀ i k v u, i < k → xs.toList[i]? = some v → xs.toList[k]? = some u → v < u := fun i k v u hik hv hu => by
        obtain ⟨hi', ev⟩ := List.getElem?_eq_some_iff.mp hv
        obtain ⟨hk', eu⟩ := List.getElem?_eq_some_iff.mp hu
        rw [← ev, ← eu]
        exact List.pairwise_iff_getElem.mp hR i k hi' hk' hik
      by_cases hc : xs[m] < j
      · rw [if_pos hc]
        refine ih (m + 1) hi (by omega) h2 (by omega) (fun i v hi' hv => ?_) b
        by_cases e : i = m
        · subst e; rw [hg] at hv; cases hv; exact hc
        · exact Nat.lt_trans (mono i m v _ (by omega) hv hg) hc
      · rw [if_neg hc]
        refine ih lo m hm0 (by omega) (by omega) a (fun i v hi' hv => ?_)
        by_cases e : i = m
        · subst e; rw [hg] at hv; cases hv; omega
        · have := mono m i _ v (by omega) hg hv
          omega
    · rw [if_neg hl]
      have e : lo = hi := by omega
      subst e
      exact ⟨lo, rfl, h2, a, b⟩
theorem below_spec (xs : Array Nat) (j : Nat) (hR : Ris xs.toList) :
    ∃ r, SetTable.below xs j = r ∧ r ≤ xs.size ∧ (∀ i v, i < r → xs.toList[i]? = some v → v < j) ∧ (∀ i v, r ≤ i → xs.toList[i]? = some v → j ≤ v) := by
  refine belowGo_spec xs j hR xs.size 0 xs.size (Nat.zero_le _) (Nat.le_refl _) (by omega) (fun i v h => absurd h (Nat.not_lt_zero _)) (fun i v h hv => ?_)
  have := (List.getElem?_eq_some_iff.mp hv).1
  rw [Array.length_toList] at this
  omega
theorem insertAt_toList {α : Type} (xs : Array α) (p : Nat) (x : α) : (SetTable.insertAt xs p x).toList = xs.toList.take p ++ x :: xs.toList.drop p := by
  unfold SetTable.insertAt
  simp [Array.toList_append, Array.toList_push, Array.toList_extract, List.extract]
  exact List.take_of_length_le (by simp)
theorem ris_insert {xs : Array Nat} {j : Nat} (hR : Ris xs.toList) (hj : j ∉ xs.toList) : Ris (SetTable.insertAt xs (SetTable.below xs j) j).toList := by
  obtain ⟨r, e, hr, a, b⟩ := below_spec xs j hR
  rw [e, insertAt_toList]
  have h1 : ∀ v ∈ xs.toList.take r, v < j := fun v hv => by
    obtain ⟨i, hi, ev⟩ := List.getElem_of_mem hv
    rw [List.length_take] at hi
    rw [List.getElem_take] at ev
    exact a i v (by omega) (by rw [List.getElem?_eq_getElem (by omega), ev])
  have h2 : ∀ v ∈ xs.toList.drop r, j < v := fun v hv => by
    obtain ⟨i, hi, ev⟩ := List.getElem_of_mem hv
    rw [List.length_drop] at hi
    rw [List.getElem_drop] at ev
    have z := b (r + i) v (by omega) (by rw [List.getElem?_eq_getElem (by omega), ev])
    have n : j ≠ v := fun q => hj (by rw [q]; exact List.mem_of_mem_drop hv)
    omega
  refine List.pairwise_append.mpr ⟨hR.sublist (List.take_sublist _ _), List.pairwise_cons.mpr ⟨h2, hR.sublist (List.drop_sublist _ _)⟩, fun v hv u hu => ?_⟩
  rcases List.mem_cons.mp hu with rfl | hu
  · exact h1 v hv
  · exact Nat.lt_trans (h1 v hv) (h2 u hu)
structure TOk (L : Bool) (t : SetTable) : Prop where
  led : t.led = L
  dum : t.dummies = #[]
  ris : Ris t.place.toList
theorem TOk.fresh (f m : Nat) (L : Bool) : TOk L (.fresh f m L) := ⟨rfl, rfl, List.Pairwise.nil⟩
theorem TOk.put {L : Bool} {t : SetTable} (T : TOk L t) {j : Nat} (hj : j ∉ t.place.toList) : TOk L (t.put j).1 := by
  refine ⟨T.led, ?_, ris_insert T.ris hj⟩
  unfold SetTable.put
  dsimp only
  rw [T.dum]
  have e : SetTable.has #[] j = false := by unfold SetTable.has; simp
  rw [e]
  rfl
end PySem
set_option Elab.async false
set_option linter.all false
set_option maxRecDepth 100000
set_option maxHeartbeats 4000000
namespace PySem
open PyProof.Rows (SetOf_congr setObjOf_fresh)
def vInt : Value → Int
  | .int n _ => n
  | _ => 0
section
variable {prog : Program} {w : World} {A : Around} {E : Value → Shared → Prop} {s : Shared}
abbrev ledOf (w : World) : Bool := !(w.params.followText "set-order")
structure SetI (prog : Program) (w : World) (h : Heap) (a : Addr) (o : Obj) (es : Array (Int × Value)) (ep : Nat) (t : SetTable) (ns : List Int) : Prop where
  ho : h.get? a = some o
  hx : o.ExactSet
  hd : o.data = .set es ep t
  el : ElemsOf (intKind prog w) es.toList
  pm : (es.toList.map fun e => vInt e.2).Perm ns
  sz : es.size < scanBound
  ft : t.fits es.size = true
  tk : TOk (ledOf w) t
def HasSet (prog : Program) (w : World) (h : Heap) (a : Addr) (ns : List Int) : Prop := ∃ o es ep t, SetI prog w h a o es ep t ns
theorem HasSet.at {h h' : Heap} {a : Addr} {ns : List Int} (x : HasSet prog w h a ns) (k : ∀ o, h.get? a = some o → h'.get? a = some o) : HasSet prog w h' a ns :=
  let ⟨o, es, ep, t, z⟩ := x; ⟨o, es, ep, t, k _ z.ho, z.hx, z.hd, z.el, z.pm, z.sz, z.ft, z.tk⟩
end
end PySem
set_option Elab.async false
set_option linter.all false
set_option maxRecDepth 100000
set_option maxHeartbeats 4000000
namespace PySem
end PySem
set_option Elab.async false
set_option linter.all false
set_option maxRecDepth 100000
set_option maxHeartbeats 4000000
namespace PySem
namespace Fs
end Fs
def SIt (h : Heap) (I : Addr) (f : Value) (i : Nat) (a : Addr) (n ep : Nat) : Prop := ∃ o, h.get? I = some o ∧ o.cls = .type "set_iterator" ∧ o.data = .fields #[f, .int i 0, .ref a, .int n 0, .int ep 0]
theorem SIt.typeIs {s : Shared} {I : Addr} {f : Value} {i : Nat} {a : Addr} {n ep : Nat} (h : SIt s.heap I f i a n ep) : s.TypeIs (.ref I) "set_iterator" := let ⟨o, ho, hc, _⟩ := h; ⟨o, ho, hc⟩
theorem SIt.at {h h' : Heap} {I : Addr} {f : Value} {i : Nat} {a : Addr} {n ep : Nat} (x : SIt h I f i a n ep) (e : ∀ o, h.get? I = some o → h'.get? I = some o) : SIt h' I f i a n ep := let ⟨o, ho, r⟩ := x; ⟨o, e _ ho, r⟩
end PySem
set_option Elab.async false
set_option linter.all false
set_option maxRecDepth 100000
set_option maxHeartbeats 4000000
namespace PySem
end PySem
set_option Elab.async false
set_option linter.all false
set_option maxRecDepth 100000
set_option maxHeartbeats 4000000
namespace PySem
end PySem
set_option Elab.async false
set_option linter.all false
set_option maxRecDepth 100000
set_option maxHeartbeats 4000000
namespace PySem
open PySem.Calls PyProof.Rows PyProof.V PySem.Spec
structure Lft (s s' : Shared) : Prop where
  os : s'.os = s.os
  gens : s'.gens = s.gens
  keep : ∀ b o, s.heap.get? b = some o → s'.heap.get? b = some o
end PySem
namespace L2
open PySem PySem.Spec PyProof.Rows
end L2
set_option Elab.async false
set_option linter.all false
set_option maxRecDepth 100000
set_option maxHeartbeats 4000000
namespace Ck
open PySem L2
structure TA {α : Type} (f : α → List V) (H : Hp) (rs : List Addr) (xs : List α) : Prop where
  len : rs.length = xs.length
  at_ : ∀ (i : Nat) (r : Addr), rs[i]? = some r → ∃ u, xs[i]? = some u ∧ H r = some (.tup (f u))
section
variable {α : Type} {f : α → List V} {H H' : Hp} {rs : List Addr} {xs : List α}
theorem TA.mono (u : TA f H rs xs) (t : Tups H H') : TA f H' rs xs := ⟨u.len, fun i r h => let ⟨x, hx, e⟩ := u.at_ i r h; ⟨x, hx, t _ _ e⟩⟩
theorem TA.nil (f : α → List V) (H : Hp) : TA f H [] [] := ⟨rfl, fun i r h => by simp at h⟩
theorem TA.snoc {r : Addr} {x : α} (u : TA f H rs xs) (h : H r = some (.tup (f x))) : TA f H (rs ++ [r]) (xs ++ [x]) := by
  refine ⟨by rw [List.length_append, List.length_append, u.len]; rfl, fun i q hq => ?_⟩
  rw [List.getElem?_append] at hq ⊢
  by_cases hi : i < rs.length
  · rw [if_pos hi] at hq
    rw [if_pos (by rw [← u.len]; exact hi)]
    exact u.at_ i q hq
  · rw [if_neg hi] at hq
    rw [if_neg (by rw [← u.len]; exact hi), ← u.len]
    have e : i - rs.length = 0 := by
      have := (List.getElem?_eq_some_iff.mp hq).1
      simp at this; omega
    rw [e] at hq ⊢
    cases hq
    exact ⟨_, rfl, h⟩
theorem TA.dp {K : PySem.W.Frag} {g : α → PyData} (hg : ∀ (x : α) (p : Addr), H p = some (.tup (f x)) → Dp K H (.ref p) (g x)) : ∀ {rs : List Addr} {xs : List α}, TA f H rs xs → DpAll K H (rs.map V.ref) (xs.map g)
  | [], [], _ => .nil
  | [], _ :: _, u => by have := u.len; cases this
  | _ :: _, [], u => by have := u.len; cases this
  | r :: rs, x :: xs, u => by
    obtain ⟨y, hy, e⟩ := u.at_ 0 r rfl
    cases hy
    exact .cons (hg _ _ e) (TA.dp hg ⟨by simpa using u.len, fun i q hq => u.at_ (i + 1) q (by simpa using hq)⟩)
end
abbrev prV (u : Int × Int) : List V := [.int u.1, .int u.2]
def prD (u : Int × Int) : PyData := .tuple [.int u.1, .int u.2]
theorem dp_pr {K : PySem.W.Frag} {H : Hp} (x : Int × Int) (p : Addr) (h : H p = some (.tup (prV x))) : Dp K H (.ref p) (prD x) := .tup (SqT.of h) (.cons (.int _) (.cons (.int _) .nil))
def LPrs (H : Hp) (L : Addr) (ps : List (Int × Int)) : Prop := ∃ rs : List Addr, H L = some (.lst (rs.map V.ref)) ∧ TA prV H rs ps
theorem LPrs.same {H H' : Hp} {L : Addr} {ps : List (Int × Int)} (c : LPrs H L ps) (s : Same H H') : LPrs H' L ps := let ⟨rs, h, r⟩ := c; ⟨rs, s _ _ h, r.mono (.same s)⟩
theorem LPrs.dp {K : PySem.W.Frag} {H : Hp} {L : Addr} {ps : List (Int × Int)} (c : LPrs H L ps) : Dp K H (.ref L) (.list (ps.map prD)) := let ⟨rs, h, r⟩ := c; .lst (SqL.of h) (TA.dp dp_pr r)
theorem LPrs.push {H : Hp} {L p : Addr} {rs : List Addr} {ps : List (Int × Int)} {u : Int × Int} (h : H L = some (.lst (rs.map V.ref))) (ra : TA prV H rs ps) (hp : H p = some (.tup (prV u))) : LPrs (upd H L (.lst (rs.map V.ref ++ [V.ref p]))) L (ps ++ [u]) := by
  have t := Tups.upd (o := .lst (rs.map V.ref ++ [V.ref p])) h
  exact ⟨rs ++ [p], by rw [upd_same, List.map_append]; rfl, (ra.mono t).snoc (t _ _ hp)⟩
abbrev wdOf (rows : List CRow) (t k : Str) (d : Int) : Int := (lastFor rows t k d).getD 0
theorem DOf.at {kvs : List (Key × V)} {rows : List CRow} {t k : Str} (D : DOf kvs rows t k) {x : Int} (h : (lastFor rows t k x).isSome = true) : valV kvs (.inl x) = some (.int (wdOf rows t k x)) := by
  obtain ⟨v, hv⟩ := Option.isSome_iff_exists.mp h
  rw [D.vs, hv]
  unfold wdOf
  rw [hv]; rfl
end Ck
set_option Elab.async false
set_option linter.all false
set_option maxRecDepth 100000
set_option maxHeartbeats 4000000
namespace Ck
open PySem L2
def Lts (x : Str) : Prop := ∀ c ∈ x.cps.toList, c ∈ letters.cps.toList
theorem Lts.app {x y : Str} (hx : Lts x) (hy : Lts y) : Lts (x ++ y) := fun c hc => by
  rw [tl_app] at hc
  exact (List.mem_append.mp hc).elim (hx c) (hy c)
theorem Lts.sub {x y : Str} (hx : Lts x) (h : ∀ c ∈ y.cps.toList, c ∈ x.cps.toList) : Lts y := fun c hc => hx c (h c hc)
theorem Lts.cut {x : Str} (hx : Lts x) (lo hi : Option Int) : Lts (cutS x lo hi) := fun c hc => by
  unfold cutS at hc
  exact hx c (List.mem_of_mem_drop (List.mem_of_mem_take hc))
theorem Lts.sgn {c : Nat} (h : c ∈ letters.cps.toList) : Lts (sgn c) := fun b hb => by
  rw [show b = c by simpa using hb]; exact h
end Ck
set_option Elab.async false
set_option linter.all false
set_option maxRecDepth 100000
set_option maxHeartbeats 4000000
namespace L2
open PySem PySem.Spec PyProof.Rows Builtin
end L2
namespace Ck
open PySem L2
def Keep2 (d e : Addr) (H H' : Hp) : Prop := ∀ b o, H b = some o → b ≠ d → b ≠ e → H' b = some o
theorem Keep2.of {d e : Addr} {H H' : Hp} (k : Keep d H H') : Keep2 d e H H' := fun b o h n _ => k b o h n
theorem Keep2.trans {d e : Addr} {H H1 H2 : Hp} (a : Keep2 d e H H1) (b : Keep2 d e H1 H2) : Keep2 d e H H2 := fun c o h n m => b c o (a c o h n m) n m
theorem Keep2.new {d e : Addr} {H H' : Hp} (k : Keep2 d e H H') (h : H e = none) : Keep d H H' := fun b o hb n => k b o hb n (ne_of_none hb h)
end Ck
set_option Elab.async false
set_option linter.all false
set_option maxRecDepth 100000
set_option maxHeartbeats 4000000
namespace L2
open PySem PySem.Spec PyProof.Rows
end L2
set_option Elab.async false
set_option linter.all false
set_option maxRecDepth 100000
set_option maxHeartbeats 4000000
namespace Ck
open PySem L2
abbrev En := Int × Nat
def ens (c : Nat → Int) (i : Nat) : List En := (List.range i).filterMap fun k => if 0 < c k then some (c k, k) else none
theorem ens_next (c : Nat → Int) (i : Nat) : ens c (i + 1) = ens c i ++ (if 0 < c i then [(c i, i)] else []) := by
  unfold ens
  rw [List.range_succ, List.filterMap_append]
  congr 1
  rw [List.filterMap_cons, List.filterMap_nil]
  split <;> rename_i h <;> split at h <;> simp_all
def toks (ws : List Str) (es : List En) : List Str := es.flatMap fun e => [dig e.1, ws.getD e.2 Str.empty]
def wds (ws : List Str) (es : List En) : List Str := es.map fun e => wd e.1 (ws.getD e.2 Str.empty)
theorem wordsOf_eq (n : Int) (ms : List Int) (ws : List Str) : ∀ i : Nat, wordsOf n ms ws i = wds ws (ens (part n ms) i)
  | 0 => rfl
  | i + 1 => by
    rw [words_next, ens_next, wordsOf_eq n ms ws i]
    unfold wds
    rw [List.map_append]
    split <;> rfl
theorem dig_nat {i : Int} (h : 0 ≤ i) : TL.tl (dig i) = TL.numL i.toNat := by
  have e := TL.tl_num i.toNat
  rw [Int.toNat_of_nonneg h] at e
  exact e
theorem name_free {x : Str} (h : nameOk x = true) : 32 ∉ TL.tl x := fun hm => by
  have := (nameOk_iff.mp h).2.2 32 hm
  revert this
  decide +kernel
structure EnsOk (ws : List Str) (es : List En) : Prop where
  ne : es ≠ []
  len : es.length ≤ 6
  pos : ∀ e ∈ es, 0 < e.1
  most : ∀ e ∈ es, e.1 ≤ 1000000000000000
  nm : ∀ e ∈ es, nameOk (ws.getD e.2 Str.empty) = true
def textC (ws : List Str) (z : Str) (es : List En) : Str := if es.isEmpty then (("0 " : Str) ++ z) else Txt.join " " (wds ws es)
theorem textOf_eq (n : Int) (ms : List Int) (ws : List Str) (z : Str) : textOf n ms ws z = textC ws z (ens (part n ms) ws.length) := by
  unfold textOf textC
  rw [wordsOf_eq]
  unfold wds
  rw [List.isEmpty_map]
theorem part_zero (ms : List Int) (k : Nat) : part 0 ms k = 0 := by
  unfold part
  cases k with
  | zero => show (0 : Int) / _ = 0; exact Int.zero_ediv _
  | succ k => show (0 : Int) % _ / _ = 0; rw [Int.zero_emod, Int.zero_ediv]
theorem ens_zero (c : Nat → Int) : ∀ i : Nat, (∀ k, k < i → c k ≤ 0) → ens c i = []
  | 0, _ => rfl
  | i + 1, h => by rw [ens_next, ens_zero c i fun k hk => h k (by omega), if_neg (by have := h i (by omega); omega)]; rfl
theorem text_zero (ms : List Int) (ws : List Str) (z : Str) : textOf 0 ms ws z = (("0 " : Str) ++ z) := by
  rw [textOf_eq, ens_zero _ _ fun k _ => by rw [part_zero]; exact Int.le_refl 0]; rfl
end Ck
set_option Elab.async false
set_option linter.all false
set_option maxRecDepth 100000
set_option maxHeartbeats 4000000
namespace Ck
open PySem PySem.Spec PyProof.Rows L2
section
variable {P : Program} {w : World} {K : PySem.W.Frag} {mg : Str → Option Value} {base : Heap} {k : Nat} {f : Addr} {fd : FuncData} {ps : List Str}
theorem or1 {CX : CXT} {sp sp' : Sp} (F : FnOk P w K mg base CX k f fd ps sp) (G : FnOk P w K mg base CX k f fd ps sp') : FnOk P w K mg base CX k f fd ps (fun vs H Q E => sp vs H Q E ∨ sp' vs H Q E) :=
  ⟨fun vs H Q E h => h.elim (F.len vs H Q E) (G.len vs H Q E), fun A outer s H args us vs Q E hr he hb hv hs => hs.elim (F.run A outer s H args us vs Q E hr he hb hv) (G.run A outer s H args us vs Q E hr he hb hv)⟩
end
end Ck
set_option Elab.async false
set_option linter.all false
set_option maxRecDepth 100000
set_option maxHeartbeats 4000000
namespace PySem
open PySem.Spec PyProof.Rows
end PySem
namespace L2
open PySem PySem.Spec PyProof.Rows
end L2
set_option Elab.async false
set_option linter.all false
set_option maxRecDepth 100000
set_option maxHeartbeats 4000000
namespace L2
open PySem PySem.Spec PyProof.Rows
section
variable {X : Cx}
theorem mt_indexK {K : PySem.W.Frag} (e : X.K = K) : MtR X "list.index" (rIndex K) := e ▸ mt_index
section
variable {o e : Expr} {es : List Expr} {to : TE} {t : TA} {name : Str} {apos cpos : Pos} {T id : String} {r : V → List V → Hp → VK → Prop} {K : PySem.W.Frag}
theorem q_pe_bmK (ek : X.K = K) (pa : PlainAttrs T) (slot : Slot T name id) (hty : typeOf (.builtin id) = pure (.type "method_descriptor")) (hm : MtR X id r) (ho : QE X o to) (ha : QA X (e :: es) t) (hbase : attributeBase o name X.env (eval o X.env) = eval o X.env := by rfl) (hfew : ((backTo cpos (starEach (e :: es) X.env)).all (fun x => !x.1) && (backToKw cpos (keywordEach [] X.env)).all (fun x => x.1.isSome)
      && decide ((e :: es).length + ([] : List Keyword).length + (if ([] : List Keyword).isEmpty then 0 else 1) < 30)) = true := by rfl) (hline : (apos.endLine == cpos.line) = true := by rfl) (hs : starEach (e :: es) X.env = (false, eval e X.env) :: starEach es X.env := by rfl) (hplain : (backTo cpos (starEach es X.env)).any (·.1) = false := by rfl) : QE X (.Call (.Attribute o name apos) (e :: es) [] cpos) (tBM K T r to t) := by
  subst ek
  exact q_pe_bm pa slot hty hm ho ha hbase hfew hline hs hplain
end
end
end L2
set_option Elab.async false
set_option linter.all false
set_option maxRecDepth 100000
set_option maxHeartbeats 4000000
namespace Ck
open PySem L2
def Lay (n : Nat) (d : PyData) : Prop := PyData.canLay0 d = true ∧ d.depth ≤ n
theorem lays_all {n : Nat} : ∀ {ds : List PyData}, (∀ d ∈ ds, Lay n d) → PyData.canLayAll0 ds = true ∧ PyData.depthAll ds ≤ n
  | [], _ => ⟨rfl, Nat.zero_le _⟩
  | d :: r, h => by
    obtain ⟨a, b⟩ := lays_all (fun x hx => h x (List.mem_cons_of_mem _ hx))
    obtain ⟨c, e⟩ := h d List.mem_cons_self
    simp only [PyData.canLayAll0, PyData.depthAll, a, c, Bool.and_true, true_and]
    omega
theorem Lay.int (i : Int) : Lay 1 (.int i) := ⟨rfl, by simp [PyData.depth]⟩
theorem Lay.bool (i : Bool) : Lay 1 (.bool i) := ⟨rfl, by simp [PyData.depth]⟩
theorem Lay.none : Lay 1 .none := ⟨rfl, by simp [PyData.depth]⟩
theorem Lay.str {x : Str} (h : Okt x) : Lay 1 (.str x) := ⟨by simp only [PyData.canLay0]; exact h.ok, by simp [PyData.depth]⟩
theorem Lay.mono {n m : Nat} {d : PyData} (h : Lay n d) (l : n ≤ m) : Lay m d := ⟨h.1, by have := h.2; omega⟩
theorem Lay.list {n : Nat} {ds : List PyData} (h : ∀ d ∈ ds, Lay n d) : Lay (n + 1) (.list ds) := by
  obtain ⟨a, b⟩ := lays_all h
  refine ⟨by simp only [PyData.canLay0, a], ?_⟩
  simp only [PyData.depth]
  omega
theorem Lay.tuple {n : Nat} {ds : List PyData} (h : ∀ d ∈ ds, Lay n d) : Lay (n + 1) (.tuple ds) := by
  obtain ⟨a, b⟩ := lays_all h
  refine ⟨by simp only [PyData.canLay0, a], ?_⟩
  simp only [PyData.depth]
  omega
theorem Lay.shaped {n : Nat} {d : PyData} (h : Lay n d) (l : n ≤ 64) : SeqAt.shaped d = true := by
  unfold SeqAt.shaped
  rw [Bool.and_eq_true_iff]
  exact ⟨h.1, decide_eq_true (by have := h.2; omega)⟩
theorem Lay.refl {n : Nat} {d : PyData} (h : Lay n d) : PyData.eqv d d = true := PySem.SeqAt.eqv_refl _ h.1
end Ck
set_option Elab.async false
set_option linter.all false
set_option maxRecDepth 100000
set_option maxHeartbeats 4000000
namespace Ck
open PySem L2
end Ck
set_option Elab.async false
set_option linter.all false
set_option maxRecDepth 100000
set_option maxHeartbeats 4000000
namespace PySem
open PySem.Spec PyProof.Rows
end PySem
namespace L2
open PySem PySem.Spec PyProof.Rows
end L2
set_option Elab.async false
set_option linter.all false
set_option maxRecDepth 100000
set_option maxHeartbeats 4000000
namespace L2
open PySem PySem.Spec PyProof.Rows
end L2
set_option Elab.async false
set_option linter.all false
set_option maxRecDepth 100000
set_option maxHeartbeats 4000000
namespace PySem
open PySem.Spec PyProof.Rows L2
end PySem
namespace L2
open PySem PySem.Spec PyProof.Rows
end L2
set_option Elab.async false
set_option linter.all false
set_option maxRecDepth 100000
set_option maxHeartbeats 4000000
namespace PySem
open PySem.Spec PyProof.Rows
end PySem
namespace L2
open PySem PySem.Spec PyProof.Rows
end L2
set_option Elab.async false
set_option linter.all false
set_option maxRecDepth 100000
set_option maxHeartbeats 4000000
namespace L2
open PySem PySem.Spec PyProof.Rows
end L2
set_option Elab.async false
set_option linter.all false
set_option maxRecDepth 100000
set_option maxHeartbeats 4000000
namespace Ck
open PySem PySem.Spec PyProof.Rows L2
end Ck
set_option Elab.async false
set_option linter.all false
set_option maxRecDepth 100000
set_option maxHeartbeats 4000000
namespace L2
open PySem PySem.Spec PyProof.Rows
end L2
set_option Elab.async false
set_option linter.all false
set_option maxRecDepth 100000
set_option maxHeartbeats 4000000
namespace L2
open PySem PySem.Spec PyProof.Rows
end L2
set_option Elab.async false
set_option linter.all false
set_option maxRecDepth 100000
set_option maxHeartbeats 4000000
namespace L2
open PySem PySem.Spec PyProof.Rows
theorem rep_in (c : Array Nat) : ∀ (n : Nat) (acc : Array Nat) (x : Nat), x ∈ ((List.replicate n c).foldl (· ++ ·) acc) → x ∈ acc ∨ x ∈ c
  | 0, acc, x, h => .inl (by simpa using h)
  | n + 1, acc, x, h => by
    rw [List.replicate_succ, List.foldl_cons] at h
    rcases rep_in c n (acc ++ c) x h with z | z
    · exact Array.mem_append.mp z
    · exact .inr z
theorem op_rep_strA {X : Cx} : OpR X (binaryOp .Mult) (fun x y H Q => ∃ (z : Str) (k : Nat), x = .str z ∧ y = .int k ∧ 2 ≤ k ∧ k ≤ 100 ∧ 0 < z.length ∧ z.length ≤ 100 ∧ ∀ z' : Str, z'.length = k * z.length → (∀ c ∈ z'.cps.toList, c ∈ z.cps.toList) → Q (.str z') H) := by
  intro pins s σ H x y v u Q I rx ry h
  obtain ⟨z, k, rfl, rfl, k2, k1, z0, z1, q⟩ := h
  obtain ⟨t, rfl⟩ := rx
  obtain ⟨t', rfl⟩ := ry
  have hl : z.length * k ≤ 100 * 100 := Nat.mul_le_mul z1 k1
  have e1 : (((k : Int) == 1) || z.length == 0) = false := by
    rw [Bool.or_eq_false_iff]
    exact ⟨by rw [beq_eq_false_iff_ne]; omega, by rw [beq_eq_false_iff_ne]; omega⟩
  refine P.mul_str (by rw [decide_eq_false (by omega), decide_eq_false (by omega)]; rfl) (fun _ _ => ?_) (fun _ _ => ?_) ?_
  · have : (100 : Int) ≤ (2 ^ 63 - 1) / (k : Int) := by
      rw [Int.le_ediv_iff_mul_le (by omega)]
      omega
    omega
  · rw [Int.toNat_natCast]
    show decide (z.length * k > sizeLine) = false
    first | (rw [decide_eq_false]; rw [sizeLine_eq]; omega) | (simp only [decide_eq_false_iff_not]; rw [sizeLine_eq]; omega) | (rw [sizeLine_eq]; simp; omega)
  · rw [if_neg (by omega), if_neg (by rw [e1]; decide)]
    have es : Str.length ⟨(List.replicate (k : Int).toNat z.cps).foldl (· ++ ·) #[]⟩ = k * z.length := by
      show ((List.replicate (k : Int).toNat z.cps).foldl (· ++ ·) #[]).size = _
      rw [rep_size, Int.toNat_natCast]
      show 0 + k * z.cps.size = k * z.cps.size
      omega
    refine ⟨?_, .str _, H, I.tok _, ⟨_, rfl⟩, q _ es fun c hc => ?_⟩
    rotate_left
    · have hc : c ∈ ((List.replicate (k : Int).toNat z.cps).foldl (· ++ ·) #[]) := Array.mem_toList_iff.mp hc
      rcases rep_in _ _ _ _ hc with y | y
      · simp at y
      · exact Array.mem_toList_iff.mpr y
    rw [es, sizeLine_eq, Nat.mul_comm]
    omega
end L2
set_option Elab.async false
set_option linter.all false
set_option maxRecDepth 100000
set_option maxHeartbeats 4000000
namespace Ck
open PySem L2
theorem lc_revT {K : PySem.W.Frag} {a : Addr} {xs : List V} {g : TG} {tt : TT} {te : TE} {vs : List Nat} {σ : St} {H1 : Hp} {D : Addr} {Qd : Hp → Prop} (Pv : Nat → Hp → Prop) (h0 : Pv 0 (upd H1 D (.lst []))) (hl : ∀ i H, i ≤ xs.length → Pv i H → SqT K H a xs)
    (hs : ∀ i x H, i < xs.length → xs[xs.length - 1 - i]? = some x → Pv i H → g x (wipe σ vs) H fun σ2 H2 => wipe σ2 vs = wipe σ vs ∧ tt σ2 H2 fun b H3 =>
      if b = true then te σ2 H3 fun y H4 => ∃ acc, H4 D = some (.lst acc) ∧ acc.length < sizeLine ∧ Pv (i + 1) (upd H4 D (.lst (acc ++ [y]))) else Pv (i + 1) H3) (hd : ∀ H, Pv xs.length H → Qd H) :
    ∃ W : Nat → Nat → Hp → Prop, (∃ m, W 0 m (upd H1 D (.lst []))) ∧ ∀ i m H, W i m H →
      ((Itw K a xs.length).stop i H ∧ Qd H) ∨ ((Itw K a xs.length).go i H ∧ ∃ Nx : Hp → Prop, (∀ H', Nx H' → ∃ m', m' < m ∧ W (i + 1) m' H') ∧ ∀ x H', (Itw K a xs.length).yld i H x H' → g x (wipe σ vs) H' fun σ2 H2 => wipe σ2 vs = wipe σ vs ∧ tt σ2 H2 fun b H3 =>
        if b = true then te σ2 H3 fun y H4 => ∃ acc, H4 D = some (.lst acc) ∧ acc.length < sizeLine ∧ Nx (upd H4 D (.lst (acc ++ [y]))) else Nx H3) := by
  refine ⟨fun i m H => m = xs.length - i ∧ i ≤ xs.length ∧ Pv i H, ⟨xs.length, by simp, Nat.zero_le _, h0⟩, ?_⟩
  rintro i m H ⟨rfl, hi, p⟩
  have q := hl i H hi p
  by_cases hlt : i < xs.length
  · refine .inr ⟨⟨hlt, xs, xs[xs.length - 1 - i], q, List.getElem?_eq_getElem (by omega)⟩, Pv (i + 1), fun H' p' => ⟨xs.length - (i + 1), by omega, rfl, hlt, p'⟩, fun x H' y => ?_⟩
    obtain ⟨e, y⟩ := y
    subst e
    exact hs i x _ hlt (y xs q) p
  · have e : i = xs.length := by omega
    subst e
    exact .inl ⟨Nat.le_refl _, hd H p⟩
end Ck
set_option Elab.async false
set_option linter.all false
set_option pp.maxSteps 1500
set_option maxRecDepth 100000
set_option maxHeartbeats 4000000
namespace Ck
open PySem L2
def top (i : Nat) : Stmt := PySem.Challenge.pw_callcoin_k06_texts_read_or_refused.main.body.getD i (.Pass ⟨0, 0, 0, 0⟩)
abbrev s_is_made_of : Stmt := top 28
theorem sc_is_made_of : FnScope ["text", "signs", "sign"] ["text", "signs"] (defScope s_is_made_of) := ⟨rfl, rfl, rfl, by decide +kernel, rfl, by decide +kernel, by decide +kernel⟩
abbrev s_is_word : Stmt := top 29
theorem sc_is_word : FnScope ["text"] ["text"] (defScope s_is_word) := ⟨rfl, rfl, rfl, by decide +kernel, rfl, by decide +kernel, by decide +kernel⟩
abbrev s_is_name : Stmt := top 30
theorem sc_is_name : FnScope ["text"] ["text"] (defScope s_is_name) := ⟨rfl, rfl, rfl, by decide +kernel, rfl, by decide +kernel, by decide +kernel⟩
abbrev s_is_figures : Stmt := top 31
theorem sc_is_figures : FnScope ["text"] ["text"] (defScope s_is_figures) := ⟨rfl, rfl, rfl, by decide +kernel, rfl, by decide +kernel, by decide +kernel⟩
abbrev s_is_number : Stmt := top 32
theorem sc_is_number : FnScope ["number"] ["number"] (defScope s_is_number) := ⟨rfl, rfl, rfl, by decide +kernel, rfl, by decide +kernel, by decide +kernel⟩
abbrev s_is_within : Stmt := top 33
theorem sc_is_within : FnScope ["number", "least", "most"] ["number", "least", "most"] (defScope s_is_within) := ⟨rfl, rfl, rfl, by decide +kernel, rfl, by decide +kernel, by decide +kernel⟩
abbrev s_is_amount : Stmt := top 34
theorem sc_is_amount : FnScope ["number"] ["number"] (defScope s_is_amount) := ⟨rfl, rfl, rfl, by decide +kernel, rfl, by decide +kernel, by decide +kernel⟩
abbrev s_check_units : Stmt := top 39
theorem sc_check_units : FnScope ["units", "names", "name", "many"] ["units"] (defScope s_check_units) := ⟨rfl, rfl, rfl, by decide +kernel, rfl, by decide +kernel, by decide +kernel⟩
abbrev s_unit_sizes : Stmt := top 40
theorem sc_unit_sizes : FnScope ["units", "sizes", "name", "many"] ["units"] (defScope s_unit_sizes) := ⟨rfl, rfl, rfl, by decide +kernel, rfl, by decide +kernel, by decide +kernel⟩
abbrev s_read_pairs : Stmt := top 41
theorem sc_read_pairs : FnScope ["text", "words", "pairs", "figures", "name"] ["text"] (defScope s_read_pairs) := ⟨rfl, rfl, rfl, by decide +kernel, rfl, by decide +kernel, by decide +kernel⟩
abbrev s_Money_init : Stmt := inClass (top 42) 0
theorem sc_Money_init : FnScope ["self", "units", "own_units", "at", "name", "many"] ["self", "units"] (defScope s_Money_init) := ⟨rfl, rfl, rfl, by decide +kernel, rfl, by decide +kernel, by decide +kernel⟩
abbrev s_Money_parts : Stmt := inClass (top 42) 1
theorem sc_Money_parts : FnScope ["self", "amount", "parts", "rest", "size", "many"] ["self", "amount"] (defScope s_Money_parts) := ⟨rfl, rfl, rfl, by decide +kernel, rfl, by decide +kernel, by decide +kernel⟩
abbrev s_Money_text : Stmt := inClass (top 42) 2
theorem sc_Money_text : FnScope ["self", "amount", "names", "written", "name", "many"] ["self", "amount"] (defScope s_Money_text) := ⟨rfl, rfl, rfl, by decide +kernel, rfl, by decide +kernel, by decide +kernel⟩
abbrev s_Money_amount : Stmt := inClass (top 42) 3
theorem sc_Money_amount : FnScope ["self", "text", "total", "next_place", "many", "name", "place"] ["self", "text"] (defScope s_Money_amount) := ⟨rfl, rfl, rfl, by decide +kernel, rfl, by decide +kernel, by decide +kernel⟩
abbrev s_l_mixed : Stmt := top 44
theorem sc_l_mixed : FnScope ["_law_cell", "_law_k", "_law_mix"] ["_law_cell", "_law_k"] (defScope s_l_mixed) := ⟨rfl, rfl, rfl, by decide +kernel, rfl, by decide +kernel, by decide +kernel⟩
abbrev s_l_next : Stmt := top 45
theorem sc_l_next : FnScope ["_law_draw", "_law_size", "_law_at", "_law_many", "_law_cell"] ["_law_draw", "_law_size"] (defScope s_l_next) := ⟨rfl, rfl, rfl, by decide +kernel, rfl, by decide +kernel, by decide +kernel⟩
abbrev s_l_pick : Stmt := top 46
theorem sc_l_pick : FnScope ["_law_draw", "_law_some"] ["_law_draw", "_law_some"] (defScope s_l_pick) := ⟨rfl, rfl, rfl, by decide +kernel, rfl, by decide +kernel, by decide +kernel⟩
abbrev s_l_word : Stmt := top 47
theorem sc_l_word : FnScope ["_law_draw", "_law_some", "_law_word_here", "_law_k"] ["_law_draw"] (defScope s_l_word) := ⟨rfl, rfl, rfl, by decide +kernel, rfl, by decide +kernel, by decide +kernel⟩
abbrev s_l_words : Stmt := top 48
theorem sc_l_words : FnScope ["_law_draw", "_law_many", "_law_found", "_law_k", "_law_word_here", "_law_sign"] ["_law_draw", "_law_many"] (defScope s_l_words) := ⟨rfl, rfl, rfl, by decide +kernel, rfl, by decide +kernel, by decide +kernel⟩
abbrev s_l_signs : Stmt := top 49
theorem sc_l_signs : FnScope ["_law_some"] [] (defScope s_l_signs) := ⟨rfl, rfl, rfl, by decide +kernel, rfl, by decide +kernel, by decide +kernel⟩
abbrev s_l_units : Stmt := top 50
theorem sc_l_units : FnScope ["_law_draw", "_law_found", "_law_name"] ["_law_draw"] (defScope s_l_units) := ⟨rfl, rfl, rfl, by decide +kernel, rfl, by decide +kernel, by decide +kernel⟩
abbrev s_l_sizes : Stmt := top 51
theorem sc_l_sizes : FnScope ["_law_units_here", "_law_found", "_law_name", "_law_many"] ["_law_units_here"] (defScope s_l_sizes) := ⟨rfl, rfl, rfl, by decide +kernel, rfl, by decide +kernel, by decide +kernel⟩
abbrev s_l_counts : Stmt := top 52
theorem sc_l_counts : FnScope ["_law_draw", "_law_units_here", "_law_far", "_law_found", "_law_size", "_law_unit"] ["_law_draw", "_law_units_here"] (defScope s_l_counts) := ⟨rfl, rfl, rfl, by decide +kernel, rfl, by decide +kernel, by decide +kernel⟩
abbrev s_l_bent : Stmt := top 53
theorem sc_l_bent : FnScope ["_law_draw", "_law_words_here", "_law_units_here", "_law_way", "_law_at", "_law_names", "_law_some", "_law_turned", "_law_name", "_law_many"] ["_law_draw", "_law_words_here", "_law_units_here"] (defScope s_l_bent) := ⟨rfl, rfl, rfl, by decide +kernel, rfl, by decide +kernel, by decide +kernel⟩
abbrev s_l_text : Stmt := top 54
theorem sc_l_text : FnScope ["_law_draw", "_law_units_here", "_law_times", "_law_sign", "_law_words_here", "_law_count", "_law_name", "_law_many", "_law_time", "_law_text_here", "_law_at", "_law_put"] ["_law_draw", "_law_units_here"] (defScope s_l_text) := ⟨rfl, rfl, rfl, by decide +kernel, rfl, by decide +kernel, by decide +kernel⟩
abbrev s_l_figures : Stmt := top 55
theorem sc_l_figures : FnScope ["_law_word_here", "_law_sign"] ["_law_word_here"] (defScope s_l_figures) := ⟨rfl, rfl, rfl, by decide +kernel, rfl, by decide +kernel, by decide +kernel⟩
abbrev s_l_due : Stmt := top 56
theorem sc_l_due : FnScope ["_law_units_here", "_law_text_here", "_law_names", "_law_words_here", "_law_told", "_law_numbers", "_law_sizes_here", "_law_total", "_law_name", "_law_many", "_law_word_here", "_law_k", "_law_number", "_law_place"] ["_law_units_here", "_law_text_here"] (defScope s_l_due) := ⟨rfl, rfl, rfl, by decide +kernel, rfl, by decide +kernel, by decide +kernel⟩
abbrev s_l_alone : Stmt := top 57
theorem sc_l_alone : FnScope ["_law_error", "_law_due_here", "_law_kinds", "_law_k"] ["_law_error", "_law_due_here"] (defScope s_l_alone) := ⟨rfl, rfl, rfl, by decide +kernel, rfl, by decide +kernel, by decide +kernel⟩
abbrev s_l_read_right : Stmt := top 58
theorem sc_l_read_right : FnScope ["_law_money", "_law_due_here", "_law_text_here", "_law_error", "_law_found", "e"] ["_law_money", "_law_due_here", "_law_text_here"] (defScope s_l_read_right) := ⟨rfl, rfl, rfl, by decide +kernel, rfl, by decide +kernel, by decide +kernel⟩
abbrev s_law : Stmt := top 59
theorem sc_law : FnScope ["_law_script", "_law_draw", "_law_turn", "_law_units_here", "_law_other", "_law_moneys", "_law_time", "_law_text_here", "_law_told", "_law_money", "_law_name", "_law_many"] ["_law_script"] (defScope s_law) := ⟨rfl, rfl, rfl, by decide +kernel, rfl, by decide +kernel, by decide +kernel⟩
abbrev c_SMALL_LETTERS : V := .str "abcdefghijklmnopqrstuvwxyz"
abbrev c_FIGURES : V := .str "0123456789"
abbrev c_LONGEST_NAME : V := .int 8
abbrev c_MOST_FIGURES : V := .int 16
abbrev c_MOST_AMOUNT : V := .int 1000000000000000
abbrev c_MOST_UNITS : V := .int 6
abbrev c_LEAST_MANY : V := .int 2
abbrev c_MOST_MANY : V := .int 1000
structure Ad where
  C_Money : Addr
  C_NoText : Addr
  C_NoAmount : Addr
  C_NoName : Addr
  C_NoMoney : Addr
  C_NoBridge : Addr
  C_NoDay : Addr
  C_NoWorth : Addr
  C_NoBook : Addr
  C_NoTerm : Addr
  C_NoWeight : Addr
  C_NoMany : Addr
  C_NoKinds : Addr
  C_Lacking : Addr
  C_NoRow : Addr
  C_NoStock : Addr
  C_NoDebt : Addr
  C_NoPeople : Addr
  C_NoDeed : Addr
  C_Shut : Addr
  C_TooMany : Addr
  C_CoinError : Addr
  a_is_made_of : Addr
  fd_is_made_of : FuncData
  a_is_word : Addr
  fd_is_word : FuncData
  a_is_name : Addr
  fd_is_name : FuncData
  a_is_figures : Addr
  fd_is_figures : FuncData
  a_is_number : Addr
  fd_is_number : FuncData
  a_is_within : Addr
  fd_is_within : FuncData
  a_is_amount : Addr
  fd_is_amount : FuncData
  a_check_units : Addr
  fd_check_units : FuncData
  a_unit_sizes : Addr
  fd_unit_sizes : FuncData
  a_read_pairs : Addr
  fd_read_pairs : FuncData
  a_Money_init : Addr
  fd_Money_init : FuncData
  a_Money_parts : Addr
  fd_Money_parts : FuncData
  a_Money_text : Addr
  fd_Money_text : FuncData
  a_Money_amount : Addr
  fd_Money_amount : FuncData
  a_l_mixed : Addr
  fd_l_mixed : FuncData
  a_l_next : Addr
  fd_l_next : FuncData
  a_l_pick : Addr
  fd_l_pick : FuncData
  a_l_word : Addr
  fd_l_word : FuncData
  a_l_words : Addr
  fd_l_words : FuncData
  a_l_signs : Addr
  fd_l_signs : FuncData
  a_l_units : Addr
  fd_l_units : FuncData
  a_l_sizes : Addr
  fd_l_sizes : FuncData
  a_l_counts : Addr
  fd_l_counts : FuncData
  a_l_bent : Addr
  fd_l_bent : FuncData
  a_l_text : Addr
  fd_l_text : FuncData
  a_l_figures : Addr
  fd_l_figures : FuncData
  a_l_due : Addr
  fd_l_due : FuncData
  a_l_alone : Addr
  fd_l_alone : FuncData
  a_l_read_right : Addr
  fd_l_read_right : FuncData
  a_law : Addr
  fd_law : FuncData
  k_SMALL_LETTERS : Tok
  k_FIGURES : Tok
  k_LONGEST_NAME : Tok
  k_MOST_FIGURES : Tok
  k_MOST_AMOUNT : Tok
  k_MOST_UNITS : Tok
  k_LEAST_MANY : Tok
  k_MOST_MANY : Tok
structure Env (K : PySem.W.Frag) (mg : Str → Option Value) (t : Ad) : Prop where
  cl_Money : Cls K t.C_Money
  mg_Money : mg "Money" = some (.ref t.C_Money)
  mk_Money : Mk K t.C_Money t.a_Money_init
  no_Money_units : NoAttr K t.C_Money "units"
  no_Money_sizes : NoAttr K t.C_Money "sizes"
  no_Money_places : NoAttr K t.C_Money "places"
  mg_NoText : mg "NoText" = some (.ref t.C_NoText)
  mg_NoAmount : mg "NoAmount" = some (.ref t.C_NoAmount)
  mg_NoName : mg "NoName" = some (.ref t.C_NoName)
  mg_NoMoney : mg "NoMoney" = some (.ref t.C_NoMoney)
  mg_NoBridge : mg "NoBridge" = some (.ref t.C_NoBridge)
  mg_NoDay : mg "NoDay" = some (.ref t.C_NoDay)
  mg_NoWorth : mg "NoWorth" = some (.ref t.C_NoWorth)
  mg_NoBook : mg "NoBook" = some (.ref t.C_NoBook)
  mg_NoTerm : mg "NoTerm" = some (.ref t.C_NoTerm)
  mg_NoWeight : mg "NoWeight" = some (.ref t.C_NoWeight)
  mg_NoMany : mg "NoMany" = some (.ref t.C_NoMany)
  mg_NoKinds : mg "NoKinds" = some (.ref t.C_NoKinds)
  mg_Lacking : mg "Lacking" = some (.ref t.C_Lacking)
  mg_NoRow : mg "NoRow" = some (.ref t.C_NoRow)
  mg_NoStock : mg "NoStock" = some (.ref t.C_NoStock)
  mg_NoDebt : mg "NoDebt" = some (.ref t.C_NoDebt)
  mg_NoPeople : mg "NoPeople" = some (.ref t.C_NoPeople)
  mg_NoDeed : mg "NoDeed" = some (.ref t.C_NoDeed)
  mg_Shut : mg "Shut" = some (.ref t.C_Shut)
  mg_TooMany : mg "TooMany" = some (.ref t.C_TooMany)
  mg_CoinError : mg "CoinError" = some (.ref t.C_CoinError)
  ex_NoText : ExcI K t.C_NoText
  is_NoText_NoName : PySem.W.kitOne K (.ref t.C_NoText) (.ref t.C_NoName) = some false
  is_NoText_NoMoney : PySem.W.kitOne K (.ref t.C_NoText) (.ref t.C_NoMoney) = some false
  is_NoText_NoAmount : PySem.W.kitOne K (.ref t.C_NoText) (.ref t.C_NoAmount) = some false
  is_NoText_NoText : PySem.W.kitOne K (.ref t.C_NoText) (.ref t.C_NoText) = some true
  is_NoText_NoBridge : PySem.W.kitOne K (.ref t.C_NoText) (.ref t.C_NoBridge) = some false
  is_NoText_NoDay : PySem.W.kitOne K (.ref t.C_NoText) (.ref t.C_NoDay) = some false
  is_NoText_NoWorth : PySem.W.kitOne K (.ref t.C_NoText) (.ref t.C_NoWorth) = some false
  is_NoText_NoBook : PySem.W.kitOne K (.ref t.C_NoText) (.ref t.C_NoBook) = some false
  is_NoText_NoTerm : PySem.W.kitOne K (.ref t.C_NoText) (.ref t.C_NoTerm) = some false
  is_NoText_NoWeight : PySem.W.kitOne K (.ref t.C_NoText) (.ref t.C_NoWeight) = some false
  is_NoText_NoMany : PySem.W.kitOne K (.ref t.C_NoText) (.ref t.C_NoMany) = some false
  is_NoText_NoKinds : PySem.W.kitOne K (.ref t.C_NoText) (.ref t.C_NoKinds) = some false
  is_NoText_Lacking : PySem.W.kitOne K (.ref t.C_NoText) (.ref t.C_Lacking) = some false
  is_NoText_NoRow : PySem.W.kitOne K (.ref t.C_NoText) (.ref t.C_NoRow) = some false
  is_NoText_NoStock : PySem.W.kitOne K (.ref t.C_NoText) (.ref t.C_NoStock) = some false
  is_NoText_NoDebt : PySem.W.kitOne K (.ref t.C_NoText) (.ref t.C_NoDebt) = some false
  is_NoText_NoPeople : PySem.W.kitOne K (.ref t.C_NoText) (.ref t.C_NoPeople) = some false
  is_NoText_NoDeed : PySem.W.kitOne K (.ref t.C_NoText) (.ref t.C_NoDeed) = some false
  is_NoText_Shut : PySem.W.kitOne K (.ref t.C_NoText) (.ref t.C_Shut) = some false
  is_NoText_TooMany : PySem.W.kitOne K (.ref t.C_NoText) (.ref t.C_TooMany) = some false
  is_NoText_ValueError : PySem.W.kitOne K (.ref t.C_NoText) (.type "ValueError") = some true
  ca_NoText_CoinError : PySem.W.exmOne K (.ref t.C_NoText) (.ref t.C_CoinError) = some true
  ex_NoAmount : ExcI K t.C_NoAmount
  is_NoAmount_NoName : PySem.W.kitOne K (.ref t.C_NoAmount) (.ref t.C_NoName) = some false
  is_NoAmount_NoMoney : PySem.W.kitOne K (.ref t.C_NoAmount) (.ref t.C_NoMoney) = some false
  is_NoAmount_NoAmount : PySem.W.kitOne K (.ref t.C_NoAmount) (.ref t.C_NoAmount) = some true
  is_NoAmount_NoText : PySem.W.kitOne K (.ref t.C_NoAmount) (.ref t.C_NoText) = some false
  is_NoAmount_NoBridge : PySem.W.kitOne K (.ref t.C_NoAmount) (.ref t.C_NoBridge) = some false
  is_NoAmount_NoDay : PySem.W.kitOne K (.ref t.C_NoAmount) (.ref t.C_NoDay) = some false
  is_NoAmount_NoWorth : PySem.W.kitOne K (.ref t.C_NoAmount) (.ref t.C_NoWorth) = some false
  is_NoAmount_NoBook : PySem.W.kitOne K (.ref t.C_NoAmount) (.ref t.C_NoBook) = some false
  is_NoAmount_NoTerm : PySem.W.kitOne K (.ref t.C_NoAmount) (.ref t.C_NoTerm) = some false
  is_NoAmount_NoWeight : PySem.W.kitOne K (.ref t.C_NoAmount) (.ref t.C_NoWeight) = some false
  is_NoAmount_NoMany : PySem.W.kitOne K (.ref t.C_NoAmount) (.ref t.C_NoMany) = some false
  is_NoAmount_NoKinds : PySem.W.kitOne K (.ref t.C_NoAmount) (.ref t.C_NoKinds) = some false
  is_NoAmount_Lacking : PySem.W.kitOne K (.ref t.C_NoAmount) (.ref t.C_Lacking) = some false
  is_NoAmount_NoRow : PySem.W.kitOne K (.ref t.C_NoAmount) (.ref t.C_NoRow) = some false
  is_NoAmount_NoStock : PySem.W.kitOne K (.ref t.C_NoAmount) (.ref t.C_NoStock) = some false
  is_NoAmount_NoDebt : PySem.W.kitOne K (.ref t.C_NoAmount) (.ref t.C_NoDebt) = some false
  is_NoAmount_NoPeople : PySem.W.kitOne K (.ref t.C_NoAmount) (.ref t.C_NoPeople) = some false
  is_NoAmount_NoDeed : PySem.W.kitOne K (.ref t.C_NoAmount) (.ref t.C_NoDeed) = some false
  is_NoAmount_Shut : PySem.W.kitOne K (.ref t.C_NoAmount) (.ref t.C_Shut) = some false
  is_NoAmount_TooMany : PySem.W.kitOne K (.ref t.C_NoAmount) (.ref t.C_TooMany) = some false
  is_NoAmount_ValueError : PySem.W.kitOne K (.ref t.C_NoAmount) (.type "ValueError") = some true
  ca_NoAmount_CoinError : PySem.W.exmOne K (.ref t.C_NoAmount) (.ref t.C_CoinError) = some true
  f_is_made_of : Fun K "is_made_of" "is_made_of" s_is_made_of t.a_is_made_of t.fd_is_made_of
  b_is_made_of : Binds K t.fd_is_made_of ["text", "signs"] []
  kp_is_made_of : PySem.W.keepIn K (.ref t.a_is_made_of) = true
  mg_is_made_of : mg "is_made_of" = some (.ref t.a_is_made_of)
  f_is_word : Fun K "is_word" "is_word" s_is_word t.a_is_word t.fd_is_word
  b_is_word : Binds K t.fd_is_word ["text"] []
  kp_is_word : PySem.W.keepIn K (.ref t.a_is_word) = true
  mg_is_word : mg "is_word" = some (.ref t.a_is_word)
  f_is_name : Fun K "is_name" "is_name" s_is_name t.a_is_name t.fd_is_name
  b_is_name : Binds K t.fd_is_name ["text"] []
  kp_is_name : PySem.W.keepIn K (.ref t.a_is_name) = true
  mg_is_name : mg "is_name" = some (.ref t.a_is_name)
  f_is_figures : Fun K "is_figures" "is_figures" s_is_figures t.a_is_figures t.fd_is_figures
  b_is_figures : Binds K t.fd_is_figures ["text"] []
  kp_is_figures : PySem.W.keepIn K (.ref t.a_is_figures) = true
  mg_is_figures : mg "is_figures" = some (.ref t.a_is_figures)
  f_is_number : Fun K "is_number" "is_number" s_is_number t.a_is_number t.fd_is_number
  b_is_number : Binds K t.fd_is_number ["number"] []
  kp_is_number : PySem.W.keepIn K (.ref t.a_is_number) = true
  mg_is_number : mg "is_number" = some (.ref t.a_is_number)
  f_is_within : Fun K "is_within" "is_within" s_is_within t.a_is_within t.fd_is_within
  b_is_within : Binds K t.fd_is_within ["number", "least", "most"] []
  kp_is_within : PySem.W.keepIn K (.ref t.a_is_within) = true
  mg_is_within : mg "is_within" = some (.ref t.a_is_within)
  f_is_amount : Fun K "is_amount" "is_amount" s_is_amount t.a_is_amount t.fd_is_amount
  b_is_amount : Binds K t.fd_is_amount ["number"] []
  kp_is_amount : PySem.W.keepIn K (.ref t.a_is_amount) = true
  mg_is_amount : mg "is_amount" = some (.ref t.a_is_amount)
  f_check_units : Fun K "check_units" "check_units" s_check_units t.a_check_units t.fd_check_units
  b_check_units : Binds K t.fd_check_units ["units"] []
  kp_check_units : PySem.W.keepIn K (.ref t.a_check_units) = true
  mg_check_units : mg "check_units" = some (.ref t.a_check_units)
  f_unit_sizes : Fun K "unit_sizes" "unit_sizes" s_unit_sizes t.a_unit_sizes t.fd_unit_sizes
  b_unit_sizes : Binds K t.fd_unit_sizes ["units"] []
  kp_unit_sizes : PySem.W.keepIn K (.ref t.a_unit_sizes) = true
  mg_unit_sizes : mg "unit_sizes" = some (.ref t.a_unit_sizes)
  f_read_pairs : Fun K "read_pairs" "read_pairs" s_read_pairs t.a_read_pairs t.fd_read_pairs
  b_read_pairs : Binds K t.fd_read_pairs ["text"] []
  kp_read_pairs : PySem.W.keepIn K (.ref t.a_read_pairs) = true
  mg_read_pairs : mg "read_pairs" = some (.ref t.a_read_pairs)
  f_Money_init : Fun K "__init__" "Money.__init__" s_Money_init t.a_Money_init t.fd_Money_init
  b_Money_init : Binds K t.fd_Money_init ["self", "units"] []
  f_Money_parts : Fun K "parts" "Money.parts" s_Money_parts t.a_Money_parts t.fd_Money_parts
  b_Money_parts : Binds K t.fd_Money_parts ["self", "amount"] []
  m_Money_parts : Meth K t.C_Money "parts" t.a_Money_parts
  f_Money_text : Fun K "text" "Money.text" s_Money_text t.a_Money_text t.fd_Money_text
  b_Money_text : Binds K t.fd_Money_text ["self", "amount"] []
  m_Money_text : Meth K t.C_Money "text" t.a_Money_text
  f_Money_amount : Fun K "amount" "Money.amount" s_Money_amount t.a_Money_amount t.fd_Money_amount
  b_Money_amount : Binds K t.fd_Money_amount ["self", "text"] []
  m_Money_amount : Meth K t.C_Money "amount" t.a_Money_amount
  f_l_mixed : Fun K "_law_mixed" "_law_mixed" s_l_mixed t.a_l_mixed t.fd_l_mixed
  b_l_mixed : Binds K t.fd_l_mixed ["_law_cell", "_law_k"] []
  kp_l_mixed : PySem.W.keepIn K (.ref t.a_l_mixed) = true
  mg_l_mixed : mg "_law_mixed" = some (.ref t.a_l_mixed)
  f_l_next : Fun K "_law_next" "_law_next" s_l_next t.a_l_next t.fd_l_next
  b_l_next : Binds K t.fd_l_next ["_law_draw", "_law_size"] []
  kp_l_next : PySem.W.keepIn K (.ref t.a_l_next) = true
  mg_l_next : mg "_law_next" = some (.ref t.a_l_next)
  f_l_pick : Fun K "_law_pick" "_law_pick" s_l_pick t.a_l_pick t.fd_l_pick
  b_l_pick : Binds K t.fd_l_pick ["_law_draw", "_law_some"] []
  kp_l_pick : PySem.W.keepIn K (.ref t.a_l_pick) = true
  mg_l_pick : mg "_law_pick" = some (.ref t.a_l_pick)
  f_l_word : Fun K "_law_word" "_law_word" s_l_word t.a_l_word t.fd_l_word
  b_l_word : Binds K t.fd_l_word ["_law_draw"] []
  kp_l_word : PySem.W.keepIn K (.ref t.a_l_word) = true
  mg_l_word : mg "_law_word" = some (.ref t.a_l_word)
  f_l_words : Fun K "_law_words" "_law_words" s_l_words t.a_l_words t.fd_l_words
  b_l_words : Binds K t.fd_l_words ["_law_draw", "_law_many"] []
  kp_l_words : PySem.W.keepIn K (.ref t.a_l_words) = true
  mg_l_words : mg "_law_words" = some (.ref t.a_l_words)
  f_l_signs : Fun K "_law_signs" "_law_signs" s_l_signs t.a_l_signs t.fd_l_signs
  b_l_signs : Binds K t.fd_l_signs [] []
  kp_l_signs : PySem.W.keepIn K (.ref t.a_l_signs) = true
  mg_l_signs : mg "_law_signs" = some (.ref t.a_l_signs)
  f_l_units : Fun K "_law_units" "_law_units" s_l_units t.a_l_units t.fd_l_units
  b_l_units : Binds K t.fd_l_units ["_law_draw"] []
  kp_l_units : PySem.W.keepIn K (.ref t.a_l_units) = true
  mg_l_units : mg "_law_units" = some (.ref t.a_l_units)
  f_l_sizes : Fun K "_law_sizes" "_law_sizes" s_l_sizes t.a_l_sizes t.fd_l_sizes
  b_l_sizes : Binds K t.fd_l_sizes ["_law_units_here"] []
  kp_l_sizes : PySem.W.keepIn K (.ref t.a_l_sizes) = true
  mg_l_sizes : mg "_law_sizes" = some (.ref t.a_l_sizes)
  f_l_counts : Fun K "_law_counts" "_law_counts" s_l_counts t.a_l_counts t.fd_l_counts
  b_l_counts : Binds K t.fd_l_counts ["_law_draw", "_law_units_here"] []
  kp_l_counts : PySem.W.keepIn K (.ref t.a_l_counts) = true
  mg_l_counts : mg "_law_counts" = some (.ref t.a_l_counts)
  f_l_bent : Fun K "_law_bent" "_law_bent" s_l_bent t.a_l_bent t.fd_l_bent
  b_l_bent : Binds K t.fd_l_bent ["_law_draw", "_law_words_here", "_law_units_here"] []
  kp_l_bent : PySem.W.keepIn K (.ref t.a_l_bent) = true
  mg_l_bent : mg "_law_bent" = some (.ref t.a_l_bent)
  f_l_text : Fun K "_law_text" "_law_text" s_l_text t.a_l_text t.fd_l_text
  b_l_text : Binds K t.fd_l_text ["_law_draw", "_law_units_here"] []
  kp_l_text : PySem.W.keepIn K (.ref t.a_l_text) = true
  mg_l_text : mg "_law_text" = some (.ref t.a_l_text)
  f_l_figures : Fun K "_law_figures" "_law_figures" s_l_figures t.a_l_figures t.fd_l_figures
  b_l_figures : Binds K t.fd_l_figures ["_law_word_here"] []
  kp_l_figures : PySem.W.keepIn K (.ref t.a_l_figures) = true
  mg_l_figures : mg "_law_figures" = some (.ref t.a_l_figures)
  f_l_due : Fun K "_law_due" "_law_due" s_l_due t.a_l_due t.fd_l_due
  b_l_due : Binds K t.fd_l_due ["_law_units_here", "_law_text_here"] []
  kp_l_due : PySem.W.keepIn K (.ref t.a_l_due) = true
  mg_l_due : mg "_law_due" = some (.ref t.a_l_due)
  f_l_alone : Fun K "_law_alone" "_law_alone" s_l_alone t.a_l_alone t.fd_l_alone
  b_l_alone : Binds K t.fd_l_alone ["_law_error", "_law_due_here"] []
  kp_l_alone : PySem.W.keepIn K (.ref t.a_l_alone) = true
  mg_l_alone : mg "_law_alone" = some (.ref t.a_l_alone)
  f_l_read_right : Fun K "_law_read_right" "_law_read_right" s_l_read_right t.a_l_read_right t.fd_l_read_right
  b_l_read_right : Binds K t.fd_l_read_right ["_law_money", "_law_due_here", "_law_text_here"] []
  kp_l_read_right : PySem.W.keepIn K (.ref t.a_l_read_right) = true
  mg_l_read_right : mg "_law_read_right" = some (.ref t.a_l_read_right)
  f_law : Fun K "law" "law" s_law t.a_law t.fd_law
  b_law : Binds K t.fd_law ["_law_script"] []
  kp_law : PySem.W.keepIn K (.ref t.a_law) = true
  mg_law : mg "law" = some (.ref t.a_law)
  mg_SMALL_LETTERS : mg "SMALL_LETTERS" = some (Value.str "abcdefghijklmnopqrstuvwxyz" t.k_SMALL_LETTERS)
  mg_FIGURES : mg "FIGURES" = some (Value.str "0123456789" t.k_FIGURES)
  mg_LONGEST_NAME : mg "LONGEST_NAME" = some (Value.int 8 t.k_LONGEST_NAME)
  mg_MOST_FIGURES : mg "MOST_FIGURES" = some (Value.int 16 t.k_MOST_FIGURES)
  mg_MOST_AMOUNT : mg "MOST_AMOUNT" = some (Value.int 1000000000000000 t.k_MOST_AMOUNT)
  mg_MOST_UNITS : mg "MOST_UNITS" = some (Value.int 6 t.k_MOST_UNITS)
  mg_LEAST_MANY : mg "LEAST_MANY" = some (Value.int 2 t.k_LEAST_MANY)
  mg_MOST_MANY : mg "MOST_MANY" = some (Value.int 1000 t.k_MOST_MANY)
  z_len : mg "len" = none
  z_range : mg "range" = none
  z_max : mg "max" = none
  z_min : mg "min" = none
  z_isinstance : mg "isinstance" = none
  z_all : mg "all" = none
  z_str : mg "str" = none
  z_bool : mg "bool" = none
  z_int : mg "int" = none
  z_list : mg "list" = none
  z_tuple : mg "tuple" = none
  z_reversed : mg "reversed" = none
  z_enumerate : mg "enumerate" = none
  z_set : mg "set" = none
  z_divmod : mg "divmod" = none
  z_zip : mg "zip" = none
  z_sum : mg "sum" = none
  z_ValueError : mg "ValueError" = none
theorem env_mk {K : PySem.W.Frag} {h : Heap} {mg : Str → Option Value} {C_Money : Addr} {C_NoText : Addr} {C_NoAmount : Addr} {C_NoName : Addr} {C_NoMoney : Addr} {C_NoBridge : Addr} {C_NoDay : Addr} {C_NoWorth : Addr} {C_NoBook : Addr} {C_NoTerm : Addr} {C_NoWeight : Addr} {C_NoMany : Addr} {C_NoKinds : Addr} {C_Lacking : Addr} {C_NoRow : Addr} {C_NoStock : Addr} {C_NoDebt : Addr} {C_NoPeople : Addr} {C_NoDeed : Addr} {C_Shut : Addr} {C_TooMany : Addr} {C_CoinError : Addr} {a_is_made_of : Addr} {od_is_made_of an_is_made_of : Option Addr} {sl_is_made_of : Array (Option Value)} {oc_is_made_of kV_is_made_of dc_is_made_of pm_is_made_of cd_is_made_of ct_is_made_of : Value} {a_is_word : Addr} {od_is_word an_is_word : Option Addr} {sl_is_word : Array (Option Value)} {oc_is_word kV_is_word dc_is_word pm_is_word cd_is_word ct_is_word : Value} {a_is_name : Addr} {od_is_name an_is_name : Option Addr} {sl_is_name : Array (Option Value)} {oc_is_name kV_is_name dc_is_name pm_is_name cd_is_name ct_is_name : Value} {a_is_figures : Addr} {od_is_figures an_is_figures : Option Addr} {sl_is_figures : Array (Option Value)} {oc_is_figures kV_is_figures dc_is_figures pm_is_figures cd_is_figures ct_is_figures : Value} {a_is_number : Addr} {od_is_number an_is_number : Option Addr} {sl_is_number : Array (Option Value)} {oc_is_number kV_is_number dc_is_number pm_is_number cd_is_number ct_is_number : Value} {a_is_within : Addr} {od_is_within an_is_within : Option Addr} {sl_is_within : Array (Option Value)} {oc_is_within kV_is_within dc_is_within pm_is_within cd_is_within ct_is_within : Value} {a_is_amount : Addr} {od_is_amount an_is_amount : Option Addr} {sl_is_amount : Array (Option Value)} {oc_is_amount kV_is_amount dc_is_amount pm_is_amount cd_is_amount ct_is_amount : Value} {a_check_units : Addr} {od_check_units an_check_units : Option Addr} {sl_check_units : Array (Option Value)} {oc_check_units kV_check_units dc_check_units pm_check_units cd_check_units ct_check_units : Value} {a_unit_sizes : Addr} {od_unit_sizes an_unit_sizes : Option Addr} {sl_unit_sizes : Array (Option Value)} {oc_unit_sizes kV_unit_sizes dc_unit_sizes pm_unit_sizes cd_unit_sizes ct_unit_sizes : Value} {a_read_pairs : Addr} {od_read_pairs an_read_pairs : Option Addr} {sl_read_pairs : Array (Option Value)} {oc_read_pairs kV_read_pairs dc_read_pairs pm_read_pairs cd_read_pairs ct_read_pairs : Value} {a_Money_init : Addr} {od_Money_init an_Money_init : Option Addr} {sl_Money_init : Array (Option Value)} {oc_Money_init kV_Money_init dc_Money_init pm_Money_init cd_Money_init ct_Money_init : Value} {a_Money_parts : Addr} {od_Money_parts an_Money_parts : Option Addr} {sl_Money_parts : Array (Option Value)} {oc_Money_parts kV_Money_parts dc_Money_parts pm_Money_parts cd_Money_parts ct_Money_parts : Value} {a_Money_text : Addr} {od_Money_text an_Money_text : Option Addr} {sl_Money_text : Array (Option Value)} {oc_Money_text kV_Money_text dc_Money_text pm_Money_text cd_Money_text ct_Money_text : Value} {a_Money_amount : Addr} {od_Money_amount an_Money_amount : Option Addr} {sl_Money_amount : Array (Option Value)} {oc_Money_amount kV_Money_amount dc_Money_amount pm_Money_amount cd_Money_amount ct_Money_amount : Value} {a_l_mixed : Addr} {od_l_mixed an_l_mixed : Option Addr} {sl_l_mixed : Array (Option Value)} {oc_l_mixed kV_l_mixed dc_l_mixed pm_l_mixed cd_l_mixed ct_l_mixed : Value} {a_l_next : Addr} {od_l_next an_l_next : Option Addr} {sl_l_next : Array (Option Value)} {oc_l_next kV_l_next dc_l_next pm_l_next cd_l_next ct_l_next : Value} {a_l_pick : Addr} {od_l_pick an_l_pick : Option Addr} {sl_l_pick : Array (Option Value)} {oc_l_pick kV_l_pick dc_l_pick pm_l_pick cd_l_pick ct_l_pick : Value} {a_l_word : Addr} {od_l_word an_l_word : Option Addr} {sl_l_word : Array (Option Value)} {oc_l_word kV_l_word dc_l_word pm_l_word cd_l_word ct_l_word : Value} {a_l_words : Addr} {od_l_words an_l_words : Option Addr} {sl_l_words : Array (Option Value)} {oc_l_words kV_l_words dc_l_words pm_l_words cd_l_words ct_l_words : Value} {a_l_signs : Addr} {od_l_signs an_l_signs : Option Addr} {sl_l_signs : Array (Option Value)} {oc_l_signs kV_l_signs dc_l_signs pm_l_signs cd_l_signs ct_l_signs : Value} {a_l_units : Addr} {od_l_units an_l_units : Option Addr} {sl_l_units : Array (Option Value)} {oc_l_units kV_l_units dc_l_units pm_l_units cd_l_units ct_l_units : Value} {a_l_sizes : Addr} {od_l_sizes an_l_sizes : Option Addr} {sl_l_sizes : Array (Option Value)} {oc_l_sizes kV_l_sizes dc_l_sizes pm_l_sizes cd_l_sizes ct_l_sizes : Value} {a_l_counts : Addr} {od_l_counts an_l_counts : Option Addr} {sl_l_counts : Array (Option Value)} {oc_l_counts kV_l_counts dc_l_counts pm_l_counts cd_l_counts ct_l_counts : Value} {a_l_bent : Addr} {od_l_bent an_l_bent : Option Addr} {sl_l_bent : Array (Option Value)} {oc_l_bent kV_l_bent dc_l_bent pm_l_bent cd_l_bent ct_l_bent : Value} {a_l_text : Addr} {od_l_text an_l_text : Option Addr} {sl_l_text : Array (Option Value)} {oc_l_text kV_l_text dc_l_text pm_l_text cd_l_text ct_l_text : Value} {a_l_figures : Addr} {od_l_figures an_l_figures : Option Addr} {sl_l_figures : Array (Option Value)} {oc_l_figures kV_l_figures dc_l_figures pm_l_figures cd_l_figures ct_l_figures : Value} {a_l_due : Addr} {od_l_due an_l_due : Option Addr} {sl_l_due : Array (Option Value)} {oc_l_due kV_l_due dc_l_due pm_l_due cd_l_due ct_l_due : Value} {a_l_alone : Addr} {od_l_alone an_l_alone : Option Addr} {sl_l_alone : Array (Option Value)} {oc_l_alone kV_l_alone dc_l_alone pm_l_alone cd_l_alone ct_l_alone : Value} {a_l_read_right : Addr} {od_l_read_right an_l_read_right : Option Addr} {sl_l_read_right : Array (Option Value)} {oc_l_read_right kV_l_read_right dc_l_read_right pm_l_read_right cd_l_read_right ct_l_read_right : Value} {a_law : Addr} {od_law an_law : Option Addr} {sl_law : Array (Option Value)} {oc_law kV_law dc_law pm_law cd_law ct_law : Value} {k_SMALL_LETTERS : Tok} {k_FIGURES : Tok} {k_LONGEST_NAME : Tok} {k_MOST_FIGURES : Tok} {k_MOST_AMOUNT : Tok} {k_MOST_UNITS : Tok} {k_LEAST_MANY : Tok} {k_MOST_MANY : Tok} (X : K.In h) (G : h.Ns mainGlobals mg)
    (n_Money : PySem.W.nsIn K mainGlobals "Money" = some (some (.ref C_Money)))
    (pg_Money : PySem.W.plainGet K C_Money Str.empty = true)
    (hd_Money : PySem.W.hasDictIn K C_Money = true)
    (po_Money : PySem.W.plainOver K C_Money = true)
    (sa_Money : PySem.W.findIn K (.ref C_Money) "__setattr__" = some (some (.builtin "object.__setattr__")))
    (mk_Money : PySem.W.makesIn K C_Money = true)
    (kc_Money : PySem.W.keepIn K (.ref C_Money) = true)
    (no_Money_units : PySem.W.findIn K (.ref C_Money) "units" = some none)
    (no_Money_sizes : PySem.W.findIn K (.ref C_Money) "sizes" = some none)
    (no_Money_places : PySem.W.findIn K (.ref C_Money) "places" = some none)
    (n_NoText : PySem.W.nsIn K mainGlobals "NoText" = some (some (.ref C_NoText)))
    (n_NoAmount : PySem.W.nsIn K mainGlobals "NoAmount" = some (some (.ref C_NoAmount)))
    (n_NoName : PySem.W.nsIn K mainGlobals "NoName" = some (some (.ref C_NoName)))
    (n_NoMoney : PySem.W.nsIn K mainGlobals "NoMoney" = some (some (.ref C_NoMoney)))
    (n_NoBridge : PySem.W.nsIn K mainGlobals "NoBridge" = some (some (.ref C_NoBridge)))
    (n_NoDay : PySem.W.nsIn K mainGlobals "NoDay" = some (some (.ref C_NoDay)))
    (n_NoWorth : PySem.W.nsIn K mainGlobals "NoWorth" = some (some (.ref C_NoWorth)))
    (n_NoBook : PySem.W.nsIn K mainGlobals "NoBook" = some (some (.ref C_NoBook)))
    (n_NoTerm : PySem.W.nsIn K mainGlobals "NoTerm" = some (some (.ref C_NoTerm)))
    (n_NoWeight : PySem.W.nsIn K mainGlobals "NoWeight" = some (some (.ref C_NoWeight)))
    (n_NoMany : PySem.W.nsIn K mainGlobals "NoMany" = some (some (.ref C_NoMany)))
    (n_NoKinds : PySem.W.nsIn K mainGlobals "NoKinds" = some (some (.ref C_NoKinds)))
    (n_Lacking : PySem.W.nsIn K mainGlobals "Lacking" = some (some (.ref C_Lacking)))
    (n_NoRow : PySem.W.nsIn K mainGlobals "NoRow" = some (some (.ref C_NoRow)))
    (n_NoStock : PySem.W.nsIn K mainGlobals "NoStock" = some (some (.ref C_NoStock)))
    (n_NoDebt : PySem.W.nsIn K mainGlobals "NoDebt" = some (some (.ref C_NoDebt)))
    (n_NoPeople : PySem.W.nsIn K mainGlobals "NoPeople" = some (some (.ref C_NoPeople)))
    (n_NoDeed : PySem.W.nsIn K mainGlobals "NoDeed" = some (some (.ref C_NoDeed)))
    (n_Shut : PySem.W.nsIn K mainGlobals "Shut" = some (some (.ref C_Shut)))
    (n_TooMany : PySem.W.nsIn K mainGlobals "TooMany" = some (some (.ref C_TooMany)))
    (n_CoinError : PySem.W.nsIn K mainGlobals "CoinError" = some (some (.ref C_CoinError)))
    (e0_NoText : PySem.W.excIn K C_NoText [.type "ValueError", .type "Exception", .type "BaseException", .type "object"] "ValueError.__new__" = true)
    (e1_NoText : PySem.W.findIn K (.ref C_NoText) "__class__" = some (some (.builtin "object.__class__")))
    (e2_NoText : PySem.W.findIn K (.ref C_NoText) "__getattribute__" = some (some (.builtin "BaseException.__getattribute__")))
    (e3_NoText : PySem.W.findIn K (.ref C_NoText) "__getattr__" = some none)
    (is_NoText_NoName : PySem.W.kitOne K (.ref C_NoText) (.ref C_NoName) = some false)
    (is_NoText_NoMoney : PySem.W.kitOne K (.ref C_NoText) (.ref C_NoMoney) = some false)
    (is_NoText_NoAmount : PySem.W.kitOne K (.ref C_NoText) (.ref C_NoAmount) = some false)
    (is_NoText_NoText : PySem.W.kitOne K (.ref C_NoText) (.ref C_NoText) = some true)
    (is_NoText_NoBridge : PySem.W.kitOne K (.ref C_NoText) (.ref C_NoBridge) = some false)
    (is_NoText_NoDay : PySem.W.kitOne K (.ref C_NoText) (.ref C_NoDay) = some false)
    (is_NoText_NoWorth : PySem.W.kitOne K (.ref C_NoText) (.ref C_NoWorth) = some false)
    (is_NoText_NoBook : PySem.W.kitOne K (.ref C_NoText) (.ref C_NoBook) = some false)
    (is_NoText_NoTerm : PySem.W.kitOne K (.ref C_NoText) (.ref C_NoTerm) = some false)
    (is_NoText_NoWeight : PySem.W.kitOne K (.ref C_NoText) (.ref C_NoWeight) = some false)
    (is_NoText_NoMany : PySem.W.kitOne K (.ref C_NoText) (.ref C_NoMany) = some false)
    (is_NoText_NoKinds : PySem.W.kitOne K (.ref C_NoText) (.ref C_NoKinds) = some false)
    (is_NoText_Lacking : PySem.W.kitOne K (.ref C_NoText) (.ref C_Lacking) = some false)
    (is_NoText_NoRow : PySem.W.kitOne K (.ref C_NoText) (.ref C_NoRow) = some false)
    (is_NoText_NoStock : PySem.W.kitOne K (.ref C_NoText) (.ref C_NoStock) = some false)
    (is_NoText_NoDebt : PySem.W.kitOne K (.ref C_NoText) (.ref C_NoDebt) = some false)
    (is_NoText_NoPeople : PySem.W.kitOne K (.ref C_NoText) (.ref C_NoPeople) = some false)
    (is_NoText_NoDeed : PySem.W.kitOne K (.ref C_NoText) (.ref C_NoDeed) = some false)
    (is_NoText_Shut : PySem.W.kitOne K (.ref C_NoText) (.ref C_Shut) = some false)
    (is_NoText_TooMany : PySem.W.kitOne K (.ref C_NoText) (.ref C_TooMany) = some false)
    (is_NoText_ValueError : PySem.W.kitOne K (.ref C_NoText) (.type "ValueError") = some true)
    (ca_NoText_CoinError : PySem.W.exmOne K (.ref C_NoText) (.ref C_CoinError) = some true)
    (e0_NoAmount : PySem.W.excIn K C_NoAmount [.type "ValueError", .type "Exception", .type "BaseException", .type "object"] "ValueError.__new__" = true)
    (e1_NoAmount : PySem.W.findIn K (.ref C_NoAmount) "__class__" = some (some (.builtin "object.__class__")))
    (e2_NoAmount : PySem.W.findIn K (.ref C_NoAmount) "__getattribute__" = some (some (.builtin "BaseException.__getattribute__")))
    (e3_NoAmount : PySem.W.findIn K (.ref C_NoAmount) "__getattr__" = some none)
    (is_NoAmount_NoName : PySem.W.kitOne K (.ref C_NoAmount) (.ref C_NoName) = some false)
    (is_NoAmount_NoMoney : PySem.W.kitOne K (.ref C_NoAmount) (.ref C_NoMoney) = some false)
    (is_NoAmount_NoAmount : PySem.W.kitOne K (.ref C_NoAmount) (.ref C_NoAmount) = some true)
    (is_NoAmount_NoText : PySem.W.kitOne K (.ref C_NoAmount) (.ref C_NoText) = some false)
    (is_NoAmount_NoBridge : PySem.W.kitOne K (.ref C_NoAmount) (.ref C_NoBridge) = some false)
    (is_NoAmount_NoDay : PySem.W.kitOne K (.ref C_NoAmount) (.ref C_NoDay) = some false)
    (is_NoAmount_NoWorth : PySem.W.kitOne K (.ref C_NoAmount) (.ref C_NoWorth) = some false)
    (is_NoAmount_NoBook : PySem.W.kitOne K (.ref C_NoAmount) (.ref C_NoBook) = some false)
    (is_NoAmount_NoTerm : PySem.W.kitOne K (.ref C_NoAmount) (.ref C_NoTerm) = some false)
    (is_NoAmount_NoWeight : PySem.W.kitOne K (.ref C_NoAmount) (.ref C_NoWeight) = some false)
    (is_NoAmount_NoMany : PySem.W.kitOne K (.ref C_NoAmount) (.ref C_NoMany) = some false)
    (is_NoAmount_NoKinds : PySem.W.kitOne K (.ref C_NoAmount) (.ref C_NoKinds) = some false)
    (is_NoAmount_Lacking : PySem.W.kitOne K (.ref C_NoAmount) (.ref C_Lacking) = some false)
    (is_NoAmount_NoRow : PySem.W.kitOne K (.ref C_NoAmount) (.ref C_NoRow) = some false)
    (is_NoAmount_NoStock : PySem.W.kitOne K (.ref C_NoAmount) (.ref C_NoStock) = some false)
    (is_NoAmount_NoDebt : PySem.W.kitOne K (.ref C_NoAmount) (.ref C_NoDebt) = some false)
    (is_NoAmount_NoPeople : PySem.W.kitOne K (.ref C_NoAmount) (.ref C_NoPeople) = some false)
    (is_NoAmount_NoDeed : PySem.W.kitOne K (.ref C_NoAmount) (.ref C_NoDeed) = some false)
    (is_NoAmount_Shut : PySem.W.kitOne K (.ref C_NoAmount) (.ref C_Shut) = some false)
    (is_NoAmount_TooMany : PySem.W.kitOne K (.ref C_NoAmount) (.ref C_TooMany) = some false)
    (is_NoAmount_ValueError : PySem.W.kitOne K (.ref C_NoAmount) (.type "ValueError") = some true)
    (ca_NoAmount_CoinError : PySem.W.exmOne K (.ref C_NoAmount) (.ref C_CoinError) = some true)
    (n_is_made_of : PySem.W.nsIn K mainGlobals "is_made_of" = some (some (.ref a_is_made_of)))
    (l_is_made_of : K.lookup a_is_made_of = some ⟨oc_is_made_of, od_is_made_of, .func (PySem.W.fnOf "is_made_of" "is_made_of" (defArgs s_is_made_of) (defBody s_is_made_of) (defScope s_is_made_of) .none kV_is_made_of dc_is_made_of pm_is_made_of an_is_made_of cd_is_made_of ct_is_made_of), sl_is_made_of⟩)
    (c_is_made_of : PySem.W.codeIn K cd_is_made_of "is_made_of" = true)
    (k_is_made_of : PySem.W.keepIn K (.ref a_is_made_of) = true)
    (n_is_word : PySem.W.nsIn K mainGlobals "is_word" = some (some (.ref a_is_word)))
    (l_is_word : K.lookup a_is_word = some ⟨oc_is_word, od_is_word, .func (PySem.W.fnOf "is_word" "is_word" (defArgs s_is_word) (defBody s_is_word) (defScope s_is_word) .none kV_is_word dc_is_word pm_is_word an_is_word cd_is_word ct_is_word), sl_is_word⟩)
    (c_is_word : PySem.W.codeIn K cd_is_word "is_word" = true)
    (k_is_word : PySem.W.keepIn K (.ref a_is_word) = true)
    (n_is_name : PySem.W.nsIn K mainGlobals "is_name" = some (some (.ref a_is_name)))
    (l_is_name : K.lookup a_is_name = some ⟨oc_is_name, od_is_name, .func (PySem.W.fnOf "is_name" "is_name" (defArgs s_is_name) (defBody s_is_name) (defScope s_is_name) .none kV_is_name dc_is_name pm_is_name an_is_name cd_is_name ct_is_name), sl_is_name⟩)
    (c_is_name : PySem.W.codeIn K cd_is_name "is_name" = true)
    (k_is_name : PySem.W.keepIn K (.ref a_is_name) = true)
    (n_is_figures : PySem.W.nsIn K mainGlobals "is_figures" = some (some (.ref a_is_figures)))
    (l_is_figures : K.lookup a_is_figures = some ⟨oc_is_figures, od_is_figures, .func (PySem.W.fnOf "is_figures" "is_figures" (defArgs s_is_figures) (defBody s_is_figures) (defScope s_is_figures) .none kV_is_figures dc_is_figures pm_is_figures an_is_figures cd_is_figures ct_is_figures), sl_is_figures⟩)
    (c_is_figures : PySem.W.codeIn K cd_is_figures "is_figures" = true)
    (k_is_figures : PySem.W.keepIn K (.ref a_is_figures) = true)
    (n_is_number : PySem.W.nsIn K mainGlobals "is_number" = some (some (.ref a_is_number)))
    (l_is_number : K.lookup a_is_number = some ⟨oc_is_number, od_is_number, .func (PySem.W.fnOf "is_number" "is_number" (defArgs s_is_number) (defBody s_is_number) (defScope s_is_number) .none kV_is_number dc_is_number pm_is_number an_is_number cd_is_number ct_is_number), sl_is_number⟩)
    (c_is_number : PySem.W.codeIn K cd_is_number "is_number" = true)
    (k_is_number : PySem.W.keepIn K (.ref a_is_number) = true)
    (n_is_within : PySem.W.nsIn K mainGlobals "is_within" = some (some (.ref a_is_within)))
    (l_is_within : K.lookup a_is_within = some ⟨oc_is_within, od_is_within, .func (PySem.W.fnOf "is_within" "is_within" (defArgs s_is_within) (defBody s_is_within) (defScope s_is_within) .none kV_is_within dc_is_within pm_is_within an_is_within cd_is_within ct_is_within), sl_is_within⟩)
    (c_is_within : PySem.W.codeIn K cd_is_within "is_within" = true)
    (k_is_within : PySem.W.keepIn K (.ref a_is_within) = true)
    (n_is_amount : PySem.W.nsIn K mainGlobals "is_amount" = some (some (.ref a_is_amount)))
    (l_is_amount : K.lookup a_is_amount = some ⟨oc_is_amount, od_is_amount, .func (PySem.W.fnOf "is_amount" "is_amount" (defArgs s_is_amount) (defBody s_is_amount) (defScope s_is_amount) .none kV_is_amount dc_is_amount pm_is_amount an_is_amount cd_is_amount ct_is_amount), sl_is_amount⟩)
    (c_is_amount : PySem.W.codeIn K cd_is_amount "is_amount" = true)
    (k_is_amount : PySem.W.keepIn K (.ref a_is_amount) = true)
    (n_check_units : PySem.W.nsIn K mainGlobals "check_units" = some (some (.ref a_check_units)))
    (l_check_units : K.lookup a_check_units = some ⟨oc_check_units, od_check_units, .func (PySem.W.fnOf "check_units" "check_units" (defArgs s_check_units) (defBody s_check_units) (defScope s_check_units) .none kV_check_units dc_check_units pm_check_units an_check_units cd_check_units ct_check_units), sl_check_units⟩)
    (c_check_units : PySem.W.codeIn K cd_check_units "check_units" = true)
    (k_check_units : PySem.W.keepIn K (.ref a_check_units) = true)
    (n_unit_sizes : PySem.W.nsIn K mainGlobals "unit_sizes" = some (some (.ref a_unit_sizes)))
    (l_unit_sizes : K.lookup a_unit_sizes = some ⟨oc_unit_sizes, od_unit_sizes, .func (PySem.W.fnOf "unit_sizes" "unit_sizes" (defArgs s_unit_sizes) (defBody s_unit_sizes) (defScope s_unit_sizes) .none kV_unit_sizes dc_unit_sizes pm_unit_sizes an_unit_sizes cd_unit_sizes ct_unit_sizes), sl_unit_sizes⟩)
    (c_unit_sizes : PySem.W.codeIn K cd_unit_sizes "unit_sizes" = true)
    (k_unit_sizes : PySem.W.keepIn K (.ref a_unit_sizes) = true)
    (n_read_pairs : PySem.W.nsIn K mainGlobals "read_pairs" = some (some (.ref a_read_pairs)))
    (l_read_pairs : K.lookup a_read_pairs = some ⟨oc_read_pairs, od_read_pairs, .func (PySem.W.fnOf "read_pairs" "read_pairs" (defArgs s_read_pairs) (defBody s_read_pairs) (defScope s_read_pairs) .none kV_read_pairs dc_read_pairs pm_read_pairs an_read_pairs cd_read_pairs ct_read_pairs), sl_read_pairs⟩)
    (c_read_pairs : PySem.W.codeIn K cd_read_pairs "read_pairs" = true)
    (k_read_pairs : PySem.W.keepIn K (.ref a_read_pairs) = true)
    (n_Money_init : PySem.W.findIn K (.ref C_Money) "__init__" = some (some (.ref a_Money_init)))
    (i_Money_init : PySem.W.isFn K (.ref a_Money_init) = true)
    (l_Money_init : K.lookup a_Money_init = some ⟨oc_Money_init, od_Money_init, .func (PySem.W.fnOf "__init__" "Money.__init__" (defArgs s_Money_init) (defBody s_Money_init) (defScope s_Money_init) .none kV_Money_init dc_Money_init pm_Money_init an_Money_init cd_Money_init ct_Money_init), sl_Money_init⟩)
    (c_Money_init : PySem.W.codeIn K cd_Money_init "Money.__init__" = true)
    (k_Money_init : PySem.W.keepIn K (.ref a_Money_init) = true)
    (n_Money_parts : PySem.W.findIn K (.ref C_Money) "parts" = some (some (.ref a_Money_parts)))
    (i_Money_parts : PySem.W.isFn K (.ref a_Money_parts) = true)
    (l_Money_parts : K.lookup a_Money_parts = some ⟨oc_Money_parts, od_Money_parts, .func (PySem.W.fnOf "parts" "Money.parts" (defArgs s_Money_parts) (defBody s_Money_parts) (defScope s_Money_parts) .none kV_Money_parts dc_Money_parts pm_Money_parts an_Money_parts cd_Money_parts ct_Money_parts), sl_Money_parts⟩)
    (c_Money_parts : PySem.W.codeIn K cd_Money_parts "Money.parts" = true)
    (k_Money_parts : PySem.W.keepIn K (.ref a_Money_parts) = true)
    (n_Money_text : PySem.W.findIn K (.ref C_Money) "text" = some (some (.ref a_Money_text)))
    (i_Money_text : PySem.W.isFn K (.ref a_Money_text) = true)
    (l_Money_text : K.lookup a_Money_text = some ⟨oc_Money_text, od_Money_text, .func (PySem.W.fnOf "text" "Money.text" (defArgs s_Money_text) (defBody s_Money_text) (defScope s_Money_text) .none kV_Money_text dc_Money_text pm_Money_text an_Money_text cd_Money_text ct_Money_text), sl_Money_text⟩)
    (c_Money_text : PySem.W.codeIn K cd_Money_text "Money.text" = true)
    (k_Money_text : PySem.W.keepIn K (.ref a_Money_text) = true)
    (n_Money_amount : PySem.W.findIn K (.ref C_Money) "amount" = some (some (.ref a_Money_amount)))
    (i_Money_amount : PySem.W.isFn K (.ref a_Money_amount) = true)
    (l_Money_amount : K.lookup a_Money_amount = some ⟨oc_Money_amount, od_Money_amount, .func (PySem.W.fnOf "amount" "Money.amount" (defArgs s_Money_amount) (defBody s_Money_amount) (defScope s_Money_amount) .none kV_Money_amount dc_Money_amount pm_Money_amount an_Money_amount cd_Money_amount ct_Money_amount), sl_Money_amount⟩)
    (c_Money_amount : PySem.W.codeIn K cd_Money_amount "Money.amount" = true)
    (k_Money_amount : PySem.W.keepIn K (.ref a_Money_amount) = true)
    (n_l_mixed : PySem.W.nsIn K mainGlobals "_law_mixed" = some (some (.ref a_l_mixed)))
    (l_l_mixed : K.lookup a_l_mixed = some ⟨oc_l_mixed, od_l_mixed, .func (PySem.W.fnOf "_law_mixed" "_law_mixed" (defArgs s_l_mixed) (defBody s_l_mixed) (defScope s_l_mixed) .none kV_l_mixed dc_l_mixed pm_l_mixed an_l_mixed cd_l_mixed ct_l_mixed), sl_l_mixed⟩)
    (c_l_mixed : PySem.W.codeIn K cd_l_mixed "_law_mixed" = true)
    (k_l_mixed : PySem.W.keepIn K (.ref a_l_mixed) = true)
    (n_l_next : PySem.W.nsIn K mainGlobals "_law_next" = some (some (.ref a_l_next)))
    (l_l_next : K.lookup a_l_next = some ⟨oc_l_next, od_l_next, .func (PySem.W.fnOf "_law_next" "_law_next" (defArgs s_l_next) (defBody s_l_next) (defScope s_l_next) .none kV_l_next dc_l_next pm_l_next an_l_next cd_l_next ct_l_next), sl_l_next⟩)
    (c_l_next : PySem.W.codeIn K cd_l_next "_law_next" = true)
    (k_l_next : PySem.W.keepIn K (.ref a_l_next) = true)
    (n_l_pick : PySem.W.nsIn K mainGlobals "_law_pick" = some (some (.ref a_l_pick)))
    (l_l_pick : K.lookup a_l_pick = some ⟨oc_l_pick, od_l_pick, .func (PySem.W.fnOf "_law_pick" "_law_pick" (defArgs s_l_pick) (defBody s_l_pick) (defScope s_l_pick) .none kV_l_pick dc_l_pick pm_l_pick an_l_pick cd_l_pick ct_l_pick), sl_l_pick⟩)
    (c_l_pick : PySem.W.codeIn K cd_l_pick "_law_pick" = true)
    (k_l_pick : PySem.W.keepIn K (.ref a_l_pick) = true)
    (n_l_word : PySem.W.nsIn K mainGlobals "_law_word" = some (some (.ref a_l_word)))
    (l_l_word : K.lookup a_l_word = some ⟨oc_l_word, od_l_word, .func (PySem.W.fnOf "_law_word" "_law_word" (defArgs s_l_word) (defBody s_l_word) (defScope s_l_word) .none kV_l_word dc_l_word pm_l_word an_l_word cd_l_word ct_l_word), sl_l_word⟩)
    (c_l_word : PySem.W.codeIn K cd_l_word "_law_word" = true)
    (k_l_word : PySem.W.keepIn K (.ref a_l_word) = true)
    (n_l_words : PySem.W.nsIn K mainGlobals "_law_words" = some (some (.ref a_l_words)))
    (l_l_words : K.lookup a_l_words = some ⟨oc_l_words, od_l_words, .func (PySem.W.fnOf "_law_words" "_law_words" (defArgs s_l_words) (defBody s_l_words) (defScope s_l_words) .none kV_l_words dc_l_words pm_l_words an_l_words cd_l_words ct_l_words), sl_l_words⟩)
    (c_l_words : PySem.W.codeIn K cd_l_words "_law_words" = true)
    (k_l_words : PySem.W.keepIn K (.ref a_l_words) = true)
    (n_l_signs : PySem.W.nsIn K mainGlobals "_law_signs" = some (some (.ref a_l_signs)))
    (l_l_signs : K.lookup a_l_signs = some ⟨oc_l_signs, od_l_signs, .func (PySem.W.fnOf "_law_signs" "_law_signs" (defArgs s_l_signs) (defBody s_l_signs) (defScope s_l_signs) .none kV_l_signs dc_l_signs pm_l_signs an_l_signs cd_l_signs ct_l_signs), sl_l_signs⟩)
    (c_l_signs : PySem.W.codeIn K cd_l_signs "_law_signs" = true)
    (k_l_signs : PySem.W.keepIn K (.ref a_l_signs) = true)
    (n_l_units : PySem.W.nsIn K mainGlobals "_law_units" = some (some (.ref a_l_units)))
    (l_l_units : K.lookup a_l_units = some ⟨oc_l_units, od_l_units, .func (PySem.W.fnOf "_law_units" "_law_units" (defArgs s_l_units) (defBody s_l_units) (defScope s_l_units) .none kV_l_units dc_l_units pm_l_units an_l_units cd_l_units ct_l_units), sl_l_units⟩)
    (c_l_units : PySem.W.codeIn K cd_l_units "_law_units" = true)
    (k_l_units : PySem.W.keepIn K (.ref a_l_units) = true)
    (n_l_sizes : PySem.W.nsIn K mainGlobals "_law_sizes" = some (some (.ref a_l_sizes)))
    (l_l_sizes : K.lookup a_l_sizes = some ⟨oc_l_sizes, od_l_sizes, .func (PySem.W.fnOf "_law_sizes" "_law_sizes" (defArgs s_l_sizes) (defBody s_l_sizes) (defScope s_l_sizes) .none kV_l_sizes dc_l_sizes pm_l_sizes an_l_sizes cd_l_sizes ct_l_sizes), sl_l_sizes⟩)
    (c_l_sizes : PySem.W.codeIn K cd_l_sizes "_law_sizes" = true)
    (k_l_sizes : PySem.W.keepIn K (.ref a_l_sizes) = true)
    (n_l_counts : PySem.W.nsIn K mainGlobals "_law_counts" = some (some (.ref a_l_counts)))
    (l_l_counts : K.lookup a_l_counts = some ⟨oc_l_counts, od_l_counts, .func (PySem.W.fnOf "_law_counts" "_law_counts" (defArgs s_l_counts) (defBody s_l_counts) (defScope s_l_counts) .none kV_l_counts dc_l_counts pm_l_counts an_l_counts cd_l_counts ct_l_counts), sl_l_counts⟩)
    (c_l_counts : PySem.W.codeIn K cd_l_counts "_law_counts" = true)
    (k_l_counts : PySem.W.keepIn K (.ref a_l_counts) = true)
    (n_l_bent : PySem.W.nsIn K mainGlobals "_law_bent" = some (some (.ref a_l_bent)))
    (l_l_bent : K.lookup a_l_bent = some ⟨oc_l_bent, od_l_bent, .func (PySem.W.fnOf "_law_bent" "_law_bent" (defArgs s_l_bent) (defBody s_l_bent) (defScope s_l_bent) .none kV_l_bent dc_l_bent pm_l_bent an_l_bent cd_l_bent ct_l_bent), sl_l_bent⟩)
    (c_l_bent : PySem.W.codeIn K cd_l_bent "_law_bent" = true)
    (k_l_bent : PySem.W.keepIn K (.ref a_l_bent) = true)
    (n_l_text : PySem.W.nsIn K mainGlobals "_law_text" = some (some (.ref a_l_text)))
    (l_l_text : K.lookup a_l_text = some ⟨oc_l_text, od_l_text, .func (PySem.W.fnOf "_law_text" "_law_text" (defArgs s_l_text) (defBody s_l_text) (defScope s_l_text) .none kV_l_text dc_l_text pm_l_text an_l_text cd_l_text ct_l_text), sl_l_text⟩)
    (c_l_text : PySem.W.codeIn K cd_l_text "_law_text" = true)
    (k_l_text : PySem.W.keepIn K (.ref a_l_text) = true)
    (n_l_figures : PySem.W.nsIn K mainGlobals "_law_figures" = some (some (.ref a_l_figures)))
    (l_l_figures : K.lookup a_l_figures = some ⟨oc_l_figures, od_l_figures, .func (PySem.W.fnOf "_law_figures" "_law_figures" (defArgs s_l_figures) (defBody s_l_figures) (defScope s_l_figures) .none kV_l_figures dc_l_figures pm_l_figures an_l_figures cd_l_figures ct_l_figures), sl_l_figures⟩)
    (c_l_figures : PySem.W.codeIn K cd_l_figures "_law_figures" = true)
    (k_l_figures : PySem.W.keepIn K (.ref a_l_figures) = true)
    (n_l_due : PySem.W.nsIn K mainGlobals "_law_due" = some (some (.ref a_l_due)))
    (l_l_due : K.lookup a_l_due = some ⟨oc_l_due, od_l_due, .func (PySem.W.fnOf "_law_due" "_law_due" (defArgs s_l_due) (defBody s_l_due) (defScope s_l_due) .none kV_l_due dc_l_due pm_l_due an_l_due cd_l_due ct_l_due), sl_l_due⟩)
    (c_l_due : PySem.W.codeIn K cd_l_due "_law_due" = true)
    (k_l_due : PySem.W.keepIn K (.ref a_l_due) = true)
    (n_l_alone : PySem.W.nsIn K mainGlobals "_law_alone" = some (some (.ref a_l_alone)))
    (l_l_alone : K.lookup a_l_alone = some ⟨oc_l_alone, od_l_alone, .func (PySem.W.fnOf "_law_alone" "_law_alone" (defArgs s_l_alone) (defBody s_l_alone) (defScope s_l_alone) .none kV_l_alone dc_l_alone pm_l_alone an_l_alone cd_l_alone ct_l_alone), sl_l_alone⟩)
    (c_l_alone : PySem.W.codeIn K cd_l_alone "_law_alone" = true)
    (k_l_alone : PySem.W.keepIn K (.ref a_l_alone) = true)
    (n_l_read_right : PySem.W.nsIn K mainGlobals "_law_read_right" = some (some (.ref a_l_read_right)))
    (l_l_read_right : K.lookup a_l_read_right = some ⟨oc_l_read_right, od_l_read_right, .func (PySem.W.fnOf "_law_read_right" "_law_read_right" (defArgs s_l_read_right) (defBody s_l_read_right) (defScope s_l_read_right) .none kV_l_read_right dc_l_read_right pm_l_read_right an_l_read_right cd_l_read_right ct_l_read_right), sl_l_read_right⟩)
    (c_l_read_right : PySem.W.codeIn K cd_l_read_right "_law_read_right" = true)
    (k_l_read_right : PySem.W.keepIn K (.ref a_l_read_right) = true)
    (n_law : PySem.W.nsIn K mainGlobals "law" = some (some (.ref a_law)))
    (l_law : K.lookup a_law = some ⟨oc_law, od_law, .func (PySem.W.fnOf "law" "law" (defArgs s_law) (defBody s_law) (defScope s_law) .none kV_law dc_law pm_law an_law cd_law ct_law), sl_law⟩)
    (c_law : PySem.W.codeIn K cd_law "law" = true)
    (k_law : PySem.W.keepIn K (.ref a_law) = true)
    (n_SMALL_LETTERS : PySem.W.nsIn K mainGlobals "SMALL_LETTERS" = some (some (Value.str "abcdefghijklmnopqrstuvwxyz" k_SMALL_LETTERS)))
    (n_FIGURES : PySem.W.nsIn K mainGlobals "FIGURES" = some (some (Value.str "0123456789" k_FIGURES)))
    (n_LONGEST_NAME : PySem.W.nsIn K mainGlobals "LONGEST_NAME" = some (some (Value.int 8 k_LONGEST_NAME)))
    (n_MOST_FIGURES : PySem.W.nsIn K mainGlobals "MOST_FIGURES" = some (some (Value.int 16 k_MOST_FIGURES)))
    (n_MOST_AMOUNT : PySem.W.nsIn K mainGlobals "MOST_AMOUNT" = some (some (Value.int 1000000000000000 k_MOST_AMOUNT)))
    (n_MOST_UNITS : PySem.W.nsIn K mainGlobals "MOST_UNITS" = some (some (Value.int 6 k_MOST_UNITS)))
    (n_LEAST_MANY : PySem.W.nsIn K mainGlobals "LEAST_MANY" = some (some (Value.int 2 k_LEAST_MANY)))
    (n_MOST_MANY : PySem.W.nsIn K mainGlobals "MOST_MANY" = some (some (Value.int 1000 k_MOST_MANY)))
    (z_len : PySem.W.nsIn K mainGlobals "len" = some none)
    (z_range : PySem.W.nsIn K mainGlobals "range" = some none)
    (z_max : PySem.W.nsIn K mainGlobals "max" = some none)
    (z_min : PySem.W.nsIn K mainGlobals "min" = some none)
    (z_isinstance : PySem.W.nsIn K mainGlobals "isinstance" = some none)
    (z_all : PySem.W.nsIn K mainGlobals "all" = some none)
    (z_str : PySem.W.nsIn K mainGlobals "str" = some none)
    (z_bool : PySem.W.nsIn K mainGlobals "bool" = some none)
    (z_int : PySem.W.nsIn K mainGlobals "int" = some none)
    (z_list : PySem.W.nsIn K mainGlobals "list" = some none)
    (z_tuple : PySem.W.nsIn K mainGlobals "tuple" = some none)
    (z_reversed : PySem.W.nsIn K mainGlobals "reversed" = some none)
    (z_enumerate : PySem.W.nsIn K mainGlobals "enumerate" = some none)
    (z_set : PySem.W.nsIn K mainGlobals "set" = some none)
    (z_divmod : PySem.W.nsIn K mainGlobals "divmod" = some none)
    (z_zip : PySem.W.nsIn K mainGlobals "zip" = some none)
    (z_sum : PySem.W.nsIn K mainGlobals "sum" = some none)
    (z_ValueError : PySem.W.nsIn K mainGlobals "ValueError" = some none) : ∃ t : Ad, Env K mg t := by
  have F_is_made_of := fun_mk (st := s_is_made_of) l_is_made_of c_is_made_of k_is_made_of
  have B_is_made_of := F_is_made_of.binds (ps := ["text", "signs"]) fun _ _ _ _ _ _ us hl => match us, hl with | [_, _], _ => rfl
  have F_is_word := fun_mk (st := s_is_word) l_is_word c_is_word k_is_word
  have B_is_word := F_is_word.binds (ps := ["text"]) fun _ _ _ _ _ _ us hl => match us, hl with | [_], _ => rfl
  have F_is_name := fun_mk (st := s_is_name) l_is_name c_is_name k_is_name
  have B_is_name := F_is_name.binds (ps := ["text"]) fun _ _ _ _ _ _ us hl => match us, hl with | [_], _ => rfl
  have F_is_figures := fun_mk (st := s_is_figures) l_is_figures c_is_figures k_is_figures
  have B_is_figures := F_is_figures.binds (ps := ["text"]) fun _ _ _ _ _ _ us hl => match us, hl with | [_], _ => rfl
  have F_is_number := fun_mk (st := s_is_number) l_is_number c_is_number k_is_number
  have B_is_number := F_is_number.binds (ps := ["number"]) fun _ _ _ _ _ _ us hl => match us, hl with | [_], _ => rfl
  have F_is_within := fun_mk (st := s_is_within) l_is_within c_is_within k_is_within
  have B_is_within := F_is_within.binds (ps := ["number", "least", "most"]) fun _ _ _ _ _ _ us hl => match us, hl with | [_, _, _], _ => rfl
  have F_is_amount := fun_mk (st := s_is_amount) l_is_amount c_is_amount k_is_amount
  have B_is_amount := F_is_amount.binds (ps := ["number"]) fun _ _ _ _ _ _ us hl => match us, hl with | [_], _ => rfl
  have F_check_units := fun_mk (st := s_check_units) l_check_units c_check_units k_check_units
  have B_check_units := F_check_units.binds (ps := ["units"]) fun _ _ _ _ _ _ us hl => match us, hl with | [_], _ => rfl
  have F_unit_sizes := fun_mk (st := s_unit_sizes) l_unit_sizes c_unit_sizes k_unit_sizes
  have B_unit_sizes := F_unit_sizes.binds (ps := ["units"]) fun _ _ _ _ _ _ us hl => match us, hl with | [_], _ => rfl
  have F_read_pairs := fun_mk (st := s_read_pairs) l_read_pairs c_read_pairs k_read_pairs
  have B_read_pairs := F_read_pairs.binds (ps := ["text"]) fun _ _ _ _ _ _ us hl => match us, hl with | [_], _ => rfl
  have F_Money_init := fun_mk (st := s_Money_init) l_Money_init c_Money_init k_Money_init
  have B_Money_init := F_Money_init.binds (ps := ["self", "units"]) fun _ _ _ _ _ _ us hl => match us, hl with | [_, _], _ => rfl
  have F_Money_parts := fun_mk (st := s_Money_parts) l_Money_parts c_Money_parts k_Money_parts
  have B_Money_parts := F_Money_parts.binds (ps := ["self", "amount"]) fun _ _ _ _ _ _ us hl => match us, hl with | [_, _], _ => rfl
  have F_Money_text := fun_mk (st := s_Money_text) l_Money_text c_Money_text k_Money_text
  have B_Money_text := F_Money_text.binds (ps := ["self", "amount"]) fun _ _ _ _ _ _ us hl => match us, hl with | [_, _], _ => rfl
  have F_Money_amount := fun_mk (st := s_Money_amount) l_Money_amount c_Money_amount k_Money_amount
  have B_Money_amount := F_Money_amount.binds (ps := ["self", "text"]) fun _ _ _ _ _ _ us hl => match us, hl with | [_, _], _ => rfl
  have F_l_mixed := fun_mk (st := s_l_mixed) l_l_mixed c_l_mixed k_l_mixed
  have B_l_mixed := F_l_mixed.binds (ps := ["_law_cell", "_law_k"]) fun _ _ _ _ _ _ us hl => match us, hl with | [_, _], _ => rfl
  have F_l_next := fun_mk (st := s_l_next) l_l_next c_l_next k_l_next
  have B_l_next := F_l_next.binds (ps := ["_law_draw", "_law_size"]) fun _ _ _ _ _ _ us hl => match us, hl with | [_, _], _ => rfl
  have F_l_pick := fun_mk (st := s_l_pick) l_l_pick c_l_pick k_l_pick
  have B_l_pick := F_l_pick.binds (ps := ["_law_draw", "_law_some"]) fun _ _ _ _ _ _ us hl => match us, hl with | [_, _], _ => rfl
  have F_l_word := fun_mk (st := s_l_word) l_l_word c_l_word k_l_word
  have B_l_word := F_l_word.binds (ps := ["_law_draw"]) fun _ _ _ _ _ _ us hl => match us, hl with | [_], _ => rfl
  have F_l_words := fun_mk (st := s_l_words) l_l_words c_l_words k_l_words
  have B_l_words := F_l_words.binds (ps := ["_law_draw", "_law_many"]) fun _ _ _ _ _ _ us hl => match us, hl with | [_, _], _ => rfl
  have F_l_signs := fun_mk (st := s_l_signs) l_l_signs c_l_signs k_l_signs
  have B_l_signs := F_l_signs.binds (ps := []) fun _ _ _ _ _ _ us hl => match us, hl with | [], _ => rfl
  have F_l_units := fun_mk (st := s_l_units) l_l_units c_l_units k_l_units
  have B_l_units := F_l_units.binds (ps := ["_law_draw"]) fun _ _ _ _ _ _ us hl => match us, hl with | [_], _ => rfl
  have F_l_sizes := fun_mk (st := s_l_sizes) l_l_sizes c_l_sizes k_l_sizes
  have B_l_sizes := F_l_sizes.binds (ps := ["_law_units_here"]) fun _ _ _ _ _ _ us hl => match us, hl with | [_], _ => rfl
  have F_l_counts := fun_mk (st := s_l_counts) l_l_counts c_l_counts k_l_counts
  have B_l_counts := F_l_counts.binds (ps := ["_law_draw", "_law_units_here"]) fun _ _ _ _ _ _ us hl => match us, hl with | [_, _], _ => rfl
  have F_l_bent := fun_mk (st := s_l_bent) l_l_bent c_l_bent k_l_bent
  have B_l_bent := F_l_bent.binds (ps := ["_law_draw", "_law_words_here", "_law_units_here"]) fun _ _ _ _ _ _ us hl => match us, hl with | [_, _, _], _ => rfl
  have F_l_text := fun_mk (st := s_l_text) l_l_text c_l_text k_l_text
  have B_l_text := F_l_text.binds (ps := ["_law_draw", "_law_units_here"]) fun _ _ _ _ _ _ us hl => match us, hl with | [_, _], _ => rfl
  have F_l_figures := fun_mk (st := s_l_figures) l_l_figures c_l_figures k_l_figures
  have B_l_figures := F_l_figures.binds (ps := ["_law_word_here"]) fun _ _ _ _ _ _ us hl => match us, hl with | [_], _ => rfl
  have F_l_due := fun_mk (st := s_l_due) l_l_due c_l_due k_l_due
  have B_l_due := F_l_due.binds (ps := ["_law_units_here", "_law_text_here"]) fun _ _ _ _ _ _ us hl => match us, hl with | [_, _], _ => rfl
  have F_l_alone := fun_mk (st := s_l_alone) l_l_alone c_l_alone k_l_alone
  have B_l_alone := F_l_alone.binds (ps := ["_law_error", "_law_due_here"]) fun _ _ _ _ _ _ us hl => match us, hl with | [_, _], _ => rfl
  have F_l_read_right := fun_mk (st := s_l_read_right) l_l_read_right c_l_read_right k_l_read_right
  have B_l_read_right := F_l_read_right.binds (ps := ["_law_money", "_law_due_here", "_law_text_here"]) fun _ _ _ _ _ _ us hl => match us, hl with | [_, _, _], _ => rfl
  have F_law := fun_mk (st := s_law) l_law c_law k_law
  have B_law := F_law.binds (ps := ["_law_script"]) fun _ _ _ _ _ _ us hl => match us, hl with | [_], _ => rfl
  exact ⟨⟨C_Money, C_NoText, C_NoAmount, C_NoName, C_NoMoney, C_NoBridge, C_NoDay, C_NoWorth, C_NoBook, C_NoTerm, C_NoWeight, C_NoMany, C_NoKinds, C_Lacking, C_NoRow, C_NoStock, C_NoDebt, C_NoPeople, C_NoDeed, C_Shut, C_TooMany, C_CoinError, a_is_made_of, PySem.W.fnOf _ _ (defArgs s_is_made_of) (defBody s_is_made_of) (defScope s_is_made_of) .none kV_is_made_of dc_is_made_of pm_is_made_of an_is_made_of cd_is_made_of ct_is_made_of, a_is_word, PySem.W.fnOf _ _ (defArgs s_is_word) (defBody s_is_word) (defScope s_is_word) .none kV_is_word dc_is_word pm_is_word an_is_word cd_is_word ct_is_word, a_is_name, PySem.W.fnOf _ _ (defArgs s_is_name) (defBody s_is_name) (defScope s_is_name) .none kV_is_name dc_is_name pm_is_name an_is_name cd_is_name ct_is_name, a_is_figures, PySem.W.fnOf _ _ (defArgs s_is_figures) (defBody s_is_figures) (defScope s_is_figures) .none kV_is_figures dc_is_figures pm_is_figures an_is_figures cd_is_figures ct_is_figures, a_is_number, PySem.W.fnOf _ _ (defArgs s_is_number) (defBody s_is_number) (defScope s_is_number) .none kV_is_number dc_is_number pm_is_number an_is_number cd_is_number ct_is_number, a_is_within, PySem.W.fnOf _ _ (defArgs s_is_within) (defBody s_is_within) (defScope s_is_within) .none kV_is_within dc_is_within pm_is_within an_is_within cd_is_within ct_is_within, a_is_amount, PySem.W.fnOf _ _ (defArgs s_is_amount) (defBody s_is_amount) (defScope s_is_amount) .none kV_is_amount dc_is_amount pm_is_amount an_is_amount cd_is_amount ct_is_amount, a_check_units, PySem.W.fnOf _ _ (defArgs s_check_units) (defBody s_check_units) (defScope s_check_units) .none kV_check_units dc_check_units pm_check_units an_check_units cd_check_units ct_check_units, a_unit_sizes, PySem.W.fnOf _ _ (defArgs s_unit_sizes) (defBody s_unit_sizes) (defScope s_unit_sizes) .none kV_unit_sizes dc_unit_sizes pm_unit_sizes an_unit_sizes cd_unit_sizes ct_unit_sizes, a_read_pairs, PySem.W.fnOf _ _ (defArgs s_read_pairs) (defBody s_read_pairs) (defScope s_read_pairs) .none kV_read_pairs dc_read_pairs pm_read_pairs an_read_pairs cd_read_pairs ct_read_pairs, a_Money_init, PySem.W.fnOf _ _ (defArgs s_Money_init) (defBody s_Money_init) (defScope s_Money_init) .none kV_Money_init dc_Money_init pm_Money_init an_Money_init cd_Money_init ct_Money_init, a_Money_parts, PySem.W.fnOf _ _ (defArgs s_Money_parts) (defBody s_Money_parts) (defScope s_Money_parts) .none kV_Money_parts dc_Money_parts pm_Money_parts an_Money_parts cd_Money_parts ct_Money_parts, a_Money_text, PySem.W.fnOf _ _ (defArgs s_Money_text) (defBody s_Money_text) (defScope s_Money_text) .none kV_Money_text dc_Money_text pm_Money_text an_Money_text cd_Money_text ct_Money_text, a_Money_amount, PySem.W.fnOf _ _ (defArgs s_Money_amount) (defBody s_Money_amount) (defScope s_Money_amount) .none kV_Money_amount dc_Money_amount pm_Money_amount an_Money_amount cd_Money_amount ct_Money_amount, a_l_mixed, PySem.W.fnOf _ _ (defArgs s_l_mixed) (defBody s_l_mixed) (defScope s_l_mixed) .none kV_l_mixed dc_l_mixed pm_l_mixed an_l_mixed cd_l_mixed ct_l_mixed, a_l_next, PySem.W.fnOf _ _ (defArgs s_l_next) (defBody s_l_next) (defScope s_l_next) .none kV_l_next dc_l_next pm_l_next an_l_next cd_l_next ct_l_next, a_l_pick, PySem.W.fnOf _ _ (defArgs s_l_pick) (defBody s_l_pick) (defScope s_l_pick) .none kV_l_pick dc_l_pick pm_l_pick an_l_pick cd_l_pick ct_l_pick, a_l_word, PySem.W.fnOf _ _ (defArgs s_l_word) (defBody s_l_word) (defScope s_l_word) .none kV_l_word dc_l_word pm_l_word an_l_word cd_l_word ct_l_word, a_l_words, PySem.W.fnOf _ _ (defArgs s_l_words) (defBody s_l_words) (defScope s_l_words) .none kV_l_words dc_l_words pm_l_words an_l_words cd_l_words ct_l_words, a_l_signs, PySem.W.fnOf _ _ (defArgs s_l_signs) (defBody s_l_signs) (defScope s_l_signs) .none kV_l_signs dc_l_signs pm_l_signs an_l_signs cd_l_signs ct_l_signs, a_l_units, PySem.W.fnOf _ _ (defArgs s_l_units) (defBody s_l_units) (defScope s_l_units) .none kV_l_units dc_l_units pm_l_units an_l_units cd_l_units ct_l_units, a_l_sizes, PySem.W.fnOf _ _ (defArgs s_l_sizes) (defBody s_l_sizes) (defScope s_l_sizes) .none kV_l_sizes dc_l_sizes pm_l_sizes an_l_sizes cd_l_sizes ct_l_sizes, a_l_counts, PySem.W.fnOf _ _ (defArgs s_l_counts) (defBody s_l_counts) (defScope s_l_counts) .none kV_l_counts dc_l_counts pm_l_counts an_l_counts cd_l_counts ct_l_counts, a_l_bent, PySem.W.fnOf _ _ (defArgs s_l_bent) (defBody s_l_bent) (defScope s_l_bent) .none kV_l_bent dc_l_bent pm_l_bent an_l_bent cd_l_bent ct_l_bent, a_l_text, PySem.W.fnOf _ _ (defArgs s_l_text) (defBody s_l_text) (defScope s_l_text) .none kV_l_text dc_l_text pm_l_text an_l_text cd_l_text ct_l_text, a_l_figures, PySem.W.fnOf _ _ (defArgs s_l_figures) (defBody s_l_figures) (defScope s_l_figures) .none kV_l_figures dc_l_figures pm_l_figures an_l_figures cd_l_figures ct_l_figures, a_l_due, PySem.W.fnOf _ _ (defArgs s_l_due) (defBody s_l_due) (defScope s_l_due) .none kV_l_due dc_l_due pm_l_due an_l_due cd_l_due ct_l_due, a_l_alone, PySem.W.fnOf _ _ (defArgs s_l_alone) (defBody s_l_alone) (defScope s_l_alone) .none kV_l_alone dc_l_alone pm_l_alone an_l_alone cd_l_alone ct_l_alone, a_l_read_right, PySem.W.fnOf _ _ (defArgs s_l_read_right) (defBody s_l_read_right) (defScope s_l_read_right) .none kV_l_read_right dc_l_read_right pm_l_read_right an_l_read_right cd_l_read_right ct_l_read_right, a_law, PySem.W.fnOf _ _ (defArgs s_law) (defBody s_law) (defScope s_law) .none kV_law dc_law pm_law an_law cd_law ct_law, k_SMALL_LETTERS, k_FIGURES, k_LONGEST_NAME, k_MOST_FIGURES, k_MOST_AMOUNT, k_MOST_UNITS, k_LEAST_MANY, k_MOST_MANY⟩, ⟨⟨pg_Money, hd_Money, po_Money, sa_Money⟩, PySem.W.mg_of X G n_Money, ⟨mk_Money, n_Money_init, i_Money_init, kc_Money⟩, no_Money_units, no_Money_sizes, no_Money_places, PySem.W.mg_of X G n_NoText, PySem.W.mg_of X G n_NoAmount, PySem.W.mg_of X G n_NoName, PySem.W.mg_of X G n_NoMoney, PySem.W.mg_of X G n_NoBridge, PySem.W.mg_of X G n_NoDay, PySem.W.mg_of X G n_NoWorth, PySem.W.mg_of X G n_NoBook, PySem.W.mg_of X G n_NoTerm, PySem.W.mg_of X G n_NoWeight, PySem.W.mg_of X G n_NoMany, PySem.W.mg_of X G n_NoKinds, PySem.W.mg_of X G n_Lacking, PySem.W.mg_of X G n_NoRow, PySem.W.mg_of X G n_NoStock, PySem.W.mg_of X G n_NoDebt, PySem.W.mg_of X G n_NoPeople, PySem.W.mg_of X G n_NoDeed, PySem.W.mg_of X G n_Shut, PySem.W.mg_of X G n_TooMany, PySem.W.mg_of X G n_CoinError, ⟨⟨e0_NoText⟩, e1_NoText, e2_NoText, e3_NoText⟩, is_NoText_NoName, is_NoText_NoMoney, is_NoText_NoAmount, is_NoText_NoText, is_NoText_NoBridge, is_NoText_NoDay, is_NoText_NoWorth, is_NoText_NoBook, is_NoText_NoTerm, is_NoText_NoWeight, is_NoText_NoMany, is_NoText_NoKinds, is_NoText_Lacking, is_NoText_NoRow, is_NoText_NoStock, is_NoText_NoDebt, is_NoText_NoPeople, is_NoText_NoDeed, is_NoText_Shut, is_NoText_TooMany, is_NoText_ValueError, ca_NoText_CoinError, ⟨⟨e0_NoAmount⟩, e1_NoAmount, e2_NoAmount, e3_NoAmount⟩, is_NoAmount_NoName, is_NoAmount_NoMoney, is_NoAmount_NoAmount, is_NoAmount_NoText, is_NoAmount_NoBridge, is_NoAmount_NoDay, is_NoAmount_NoWorth, is_NoAmount_NoBook, is_NoAmount_NoTerm, is_NoAmount_NoWeight, is_NoAmount_NoMany, is_NoAmount_NoKinds, is_NoAmount_Lacking, is_NoAmount_NoRow, is_NoAmount_NoStock, is_NoAmount_NoDebt, is_NoAmount_NoPeople, is_NoAmount_NoDeed, is_NoAmount_Shut, is_NoAmount_TooMany, is_NoAmount_ValueError, ca_NoAmount_CoinError, F_is_made_of, B_is_made_of, k_is_made_of, PySem.W.mg_of X G n_is_made_of, F_is_word, B_is_word, k_is_word, PySem.W.mg_of X G n_is_word, F_is_name, B_is_name, k_is_name, PySem.W.mg_of X G n_is_name, F_is_figures, B_is_figures, k_is_figures, PySem.W.mg_of X G n_is_figures, F_is_number, B_is_number, k_is_number, PySem.W.mg_of X G n_is_number, F_is_within, B_is_within, k_is_within, PySem.W.mg_of X G n_is_within, F_is_amount, B_is_amount, k_is_amount, PySem.W.mg_of X G n_is_amount, F_check_units, B_check_units, k_check_units, PySem.W.mg_of X G n_check_units, F_unit_sizes, B_unit_sizes, k_unit_sizes, PySem.W.mg_of X G n_unit_sizes, F_read_pairs, B_read_pairs, k_read_pairs, PySem.W.mg_of X G n_read_pairs, F_Money_init, B_Money_init, F_Money_parts, B_Money_parts, ⟨n_Money_parts, i_Money_parts, k_Money_parts⟩, F_Money_text, B_Money_text, ⟨n_Money_text, i_Money_text, k_Money_text⟩, F_Money_amount, B_Money_amount, ⟨n_Money_amount, i_Money_amount, k_Money_amount⟩, F_l_mixed, B_l_mixed, k_l_mixed, PySem.W.mg_of X G n_l_mixed, F_l_next, B_l_next, k_l_next, PySem.W.mg_of X G n_l_next, F_l_pick, B_l_pick, k_l_pick, PySem.W.mg_of X G n_l_pick, F_l_word, B_l_word, k_l_word, PySem.W.mg_of X G n_l_word, F_l_words, B_l_words, k_l_words, PySem.W.mg_of X G n_l_words, F_l_signs, B_l_signs, k_l_signs, PySem.W.mg_of X G n_l_signs, F_l_units, B_l_units, k_l_units, PySem.W.mg_of X G n_l_units, F_l_sizes, B_l_sizes, k_l_sizes, PySem.W.mg_of X G n_l_sizes, F_l_counts, B_l_counts, k_l_counts, PySem.W.mg_of X G n_l_counts, F_l_bent, B_l_bent, k_l_bent, PySem.W.mg_of X G n_l_bent, F_l_text, B_l_text, k_l_text, PySem.W.mg_of X G n_l_text, F_l_figures, B_l_figures, k_l_figures, PySem.W.mg_of X G n_l_figures, F_l_due, B_l_due, k_l_due, PySem.W.mg_of X G n_l_due, F_l_alone, B_l_alone, k_l_alone, PySem.W.mg_of X G n_l_alone, F_l_read_right, B_l_read_right, k_l_read_right, PySem.W.mg_of X G n_l_read_right, F_law, B_law, k_law, PySem.W.mg_of X G n_law, PySem.W.mg_of X G n_SMALL_LETTERS, PySem.W.mg_of X G n_FIGURES, PySem.W.mg_of X G n_LONGEST_NAME, PySem.W.mg_of X G n_MOST_FIGURES, PySem.W.mg_of X G n_MOST_AMOUNT, PySem.W.mg_of X G n_MOST_UNITS, PySem.W.mg_of X G n_LEAST_MANY, PySem.W.mg_of X G n_MOST_MANY, PySem.W.mg_none_of X G z_len, PySem.W.mg_none_of X G z_range, PySem.W.mg_none_of X G z_max, PySem.W.mg_none_of X G z_min, PySem.W.mg_none_of X G z_isinstance, PySem.W.mg_none_of X G z_all, PySem.W.mg_none_of X G z_str, PySem.W.mg_none_of X G z_bool, PySem.W.mg_none_of X G z_int, PySem.W.mg_none_of X G z_list, PySem.W.mg_none_of X G z_tuple, PySem.W.mg_none_of X G z_reversed, PySem.W.mg_none_of X G z_enumerate, PySem.W.mg_none_of X G z_set, PySem.W.mg_none_of X G z_divmod, PySem.W.mg_none_of X G z_zip, PySem.W.mg_none_of X G z_sum, PySem.W.mg_none_of X G z_ValueError⟩⟩
def spMixed : Sp := fun vs H Q _ => ∃ (c k : Int), vs = [.int c, .int k] ∧ 0 ≤ k ∧ k < 1000 ∧ ∀ r : Int, 0 ≤ r → r < 2147483399 → Q (.int r) H
def spNext (K : PySem.W.Frag) : Sp := fun vs H Q _ => ∃ (d a : Addr) (ns : List Int) (z : Int), vs = [.ref d, .int z] ∧ DrawAt K H d a ns ∧ 0 < z ∧
  ∀ (r : Int) (H' : Hp), 0 ≤ r → r < z → DrawAt K H' d a ns → Keep d H H' → Q (.int r) H'
section
variable {P : Program} {w : World} {K : PySem.W.Frag} {mg : Str → Option Value} {base : Heap} {t : Ad}
theorem ok_mixed (T : Env K mg t) : FnOk P w K mg base CX0 1 t.a_l_mixed t.fd_l_mixed ["_law_cell", "_law_k"] spMixed := by
  refine T.f_l_mixed.okQ sc_l_mixed (fun vs H Q E h => ?_) (fun cdv A outer s H vs Q E hr h => ?_)
  · obtain ⟨c, k, rfl, _⟩ := h
    rfl
  · obtain ⟨c, k, rfl, k0, k1, q⟩ := h
    refine ⟨_, (q_pss_cons (q_ps_set (i := 2) sc_l_mixed.nd rfl (by first | exact Or.inl rfl | exact Or.inr (Or.inl rfl) | exact Or.inr rfl) (q_pe_op op_mod (q_pe_op op_pow (q_pe_op op_mod (q_pe_op op_mul (q_pe_op op_add (q_pe_op op_add (q_pe_op op_mod (q_pv 0) q_pe_int) (q_pe_op op_mul q_pe_int (q_pv 1))) q_pe_int) q_pe_int) q_pe_int) q_pe_int) q_pe_int))
      (q_pss_cons (q_ps_if (q_pt_cmpR op_lt (q_pv 0) (q_pe_op op_pow q_pe_int q_pe_int) (nomark _)) (q_pss_one (q_ps_ret (q_pv 2))) q_pss_nil)
      (q_pss_one (q_ps_ret (q_pe_op op_mod (q_pe_op op_add (q_pv 2) (q_pe_op op_mod (q_pe_op op_fdivL (q_pv 0) (q_pe_op op_pow q_pe_int q_pe_int)) (q_pe_op op_add q_pe_int (q_pe_op op_mul (q_pe_op op_add (q_pv 1) q_pe_int) q_pe_int)))) q_pe_int))))), ?_⟩
    have p1 : (0 : Int) < 2147483399 := by decide
    have a0 := Int.emod_nonneg c (show (2147483399 : Int) ≠ 0 by decide)
    have a1 := Int.emod_lt_of_pos c p1
    refine ⟨_, rfl, _, _, rfl, rfl, p1, _, rfl, _, _, rfl, rfl, .inl ⟨by decide, by decide⟩, _, _, rfl, rfl, _, _, rfl, rfl, _, _, rfl, rfl, .inl ⟨by omega, by omega⟩, _, _, rfl, rfl, p1, _, _, rfl, rfl, ⟨by decide, by decide, ?_⟩, _, _, rfl, rfl, p1, ?_⟩
    · have b0 := Int.emod_nonneg ((c % 2147483399 + 104729 * k + 11) * 48271) (show (2147483399 : Int) ≠ 0 by decide)
      have b1 := Int.emod_lt_of_pos ((c % 2147483399 + 104729 * k + 11) * 48271) p1
      have : (2 : Nat) ^ 64 = 18446744073709551616 := by decide
      omega
    refine ⟨_, rfl, _, _, rfl, rfl, ⟨by decide, by decide, by decide⟩, _, _, rfl, rfl, _, rfl, ?_⟩
    refine ite2 (fun _ => ?_) (fun _ => ?_)
    · exact ⟨_, rfl, q _ (Int.emod_nonneg _ (by decide)) (Int.emod_lt_of_pos _ p1)⟩
    · refine ⟨_, rfl, _, rfl, _, _, rfl, rfl, ⟨by decide, by decide, by decide⟩, _, _, rfl, rfl, ⟨by decide +kernel, by decide +kernel⟩, _, rfl, _, _, rfl, rfl, _, _, rfl, rfl, .inl ⟨by omega, by omega⟩, _, _, rfl, rfl, _, _, rfl, rfl, ?_, _, _, rfl, rfl, _, _, rfl, rfl, p1, ?_⟩
      · show (0 : Int) < 1 + (k + 1) * _
        omega
      · exact q _ (Int.emod_nonneg _ (by decide)) (Int.emod_lt_of_pos _ p1)
theorem ok_next (T : Env K mg t) : FnOk P w K mg base CX0 2 t.a_l_next t.fd_l_next ["_law_draw", "_law_size"] (spNext K) := by
  have G_l_mixed : FnOk P w K mg base CX0 1 t.a_l_mixed t.fd_l_mixed ["_law_cell", "_law_k"] spMixed := ok_mixed T
  refine T.f_l_next.okQ sc_l_next (fun vs H Q E h => ?_) (fun cdv A outer s H vs Q E hr h => ?_)
  · obtain ⟨d, a, ns, z, rfl, _⟩ := h
    rfl
  · obtain ⟨d, a, ns, z, rfl, D, hz, q⟩ := h
    have hr_l_mixed := hr
    obtain ⟨⟨n, n0, hd⟩, sc, hl⟩ := id D
    refine ⟨_, (q_pss_cons (q_ps_set (i := 2) sc_l_next.nd rfl (by first | exact Or.inl rfl | exact Or.inr (Or.inl rfl) | exact Or.inr rfl) (q_pe_ix ix_list (q_pv 0) q_pe_int (fun _ _ => rfl)))
      (q_pss_cons (q_ps_asg (q_pe_op op_add (q_pv 2) q_pe_int) (q_pg_sub (q_pv 0) q_pe_int set_list))
      (q_pss_cons (q_ps_set (i := 3) sc_l_next.nd rfl (by first | exact Or.inl rfl | exact Or.inr (Or.inl rfl) | exact Or.inr rfl) (q_pe_callB (call_max2 rfl) (by rfl) T.z_max (by decide +kernel) (q_pa_cons q_pe_int (q_pa_cons (q_pe_callB call_len_seq (by rfl) T.z_len PySem.boot_len (q_pa_cons (q_pe_ix ix_list (q_pv 0) q_pe_int (fun _ _ => rfl)) q_pa_nil star_Subscript)) q_pa_nil star_Call) star_Constant)))
      (q_pss_cons (q_ps_set (i := 4) sc_l_next.nd rfl (by first | exact Or.inl rfl | exact Or.inr (Or.inl rfl) | exact Or.inr rfl) q_pe_int)
      (q_pss_cons (q_ps_if (q_pt_cmpR (op_neD hr.units) (q_pe_ix ix_list (q_pv 0) q_pe_int (fun _ _ => rfl)) (q_pe_lst q_pa_nil) (nomark _)) (q_pss_one (q_ps_set (i := 4) sc_l_next.nd rfl (by first | exact Or.inl rfl | exact Or.inr (Or.inl rfl) | exact Or.inr rfl) (q_pe_ix ix_list (q_pe_ix ix_list (q_pv 0) q_pe_int (fun _ _ => rfl)) (q_pe_op op_mod (q_pv 2) (q_pv 3)) (fun _ _ => rfl)))) q_pss_nil)
      (q_pss_one (q_ps_ret (q_pe_op op_mod (q_pe_op op_fdiv (q_pe_call G_l_mixed hr_l_mixed (by rfl) T.mg_l_mixed T.kp_l_mixed T.b_l_mixed .nil pass0 (q_pa_cons (q_pv 4) (q_pa_cons (q_pe_op op_mod (q_pe_op op_fdiv (q_pv 2) (q_pv 3)) q_pe_int) q_pa_nil star_BinOp) star_Name)) q_pe_int) (q_pv 1))))))))), ?_⟩
    have hd1 : ∀ o, (upd H d o) d = some o := fun o => upd_same
    have k1 : Keep d H (upd H d (.lst [.ref a, .int (n + 1)])) := fun b o e nb => by rw [upd_ne nb]; exact e
    have sc1 : Scr K (upd H d (.lst [.ref a, .int (n + 1)])) a ns := sc.keep k1 (nofrz hd)
    have D1 : DrawAt K (upd H d (.lst [.ref a, .int (n + 1)])) d a ns := ⟨⟨n + 1, by omega, upd_same⟩, sc1, hl⟩
    refine ⟨_, rfl, d, _, _, _, rfl, rfl, SqL.of hd, rfl, ?_⟩
    refine ⟨_, rfl, _, _, rfl, rfl, _, rfl, d, _, _, 1, rfl, rfl, hd, rfl, ?_⟩
    refine ⟨_, rfl, d, _, _, _, rfl, rfl, SqL.of upd_same, rfl, a, _, rfl, .inl sc1.sq, _, _, rfl, ?_⟩
    have lm : ((ns.map V.int).length : Int) = (ns.length : Int) := by rw [List.length_map]
    rw [lm]
    generalize hm : (if (ns.length : Int) > 1 then (ns.length : Int) else 1) = m
    have m1 : 1 ≤ m ∧ m ≤ 63 ∧ (ns.length ≠ 0 → m = ns.length) := by
      rw [← hm]; split <;> omega
    refine ⟨_, rfl, d, _, _, _, rfl, rfl, SqL.of upd_same, rfl, (by decide), fun l hl' => ?_⟩
    have s2 : Same (upd H d (.lst [.ref a, .int (n + 1)])) (upd (upd H d (.lst [.ref a, .int (n + 1)])) l (.lst [])) := same_new hl'
    have D2 := D1.same s2
    have k2 : Keep d H (upd (upd H d (.lst [.ref a, .int (n + 1)])) l (.lst [])) := k1.trans (.of s2)
    have hd2 : (upd (upd H d (.lst [.ref a, .int (n + 1)])) l (.lst [])) d = some (.lst [.ref a, .int (n + 1)]) := s2 _ _ upd_same
    refine ⟨.list (ns.map .int), .list [], .lst D2.sq (dp_ints ns), .lst (SqL.of upd_same) .nil, shaped_ints ns, rfl, _, rfl, ?_⟩
    rw [eqv_nil]
    have z127 : ((0 : Int) < 127 ∧ (127 : Int) < 1073741824) := ⟨by decide, by decide⟩
    cases ns with
    | nil =>
      refine iteF ?_
      refine ⟨_, rfl, _, rfl, _, rfl, _, _, rfl, rfl, ⟨by omega, by omega⟩, _, _, rfl, rfl, (by decide : (0 : Int) < 127), _, _, rfl, Int.emod_nonneg _ (by decide), Int.lt_trans (Int.emod_lt_of_pos _ (by decide)) (by decide), fun r r0 r1 => ?_⟩
      refine ⟨_, _, rfl, rfl, ⟨by decide, by decide⟩, _, rfl, _, _, rfl, rfl, hz, ?_⟩
      exact q _ _ (Int.emod_nonneg _ (by omega)) (Int.emod_lt_of_pos _ hz) D2 k2
    | cons x xs =>
      refine iteT ?_
      have hmm : m = ((x :: xs).length : Int) := m1.2.2 (by simp)
      have j0 := Int.emod_nonneg n (show m ≠ 0 by omega)
      have j1 := Int.emod_lt_of_pos n (show 0 < m by omega)
      have hj : (n % m).toNat < (x :: xs).length := by omega
      have hat : atI ((x :: xs).map V.int) (n % m) = some (.int ((x :: xs)[(n % m).toNat]'hj)) := at_of (j := (n % m).toNat) (by omega) (by rw [List.getElem?_map, List.getElem?_eq_getElem hj]; rfl)
      refine ⟨_, rfl, d, _, _, _, rfl, rfl, SqL.of hd2, rfl, _, rfl, _, rfl, _, _, rfl, rfl, (show (0 : Int) < m by omega), a, _, _, _, rfl, rfl, D2.sq, hat, ?_⟩
      refine ⟨_, rfl, _, rfl, _, rfl, _, _, rfl, rfl, ⟨by omega, by omega⟩, _, _, rfl, rfl, (by decide : (0 : Int) < 127), _, _, rfl, Int.emod_nonneg _ (by decide), Int.lt_trans (Int.emod_lt_of_pos _ (by decide)) (by decide), fun r r0 r1 => ?_⟩
      refine ⟨_, _, rfl, rfl, ⟨by decide, by decide⟩, _, rfl, _, _, rfl, rfl, hz, ?_⟩
      exact q _ _ (Int.emod_nonneg _ (by omega)) (Int.emod_lt_of_pos _ hz) D2 k2
def spPickL (K : PySem.W.Frag) : Sp := fun vs H Q _ => ∃ (d a p : Addr) (ns : List Int) (ys : List V), vs = [.ref d, .ref p] ∧ DrawAt K H d a ns ∧ H p = some (.lst ys) ∧ p ≠ d ∧ 0 < ys.length ∧
  ∀ (v : V) (H' : Hp), v ∈ ys → DrawAt K H' d a ns → Keep d H H' → Q v H'
theorem ok_pickL (T : Env K mg t) : FnOk P w K mg base CX0 3 t.a_l_pick t.fd_l_pick ["_law_draw", "_law_some"] (spPickL K) := by
  have G_l_next : FnOk P w K mg base CX0 2 t.a_l_next t.fd_l_next ["_law_draw", "_law_size"] (spNext K) := ok_next T
  refine T.f_l_pick.okQ sc_l_pick (fun vs H Q E h => ?_) (fun cdv A outer s H vs Q E hr h => ?_)
  · obtain ⟨d, a, p, ns, ys, rfl, _⟩ := h
    rfl
  · obtain ⟨d, a, p, ns, ys, rfl, D, hp, np, h0, q⟩ := h
    have hr_l_next := hr
    refine ⟨_, (q_pss_one (q_ps_ret (q_pe_ix ix_list (q_pv 1) (q_pe_call G_l_next hr_l_next (by rfl) T.mg_l_next T.kp_l_next T.b_l_next .nil pass0 (q_pa_cons (q_pv 0) (q_pa_cons (q_pe_callB call_len_seq (by rfl) T.z_len PySem.boot_len (q_pa_cons (q_pv 1) q_pa_nil star_Name)) q_pa_nil star_Call) star_Name)) (fun _ _ => rfl)))), ?_⟩
    refine ⟨_, rfl, _, rfl, _, rfl, p, ys, rfl, .inl (SqL.of hp), d, a, ns, _, rfl, D, by omega, fun r H' r0 r1 D' k' => ?_⟩
    obtain ⟨v, hv, hm⟩ := at_bound (xs := ys) r0 r1
    exact ⟨p, ys, r, v, rfl, rfl, SqL.of (k' _ _ hp np), hv, q v H' hm D' k'⟩
def spWord (K : PySem.W.Frag) : Sp := fun vs H Q _ => ∃ (d a : Addr) (ns : List Int), vs = [.ref d] ∧ DrawAt K H d a ns ∧
  ∀ (x : Str) (H' : Hp), nameOk x = true → DrawAt K H' d a ns → Keep d H H' → Q (.str x) H'
def words14 : List Str := ["by", "in", "at", "made", "paid", "day", "least", "greatest", "for", "none", "call", "held", "a", "zz"]
theorem ok_word (T : Env K mg t) : FnOk P w K mg base CX0 3 t.a_l_word t.fd_l_word ["_law_draw"] (spWord K) := by
  have G_l_next : FnOk P w K mg base CX0 2 t.a_l_next t.fd_l_next ["_law_draw", "_law_size"] (spNext K) := ok_next T
  refine T.f_l_word.okQ sc_l_word (fun vs H Q E h => ?_) (fun cdv A outer s H vs Q E hr h => ?_)
  · obtain ⟨d, a, ns, rfl, _⟩ := h
    rfl
  · obtain ⟨d, a, ns, rfl, D, q⟩ := h
    have hr_l_next := hr
    refine ⟨_, (q_pss_cons (q_ps_set (i := 1) sc_l_word.nd rfl (by first | exact Or.inl rfl | exact Or.inr (Or.inl rfl) | exact Or.inr rfl) (q_pe_lst (q_pa_cons q_pe_str (q_pa_cons q_pe_str (q_pa_cons q_pe_str (q_pa_cons q_pe_str (q_pa_cons q_pe_str (q_pa_cons q_pe_str (q_pa_cons q_pe_str (q_pa_cons q_pe_str (q_pa_cons q_pe_str (q_pa_cons q_pe_str (q_pa_cons q_pe_str (q_pa_cons q_pe_str (q_pa_cons q_pe_str (q_pa_cons q_pe_str q_pa_nil star_Constant) star_Constant) star_Constant) star_Constant) star_Constant) star_Constant) star_Constant) star_Constant) star_Constant) star_Constant) star_Constant) star_Constant) star_Constant) star_Constant)))
      (q_pss_cons (q_ps_if (q_pt_cmpR op_eq (q_pe_call G_l_next hr_l_next (by rfl) T.mg_l_next T.kp_l_next T.b_l_next .nil pass0 (q_pa_cons (q_pv 0) (q_pa_cons q_pe_int q_pa_nil star_Constant) star_Name)) q_pe_int (nomark _)) (q_pss_one (q_ps_ret (q_pe_ix ix_list (q_pv 1) (q_pe_call G_l_next hr_l_next (by rfl) T.mg_l_next T.kp_l_next T.b_l_next .nil pass0 (q_pa_cons (q_pv 0) (q_pa_cons (q_pe_callB call_len_seq (by rfl) T.z_len PySem.boot_len (q_pa_cons (q_pv 1) q_pa_nil star_Name)) q_pa_nil star_Call) star_Name)) (fun _ _ => rfl)))) q_pss_nil)
      (q_pss_cons (q_ps_set (i := 2) sc_l_word.nd rfl (by first | exact Or.inl rfl | exact Or.inr (Or.inl rfl) | exact Or.inr rfl) q_pe_str)
      (q_pss_cons (q_ps_for PassesOwn.never rfl (q_pi_range1 (by rfl) T.z_range (q_pa_cons (q_pe_op op_add q_pe_int (q_pe_call G_l_next hr_l_next (by rfl) T.mg_l_next T.kp_l_next T.b_l_next .nil pass0 (q_pa_cons (q_pv 0) (q_pa_cons q_pe_int q_pa_nil star_Constant) star_Name))) q_pa_nil star_BinOp)) (q_pg_name (i := 3) sc_l_word.nd rfl (by first | exact Or.inl rfl | exact Or.inr (Or.inl rfl) | exact Or.inr rfl))
      (q_pss_one (q_ps_set (i := 2) sc_l_word.nd rfl (by first | exact Or.inl rfl | exact Or.inr (Or.inl rfl) | exact Or.inr rfl) (q_pe_op op_add_str (q_pv 2) (q_pe_ix ix_str q_pe_str (q_pe_call G_l_next hr_l_next (by rfl) T.mg_l_next T.kp_l_next T.b_l_next .nil pass0 (q_pa_cons (q_pv 0) (q_pa_cons q_pe_int q_pa_nil star_Constant) star_Name)) (fun _ _ => rfl))))))
      (q_pss_one (q_ps_ret (q_pv 2))))))), ?_⟩
    refine ⟨by decide, fun p hp => ?_⟩
    have s1 := same_new (o := .lst (words14.map V.str)) hp
    have D1 := D.same s1
    have np := D.ne hp
    refine ⟨_, rfl, d, a, ns, _, rfl, D1, by decide, fun r H2 r0 r1 D2 k2 => ⟨rfl, _, rfl, ite2 (fun _ => ?_) (fun _ => ?_)⟩⟩
    · have h2 := k2 _ _ upd_same np
      refine ⟨_, rfl, _, rfl, _, rfl, p, _, rfl, .inl (SqL.of h2), d, a, ns, _, rfl, D2, by decide, fun r' H3 r0' r1' D3 k3 => ?_⟩
      obtain ⟨v, hv, hm⟩ := at_bound (xs := words14.map V.str) r0' r1'
      obtain ⟨x, hx, rfl⟩ := List.mem_map.mp hm
      refine ⟨p, _, r', _, rfl, rfl, SqL.of (k3 _ _ h2 np), hv, ?_⟩
      have all : words14.all nameOk = true := by decide +kernel
      exact q x H3 (List.all_eq_true.mp all x hx) D3 (((Keep.of s1).trans k2).trans k3)
    · refine ⟨_, rfl, d, a, ns, _, rfl, D2, by decide, fun m H3 m0 m1 D3 k3 => ?_⟩
      refine ⟨_, _, rfl, rfl, _, rfl, by omega, by omega, ?_⟩
      refine for_range (lo := 0) (fun i σ H' => ∃ (o3 : Option V) (x : Str), σ = [some (.ref d), some (.ref p), some (.str x), o3] ∧ x.length = i ∧ (x.cps.toList.all fun c => decide (c ∈ letters.cps.toList)) = true ∧ DrawAt K H' d a ns ∧ Keep d H H') ?_ ?_ ?_
      · exact ⟨none, "", rfl, rfl, rfl, D3, ((Keep.of s1).trans k2).trans k3⟩
      · rintro i σ H4 hi ⟨o3, x, rfl, lx, ax, D4, k4⟩
        refine ⟨_, rfl, _, rfl, d, a, ns, _, rfl, D4, by decide, fun r' H5 r0' r1' D5 k5 => ?_⟩
        obtain ⟨c, hc, hm⟩ := at_bound (xs := letters.cps.toList) r0' r1'
        refine ⟨letters, r', c, rfl, rfl, by decide, hc, _, _, rfl, rfl, Nat.le_of_lt (small1000 (by show x.length + 1 ≤ 1000; omega)), ?_⟩
        refine ⟨_, _, rfl, by rw [len_app, lx]; rfl, ?_, D5, k4.trans k5⟩
        rw [tl_app, List.all_append, ax, Bool.true_and, List.all_cons]
        rw [decide_eq_true hm]; rfl
      · rintro σ H4 ⟨o3, x, rfl, lx, ax, D4, k4⟩
        refine ⟨_, rfl, q x H4 ?_ D4 k4⟩
        unfold nameOk madeOf
        rw [ax, decide_eq_true (by omega : 0 < x.length), decide_eq_true (by omega : x.length ≤ 8)]
        rfl
end
end Ck
set_option Elab.async false
set_option linter.all false
set_option pp.maxSteps 1500
set_option maxRecDepth 100000
set_option maxHeartbeats 4000000
namespace Ck
open PySem L2
section
variable {P : Program} {w : World} {K : PySem.W.Frag} {mg : Str → Option Value} {base : Heap} {t : Ad}
def spWords (K : PySem.W.Frag) : Sp := fun vs H Q _ => ∃ (d a : Addr) (ns : List Int) (m : Int), vs = [.ref d, .int m] ∧ DrawAt K H d a ns ∧ 0 ≤ m ∧ m ≤ 6 ∧
  ∀ (L : Addr) (ws : List Str) (H' : Hp), ws.length = m.toNat → ws.Nodup → (∀ x ∈ ws, nameOk x = true) → H' L = some (.lst (ws.map .str)) → H L = none → DrawAt K H' d a ns → Keep d H H' → Q (.ref L) H'
theorem ok_words (T : Env K mg t) : FnOk P w K mg base CX0 4 t.a_l_words t.fd_l_words ["_law_draw", "_law_many"] (spWords K) := by
  have G_l_word : FnOk P w K mg base CX0 3 t.a_l_word t.fd_l_word ["_law_draw"] (spWord K) := ok_word T
  refine T.f_l_words.okQ sc_l_words (fun vs H Q E h => ?_) (fun cdv A outer s H vs Q E hr h => ?_)
  · obtain ⟨d, a, ns, m, rfl, _⟩ := h
    rfl
  · obtain ⟨d, a, ns, m, rfl, D, m0, m1, q⟩ := h
    have hr_l_word := hr
    refine ⟨_, (q_pss_cons (q_ps_set (i := 2) sc_l_words.nd rfl (by first | exact Or.inl rfl | exact Or.inr (Or.inl rfl) | exact Or.inr rfl) (q_pe_lst q_pa_nil))
      (q_pss_cons (q_ps_for PassesOwn.never rfl (q_pi_range1 (by rfl) T.z_range (q_pa_cons (q_pv 1) q_pa_nil star_Name)) (q_pg_name (i := 3) sc_l_words.nd rfl (by first | exact Or.inl rfl | exact Or.inr (Or.inl rfl) | exact Or.inr rfl))
      (q_pss_cons (q_ps_set (i := 4) sc_l_words.nd rfl (by first | exact Or.inl rfl | exact Or.inr (Or.inl rfl) | exact Or.inr rfl) (q_pe_call G_l_word hr_l_word (by rfl) T.mg_l_word T.kp_l_word T.b_l_word .nil pass0 (q_pa_cons (q_pv 0) q_pa_nil star_Name)))
      (q_pss_cons (q_ps_if (q_pt_cmpR op_in_seq (q_pv 4) (q_pv 2) (by rfl)) (q_pss_one (q_ps_set (i := 4) sc_l_words.nd rfl (by first | exact Or.inl rfl | exact Or.inr (Or.inl rfl) | exact Or.inr rfl) (q_pe_ix ix_list (q_pe_lc (own := [("_law_sign", 5)]) (g := gName 5) (by rfl) sc_l_words.nd (q_pi_str q_pe_str) (blkOk_by (own := [("_law_sign", 5)]) (N := ["_law_draw", "_law_many", "_law_found", "_law_k", "_law_word_here", "_law_sign"]) (sc := defScope s_l_words) (by decide +kernel)) (fun _ _ _ _ _ => (q_pg_name (i := 5) sc_l_words.nd rfl (by first | exact Or.inl rfl | exact Or.inr (Or.inl rfl) | exact Or.inr rfl))) (fun _ _ _ _ _ => (q_pts_one (q_pt_cmpR (op_notIn_seqK (K := K) rfl) (q_pe_op op_add_str (q_pe_slice sl_str (q_pv 4) q_po_none (q_po_some q_pe_int)) (q_pv 5)) (q_pv 2) (by rfl)))) (fun _ _ _ _ _ => (q_pe_op op_add_str (q_pe_slice sl_str (q_pv 4) q_po_none (q_po_some q_pe_int)) (q_pv 5)))) q_pe_int (fun _ _ => rfl)))) q_pss_nil)
      (q_pss_one (q_ps_expr (q_pe_bm PySem.F.plainAttrs_list PySem.F.slot_list_append PySem.F.type_list_append mt_append (q_pv 2) (q_pa_cons (q_pv 4) q_pa_nil star_Name)))))))
      (q_pss_one (q_ps_ret (q_pv 2))))), ?_⟩
    refine ⟨by decide, fun L hL => ?_⟩
    have D1 := D.same (same_new (o := .lst []) hL)
    have nL := D.ne hL
    refine ⟨_, rfl, m, rfl, by omega, by omega, ?_⟩
    refine for_range (lo := 0) (fun i σ H' => ∃ (o3 o4 o5 : Option V) (ws : List Str), σ = [some (.ref d), some (.int m), some (.ref L), o3, o4, o5] ∧ ws.length = i ∧ ws.Nodup ∧ (∀ x ∈ ws, nameOk x = true) ∧ H' L = some (.lst (ws.map .str)) ∧ DrawAt K H' d a ns ∧ Keep d H H') ?_ ?_ ?_
    · exact ⟨none, none, none, [], rfl, rfl, .nil, by simp, upd_same, D1, .of (same_new hL)⟩
    · rintro i σ H4 hi ⟨o3, o4, o5, ws, rfl, lw, nw, aw, h4, D4, k4⟩
      refine ⟨_, rfl, d, a, ns, rfl, D4, fun x H5 nx D5 k5 => ?_⟩
      have h5 := k5 _ _ h4 nL
      obtain ⟨x0, x1, x2⟩ := nameOk_iff.mp nx
      have lz : x.length ≤ sizeLine := Nat.le_of_lt (small1000 (by omega))
      have app : ∀ (y : Str) (H6 : Hp) (o3 o5 : Option V), nameOk y = true → y ∉ ws → H6 L = some (.lst (ws.map .str)) → DrawAt K H6 d a ns → Keep d H H6 →
        ∃ (o3' o4' o5' : Option V) (ws' : List Str), ([some (.ref d), some (.int m), some (.ref L), o3, some (.str y), o5] : St) = [some (.ref d), some (.int m), some (.ref L), o3', o4', o5'] ∧ ws'.length = i + 1 ∧ ws'.Nodup ∧ (∀ x ∈ ws', nameOk x = true) ∧ (upd H6 L (.lst (ws.map .str ++ [.str y]))) L = some (.lst (ws'.map .str)) ∧ DrawAt K (upd H6 L (.lst (ws.map .str ++ [.str y]))) d a ns ∧ Keep d H (upd H6 L (.lst (ws.map .str ++ [.str y]))) := by
        intro y H6 o3 o5 ny hy h6 D6 k6
        refine ⟨o3, _, o5, ws ++ [y], rfl, by rw [List.length_append, lw]; rfl, ?_, ?_, ?_, D6.upd nL (nofrz h6), k6.updNew hL⟩
        · rw [List.nodup_append]
          refine ⟨nw, by simp, ?_⟩
          intro b hb c hc e
          rw [List.mem_singleton] at hc
          subst hc; subst e
          exact hy hb
        · intro b hb
          rcases List.mem_append.mp hb with z | z
          · exact aw b z
          · rw [List.mem_singleton.mp z]; exact ny
        · rw [upd_same, List.map_append]; rfl
      refine ⟨_, rfl, _, rfl, L, _, rfl, .inl (SqL.of h5), rfl, flat_strs ws, _, rfl, ?_⟩
      rw [if_neg (by decide : ¬ (false = true)), inV_strs]
      refine ite2 (fun hin => ?_) (fun hin => ?_)
      · have hc7 : (cutS x none (some 7)).length ≤ x.length := len_cut x none (some 7)
        have l1 : ∀ c, (sgn c).length = 1 := fun c => rfl
        refine ⟨letters, rfl, fun L2 hL2 => ?_⟩
        have n2 : L2 ≠ L := (ne_of_none h5 hL2).symm
        refine lc_str (fun i H' => H' L2 = some (.lst (((letters.cps.toList.take i).filter fun c => !decide (cutS x none (some 7) ++ sgn c ∈ ws)).map fun c => .str (cutS x none (some 7) ++ sgn c))) ∧ Same H5 H') ?_ ?_ ?_
        · exact ⟨by rw [upd_same]; rfl, same_new hL2⟩
        · rintro j c H6 hc ⟨h6, s6⟩
          refine ⟨rfl, ?_⟩
          have lz7 : (cutS x none (some 7)).length + (sgn c).length ≤ sizeLine := Nat.le_of_lt (small1000 (by rw [l1]; omega))
          refine ⟨_, rfl, 7, rfl, x, rfl, lz, _, rfl, _, _, rfl, rfl, lz7, _, rfl, L, _, rfl, .inl (SqL.of (s6 _ _ h5)), rfl, flat_strs ws, _, rfl, ?_⟩
          rw [if_pos (by decide : (true = true)), inV_strs]
          refine ite2 (fun hb => ?_) (fun hb => ?_)
          · refine ⟨_, rfl, 7, rfl, x, rfl, lz, _, rfl, _, _, rfl, rfl, lz7, _, h6, small1000 ?_, ?_, fun b o e => ?_⟩
            · rw [List.length_map]
              have := List.length_filter_le (fun c => !decide (cutS x none (some 7) ++ sgn c ∈ ws)) (letters.cps.toList.take j)
              have := List.length_take_le' j letters.cps.toList
              rw [letters_len] at this
              omega
            · rw [upd_same, List.take_succ, hc, List.filter_append, List.map_append]
              show _ = some (HO.lst (_ ++ List.map _ (List.filter _ [c])))
              rw [List.filter_cons, if_pos hb]
              rfl
            · rw [upd_ne (ne_of_none e hL2)]
              exact s6 b o e
          · refine ⟨?_, s6⟩
            rw [h6, List.take_succ, hc, List.filter_append, List.map_append]
            show _ = some (HO.lst (_ ++ List.map _ (List.filter _ [c])))
            rw [List.filter_cons, if_neg hb]
            simp
        · rintro H6 ⟨h6, s6⟩
          rw [List.take_length] at h6
          have fs := free_sign (cutS x none (some 7)) ws (by omega)
          cases ef : (letters.cps.toList.filter fun c => !decide (cutS x none (some 7) ++ sgn c ∈ ws)) with
          | nil => exact absurd ef fs
          | cons c r =>
            rw [ef, List.map_cons] at h6
            have hm : c ∈ letters.cps.toList.filter fun c => !decide (cutS x none (some 7) ++ sgn c ∈ ws) := by rw [ef]; exact List.mem_cons_self
            obtain ⟨hm1, hm2⟩ := List.mem_filter.mp hm
            have hm3 : cutS x none (some 7) ++ sgn c ∉ ws := by simpa using hm2
            refine ⟨L2, _, 0, _, rfl, rfl, SqL.of h6, at_of (j := 0) (by decide) rfl, ?_⟩
            have h7 := s6 _ _ h5
            refine ⟨_, rfl, .inl ⟨rfl, _, SqL.of h7⟩, _, rfl, L, _, _, rfl, rfl, h7, small1000 (by rw [List.length_map]; omega), ?_⟩
            exact app _ H6 _ _ (nameOk_cut nx hm1) hm3 h7 (D5.same s6) ((k4.trans k5).trans (.of s6))
      · refine ⟨_, rfl, .inl ⟨rfl, _, SqL.of h5⟩, _, rfl, L, _, _, rfl, rfl, h5, small1000 (by rw [List.length_map]; omega), ?_⟩
        exact app x H5 _ _ nx (by simpa using hin) h5 D5 (k4.trans k5)
    · rintro σ H4 ⟨o3, o4, o5, ws, rfl, lw, nw, aw, h4, D4, k4⟩
      exact ⟨_, rfl, q L ws H4 lw nw aw h4 hL D4 k4⟩
end
end Ck
set_option Elab.async false
set_option linter.all false
set_option pp.maxSteps 1500
set_option maxRecDepth 100000
set_option maxHeartbeats 4000000
namespace Ck
open PySem L2
section
variable {P : Program} {w : World} {K : PySem.W.Frag} {mg : Str → Option Value} {base : Heap} {t : Ad}
def spUnits (K : PySem.W.Frag) : Sp := fun vs H Q _ => ∃ (d a : Addr) (ns : List Int), vs = [.ref d] ∧ DrawAt K H d a ns ∧
  ∀ (p : Addr) (pre : List Un1) (z : Str) (H' : Hp), Good pre z → Units H' p pre z → DrawAt K H' d a ns → Keep d H H' → Q (.ref p) H'
theorem ok_units (T : Env K mg t) : FnOk P w K mg base CX0 5 t.a_l_units t.fd_l_units ["_law_draw"] (spUnits K) := by
  have G_l_words : FnOk P w K mg base CX0 4 t.a_l_words t.fd_l_words ["_law_draw", "_law_many"] (spWords K) := ok_words T
  have G_l_next : FnOk P w K mg base CX0 2 t.a_l_next t.fd_l_next ["_law_draw", "_law_size"] (spNext K) := ok_next T
  have G_l_pick : FnOk P w K mg base CX0 3 t.a_l_pick t.fd_l_pick ["_law_draw", "_law_some"] (spPickL K) := ok_pickL T
  refine T.f_l_units.okQ sc_l_units (fun vs H Q E h => ?_) (fun cdv A outer s H vs Q E hr h => ?_)
  · obtain ⟨d, a, ns, rfl, _⟩ := h
    rfl
  · obtain ⟨d, a, ns, rfl, D, q⟩ := h
    have hr_l_words := hr
    have hr_l_next : Room 2 _ := hr.mono (by decide)
    have hr_l_pick : Room 3 _ := hr.mono (by decide)
    refine ⟨_, (q_pss_cons (q_ps_set (i := 1) sc_l_units.nd rfl (by first | exact Or.inl rfl | exact Or.inr (Or.inl rfl) | exact Or.inr rfl) (q_pe_lst q_pa_nil))
      (q_pss_cons (q_ps_for PassesOwn.never rfl (q_pi_list (q_pe_call G_l_words hr_l_words (by rfl) T.mg_l_words T.kp_l_words T.b_l_words .nil pass0 (q_pa_cons (q_pv 0) (q_pa_cons (q_pe_op op_add q_pe_int (q_pe_call G_l_next hr_l_next (by rfl) T.mg_l_next T.kp_l_next T.b_l_next .nil pass0 (q_pa_cons (q_pv 0) (q_pa_cons q_pe_int q_pa_nil star_Constant) star_Name))) q_pa_nil star_BinOp) star_Name))) (q_pg_name (i := 2) sc_l_units.nd rfl (by first | exact Or.inl rfl | exact Or.inr (Or.inl rfl) | exact Or.inr rfl))
      (q_pss_one (q_ps_expr (q_pe_bm PySem.F.plainAttrs_list PySem.F.slot_list_append PySem.F.type_list_append mt_append (q_pv 1) (q_pa_cons (q_pe_tup (q_pa_cons (q_pv 2) (q_pa_cons (q_pe_call G_l_pick hr_l_pick (by rfl) T.mg_l_pick T.kp_l_pick T.b_l_pick .nil pass0 (q_pa_cons (q_pv 0) (q_pa_cons (q_pe_lst (q_pa_cons q_pe_int (q_pa_cons q_pe_int (q_pa_cons q_pe_int (q_pa_cons q_pe_int (q_pa_cons q_pe_int (q_pa_cons (q_pe_op op_add q_pe_int (q_pe_call G_l_next hr_l_next (by rfl) T.mg_l_next T.kp_l_next T.b_l_next .nil pass0 (q_pa_cons (q_pv 0) (q_pa_cons q_pe_int q_pa_nil star_Constant) star_Name))) q_pa_nil star_BinOp) star_Constant) star_Constant) star_Constant) star_Constant) star_Constant)) q_pa_nil star_List) star_Name)) q_pa_nil star_Call) star_Name)) q_pa_nil star_Tuple)))))
      (q_pss_one (q_ps_ret (q_pe_callTy call_tuple_of (by rfl) T.z_tuple (by decide +kernel) (q_pa_cons (q_pe_op op_cat (q_pe_slice sl_list (q_pv 1) q_po_none (q_po_some (q_pe_un un_neg q_pe_int))) (q_pe_lst (q_pa_cons (q_pe_tup (q_pa_cons (q_pe_ix ix_tup (q_pe_ix ix_list (q_pv 1) (q_pe_un un_neg q_pe_int) (fun _ _ => rfl)) q_pe_int (fun _ _ => rfl)) (q_pa_cons q_pe_int q_pa_nil star_Constant) star_Subscript)) q_pa_nil star_Tuple))) q_pa_nil star_BinOp)))))), ?_⟩
    refine ⟨by decide, fun F hF => ?_⟩
    have D1 := D.same (same_new (o := .lst []) hF)
    have nF := D.ne hF
    refine ⟨_, rfl, _, rfl, d, a, ns, _, rfl, D1, by decide, fun r H2 r0 r1 D2 k2 => ?_⟩
    have h2 := k2 _ _ upd_same nF
    refine ⟨_, _, rfl, rfl, d, a, ns, _, rfl, D2, by omega, by omega, fun L ws H3 lw nw aw h3 hL D3 k3 => ?_⟩
    have h3F := k3 _ _ h2 nF
    have nL := D2.ne hL
    have nFL : F ≠ L := ne_of_none h2 hL
    have K3 : Keep d H H3 := ((Keep.of (same_new hF)).trans k2).trans k3
    refine ⟨L, rfl, ⟨_, SqL.of h3⟩, ?_⟩
    refine for_list (xs := ws.map V.str) (fun i σ H' => ∃ (o2 : Option V) (rs : List Addr) (us : List Un1), σ = [some (.ref d), some (.ref F), o2] ∧ H' F = some (.lst (rs.map .ref)) ∧ UsAt H' rs us ∧ us.map (·.1) = ws.take i ∧ (∀ u ∈ us, 2 ≤ u.2 ∧ u.2 ≤ 1000) ∧ H' L = some (.lst (ws.map .str)) ∧ DrawAt K H' d a ns ∧ Keep d H H') ?_ ?_ ?_ ?_
    · exact ⟨none, [], [], rfl, h3F, .nil _, rfl, by simp, h3, D3, K3⟩
    · rintro i σ H4 hi ⟨o2, rs, us, rfl, h4, u4, e4, m4, l4, D4, k4⟩
      exact SqL.of l4
    · rintro i x σ H4 hx ⟨o2, rs, us, rfl, h4, u4, e4, m4, l4, D4, k4⟩
      obtain ⟨nm, hn, rfl⟩ : ∃ nm, ws[i]? = some nm ∧ x = .str nm := by
        rw [List.getElem?_map] at hx
        cases e : ws[i]? with
        | none => rw [e] at hx; cases hx
        | some nm => rw [e] at hx; cases hx; exact ⟨nm, rfl, rfl⟩
      have hi := (List.getElem?_eq_some_iff.mp hn).1
      have lu : us.length = i := by
        have := congrArg List.length e4
        rw [List.length_map, List.length_take] at this; omega
      have lr : rs.length = i := by rw [u4.len]; exact lu
      refine ⟨_, rfl, .inl ⟨rfl, _, SqL.of h4⟩, _, rfl, _, rfl, _, rfl, d, a, ns, _, rfl, D4, by decide, fun r H5 r0 r1 D5 k5 => ?_⟩
      refine ⟨_, _, rfl, rfl, (by show 6 ≤ sizeLine; decide), fun p hp => ?_⟩
      have s6 := same_new (o := .lst [V.int 2, V.int 12, V.int 20, V.int 1000, V.int 999, V.int (2 + r)]) hp
      refine ⟨d, a, p, ns, _, rfl, D5.same s6, upd_same, D5.ne hp, (by show 0 < 6; decide), fun v H7 hv D7 k7 => ?_⟩
      obtain ⟨m, rfl, hm0, hm1⟩ : ∃ m, v = .int m ∧ 2 ≤ m ∧ m ≤ 1000 := by
        simp only [List.mem_cons, List.not_mem_nil, or_false] at hv
        rcases hv with rfl | rfl | rfl | rfl | rfl | rfl <;> exact ⟨_, rfl, by omega, by omega⟩
      refine ⟨(by show 2 ≤ sizeLine; decide), fun r8 hr8 => ?_⟩
      have s8 := same_new (o := .tup [V.str nm, V.int m]) hr8
      have kk : Keep d H4 (upd H7 r8 (.tup [V.str nm, V.int m])) := ((k5.trans (.of s6)).trans k7).trans (.of s8)
      have hF8 := kk _ _ h4 nF
      refine ⟨F, _, _, rfl, rfl, hF8, small1000 (by rw [List.length_map]; omega), ?_⟩
      have nr8 : r8 ≠ F := (ne_of_none ((k5.trans (.of s6)).trans k7 _ _ h4 nF) hr8).symm
      have t9 : Tups (upd H7 r8 (.tup [V.str nm, V.int m])) (upd (upd H7 r8 (.tup [V.str nm, V.int m])) F (.lst (rs.map .ref ++ [.ref r8]))) := Tups.upd hF8
      refine ⟨_, rs ++ [r8], us ++ [(nm, m)], rfl, by rw [upd_same, List.map_append]; rfl, ?_, ?_, ?_, ?_, (D7.same s8).upd nF (nofrz hF8), (k4.trans kk).updNew hF⟩
      · exact ((u4.mono (D4.tups kk)).mono t9).snoc (t9 _ _ upd_same)
      · rw [List.map_append, e4, List.take_succ, hn]; rfl
      · intro u hu
        rcases List.mem_append.mp hu with z | z
        · exact m4 u z
        · rw [List.mem_singleton.mp z]; exact ⟨hm0, hm1⟩
      · rw [upd_ne nFL.symm]
        exact kk _ _ l4 nL
    · rintro σ H4 ⟨o2, rs, us, rfl, h4, u4, e4, m4, l4, D4, k4⟩
      rw [List.length_map, List.take_length] at e4
      have lu : us.length = ws.length := by rw [← e4, List.length_map]
      obtain ⟨pre, ⟨z, m⟩, rfl⟩ := snoc_of us (by omega)
      have lr := u4.len
      obtain ⟨ri, r9, rfl⟩ := snoc_of rs (by omega)
      obtain ⟨ui, h9⟩ := u4.init
      rw [List.map_append] at h4 e4
      simp only [List.map_cons, List.map_nil] at h4 e4
      have lp : pre.length ≤ 5 := by rw [List.length_append] at lu; simp at lu; omega
      have lri : ri.length = pre.length := ui.len
      refine ⟨_, rfl, _, rfl, _, rfl, F, _, rfl, SqL.of h4, fun c hc => ?_⟩
      rw [cut_last]
      have s5 := same_new (o := .lst (ri.map V.ref)) hc
      refine ⟨_, rfl, _, rfl, F, _, _, _, rfl, rfl, SqL.of (s5 _ _ h4), atI_last _ _, ?_⟩
      refine ⟨r9, _, 0, _, rfl, rfl, SqT.of (s5 _ _ h9), at_of (j := 0) (by decide) rfl, (by show 2 ≤ sizeLine; decide), fun x6 hx6 => ?_⟩
      have s6 := same_new (o := .tup [V.str z, V.int 1]) hx6
      refine ⟨(by show 1 ≤ sizeLine; decide), fun x7 hx7 => ?_⟩
      have s7 := same_new (o := .lst [V.ref x6]) hx7
      refine ⟨c, x7, _, _, rfl, rfl, s7 _ _ (s6 _ _ upd_same), upd_same, Nat.le_of_lt (small1000 (by rw [List.length_map]; show _ + 1 ≤ 1000; omega)), fun x8 hx8 => ?_⟩
      have s8 := same_new (o := .lst (ri.map V.ref ++ [V.ref x6])) hx8
      refine ⟨x8, _, rfl, .inl ⟨SqL.of upd_same, fun x9 hx9 => ?_⟩⟩
      have s9 := same_new (o := .tup (ri.map V.ref ++ [V.ref x6])) hx9
      have sA : Same H4 (upd (upd (upd (upd (upd H4 c (.lst (ri.map V.ref))) x6 (.tup [V.str z, V.int 1])) x7 (.lst [V.ref x6])) x8 (.lst (ri.map V.ref ++ [V.ref x6]))) x9 (.tup (ri.map V.ref ++ [V.ref x6]))) := (((s5.trans s6).trans s7).trans s8).trans s9
      refine q x9 pre z _ ⟨lp, ?_, ?_, fun u hu => m4 u (List.mem_append_left _ hu), ?_⟩ ⟨ri, x6, upd_same, ui.mono (.same sA), ?_⟩ (D4.same sA) (k4.trans (.of sA))
      · intro u hu
        refine aw u.1 ?_
        rw [← e4]
        exact List.mem_append_left _ (List.mem_map.mpr ⟨u, hu, rfl⟩)
      · refine aw z ?_
        rw [← e4]
        exact List.mem_append_right _ (List.mem_singleton.mpr rfl)
      · rw [e4]; exact nw
      · exact s9 _ _ (s8 _ _ (s7 _ _ upd_same))
end
end Ck
set_option Elab.async false
set_option linter.all false
set_option pp.maxSteps 1500
set_option maxRecDepth 100000
set_option maxHeartbeats 4000000
namespace Ck
open PySem L2
section
variable {P : Program} {w : World} {K : PySem.W.Frag} {mg : Str → Option Value} {base : Heap} {t : Ad}
def spMade : Sp := fun vs H Q _ => ∃ (x y : Str), vs = [.str x, .str y] ∧ x.length ≤ 1000 ∧ ∀ H', Same H H' → Q (.bl (madeOf x y)) H'
def spTx (f : Str → Bool) : Sp := fun vs H Q _ => ∃ (x : Str), vs = [.str x] ∧ x.length ≤ 1000 ∧ ∀ H', Same H H' → Q (.bl (f x)) H'
theorem ok_made (T : Env K mg t) : FnOk P w K mg base CX0 1 t.a_is_made_of t.fd_is_made_of ["text", "signs"] spMade := by
  refine T.f_is_made_of.okQ sc_is_made_of (fun vs H Q E h => ?_) (fun cdv A outer s H vs Q E hr h => ?_)
  · obtain ⟨x, y, rfl, _⟩ := h
    rfl
  · obtain ⟨x, y, rfl, hx, q⟩ := h
    have hz : x.length ≤ sizeLine := Nat.le_of_lt (small1000 hx)
    refine ⟨_, (q_pss_one (q_ps_ret (q_pe_and (q_pe_cmpR op_gt (q_pe_callB call_len_str (by rfl) T.z_len PySem.boot_len (q_pa_cons (q_pv 0) q_pa_nil star_Name)) q_pe_int (nomark _)) (q_pe_one (q_pe_callB (cr_all rfl) (by rfl) T.z_all (by decide +kernel) (q_pa_cons (q_pe_lc (own := [("sign", 2)]) (g := gName 2) (by rfl) sc_is_made_of.nd (q_pi_str (q_pv 0)) (blkOk_by (own := [("sign", 2)]) (N := ["text", "signs", "sign"]) (sc := defScope s_is_made_of) (by decide +kernel)) (fun _ _ _ _ _ => (q_pg_name (i := 2) sc_is_made_of.nd rfl (by first | exact Or.inl rfl | exact Or.inr (Or.inl rfl) | exact Or.inr rfl))) (fun _ _ _ _ _ => q_pts_nil) (fun _ _ _ _ _ => (q_pe_cmpR op_in_sign (q_pv 2) (q_pv 1) (by rfl)))) q_pa_nil star_ListComp)))))), ?_⟩
    refine ⟨_, rfl, x, rfl, hz, _, _, rfl, rfl, _, rfl, ?_⟩
    refine ite2 (fun h1 => ?_) (fun h1 => ?_)
    · have h0 : 0 < x.length := by simpa using h1
      refine ⟨_, rfl, x, rfl, fun L hL => ?_⟩
      refine lc_str (fun i H' => H' L = some (.lst ((x.cps.toList.take i).map fun c => .bl (decide (c ∈ y.cps.toList)))) ∧ Same H H') ?_ ?_ ?_
      · exact ⟨by rw [upd_same]; rfl, same_new hL⟩
      · rintro i c H1 hc ⟨h1, s1⟩
        refine ⟨rfl, yes_i ?_⟩
        refine ⟨_, rfl, _, rfl, c, y, rfl, rfl, ?_⟩
        refine ⟨_, h1, small1000 ?_, ?_, fun b o e => ?_⟩
        · rw [List.length_map, List.length_take, ← str_len]; omega
        · rw [upd_same, List.take_succ, hc, List.map_append]
          rfl
        · rw [upd_ne (ne_of_none e hL)]
          exact s1 b o e
      · rintro H1 ⟨h1, s1⟩
        rw [List.take_length] at h1
        refine ⟨L, x.cps.toList.map fun c => decide (c ∈ y.cps.toList), rfl, SqL.of (by rw [List.map_map]; exact h1), ?_⟩
        have e : (x.cps.toList.map fun c => decide (c ∈ y.cps.toList)).all id = madeOf x y := by
          unfold madeOf
          rw [List.all_map, decide_eq_true h0, Bool.true_and]
          rfl
        rw [e]
        exact q H1 s1
    · have h0 : ¬ 0 < x.length := by simpa using h1
      have e : madeOf x y = false := by unfold madeOf; rw [decide_eq_false h0, Bool.false_and]
      rw [← e]
      exact q H (Same.refl H)
theorem ok_isword (T : Env K mg t) : FnOk P w K mg base CX0 2 t.a_is_word t.fd_is_word ["text"] (spTx fun x => madeOf x letters) := by
  have G_is_made_of : FnOk P w K mg base CX0 1 t.a_is_made_of t.fd_is_made_of ["text", "signs"] spMade := ok_made T
  refine T.f_is_word.okQ sc_is_word (fun vs H Q E h => ?_) (fun cdv A outer s H vs Q E hr h => ?_)
  · obtain ⟨x, rfl, _⟩ := h
    rfl
  · obtain ⟨x, rfl, hx, q⟩ := h
    have hr_is_made_of := hr
    refine ⟨_, (q_pss_one (q_ps_ret (q_pe_and (q_pe_callB call_isinst (by rfl) T.z_isinstance (by decide +kernel) (q_pa_cons (q_pv 0) (q_pa_cons (q_pe_bltn (v := .ty "str") (by rfl) T.z_str (by decide +kernel) rfl) q_pa_nil star_Name) star_Name)) (q_pe_one (q_pe_call G_is_made_of hr_is_made_of (by rfl) T.mg_is_made_of T.kp_is_made_of T.b_is_made_of .nil pass0 (q_pa_cons (q_pv 0) (q_pa_cons (q_pe_glob (v := c_SMALL_LETTERS) (by rfl) T.mg_SMALL_LETTERS ⟨_, rfl⟩) q_pa_nil star_Name) star_Name)))))), ?_⟩
    refine ⟨_, rfl, _, "str", _, _, rfl, .str x, kit_same, _, rfl, iteT ?_⟩
    exact ⟨_, rfl, x, letters, rfl, hx, q⟩
theorem ok_name (T : Env K mg t) : FnOk P w K mg base CX0 3 t.a_is_name t.fd_is_name ["text"] (spTx nameOk) := by
  have G_is_word : FnOk P w K mg base CX0 2 t.a_is_word t.fd_is_word ["text"] (spTx fun x => madeOf x letters) := ok_isword T
  refine T.f_is_name.okQ sc_is_name (fun vs H Q E h => ?_) (fun cdv A outer s H vs Q E hr h => ?_)
  · obtain ⟨x, rfl, _⟩ := h
    rfl
  · obtain ⟨x, rfl, hx, q⟩ := h
    have hr_is_word := hr
    have hz : x.length ≤ sizeLine := Nat.le_of_lt (small1000 hx)
    refine ⟨_, (q_pss_one (q_ps_ret (q_pe_and (q_pe_call G_is_word hr_is_word (by rfl) T.mg_is_word T.kp_is_word T.b_is_word .nil pass0 (q_pa_cons (q_pv 0) q_pa_nil star_Name)) (q_pe_one (q_pe_cmpR op_le (q_pe_callB call_len_str (by rfl) T.z_len PySem.boot_len (q_pa_cons (q_pv 0) q_pa_nil star_Name)) (q_pe_glob (v := c_LONGEST_NAME) (by rfl) T.mg_LONGEST_NAME ⟨_, rfl⟩) (nomark _)))))), ?_⟩
    refine ⟨_, rfl, x, rfl, hx, fun H1 s1 => ⟨_, rfl, ?_⟩⟩
    refine ite2 (fun e => ?_) (fun e => ?_)
    · have e : madeOf x letters = true := e
      refine ⟨_, rfl, x, rfl, hz, _, _, rfl, rfl, ?_⟩
      have e2 : decide ((x.length : Int) ≤ 8) = nameOk x := by
        unfold nameOk
        rw [e, Bool.true_and]
        exact decide_eq_decide.mpr (by omega)
      show Q (.bl (decide ((x.length : Int) ≤ 8))) H1
      rw [e2]
      exact q H1 s1
    · have e : madeOf x letters = false := Bool.eq_false_iff.mpr e
      have e2 : nameOk x = false := by unfold nameOk; rw [e, Bool.false_and]
      rw [← e2]
      exact q H1 s1
def spNum : Sp := fun vs H Q _ => ∃ (v : V), vs = [v] ∧ ((∃ n : Int, v = .int n ∧ Q (.bl true) H) ∨ ∃ b : Bool, v = .bl b ∧ Q (.bl false) H)
theorem ok_num (T : Env K mg t) : FnOk P w K mg base CX0 1 t.a_is_number t.fd_is_number ["number"] spNum := by
  refine T.f_is_number.okQ sc_is_number (fun vs H Q E h => ?_) (fun cdv A outer s H vs Q E hr h => ?_)
  · obtain ⟨v, rfl, _⟩ := h
    rfl
  · obtain ⟨v, rfl, h⟩ := h
    refine ⟨_, (q_pss_one (q_ps_ret (q_pe_and (q_pe_callB call_isinst (by rfl) T.z_isinstance (by decide +kernel) (q_pa_cons (q_pv 0) (q_pa_cons (q_pe_bltn (v := .ty "int") (by rfl) T.z_int (by decide +kernel) rfl) q_pa_nil star_Name) star_Name)) (q_pe_one (q_pe_not (q_pe_callB call_isinst (by rfl) T.z_isinstance (by decide +kernel) (q_pa_cons (q_pv 0) (q_pa_cons (q_pe_bltn (v := .ty "bool") (by rfl) T.z_bool (by decide +kernel) rfl) q_pa_nil star_Name) star_Name))))))), ?_⟩
    rcases h with ⟨n, rfl, q⟩ | ⟨b, rfl, q⟩
    · refine ⟨_, rfl, _, "int", _, _, rfl, .int n, kit_same, _, rfl, iteT ?_⟩
      exact ⟨_, rfl, _, "bool", _, _, rfl, .int n, kit_int_bool, _, rfl, q⟩
    · refine ⟨_, rfl, _, "int", _, _, rfl, .bl b, kit_bool_int, _, rfl, iteT ?_⟩
      exact ⟨_, rfl, _, "bool", _, _, rfl, .bl b, kit_same, _, rfl, q⟩
def spWithin : Sp := fun vs H Q _ => ∃ (v : V) (lo hi : Int), vs = [v, .int lo, .int hi] ∧ ((∃ n : Int, v = .int n ∧ Q (.bl (decide (lo ≤ n) && decide (n ≤ hi))) H) ∨ ∃ b : Bool, v = .bl b ∧ Q (.bl false) H)
theorem ok_within (T : Env K mg t) : FnOk P w K mg base CX0 2 t.a_is_within t.fd_is_within ["number", "least", "most"] spWithin := by
  have G_is_number : FnOk P w K mg base CX0 1 t.a_is_number t.fd_is_number ["number"] spNum := ok_num T
  refine T.f_is_within.okQ sc_is_within (fun vs H Q E h => ?_) (fun cdv A outer s H vs Q E hr h => ?_)
  · obtain ⟨v, lo, hi, rfl, _⟩ := h
    rfl
  · obtain ⟨v, lo, hi, rfl, h⟩ := h
    have hr_is_number := hr
    refine ⟨_, (q_pss_one (q_ps_ret (q_pe_and (q_pe_call G_is_number hr_is_number (by rfl) T.mg_is_number T.kp_is_number T.b_is_number .nil pass0 (q_pa_cons (q_pv 0) q_pa_nil star_Name)) (q_pe_one (q_pe_chain op_le op_le (q_pv 1) (q_pv 0) (q_pv 2)))))), ?_⟩
    rcases h with ⟨n, rfl, q⟩ | ⟨b, rfl, q⟩
    · refine ⟨_, rfl, _, rfl, .inl ⟨n, rfl, _, rfl, iteT ?_⟩⟩
      refine ⟨_, rfl, _, rfl, _, _, rfl, rfl, _, rfl, ?_⟩
      refine ite2 (fun h1 => ?_) (fun h1 => ?_)
      · rw [h1, Bool.true_and] at q
        exact ⟨_, rfl, _, _, rfl, rfl, q⟩
      · rw [Bool.eq_false_iff.mpr h1, Bool.false_and] at q
        exact q
    · exact ⟨_, rfl, _, rfl, .inr ⟨b, rfl, _, rfl, iteF q⟩⟩
def spAmt : Sp := fun vs H Q _ => ∃ v : V, vs = [v] ∧ ((∃ n : Int, v = .int n ∧ Q (.bl (decide (0 ≤ n) && decide (n ≤ 1000000000000000))) H) ∨ ∃ b : Bool, v = .bl b ∧ Q (.bl false) H)
theorem ok_amt (T : Env K mg t) : FnOk P w K mg base CX0 3 t.a_is_amount t.fd_is_amount ["number"] spAmt := by
  have G_is_within : FnOk P w K mg base CX0 2 t.a_is_within t.fd_is_within ["number", "least", "most"] spWithin := ok_within T
  refine T.f_is_amount.okQ sc_is_amount (fun vs H Q E h => ?_) (fun cdv A outer s H vs Q E hr h => ?_)
  · obtain ⟨v, rfl, _⟩ := h
    rfl
  · obtain ⟨v, rfl, h⟩ := h
    have hr_is_within := hr
    refine ⟨_, (q_pss_one (q_ps_ret (q_pe_call G_is_within hr_is_within (by rfl) T.mg_is_within T.kp_is_within T.b_is_within .nil pass0 (q_pa_cons (q_pv 0) (q_pa_cons q_pe_int (q_pa_cons (q_pe_glob (v := c_MOST_AMOUNT) (by rfl) T.mg_MOST_AMOUNT ⟨_, rfl⟩) q_pa_nil star_Name) star_Constant) star_Name)))), ?_⟩
    exact ⟨_, rfl, v, 0, 1000000000000000, rfl, h⟩
end
end Ck
set_option Elab.async false
set_option linter.all false
set_option pp.maxSteps 1500
set_option maxRecDepth 100000
set_option maxHeartbeats 4000000
namespace Ck
open PySem L2
section
variable {P : Program} {w : World} {K : PySem.W.Frag} {mg : Str → Option Value} {base : Heap} {t : Ad}
def spCheck : Sp := fun vs H Q _ => ∃ (p : Addr) (pre : List Un1) (z : Str), vs = [.ref p] ∧ Good pre z ∧ Units H p pre z ∧ ∀ H', Same H H' → Q .non H'
theorem ok_check (T : Env K mg t) : FnOk P w K mg base CX0 4 t.a_check_units t.fd_check_units ["units"] spCheck := by
  have G_is_name : FnOk P w K mg base CX0 3 t.a_is_name t.fd_is_name ["text"] (spTx nameOk) := ok_name T
  have G_is_within : FnOk P w K mg base CX0 2 t.a_is_within t.fd_is_within ["number", "least", "most"] spWithin := ok_within T
  refine T.f_check_units.okQ sc_check_units (fun vs H Q E h => ?_) (fun cdv A outer s H vs Q E hr h => ?_)
  · obtain ⟨p, pre, z, rfl, _⟩ := h
    rfl
  · obtain ⟨p, pre, z, rfl, g, u, q⟩ := h
    have hr_is_name := hr
    have hr_is_within : Room 2 _ := hr.mono (by decide)
    refine ⟨_, (q_pss_cons ((q_ps_setLc (i := 1) (own := [("name", 2), ("many", 3)]) (g := _) (by rfl) sc_check_units.nd rfl rfl (sw_true rfl rfl rfl (by decide +kernel)) (q_pi_tup (q_pv 0)) (blkOk_by (own := [("name", 2), ("many", 3)]) (N := ["units", "names", "name", "many"]) (sc := defScope s_check_units) (by decide +kernel)) (fun _ _ _ _ _ => (q_pg_tupK (K := K) 2 rfl (by rfl) (q_pgs_cons (q_pg_name (i := 2) sc_check_units.nd rfl (by first | exact Or.inl rfl | exact Or.inr (Or.inl rfl) | exact Or.inr rfl)) (q_pgs_cons (q_pg_name (i := 3) sc_check_units.nd rfl (by first | exact Or.inl rfl | exact Or.inr (Or.inl rfl) | exact Or.inr rfl)) q_pgs_nil)))) (fun _ _ _ _ _ => q_pts_nil) (fun _ _ _ _ _ => (q_pv 2))))
      (q_pss_cons (q_ps_if (q_pt_not (q_pt_val (q_pe_callB (cr_all rfl) (by rfl) T.z_all (by decide +kernel) (q_pa_cons (q_pe_lc (own := [("name", 2)]) (g := gName 2) (by rfl) sc_check_units.nd (q_pi_list (q_pv 1)) (blkOk_by (own := [("name", 2)]) (N := ["units", "names", "name", "many"]) (sc := defScope s_check_units) (by decide +kernel)) (fun _ _ _ _ _ => (q_pg_name (i := 2) sc_check_units.nd rfl (by first | exact Or.inl rfl | exact Or.inr (Or.inl rfl) | exact Or.inr rfl))) (fun _ _ _ _ _ => q_pts_nil) (fun _ _ _ _ _ => (q_pe_call G_is_name hr_is_name (by rfl) T.mg_is_name T.kp_is_name T.b_is_name .nil pass0 (q_pa_cons (q_pv 2) q_pa_nil star_Name)))) q_pa_nil star_ListComp)))) (q_pss_one q_ps_never) q_pss_nil)
      (q_pss_cons (q_ps_if (q_pt_not (q_pt_chain op_le op_le q_pe_int (q_pe_callB call_len_seq (by rfl) T.z_len PySem.boot_len (q_pa_cons (q_pv 0) q_pa_nil star_Name)) (q_pe_glob (v := c_MOST_UNITS) (by rfl) T.mg_MOST_UNITS ⟨_, rfl⟩))) (q_pss_one q_ps_never) q_pss_nil)
      (q_pss_cons (q_ps_if (q_pt_not (q_pt_val (q_pe_callB (cr_all rfl) (by rfl) T.z_all (by decide +kernel) (q_pa_cons (q_pe_lc (own := [("name", 2), ("many", 3)]) (g := _) (by rfl) sc_check_units.nd (q_pi_tup (q_pe_slice sl_tup (q_pv 0) q_po_none (q_po_some (q_pe_un un_neg q_pe_int)))) (blkOk_by (own := [("name", 2), ("many", 3)]) (N := ["units", "names", "name", "many"]) (sc := defScope s_check_units) (by decide +kernel)) (fun _ _ _ _ _ => (q_pg_tupK (K := K) 2 rfl (by rfl) (q_pgs_cons (q_pg_name (i := 2) sc_check_units.nd rfl (by first | exact Or.inl rfl | exact Or.inr (Or.inl rfl) | exact Or.inr rfl)) (q_pgs_cons (q_pg_name (i := 3) sc_check_units.nd rfl (by first | exact Or.inl rfl | exact Or.inr (Or.inl rfl) | exact Or.inr rfl)) q_pgs_nil)))) (fun _ _ _ _ _ => q_pts_nil) (fun _ _ _ _ _ => (q_pe_call G_is_within hr_is_within (by rfl) T.mg_is_within T.kp_is_within T.b_is_within .nil pass0 (q_pa_cons (q_pv 3) (q_pa_cons (q_pe_glob (v := c_LEAST_MANY) (by rfl) T.mg_LEAST_MANY ⟨_, rfl⟩) (q_pa_cons (q_pe_glob (v := c_MOST_MANY) (by rfl) T.mg_MOST_MANY ⟨_, rfl⟩) q_pa_nil star_Name) star_Name) star_Name)))) q_pa_nil star_ListComp)))) (q_pss_one q_ps_never) q_pss_nil)
      (q_pss_cons (q_ps_if (q_pt_not (q_pt_val (q_pe_call G_is_within hr_is_within (by rfl) T.mg_is_within T.kp_is_within T.b_is_within .nil pass0 (q_pa_cons (q_pe_ix ix_tup (q_pe_ix ix_tup (q_pv 0) (q_pe_un un_neg q_pe_int) (fun _ _ => rfl)) q_pe_int (fun _ _ => rfl)) (q_pa_cons q_pe_int (q_pa_cons q_pe_int q_pa_nil star_Constant) star_Constant) star_Subscript)))) (q_pss_one q_ps_never) q_pss_nil)
      (q_pss_one (q_ps_if (q_pt_cmpR op_lt (q_pe_lenset rfl (by rfl) T.z_set (by rfl) T.z_len (q_pa_cons (q_pv 1) q_pa_nil star_Name)) (q_pe_callB call_len_seq (by rfl) T.z_len PySem.boot_len (q_pa_cons (q_pv 1) q_pa_nil star_Name)) (nomark _)) (q_pss_one q_ps_never) q_pss_nil))))))), ?_⟩
    obtain ⟨rs, hp, ua⟩ := u.all
    obtain ⟨ri, rz, hp', ui, hz⟩ := id u
    have lu : (pre ++ [(z, (1 : Int))]).length = pre.length + 1 := by rw [List.length_append]; rfl
    have lp := g.len
    have gn := g.names
    have gd := g.nodup
    refine ⟨_, rfl, p, rfl, ⟨_, SqT.of hp⟩, fun Ln hLn => ?_⟩
    refine lc_tup (xs := rs.map V.ref) (fun i H' => H' Ln = some (.lst (((pre ++ [(z, (1 : Int))]).take i).map fun u => .str u.1)) ∧ Same H H') ?_ ?_ ?_ ?_
    · exact ⟨by rw [upd_same]; rfl, same_new hLn⟩
    · rintro i H1 hi ⟨h1, s1⟩
      exact SqT.of (s1 _ _ hp)
    · rintro i x H1 hx ⟨h1, s1⟩
      obtain ⟨r, hr, rfl⟩ := ref_at hx
      obtain ⟨u, hu, e⟩ := ua.at_ i r hr
      refine ⟨r, _, rfl, SqT.of (s1 _ _ e), rfl, _, _, rfl, _, _, rfl, rfl, rfl, yes_i ⟨_, rfl, _, h1, small1000 ?_, ?_, fun b o e => ?_⟩⟩
      · rw [List.length_map, List.length_take]; omega
      · rw [upd_same, fst_take hu]
      · rw [upd_ne (ne_of_none e hLn)]
        exact s1 b o e
    rintro H1 ⟨h1, s1⟩
    rw [List.length_map, ua.len, List.take_length] at h1
    have e1 : ((pre ++ [(z, (1 : Int))]).map fun u => V.str u.1) = ((pre ++ [(z, (1 : Int))]).map (·.1)).map V.str := by rw [List.map_map]; rfl
    have lw : ((pre ++ [(z, (1 : Int))]).map (·.1)).length = pre.length + 1 := by rw [List.length_map, lu]
    rw [e1] at h1
    generalize (pre ++ [(z, (1 : Int))]).map (·.1) = ws at gn gd h1 lw
    refine ⟨_, rfl, Ln, rfl, ⟨_, SqL.of h1⟩, fun L2 hL2 => ?_⟩
    refine lc_list (xs := ws.map V.str) (fun i H' => H' L2 = some (.lst (((ws.take i).map fun _ => true).map V.bl)) ∧ Same H1 H') ?_ ?_ ?_ ?_
    · exact ⟨by rw [upd_same]; rfl, same_new hL2⟩
    · rintro i H2 hi ⟨h2, s2⟩
      exact SqL.of (s2 _ _ h1)
    · rintro i x H2 hx ⟨h2, s2⟩
      obtain ⟨nm, hn, rfl⟩ := str_at hx
      have nk := gn nm (List.mem_of_getElem? hn)
      obtain ⟨x0, x1, x2⟩ := nameOk_iff.mp nk
      refine ⟨rfl, yes_i ⟨_, rfl, nm, rfl, by omega, fun H3 s3 => ?_⟩⟩
      rw [nk]
      refine ⟨_, s3 _ _ h2, small1000 ?_, ?_, fun b o e => ?_⟩
      · rw [List.length_map, List.length_map, List.length_take]; omega
      · rw [upd_same, List.take_succ, hn, List.map_append, List.map_append]; rfl
      · rw [upd_ne (ne_of_none e hL2)]
        exact s3 _ _ (s2 b o e)
    rintro H2 ⟨h2, s2⟩
    rw [List.length_map, List.take_length] at h2
    refine ⟨L2, _, rfl, SqL.of h2, _, rfl, iteN (all_true ws) ?_⟩
    have s3 := s1.trans s2
    refine ⟨_, rfl, p, _, rfl, .inr (SqT.of (s3 _ _ hp)), _, _, rfl, rfl, _, rfl, ?_⟩
    have lr : (rs.map V.ref).length = pre.length + 1 := by rw [List.length_map, ua.len, lu]
    refine iteD (by rw [lr]; omega) ?_
    refine ⟨_, _, rfl, rfl, _, rfl, iteN (decide_eq_true (by rw [lr]; omega)) ?_⟩
    have lri : (ri.map V.ref).length = pre.length := by rw [List.length_map, ui.len]
    refine ⟨_, rfl, _, rfl, _, rfl, p, _, rfl, SqT.of (s3 _ _ hp'), notwhole _ _, fun c hc => ?_⟩
    rw [cut_last]
    have s4 := same_new (o := .tup (ri.map V.ref)) hc
    refine ⟨c, rfl, ⟨_, SqT.of upd_same⟩, fun L3 hL3 => ?_⟩
    refine lc_tup (xs := ri.map V.ref) (fun i H' => H' L3 = some (.lst (((pre.take i).map fun _ => true).map V.bl)) ∧ Same (upd H2 c (.tup (ri.map V.ref))) H') ?_ ?_ ?_ ?_
    · exact ⟨by rw [upd_same]; rfl, same_new hL3⟩
    · rintro i H5 hi ⟨h5, s5⟩
      exact SqT.of (s5 _ _ upd_same)
    · rintro i x H5 hx ⟨h5, s5⟩
      obtain ⟨r, hr, rfl⟩ := ref_at hx
      obtain ⟨u, hu, e⟩ := ui.at_ i r hr
      obtain ⟨m0, m1⟩ := g.many u (List.mem_of_getElem? hu)
      refine ⟨r, _, rfl, SqT.of (s5 _ _ (s4 _ _ (s3 _ _ e))), rfl, _, _, rfl, _, _, rfl, rfl, rfl, yes_i ⟨_, rfl, _, 2, 1000, rfl, .inl ⟨u.2, rfl, ?_⟩⟩⟩
      rw [decide_eq_true m0, decide_eq_true m1]
      refine ⟨_, h5, small1000 ?_, ?_, fun b o e => ?_⟩
      · rw [List.length_map, List.length_map, List.length_take]; omega
      · rw [upd_same, List.take_succ, hu, List.map_append, List.map_append]; rfl
      · rw [upd_ne (ne_of_none e hL3)]
        exact s5 b o e
    rintro H5 ⟨h5, s5⟩
    rw [lri, List.take_length] at h5
    refine ⟨L3, _, rfl, SqL.of h5, _, rfl, iteN (all_true pre) ?_⟩
    have s6 := (s3.trans s4).trans s5
    refine ⟨_, rfl, _, rfl, p, _, _, _, rfl, rfl, SqT.of (s6 _ _ hp'), atI_last _ _, ?_⟩
    refine ⟨rz, _, 1, _, rfl, rfl, SqT.of (s6 _ _ hz), at_of (j := 1) (by decide) rfl, _, 1, 1, rfl, .inl ⟨1, rfl, _, rfl, iteN rfl ?_⟩⟩
    refine ⟨_, rfl, Ln, ws, rfl, SqL.of (s5 _ _ (s4 _ _ (s2 _ _ h1))), by omega, fun m cm => ?_⟩
    refine ⟨_, rfl, Ln, _, rfl, .inl (SqL.of (s5 _ _ (s4 _ _ (s2 _ _ h1)))), _, _, rfl, rfl, _, rfl, ?_⟩
    obtain ⟨_, cm⟩ := cm
    have em : m = ws.length := cm.mpr (by rw [List.take_length]; exact gd)
    refine ite2 (fun h => ?_) (fun h => ?_)
    · have h := of_decide_eq_true h
      rw [List.length_map, em] at h
      omega
    · exact q _ s6
end
end Ck
set_option Elab.async false
set_option linter.all false
set_option pp.maxSteps 1500
set_option maxRecDepth 100000
set_option maxHeartbeats 4000000
namespace Ck
open PySem L2
section
variable {P : Program} {w : World} {K : PySem.W.Frag} {mg : Str → Option Value} {base : Heap} {t : Ad}
def spSizes : Sp := fun vs H Q _ => ∃ (p : Addr) (pre : List Un1) (z : Str), vs = [.ref p] ∧ Good pre z ∧ Units H p pre z ∧
  ∀ (r : Addr) (H' : Hp), H' r = some (.tup ((sz (pre.map (·.2))).map V.int)) → Same H H' → Q (.ref r) H'
theorem Good.ms {pre : List Un1} {z : Str} (g : Good pre z) : ∀ m ∈ pre.map (·.2), 2 ≤ m ∧ m ≤ 1000 := by
  intro m hm
  obtain ⟨u, hu, rfl⟩ := List.mem_map.mp hm
  exact g.many u hu
theorem Good.ml {pre : List Un1} {z : Str} (g : Good pre z) : (pre.map (·.2)).length ≤ 5 := by rw [List.length_map]; exact g.len
theorem ok_sizes (T : Env K mg t) : FnOk P w K mg base CX0 1 t.a_unit_sizes t.fd_unit_sizes ["units"] spSizes := by
  refine T.f_unit_sizes.okQ sc_unit_sizes (fun vs H Q E h => ?_) (fun cdv A outer s H vs Q E hr h => ?_)
  · obtain ⟨p, pre, z, rfl, _⟩ := h
    rfl
  · obtain ⟨p, pre, z, rfl, g, u, q⟩ := h
    refine ⟨_, (q_pss_cons (q_ps_set (i := 1) sc_unit_sizes.nd rfl (by first | exact Or.inl rfl | exact Or.inr (Or.inl rfl) | exact Or.inr rfl) (q_pe_lst (q_pa_cons q_pe_int q_pa_nil star_Constant)))
      (q_pss_cons (q_ps_for PassesOwn.never rfl (q_pi_revT (by rfl) T.z_reversed (q_pa_cons (q_pe_slice sl_tup (q_pv 0) q_po_none (q_po_some (q_pe_un un_neg q_pe_int))) q_pa_nil star_Subscript)) (q_pg_tup (by rfl) (q_pgs_cons (q_pg_name (i := 2) sc_unit_sizes.nd rfl (by first | exact Or.inl rfl | exact Or.inr (Or.inl rfl) | exact Or.inr rfl)) (q_pgs_cons (q_pg_name (i := 3) sc_unit_sizes.nd rfl (by first | exact Or.inl rfl | exact Or.inr (Or.inl rfl) | exact Or.inr rfl)) q_pgs_nil)))
      (q_pss_one (q_ps_expr (q_pe_bm PySem.F.plainAttrs_list PySem.F.slot_list_append PySem.F.type_list_append mt_append (q_pv 1) (q_pa_cons (q_pe_op op_mul (q_pe_ix ix_list (q_pv 1) (q_pe_un un_neg q_pe_int) (fun _ _ => rfl)) (q_pv 3)) q_pa_nil star_BinOp)))))
      (q_pss_one (q_ps_ret (q_pe_tuprev rfl (by rfl) T.z_reversed (by rfl) T.z_tuple (q_pa_cons (q_pv 1) q_pa_nil star_Name)))))), ?_⟩
    obtain ⟨ri, rz, hp, ui, hz⟩ := id u
    have gm := g.ms
    have gl := g.ml
    have lp : (pre.map (·.2)).length = pre.length := List.length_map _
    refine ⟨(by show 1 ≤ sizeLine; decide), fun L hL => ?_⟩
    have s1 := same_new (o := .lst [V.int 1]) hL
    refine ⟨_, rfl, _, rfl, _, rfl, p, _, rfl, SqT.of (s1 _ _ hp), notwhole _ _, fun c hc => ?_⟩
    rw [cut_last]
    have s2 := same_new (o := .tup (ri.map V.ref)) hc
    have lr : (ri.map V.ref).length = pre.length := by rw [List.length_map, ui.len]
    have nLc : L ≠ c := ne_of_none upd_same hc
    refine ⟨c, _, rfl, SqT.of upd_same, ?_⟩
    refine for_revT (xs := ri.map V.ref) (fun i σ H' => ∃ o2 o3 : Option V, σ = [some (.ref p), some (.ref L), o2, o3] ∧ H' L = some (.lst ((sz ((pre.map (·.2)).drop (pre.length - i))).reverse.map V.int)) ∧ H' c = some (.tup (ri.map V.ref)) ∧ Same H H') ?_ ?_ ?_ ?_
    · refine ⟨none, none, rfl, ?_, upd_same, s1.trans s2⟩
      rw [s2 _ _ upd_same, Nat.sub_zero, List.drop_of_length_le (by omega)]
      rfl
    · rintro i σ H3 hi ⟨o2, o3, rfl, h3, hc3, s3⟩
      exact SqT.of hc3
    · rintro i x σ H3 hi hx ⟨o2, o3, rfl, h3, hc3, s3⟩
      obtain ⟨r, hr, rfl⟩ := ref_at hx
      obtain ⟨u, hu, e⟩ := ui.at_ _ r hr
      rw [lr] at hi hu
      have hm : (pre.map (·.2))[pre.length - 1 - i]? = some u.2 := by rw [List.getElem?_map, hu]; rfl
      have ek : pre.length - 1 - i + 1 = pre.length - i := by omega
      have ed := sz_drop hm
      rw [ek] at ed
      obtain ⟨sr, er⟩ := sz_head ((pre.map (·.2)).drop (pre.length - i))
      have hb := pr_le gm gl (pre.length - i)
      have lsz : (sz ((pre.map (·.2)).drop (pre.length - i))).length ≤ 6 := by rw [sz_len, List.length_drop]; omega
      rw [er] at h3 ed lsz
      rw [List.reverse_cons, List.map_append] at h3
      simp only [List.map_cons, List.map_nil] at h3
      rw [List.length_cons] at lsz
      refine ⟨r, _, rfl, SqT.of (s3 _ _ e), rfl, _, _, rfl, _, _, rfl, rfl, ?_⟩
      refine ⟨_, rfl, .inl ⟨rfl, _, SqL.of h3⟩, _, rfl, _, rfl, L, _, _, _, rfl, rfl, SqL.of h3, atI_last _ _, _, rfl, _, _, rfl, rfl, .inl ⟨by omega, by omega⟩, ?_⟩
      refine ⟨L, _, _, rfl, rfl, h3, small1000 (by rw [List.length_append, List.length_map, List.length_reverse]; simp; omega), ?_⟩
      refine ⟨_, _, rfl, ?_, ?_, fun b o eb => ?_⟩
      · rw [upd_same, show pre.length - (i + 1) = pre.length - 1 - i by omega, ed]
        rw [List.reverse_cons, List.reverse_cons, List.map_append, List.map_append, Int.mul_comm]
        rfl
      · rw [upd_ne nLc.symm]; exact hc3
      · rw [upd_ne (ne_of_none eb hL)]; exact s3 b o eb
    · rintro σ H3 ⟨o2, o3, rfl, h3, hc3, s3⟩
      rw [lr, Nat.sub_self, List.drop_zero] at h3
      refine ⟨_, rfl, L, _, rfl, SqL.of h3, fun r hr => ?_⟩
      refine q r _ ?_ (s3.trans (same_new hr))
      rw [upd_same, ← List.map_reverse, List.reverse_reverse]
end
end Ck
set_option Elab.async false
set_option linter.all false
set_option pp.maxSteps 1500
set_option maxRecDepth 100000
set_option maxHeartbeats 4000000
namespace Ck
open PySem L2
section
variable {P : Program} {w : World} {K : PySem.W.Frag} {mg : Str → Option Value} {base : Heap} {t : Ad}
structure PlOf (kvs : List (Key × V)) (ws : List Str) : Prop where
  yes : ∀ i nm, ws[i]? = some nm → valV kvs (.inr nm) = some (.int (i : Nat))
  no : ∀ nm, nm ∉ ws → valV kvs (.inr nm) = none
theorem PlOf.nil : PlOf [] [] := ⟨fun i nm h => by simp at h, fun nm _ => rfl⟩
theorem PlOf.snoc {kvs : List (Key × V)} {ws : List Str} {nm : Str} (p : PlOf kvs ws) (hn : nm ∉ ws) : PlOf (putK kvs (.inr nm) (.int (ws.length : Nat))) (ws ++ [nm]) := by
  refine ⟨fun i y h => ?_, fun y h => ?_⟩
  · rw [valV_put]
    by_cases e : y = nm
    · rw [if_pos (by rw [e])]
      have : i = ws.length := by
        rw [List.getElem?_append] at h
        by_cases hi : i < ws.length
        · rw [if_pos hi] at h
          exact absurd (List.mem_of_getElem? h) (by rw [e]; exact hn)
        · have := (List.getElem?_eq_some_iff.mp (by rw [if_neg hi] at h; exact h)).1
          simp at this; omega
      rw [this]
    · rw [if_neg (fun z => e (by injection z))]
      rw [List.getElem?_append] at h
      by_cases hi : i < ws.length
      · rw [if_pos hi] at h; exact p.yes i y h
      · rw [if_neg hi] at h
        have := List.mem_of_getElem? h
        exact absurd (by simpa using this) e
  · rw [valV_put, if_neg (fun z => h (by injection z with z; rw [z]; simp))]
    exact p.no y fun z => h (List.mem_append_left _ z)
def MoneyAt (C : Addr) (H : Hp) (x : Addr) (pre : List Un1) (z : Str) : Prop := ∃ (dx uo so po : Addr) (kvs : List (Key × V)), H x = some (.ins C dx [("units", .ref uo), ("sizes", .ref so), ("places", .ref po)]) ∧ H so = some (.tup ((sz (pre.map (·.2))).map V.int)) ∧ Units H uo pre z ∧ H po = some (.dK kvs) ∧ PlOf kvs ((pre ++ [(z, (1 : Int))]).map (·.1))
theorem MoneyAt.keep {C : Addr} {H H' : Hp} {x d : Addr} {pre : List Un1} {z : Str} {xs : List V} (m : MoneyAt C H x pre z) (k : Keep d H H') (hd : H d = some (.lst xs)) : MoneyAt C H' x pre z := by
  obtain ⟨dx, uo, so, po, kvs, h1, h2, h3, h4, h5⟩ := m
  refine ⟨dx, uo, so, po, kvs, k _ _ h1 fun e => ?_, k.tups hd _ _ h2, h3.mono (k.tups hd), k _ _ h4 fun e => ?_, h5⟩
  · rw [e, hd] at h1; cases h1
  · rw [e, hd] at h4; cases h4
theorem MoneyAt.same {C : Addr} {H H' : Hp} {x : Addr} {pre : List Un1} {z : Str} (m : MoneyAt C H x pre z) (s : Same H H') : MoneyAt C H' x pre z := by
  obtain ⟨dx, uo, so, po, kvs, h1, h2, h3, h4, h5⟩ := m
  exact ⟨dx, uo, so, po, kvs, s _ _ h1, s _ _ h2, h3.mono (.same s), s _ _ h4, h5⟩
def spInit (C : Addr) : Sp := fun vs H Q _ => ∃ (x p dx : Addr) (pre : List Un1) (z : Str), vs = [.ref x, .ref p] ∧ H x = some (.ins C dx []) ∧ Good pre z ∧ Units H p pre z ∧ ∀ H', MoneyAt C H' x pre z → Keep x H H' → Q .non H'
theorem ok_init (T : Env K mg t) : FnOk P w K mg base CX0 5 t.a_Money_init t.fd_Money_init ["self", "units"] (spInit t.C_Money) := by
  have G_check_units : FnOk P w K mg base CX0 4 t.a_check_units t.fd_check_units ["units"] spCheck := ok_check T
  have G_unit_sizes : FnOk P w K mg base CX0 1 t.a_unit_sizes t.fd_unit_sizes ["units"] spSizes := ok_sizes T
  refine T.f_Money_init.okQ sc_Money_init (fun vs H Q E h => ?_) (fun cdv A outer s H vs Q E hr h => ?_)
  · obtain ⟨x, p, dx, pre, z, rfl, _⟩ := h
    rfl
  · obtain ⟨x, p, dx, pre, z, rfl, hx, g, u, q⟩ := h
    have hr_check_units := hr
    have hr_unit_sizes : Room 1 _ := hr.mono (by decide)
    refine ⟨_, (q_pss_cons (q_ps_set (i := 2) sc_Money_init.nd rfl (by first | exact Or.inl rfl | exact Or.inr (Or.inl rfl) | exact Or.inr rfl) (q_pe_callTy call_tuple_of (by rfl) T.z_tuple (by decide +kernel) (q_pa_cons (q_pe_lc (own := [("name", 4), ("many", 5)]) (g := _) (by rfl) sc_Money_init.nd (q_pi_tup (q_pv 1)) (blkOk_by (own := [("name", 4), ("many", 5)]) (N := ["self", "units", "own_units", "at", "name", "many"]) (sc := defScope s_Money_init) (by decide +kernel)) (fun _ _ _ _ _ => (q_pg_tupK (K := K) 2 rfl (by rfl) (q_pgs_cons (q_pg_name (i := 4) sc_Money_init.nd rfl (by first | exact Or.inl rfl | exact Or.inr (Or.inl rfl) | exact Or.inr rfl)) (q_pgs_cons (q_pg_name (i := 5) sc_Money_init.nd rfl (by first | exact Or.inl rfl | exact Or.inr (Or.inl rfl) | exact Or.inr rfl)) q_pgs_nil)))) (fun _ _ _ _ _ => q_pts_nil) (fun _ _ _ _ _ => (q_pe_tup (q_pa_cons (q_pv 4) (q_pa_cons (q_pv 5) q_pa_nil star_Name) star_Name)))) q_pa_nil star_ListComp)))
      (q_pss_cons (q_ps_expr (q_pe_call G_check_units hr_check_units (by rfl) T.mg_check_units T.kp_check_units T.b_check_units .nil pass0 (q_pa_cons (q_pv 2) q_pa_nil star_Name)))
      (q_pss_cons (q_ps_fld (q_pv 0) (q_pv 2) rfl)
      (q_pss_cons (q_ps_fld (q_pv 0) (q_pe_call G_unit_sizes hr_unit_sizes (by rfl) T.mg_unit_sizes T.kp_unit_sizes T.b_unit_sizes .nil pass0 (q_pa_cons (q_pv 2) q_pa_nil star_Name)) rfl)
      (q_pss_one (q_ps_fld (q_pv 0) (q_pe_dc (own := [("at", 3), ("name", 4), ("many", 5)]) (by rfl) sc_Money_init.nd (q_pi_enumT (by rfl) T.z_enumerate (q_pa_cons (q_pv 2) q_pa_nil star_Name)) (blkOk_by (own := [("at", 3), ("name", 4), ("many", 5)]) (N := ["self", "units", "own_units", "at", "name", "many"]) (sc := defScope s_Money_init) (by decide +kernel)) (fun _ _ _ _ _ => (q_pg_tupK (K := K) 2 rfl (by rfl) (q_pgs_cons (q_pg_name (i := 3) sc_Money_init.nd rfl (by first | exact Or.inl rfl | exact Or.inr (Or.inl rfl) | exact Or.inr rfl)) (q_pgs_cons (q_pg_tupK (K := K) 2 rfl (by rfl) (q_pgs_cons (q_pg_name (i := 4) sc_Money_init.nd rfl (by first | exact Or.inl rfl | exact Or.inr (Or.inl rfl) | exact Or.inr rfl)) (q_pgs_cons (q_pg_name (i := 5) sc_Money_init.nd rfl (by first | exact Or.inl rfl | exact Or.inr (Or.inl rfl) | exact Or.inr rfl)) q_pgs_nil))) q_pgs_nil)))) (fun _ _ _ _ _ => q_pts_nil) (fun _ _ _ _ _ => (q_pv 4)) (fun _ _ _ _ _ => (q_pv 3))) rfl)))))), ?_⟩
    obtain ⟨rs, hp, ua⟩ := u.all
    have lu : (pre ++ [(z, (1 : Int))]).length = pre.length + 1 := by rw [List.length_append]; rfl
    have lp := g.len
    refine ⟨_, rfl, p, rfl, ⟨_, SqT.of hp⟩, fun L hL => ?_⟩
    refine lc_tup (xs := rs.map V.ref) (fun i H' => ∃ (rr : List Addr), H' L = some (.lst (rr.map V.ref)) ∧ UsAt H' rr ((pre ++ [(z, (1 : Int))]).take i) ∧ Same H H') ?_ ?_ ?_ ?_
    · exact ⟨[], upd_same, .nil _, same_new hL⟩
    · rintro i H1 hi ⟨rr, h1, u1, s1⟩
      exact SqT.of (s1 _ _ hp)
    · rintro i y H1 hy ⟨rr, h1, u1, s1⟩
      obtain ⟨r, hr, rfl⟩ := ref_at hy
      obtain ⟨v, hv, e⟩ := ua.at_ i r hr
      have lrr : rr.length ≤ 6 := by rw [u1.len, List.length_take]; omega
      refine ⟨r, _, rfl, SqT.of (s1 _ _ e), rfl, _, _, rfl, _, _, rfl, rfl, rfl, yes_i ⟨_, rfl, _, rfl, (by show 2 ≤ sizeLine; decide), fun r2 hr2 => ?_⟩⟩
      have s2 := same_new (o := .tup [V.str v.1, V.int v.2]) hr2
      refine ⟨_, s2 _ _ h1, small1000 (by rw [List.length_map]; omega), rr ++ [r2], ?_, ?_, fun b o e => ?_⟩
      · rw [upd_same, List.map_append]; rfl
      · rw [List.take_succ, hv]
        have t3 : Tups (upd H1 r2 (.tup [V.str v.1, V.int v.2])) (upd (upd H1 r2 (.tup [V.str v.1, V.int v.2])) L (.lst (rr.map V.ref ++ [V.ref r2]))) := Tups.upd (s2 _ _ h1)
        exact ((u1.mono (.same s2)).mono t3).snoc (t3 _ _ upd_same)
      · rw [upd_ne (ne_of_none e hL)]
        exact s2 _ _ (s1 b o e)
    rintro H1 ⟨rr, h1, u1, s1⟩
    rw [List.length_map, ua.len, List.take_length] at u1
    refine ⟨L, _, rfl, .inl ⟨SqL.of h1, fun o ho => ?_⟩⟩
    have s2 := same_new (o := .tup (rr.map V.ref)) ho
    have lrr : rr.length = pre.length + 1 := by rw [u1.len, lu]
    have u2 : Units (upd H1 o (.tup (rr.map V.ref))) o pre z := by
      obtain ⟨ri, rz, rfl⟩ := snoc_of rr (by omega)
      obtain ⟨a, b⟩ := (u1.mono (.same s2)).init
      exact ⟨ri, rz, by rw [upd_same, List.map_append]; rfl, a, b⟩
    refine ⟨_, rfl, o, pre, z, rfl, g, u2, fun H3 s3 => ?_⟩
    have s13 := (s1.trans s2).trans s3
    have hx3 := s13 _ _ hx
    have ho3 := s3 _ _ (upd_same (H := H1) (a := o) (o := .tup (rr.map V.ref)))
    have nox : o ≠ x := fun e => by rw [e, hx3] at ho3; cases ho3
    have u3 := u2.mono (.same s3)
    refine ⟨_, rfl, _, rfl, x, _, dx, _, rfl, hx3, T.cl_Money, T.no_Money_units, (by show 0 < 1000; decide), ?_⟩
    have k4 : Keep x H3 (upd H3 x (.ins t.C_Money dx [("units", .ref o)])) := fun b ob e nb => by rw [upd_ne nb]; exact e
    have tk : ∀ {H4 H5 : Hp} {dx : Addr} {fs : List (Str × V)}, Keep x H4 H5 → H4 x = some (.ins t.C_Money dx fs) → Tups H4 H5 := fun k e b xs h => k b _ h fun z => by rw [z, e] at h; cases h
    have u4 := u3.mono (tk k4 hx3)
    refine ⟨_, rfl, o, pre, z, rfl, g, u4, fun r H5 h5 s5 => ?_⟩
    have hx5 := s5 _ _ (upd_same (H := H3) (a := x) (o := .ins t.C_Money dx [("units", .ref o)]))
    refine ⟨_, rfl, x, _, dx, _, rfl, hx5, T.cl_Money, T.no_Money_sizes, (by show 1 < 1000; decide), ?_⟩
    have k6 : Keep x H5 (upd H5 x (.ins t.C_Money dx [("units", .ref o), ("sizes", .ref r)])) := fun b ob e nb => by rw [upd_ne nb]; exact e
    have t6 := tk k6 hx5
    have u6 := (u4.mono (.same s5)).mono t6
    have h6 := t6 _ _ h5
    have hx6 : (upd H5 x (.ins t.C_Money dx [("units", .ref o), ("sizes", .ref r)])) x = _ := upd_same
    have K6 : Keep x H (upd H5 x (.ins t.C_Money dx [("units", .ref o), ("sizes", .ref r)])) := (((Keep.of s13).trans k4).trans (.of s5)).trans k6
    have U6 := u6.all
    obtain ⟨r6, ho6, ua6⟩ := U6
    refine ⟨_, rfl, o, _, rfl, SqT.of ho6, fun Dd hD => ?_⟩
    refine dc_enumT (xs := r6.map V.ref) (fun i H' => ∃ kvs, H' Dd = some (.dK kvs) ∧ kvs.length ≤ i ∧ PlOf kvs (((pre ++ [(z, (1 : Int))]).map (·.1)).take i) ∧ Same (upd H5 x (.ins t.C_Money dx [("units", .ref o), ("sizes", .ref r)])) H') ?_ ?_ ?_ ?_
    · exact ⟨[], upd_same, Nat.le_refl _, .nil, same_new hD⟩
    · rintro i H7 hi ⟨kvs, h7, l7, p7, s7⟩
      exact SqT.of (s7 _ _ ho6)
    · rintro i y Ti H7 hy ⟨kvs, h7, l7, p7, s7⟩ hTi
      obtain ⟨r8, hr8, rfl⟩ := ref_at hy
      obtain ⟨v, hv, e⟩ := ua6.at_ i r8 hr8
      have hi := (List.getElem?_eq_some_iff.mp hr8).1
      rw [ua6.len, lu] at hi
      have s8 := same_new (o := .tup [V.int (i : Nat), V.ref r8]) hTi
      refine ⟨Ti, _, rfl, SqT.of upd_same, rfl, _, _, rfl, _, _, rfl, r8, _, rfl, SqT.of (s8 _ _ (s7 _ _ e)), rfl, _, _, rfl, _, _, rfl, rfl, rfl, rfl, yes_i ⟨_, rfl, _, rfl, kvs, .inr v.1, s8 _ _ h7, rfl, small1000 (by omega), ?_⟩⟩
      refine ⟨_, upd_same, ?_, ?_, fun b ob eb => ?_⟩
      · have := length_putK kvs (.inr v.1) (.int (i : Nat)); omega
      · have hv' : ((pre ++ [(z, (1 : Int))]).map (·.1))[i]? = some v.1 := by rw [List.getElem?_map, hv]; rfl
        have ll : (((pre ++ [(z, (1 : Int))]).map (·.1)).take i).length = i := by rw [List.length_take, List.length_map, lu]; omega
        have nin : v.1 ∉ ((pre ++ [(z, (1 : Int))]).map (·.1)).take i := fun hm => by
          obtain ⟨j, hj, ej⟩ := List.getElem_of_mem hm
          rw [List.getElem_take] at ej
          rw [ll] at hj
          have h1 : ((pre ++ [(z, (1 : Int))]).map (·.1))[j]? = some v.1 := by rw [List.getElem?_eq_getElem (by rw [List.length_map, lu]; omega), ej]
          obtain ⟨a1, b1⟩ := List.getElem?_eq_some_iff.mp h1
          obtain ⟨a2, b2⟩ := List.getElem?_eq_some_iff.mp hv'
          exact List.pairwise_iff_getElem.mp g.nodup j i a1 a2 hj (by rw [b1, b2])
        have := p7.snoc nin
        rw [ll] at this
        rw [List.take_succ, hv']
        exact this
      · rw [upd_ne (ne_of_none eb hD)]
        exact s8 _ _ (s7 b ob eb)
    · rintro H7 ⟨kvs, h7, l7, p7, s7⟩
      have hx7 := s7 _ _ hx6
      refine ⟨_, rfl, x, _, dx, _, rfl, hx7, T.cl_Money, T.no_Money_places, (by show 2 < 1000; decide), ?_⟩
      have k8 : Keep x H7 (upd H7 x (.ins t.C_Money dx [("units", .ref o), ("sizes", .ref r), ("places", .ref Dd)])) := fun b ob e nb => by rw [upd_ne nb]; exact e
      have t8 := (Tups.same s7).trans (tk k8 hx7)
      rw [List.length_map, ua6.len, ← List.length_map (f := (·.1)), List.take_length] at p7
      have nDx : Dd ≠ x := fun e => by rw [e, hx7] at h7; cases h7
      exact q _ ⟨dx, o, r, Dd, kvs, upd_same, t8 _ _ h6, u6.mono t8, k8 _ _ h7 nDx, p7⟩ ((K6.trans (.of s7)).trans k8)
end
end Ck
set_option Elab.async false
set_option linter.all false
set_option pp.maxSteps 1500
set_option maxRecDepth 100000
set_option maxHeartbeats 4000000
namespace Ck
open PySem L2
section
variable {P : Program} {w : World} {K : PySem.W.Frag} {mg : Str → Option Value} {base : Heap} {t : Ad}
def partsOf (n : Int) (ms : List Int) : List V := (List.range (ms.length + 1)).map fun k => V.int (part n ms k)
theorem parts_at {n : Int} {ms : List Int} {k : Nat} (h : k ≤ ms.length) : (partsOf n ms)[k]? = some (.int (part n ms k)) := by
  unfold partsOf
  rw [List.getElem?_map, List.getElem?_range (by omega)]
  rfl
def spParts (C : Addr) : Sp := fun vs H Q _ => ∃ (x : Addr) (v : V) (pre : List Un1) (z : Str), vs = [.ref x, v] ∧ MoneyAt C H x pre z ∧ Good pre z ∧
  (∃ n : Int, v = .int n ∧ 0 ≤ n ∧ n ≤ 1000000000000000 ∧ ∀ (r : Addr) (H' : Hp), H' r = some (.tup (partsOf n (pre.map (·.2)))) → Same H H' → Q (.ref r) H')
theorem ok_parts (T : Env K mg t) : FnOk P w K mg base CX0 4 t.a_Money_parts t.fd_Money_parts ["self", "amount"] (spParts t.C_Money) := by
  have G_is_amount : FnOk P w K mg base CX0 3 t.a_is_amount t.fd_is_amount ["number"] spAmt := ok_amt T
  refine T.f_Money_parts.okQ sc_Money_parts (fun vs H Q E h => ?_) (fun cdv A outer s H vs Q E hr h => ?_)
  · obtain ⟨x, v, pre, z, rfl, _⟩ := h
    rfl
  · obtain ⟨x, v, pre, z, rfl, m, g, h⟩ := h
    have hr_is_amount := hr
    refine ⟨_, (q_pss_cons (q_ps_if (q_pt_not (q_pt_val (q_pe_call G_is_amount hr_is_amount (by rfl) T.mg_is_amount T.kp_is_amount T.b_is_amount .nil pass0 (q_pa_cons (q_pv 1) q_pa_nil star_Name)))) (q_pss_one q_ps_never) q_pss_nil)
      (q_pss_cons (q_ps_set (i := 2) sc_Money_parts.nd rfl (by first | exact Or.inl rfl | exact Or.inr (Or.inl rfl) | exact Or.inr rfl) (q_pe_lst q_pa_nil))
      (q_pss_cons (q_ps_set (i := 3) sc_Money_parts.nd rfl (by first | exact Or.inl rfl | exact Or.inr (Or.inl rfl) | exact Or.inr rfl) (q_pv 1))
      (q_pss_cons (q_ps_for PassesOwn.never rfl (q_pi_tup (q_pe_fld (q_pv 0) rfl)) (q_pg_name (i := 4) sc_Money_parts.nd rfl (by first | exact Or.inl rfl | exact Or.inr (Or.inl rfl) | exact Or.inr rfl))
      (q_pss_cons (q_ps_asg (q_pe_callB call_divmodL (by rfl) T.z_divmod (by decide +kernel) (q_pa_cons (q_pv 3) (q_pa_cons (q_pv 4) q_pa_nil star_Name) star_Name)) (q_pg_tup (by rfl) (q_pgs_cons (q_pg_name (i := 5) sc_Money_parts.nd rfl (by first | exact Or.inl rfl | exact Or.inr (Or.inl rfl) | exact Or.inr rfl)) (q_pgs_cons (q_pg_name (i := 3) sc_Money_parts.nd rfl (by first | exact Or.inl rfl | exact Or.inr (Or.inl rfl) | exact Or.inr rfl)) q_pgs_nil))))
      (q_pss_one (q_ps_expr (q_pe_bm PySem.F.plainAttrs_list PySem.F.slot_list_append PySem.F.type_list_append mt_append (q_pv 2) (q_pa_cons (q_pv 5) q_pa_nil star_Name))))))
      (q_pss_one (q_ps_ret (q_pe_callTy call_tuple_of (by rfl) T.z_tuple (by decide +kernel) (q_pa_cons (q_pv 2) q_pa_nil star_Name)))))))), ?_⟩
    obtain ⟨n, rfl, n0, n1, q⟩ := h
    · have gm := g.ms
      have gl := g.ml
      refine ⟨_, rfl, _, rfl, .inl ⟨n, rfl, ?_⟩⟩
      rw [decide_eq_true n0, decide_eq_true n1]
      refine ⟨_, rfl, iteN rfl ?_⟩
      refine ⟨by decide, fun L hL => ?_⟩
      have s1 := same_new (o := .lst []) hL
      obtain ⟨dx, uo, so, po, kvs, hx, hs, hu, _, _⟩ := m.same s1
      have hs0 : H so = some (.tup ((sz (pre.map (·.2))).map V.int)) := by
        obtain ⟨_, _, _, _, _, hx', hs', _, _, _⟩ := m
        rw [s1 _ _ hx'] at hx
        cases hx
        exact hs'
      refine ⟨_, rfl, _, rfl, x, _, dx, _, _, rfl, hx, T.cl_Money, T.no_Money_sizes, rfl, so, rfl, ⟨_, SqT.of hs⟩, ?_⟩
      refine for_tup (xs := (sz (pre.map (·.2))).map V.int) (fun i σ H' => ∃ o4 o5 : Option V, σ = [some (.ref x), some (.int n), some (.ref L), some (.int (rest n (pre.map (·.2)) i)), o4, o5] ∧ H' L = some (.lst ((List.range i).map fun k => V.int (part n (pre.map (·.2)) k))) ∧ Same H H') ?_ ?_ ?_ ?_
      · exact ⟨none, none, rfl, upd_same, s1⟩
      · rintro i σ H2 hi ⟨o4, o5, rfl, h2, s2⟩
        exact SqT.of (s2 _ _ hs0)
      · rintro i y σ H2 hy ⟨o4, o5, rfl, h2, s2⟩
        have hi : i ≤ (pre.map (·.2)).length := by
          have := (List.getElem?_eq_some_iff.mp hy).1
          rw [List.length_map, sz_len] at this; omega
        rw [List.getElem?_map, sz_at _ _ hi] at hy
        cases hy
        obtain ⟨p0, p1⟩ := pr_le gm gl i
        refine ⟨_, rfl, _, rfl, _, _, rfl, log2_le p0 p1, fun r hr => ?_⟩
        have s3 := same_new (o := .tup [V.int (rest n (pre.map (·.2)) i / pr ((pre.map (·.2)).drop i)), V.int (rest n (pre.map (·.2)) i % pr ((pre.map (·.2)).drop i))]) hr
        refine ⟨r, _, rfl, SqT.of upd_same, rfl, _, _, rfl, _, _, rfl, rfl, ?_⟩
        refine ⟨_, rfl, .inl ⟨rfl, _, SqL.of (s3 _ _ h2)⟩, _, rfl, L, _, _, rfl, rfl, s3 _ _ h2, small1000 (by rw [List.length_map, List.length_range]; omega), ?_⟩
        refine ⟨_, _, by rw [← rest_next n _ i hi]; rfl, ?_, fun b o e => ?_⟩
        · rw [upd_same, List.range_succ, List.map_append]; rfl
        · rw [upd_ne (ne_of_none e hL)]
          exact s3 _ _ (s2 b o e)
      · rintro σ H2 ⟨o4, o5, rfl, h2, s2⟩
        rw [List.length_map, sz_len] at h2
        refine ⟨_, rfl, L, _, rfl, .inl ⟨SqL.of h2, fun r hr => ?_⟩⟩
        exact q r _ upd_same (s2.trans (same_new hr))
end
end Ck
set_option Elab.async false
set_option linter.all false
set_option pp.maxSteps 1500
set_option maxRecDepth 100000
set_option maxHeartbeats 4000000
namespace Ck
open PySem L2
section
variable {P : Program} {w : World} {K : PySem.W.Frag} {mg : Str → Option Value} {base : Heap} {t : Ad}
def spLSizes : Sp := fun vs H Q _ => ∃ (p : Addr) (pre : List Un1) (z : Str), vs = [.ref p] ∧ Good pre z ∧ Units H p pre z ∧
  ∀ (L : Addr) (H' : Hp), H' L = some (.lst ((sz (pre.map (·.2))).map V.int)) → H L = none → Same H H' → Q (.ref L) H'
theorem ok_lsizes (T : Env K mg t) : FnOk P w K mg base CX0 1 t.a_l_sizes t.fd_l_sizes ["_law_units_here"] spLSizes := by
  refine T.f_l_sizes.okQ sc_l_sizes (fun vs H Q E h => ?_) (fun cdv A outer s H vs Q E hr h => ?_)
  · obtain ⟨p, pre, z, rfl, _⟩ := h
    rfl
  · obtain ⟨p, pre, z, rfl, g, u, q⟩ := h
    refine ⟨_, (q_pss_cons (q_ps_set (i := 1) sc_l_sizes.nd rfl (by first | exact Or.inl rfl | exact Or.inr (Or.inl rfl) | exact Or.inr rfl) (q_pe_lst (q_pa_cons q_pe_int q_pa_nil star_Constant)))
      (q_pss_cons (q_ps_for PassesOwn.never rfl (q_pi_revT (by rfl) T.z_reversed (q_pa_cons (q_pe_slice sl_tup (q_pv 0) q_po_none (q_po_some (q_pe_un un_neg q_pe_int))) q_pa_nil star_Subscript)) (q_pg_tup (by rfl) (q_pgs_cons (q_pg_name (i := 2) sc_l_sizes.nd rfl (by first | exact Or.inl rfl | exact Or.inr (Or.inl rfl) | exact Or.inr rfl)) (q_pgs_cons (q_pg_name (i := 3) sc_l_sizes.nd rfl (by first | exact Or.inl rfl | exact Or.inr (Or.inl rfl) | exact Or.inr rfl)) q_pgs_nil)))
      (q_pss_one (q_ps_set (i := 1) sc_l_sizes.nd rfl (by first | exact Or.inl rfl | exact Or.inr (Or.inl rfl) | exact Or.inr rfl) (q_pe_op op_cat (q_pe_lst (q_pa_cons (q_pe_op op_mul (q_pv 3) (q_pe_ix ix_list (q_pv 1) q_pe_int (fun _ _ => rfl))) q_pa_nil star_BinOp)) (q_pv 1)))))
      (q_pss_one (q_ps_ret (q_pv 1))))), ?_⟩
    obtain ⟨ri, rz, hp, ui, hz⟩ := id u
    have gm := g.ms
    have gl := g.ml
    have lp : (pre.map (·.2)).length = pre.length := List.length_map _
    refine ⟨(by show 1 ≤ sizeLine; decide), fun L hL => ?_⟩
    have s1 := same_new (o := .lst [V.int 1]) hL
    refine ⟨_, rfl, _, rfl, _, rfl, p, _, rfl, SqT.of (s1 _ _ hp), notwhole _ _, fun c hc => ?_⟩
    rw [cut_last]
    have s2 := same_new (o := .tup (ri.map V.ref)) hc
    have lr : (ri.map V.ref).length = pre.length := by rw [List.length_map, ui.len]
    refine ⟨c, _, rfl, SqT.of upd_same, ?_⟩
    refine for_revT (xs := ri.map V.ref) (fun i σ H' => ∃ (L : Addr) (o2 o3 : Option V), σ = [some (.ref p), some (.ref L), o2, o3] ∧ H' L = some (.lst ((sz ((pre.map (·.2)).drop (pre.length - i))).map V.int)) ∧ H L = none ∧ H' c = some (.tup (ri.map V.ref)) ∧ Same H H') ?_ ?_ ?_ ?_
    · refine ⟨L, none, none, rfl, ?_, hL, upd_same, s1.trans s2⟩
      rw [s2 _ _ upd_same, Nat.sub_zero, List.drop_of_length_le (by omega)]
      rfl
    · rintro i σ H3 hi ⟨L, o2, o3, rfl, h3, hL, hc3, s3⟩
      exact SqT.of hc3
    · rintro i x σ H3 hi hx ⟨L, o2, o3, rfl, h3, hL, hc3, s3⟩
      obtain ⟨r, hr, rfl⟩ := ref_at hx
      obtain ⟨u, hu, e⟩ := ui.at_ _ r hr
      rw [lr] at hi hu
      obtain ⟨m0, m1⟩ := g.many u (List.mem_of_getElem? hu)
      have hm : (pre.map (·.2))[pre.length - 1 - i]? = some u.2 := by rw [List.getElem?_map, hu]; rfl
      have ek : pre.length - 1 - i + 1 = pre.length - i := by omega
      have ed := sz_drop hm
      rw [ek] at ed
      obtain ⟨sr, er⟩ := sz_head ((pre.map (·.2)).drop (pre.length - i))
      have hb := pr_le gm gl (pre.length - i)
      have lsz : (sz ((pre.map (·.2)).drop (pre.length - i))).length ≤ 6 := by rw [sz_len, List.length_drop]; omega
      rw [er] at h3 ed lsz
      rw [List.map_cons] at h3
      rw [List.length_cons] at lsz
      refine ⟨r, _, rfl, SqT.of (s3 _ _ e), rfl, _, _, rfl, _, _, rfl, rfl, ?_⟩
      refine ⟨_, rfl, _, rfl, L, _, 0, _, rfl, rfl, SqL.of h3, at_of (j := 0) (by decide) rfl, _, _, rfl, rfl, .inl ⟨by omega, by omega⟩, (by show 1 ≤ sizeLine; decide), fun L1 hL1 => ?_⟩
      have s4 := same_new (o := .lst [V.int (u.2 * pr ((pre.map (·.2)).drop (pre.length - i)))]) hL1
      refine ⟨_, rfl, L1, L, _, _, rfl, rfl, upd_same, s4 _ _ h3, Nat.le_of_lt (small1000 (by simp only [List.length_cons, List.length_nil, List.length_map]; omega)), fun L2 hL2 => ?_⟩
      have s5 := s4.trans (same_new (o := .lst ([V.int (u.2 * pr ((pre.map (·.2)).drop (pre.length - i)))] ++ V.int (pr ((pre.map (·.2)).drop (pre.length - i))) :: sr.map V.int)) hL2)
      refine ⟨L2, _, _, rfl, ?_, ?_, s5 _ _ hc3, s3.trans s5⟩
      · rw [upd_same, show pre.length - (i + 1) = pre.length - 1 - i by omega, ed]; rfl
      · cases e2 : H L2 with
        | none => rfl
        | some o => rw [s4 _ _ (s3 _ _ e2)] at hL2; cases hL2
    · rintro σ H3 ⟨L, o2, o3, rfl, h3, hL, hc3, s3⟩
      rw [lr, Nat.sub_self, List.drop_zero] at h3
      exact ⟨_, rfl, q L _ h3 hL s3⟩
theorem sz_mem {ms : List Int} {v : Int} (h : v ∈ sz ms) : ∃ k, v = pr (ms.drop k) := by
  obtain ⟨k, hk⟩ := List.mem_iff_getElem?.mp h
  have hl := (List.getElem?_eq_some_iff.mp hk).1
  rw [sz_len] at hl
  rw [sz_at ms k (by omega)] at hk
  exact ⟨k, (Option.some.inj hk).symm⟩
end
end Ck
set_option Elab.async false
set_option linter.all false
set_option pp.maxSteps 1500
set_option maxRecDepth 100000
set_option maxHeartbeats 4000000
namespace Ck
open PySem L2
section
variable {P : Program} {w : World} {K : PySem.W.Frag} {mg : Str → Option Value} {base : Heap} {t : Ad}
def spText (C : Addr) : Sp := fun vs H Q _ => ∃ (x : Addr) (v : V) (pre : List Un1) (z : Str), vs = [.ref x, v] ∧ MoneyAt C H x pre z ∧ Good pre z ∧
  (∃ n : Int, v = .int n ∧ 0 ≤ n ∧ n ≤ 1000000000000000 ∧ ∀ (H' : Hp), Same H H' → Q (.str (textOf n (pre.map (·.2)) ((pre ++ [(z, (1 : Int))]).map (·.1)) z)) H')
theorem ok_textm (T : Env K mg t) : FnOk P w K mg base CX0 5 t.a_Money_text t.fd_Money_text ["self", "amount"] (spText t.C_Money) := by
  have G_Money_parts : FnOk P w K mg base CX0 4 t.a_Money_parts t.fd_Money_parts ["self", "amount"] (spParts t.C_Money) := ok_parts T
  refine T.f_Money_text.okQ sc_Money_text (fun vs H Q E h => ?_) (fun cdv A outer s H vs Q E hr h => ?_)
  · obtain ⟨x, v, pre, z, rfl, _⟩ := h
    rfl
  · obtain ⟨x, v, pre, z, rfl, m, g, h⟩ := h
    have hr_Money_parts := hr
    refine ⟨_, (q_pss_cons ((q_ps_setLc (i := 2) (own := [("name", 4), ("many", 5)]) (g := _) (by rfl) sc_Money_text.nd rfl rfl (sw_true rfl rfl rfl (by decide +kernel)) (q_pi_tup (q_pe_fld (q_pv 0) rfl)) (blkOk_by (own := [("name", 4), ("many", 5)]) (N := ["self", "amount", "names", "written", "name", "many"]) (sc := defScope s_Money_text) (by decide +kernel)) (fun _ _ _ _ _ => (q_pg_tupK (K := K) 2 rfl (by rfl) (q_pgs_cons (q_pg_name (i := 4) sc_Money_text.nd rfl (by first | exact Or.inl rfl | exact Or.inr (Or.inl rfl) | exact Or.inr rfl)) (q_pgs_cons (q_pg_name (i := 5) sc_Money_text.nd rfl (by first | exact Or.inl rfl | exact Or.inr (Or.inl rfl) | exact Or.inr rfl)) q_pgs_nil)))) (fun _ _ _ _ _ => q_pts_nil) (fun _ _ _ _ _ => (q_pv 4))))
      (q_pss_cons ((q_ps_setLc (i := 3) (own := [("many", 5), ("name", 4)]) (g := _) (by rfl) sc_Money_text.nd rfl rfl (sw_true rfl rfl rfl (by decide +kernel)) (q_pi_zipG true false (by rfl) T.z_zip (q_pa_cons (q_pe_meth (q_pv 0) T.cl_Money T.m_Money_parts G_Money_parts hr_Money_parts T.b_Money_parts .nil pass0 (q_pa_cons (q_pv 1) q_pa_nil star_Name)) (q_pa_cons (q_pv 2) q_pa_nil star_Name) star_Call)) (blkOk_by (own := [("many", 5), ("name", 4)]) (N := ["self", "amount", "names", "written", "name", "many"]) (sc := defScope s_Money_text) (by decide +kernel)) (fun _ _ _ _ _ => (q_pg_tupK (K := K) 2 rfl (by rfl) (q_pgs_cons (q_pg_name (i := 5) sc_Money_text.nd rfl (by first | exact Or.inl rfl | exact Or.inr (Or.inl rfl) | exact Or.inr rfl)) (q_pgs_cons (q_pg_name (i := 4) sc_Money_text.nd rfl (by first | exact Or.inl rfl | exact Or.inr (Or.inl rfl) | exact Or.inr rfl)) q_pgs_nil)))) (fun _ _ _ _ _ => (q_pts_one (q_pt_cmpR op_gt (q_pv 5) q_pe_int (nomark _)))) (fun _ _ _ _ _ => (q_pe_fstr (QFs.cons (qf_val (q_pv 5)) (QFs.cons qf_lit (QFs.cons (qf_val (q_pv 4)) QFs.nil)))))))
      (q_pss_cons (q_ps_if (q_pt_not (q_pt_truth (q_pv 3) (by intro _; rfl))) (q_pss_one (q_ps_ret (q_pe_fstr (QFs.cons qf_lit (QFs.cons (qf_val (q_pe_ix ix_list (q_pv 2) (q_pe_un un_neg q_pe_int) (fun _ _ => rfl))) QFs.nil))))) q_pss_nil)
      (q_pss_one (q_ps_ret (q_pe_join q_pe_str (q_pv 3))))))), ?_⟩
    obtain ⟨dx, uo, so, po, kvs, hx, hs, hu, _, _⟩ := id m
    obtain ⟨rs, hp, ua⟩ := hu.all
    have lu : (pre ++ [(z, (1 : Int))]).length = pre.length + 1 := by rw [List.length_append]; rfl
    have lp := g.len
    refine ⟨_, rfl, x, _, dx, _, _, rfl, hx, T.cl_Money, T.no_Money_units, rfl, uo, rfl, ⟨_, SqT.of hp⟩, fun Ln hLn => ?_⟩
    refine lc_tup (xs := rs.map V.ref) (fun i H' => H' Ln = some (.lst (((pre ++ [(z, (1 : Int))]).take i).map fun u => .str u.1)) ∧ Same H H') ?_ ?_ ?_ ?_
    · exact ⟨by rw [upd_same]; rfl, same_new hLn⟩
    · rintro i H1 hi ⟨h1, s1⟩
      exact SqT.of (s1 _ _ hp)
    · rintro i y H1 hy ⟨h1, s1⟩
      obtain ⟨r, hr, rfl⟩ := ref_at hy
      obtain ⟨u, hu, e⟩ := ua.at_ i r hr
      refine ⟨r, _, rfl, SqT.of (s1 _ _ e), rfl, _, _, rfl, _, _, rfl, rfl, rfl, yes_i ⟨_, rfl, _, h1, small1000 ?_, ?_, fun b o e => ?_⟩⟩
      · rw [List.length_map, List.length_take]; omega
      · rw [upd_same, fst_take hu]
      · rw [upd_ne (ne_of_none e hLn)]
        exact s1 b o e
    rintro H1 ⟨h1, s1⟩
    rw [List.length_map, ua.len, List.take_length] at h1
    have e1 : ((pre ++ [(z, (1 : Int))]).map fun u => V.str u.1) = ((pre ++ [(z, (1 : Int))]).map (·.1)).map V.str := by rw [List.map_map]; rfl
    rw [e1] at h1
    refine ⟨_, rfl, x, dx, _, rfl, s1 _ _ hx, rfl, _, rfl, x, v, pre, z, rfl, m.same s1, g, ?_⟩
    obtain ⟨n, rfl, n0, n1, q⟩ := h
    · refine ⟨n, rfl, n0, n1, fun r H2 hr s2 => ?_⟩
      have gm := g.ms
      have gl := g.ml
      have h2 := s2 _ _ h1
      generalize hws : (pre ++ [(z, (1 : Int))]).map (·.1) = ws at h1 h2 q
      have gn : ∀ y ∈ ws, nameOk y = true := by rw [← hws]; exact g.names
      have lw : ws.length = pre.length + 1 := by rw [← hws, List.length_map, lu]
      have lpa : (partsOf n (pre.map (·.2))).length = pre.length + 1 := by unfold partsOf; rw [List.length_map, List.length_range, List.length_map]
      refine ⟨_, rfl, r, Ln, _, _, rfl, SqT.of hr, SqL.of h2, fun Lw hLw => ?_⟩
      refine lc_zipG (xs := partsOf n (pre.map (·.2))) (ys := ws.map V.str) (by rw [lpa, List.length_map, lw]) (fun i H' => H' Lw = some (.lst ((wordsOf n (pre.map (·.2)) ws i).map V.str)) ∧ Same H2 H') ?_ ?_ ?_ ?_
      · exact ⟨by rw [upd_same]; rfl, same_new hLw⟩
      · rintro i H3 hi ⟨h3, s3⟩
        exact ⟨SqT.of (s3 _ _ hr), SqL.of (s3 _ _ h2)⟩
      · rintro i px py Tp H3 hpx hpy ⟨h3, s3⟩ hTp
        have hi : i ≤ (pre.map (·.2)).length := by
          have := (List.getElem?_eq_some_iff.mp hpx).1
          rw [lpa] at this; rw [List.length_map]; omega
        rw [parts_at hi] at hpx
        cases hpx
        obtain ⟨nm, hn, rfl⟩ := str_at hpy
        have b0 := part_nonneg gm gl n0 i
        have b1 := Int.le_trans (part_le gm gl n0 i) n1
        have dl := dig_len b0 b1
        have fm := fmt_int b0 b1
        have nl := (nameOk_iff.mp (gn nm (List.mem_of_getElem? hn))).2.1
        have gd : ws.getD i Str.empty = nm := by rw [List.getD_eq_getElem?_getD, hn]; rfl
        have wl := words_len n (pre.map (·.2)) ws i
        have s4 := same_new (o := .tup [V.int (part n (pre.map (·.2)) i), V.str nm]) hTp
        refine ⟨Tp, _, rfl, SqT.of upd_same, rfl, _, _, rfl, _, _, rfl, rfl, rfl, _, rfl, _, _, rfl, rfl, _, rfl, ?_⟩
        refine ite2 (fun hb => ?_) (fun hb => ?_)
        · have hb' : 0 < part n (pre.map (·.2)) i := of_decide_eq_true hb
          have sl : ∀ k : Nat, k ≤ 1000 → k ≤ sizeLine := fun k hk => Nat.le_of_lt (small1000 hk)
          refine ⟨_, rfl, _, fm, sl _ (by omega), ?_, ?_⟩
          · rw [emp_app]; exact sl _ (by omega)
          refine ⟨?_, _, rfl, nm, rfl, sl _ (by omega), ?_, ?_⟩
          · rw [len_app, emp_app]; exact sl _ (by show (dig _).length + 1 ≤ 1000; omega)
          · rw [len_app, len_app, emp_app]; exact sl _ (by show (dig _).length + 1 + _ ≤ 1000; omega)
          refine ⟨_, s4 _ _ h3, small1000 (by rw [List.length_map]; omega), ?_, fun b o e => ?_⟩
          · rw [upd_same, words_next, if_pos hb', List.map_append, gd, emp_app]; rfl
          · rw [upd_ne (ne_of_none e hLw)]
            exact s4 _ _ (s3 b o e)
        · have hb' : ¬ 0 < part n (pre.map (·.2)) i := fun z => hb (decide_eq_true z)
          refine ⟨?_, s3.trans s4⟩
          rw [s4 _ _ h3, words_next, if_neg hb', List.append_nil]
      · rintro H3 ⟨h3, s3⟩
        rw [lpa, ← lw] at h3
        have sA := (s1.trans s2).trans s3
        have wl : ∀ k, k < ws.length → (wd (part n (pre.map (·.2)) k) (ws.getD k Str.empty)).length ≤ 26 := fun k hk => by
          have dl := dig_len (part_nonneg gm gl n0 k) (Int.le_trans (part_le gm gl n0 k) n1)
          have nl := (nameOk_iff.mp (gn ws[k] (List.getElem_mem hk))).2.1
          rw [List.getD_eq_getElem?_getD, List.getElem?_eq_getElem hk]
          show ((dig _ ++ " ") ++ ws[k]).length ≤ 26
          rw [len_app, len_app]
          show (dig _).length + 1 + _ ≤ 26
          omega
        have ws5 := words_sum n (pre.map (·.2)) ws ws.length
        have ws6 := ws5 (fun k hk => wl k hk)
        clear ws5 wl
        have wlen := words_len n (pre.map (·.2)) ws ws.length
        refine ⟨_, rfl, _, .inl ⟨_, SqL.of h3, rfl⟩, ?_⟩
        have key := q H3 sA
        unfold textOf at key
        cases hw : wordsOf n (pre.map (·.2)) ws ws.length with
        | nil =>
          rw [hw] at key
          have key : Q (.str (("0 " : Str) ++ z)) H3 := key
          have e2 : ws = pre.map (·.1) ++ [z] := by rw [← hws, List.map_append]; rfl
          have h5 := s3 _ _ h2
          rw [e2, List.map_append] at h5
          simp only [List.map_cons, List.map_nil] at h5
          refine iteT ?_
          have nz := (nameOk_iff.mp g.nz).2.1
          refine ⟨?_, _, rfl, _, rfl, Ln, _, _, _, rfl, rfl, SqL.of h5, atI_last _ _, z, rfl, Nat.le_of_lt (small1000 (by omega)), ?_, ?_⟩
          · rw [emp_app]; decide
          · rw [len_app, emp_app]; exact Nat.le_of_lt (small1000 (by show 2 + _ ≤ 1000; omega))
          · rw [emp_app]; exact key
        | cons w1 wr =>
          rw [hw] at key wlen ws6 h3
          have key : Q (.str (Txt.join " " (w1 :: wr))) H3 := key
          refine iteF ?_
          refine ⟨⟨_, rfl⟩, _, rfl, _, Lw, w1 :: wr, rfl, rfl, .inl (SqL.of h3), ?_, key⟩
          show _ + _ * 1 ≤ 16777216
          omega
end
end Ck
set_option Elab.async false
set_option linter.all false
set_option pp.maxSteps 1500
set_option maxRecDepth 100000
set_option maxHeartbeats 4000000
namespace L2
open PySem PySem.Spec PyProof.Rows
theorem q_pe_upper {X : Cx} {o : Expr} {to : TE} {apos pos : Pos} (ho : QE X o to) (hbase : attributeBase o "upper" X.env (eval o X.env) = eval o X.env := by rfl) (hline : (apos.endLine == pos.line) = true := by rfl) :
    QE X (.Call (.Attribute o "upper" apos) [] [] pos) (tM0 (fun x xs H Q => ∃ a, x = .str a ∧ xs = [] ∧ a.length ≤ 5592405 ∧ Q (.str (Txt.upper a)) H) to) := ⟨pe_upper ho.h hbase hline⟩
end L2
namespace Ck
open PySem L2
def Asc (x : Str) : Prop := ∀ c ∈ x.cps.toList, c < 128
def Ax (n : Nat) (x : Str) : Prop := x.length ≤ n ∧ Asc x
theorem Asc.okt {x : Str} (h : Asc x) : Okt x := fun c hc => Nat.lt_trans (h c hc) (by decide)
theorem Ax.mono {n m : Nat} {x : Str} (h : Ax n x) (l : n ≤ m) : Ax m x := ⟨by have := h.1; omega, h.2⟩
theorem Asc.app {x y : Str} (h : Asc x) (h' : Asc y) : Asc (x ++ y) := fun c hc => by
  rw [tl_app] at hc
  rcases List.mem_append.mp hc with z | z
  · exact h c z
  · exact h' c z
theorem letters_asc : Asc letters := by unfold Asc; decide +kernel
theorem Ax.name {x : Str} (h : nameOk x = true) : Ax 8 x := by
  obtain ⟨_, l, a⟩ := nameOk_iff.mp h
  refine ⟨l, fun c hc => ?_⟩
  exact letters_asc c (a c hc)
def sgs : Str := Str.ofString " !\"#$&'()*+,-./0123456789:;<=>?@ABCDEFGHIJKLMNOPQRSTUVWXYZ[\\]^_`" ++ Str.ofString "abcdefghijklmnopqrstuvwxyz{|}~\n"
theorem sgs_asc : Asc sgs := by unfold Asc; decide +kernel
theorem sgs_len : 0 < sgs.length ∧ sgs.length ≤ 100 := by decide +kernel
theorem up128 : (List.range 128).all (fun c => (Unicode.upperOf c).all (fun z => decide (z < 128)) && decide ((Unicode.upperOf c).length = 1)) = true := by decide +kernel
theorem Asc.upper {x : Str} (h : Asc x) : Asc (Txt.upper x) := fun c hc => by
  have hc : c ∈ (Txt.upper x).cps := Array.mem_toList_iff.mp hc
  have hc : c ∈ (x.cps.mapIdx fun i c => (Unicode.upperOf c).toArray).flatten := hc
  rw [Array.mem_flatten] at hc
  obtain ⟨l, hl, hcl⟩ := hc
  rw [Array.mem_mapIdx] at hl
  obtain ⟨i, hi, rfl⟩ := hl
  have hx := h _ (Array.mem_toList_iff.mpr (Array.getElem_mem hi))
  have := List.all_eq_true.mp up128 _ (List.mem_range.mpr hx)
  rw [Bool.and_eq_true] at this
  have := List.all_eq_true.mp this.1 c (by simpa using hcl)
  exact of_decide_eq_true this
theorem Asc.cut {x : Str} (hx : Asc x) (lo hi : Option Int) : Asc (cutS x lo hi) := fun c hc => by
  unfold cutS at hc
  exact hx c (List.mem_of_mem_drop (List.mem_of_mem_take hc))
theorem Asc.sgn {c : Nat} (h : c ∈ sgs.cps.toList) : Asc (sgn c) := fun b hb => by
  rw [show b = c by simpa using hb]; exact sgs_asc c h
section
variable {P : Program} {w : World} {K : PySem.W.Frag} {mg : Str → Option Value} {base : Heap} {t : Ad}
def spSigns : Sp := fun vs H Q _ => vs = [] ∧ Q (.str sgs) H
theorem ok_signs (T : Env K mg t) : FnOk P w K mg base CX0 1 t.a_l_signs t.fd_l_signs [] spSigns := by
  refine T.f_l_signs.okQ sc_l_signs (fun vs H Q E h => ?_) (fun cdv A outer s H vs Q E hr h => ?_)
  · obtain ⟨rfl, _⟩ := h
    rfl
  · obtain ⟨rfl, q⟩ := h
    refine ⟨_, (q_pss_cons (q_ps_set (i := 0) sc_l_signs.nd rfl (by first | exact Or.inl rfl | exact Or.inr (Or.inl rfl) | exact Or.inr rfl) q_pe_str)
      (q_pss_one (q_ps_ret (q_pe_op op_add_str (q_pv 0) q_pe_str)))), ?_⟩
    exact ⟨_, rfl, _, _, rfl, rfl, Nat.le_of_lt (small1000 (by decide +kernel)), q⟩
def spPickS (K : PySem.W.Frag) : Sp := fun vs H Q _ => ∃ (d a : Addr) (ns : List Int) (x : Str), vs = [.ref d, .str x] ∧ DrawAt K H d a ns ∧ 0 < x.length ∧ x.length ≤ 1000 ∧
  ∀ (c : Nat) (H' : Hp), c ∈ x.cps.toList → DrawAt K H' d a ns → Keep d H H' → Q (.str (sgn c)) H'
theorem ok_pickS (T : Env K mg t) : FnOk P w K mg base CX0 3 t.a_l_pick t.fd_l_pick ["_law_draw", "_law_some"] (spPickS K) := by
  have G_l_next : FnOk P w K mg base CX0 2 t.a_l_next t.fd_l_next ["_law_draw", "_law_size"] (spNext K) := ok_next T
  refine T.f_l_pick.okQ sc_l_pick (fun vs H Q E h => ?_) (fun cdv A outer s H vs Q E hr h => ?_)
  · obtain ⟨d, a, ns, x, rfl, _⟩ := h
    rfl
  · obtain ⟨d, a, ns, x, rfl, D, h0, h1, q⟩ := h
    have hr_l_next := hr
    have hz : x.length ≤ sizeLine := Nat.le_of_lt (small1000 h1)
    refine ⟨_, (q_pss_one (q_ps_ret (q_pe_ix ix_str (q_pv 1) (q_pe_call G_l_next hr_l_next (by rfl) T.mg_l_next T.kp_l_next T.b_l_next .nil pass0 (q_pa_cons (q_pv 0) (q_pa_cons (q_pe_callB call_len_str (by rfl) T.z_len PySem.boot_len (q_pa_cons (q_pv 1) q_pa_nil star_Name)) q_pa_nil star_Call) star_Name)) (fun _ _ => rfl)))), ?_⟩
    refine ⟨_, rfl, _, rfl, _, rfl, x, rfl, hz, d, a, ns, _, rfl, D, by omega, fun r H' r0 r1 D' k' => ?_⟩
    obtain ⟨c, hc, hm⟩ := at_bound (xs := x.cps.toList) r0 (by rw [← str_len]; exact r1)
    exact ⟨x, r, c, rfl, rfl, hz, hc, q c H' hm D' k'⟩
def spPick (K : PySem.W.Frag) : Sp := fun vs H Q E => spPickL K vs H Q E ∨ spPickS K vs H Q E
theorem ok_pick (T : Env K mg t) : FnOk P w K mg base CX0 3 t.a_l_pick t.fd_l_pick ["_law_draw", "_law_some"] (spPick K) := or1 (ok_pickL T) (ok_pickS T)
end
end Ck
set_option Elab.async false
set_option linter.all false
set_option pp.maxSteps 1500
set_option maxRecDepth 100000
set_option maxHeartbeats 4000000
namespace Ck
open PySem L2
theorem log9000 {j : Int} (h0 : 0 < j) (h1 : j ≤ 1000000000000000) : j.natAbs.log2 < 9000 := by
  refine (Nat.log2_lt (by omega)).mpr (Nat.lt_of_le_of_lt (show j.natAbs ≤ 2 ^ 50 by have : (2 : Nat) ^ 50 = 1125899906842624 := by decide
                                                                                     omega) ?_)
  exact Nat.pow_lt_pow_right (by decide) (by decide)
section
variable {P : Program} {w : World} {K : PySem.W.Frag} {mg : Str → Option Value} {base : Heap} {t : Ad}
def spCounts6 (K : PySem.W.Frag) : Sp := fun vs H Q _ => ∃ (d a p : Addr) (ns : List Int) (pre : List Un1) (z : Str), vs = [.ref d, .ref p] ∧ DrawAt K H d a ns ∧ Good pre z ∧ Units H p pre z ∧
  ∀ (L : Addr) (cs : List Int) (H' : Hp), H' L = some (.lst (cs.map V.int)) → cs.length = pre.length + 1 → (∀ c ∈ cs, 0 ≤ c ∧ c ≤ 1000000000000001) → L ≠ d → DrawAt K H' d a ns → Keep d H H' → Q (.ref L) H'
theorem ok_counts6 (T : Env K mg t) : FnOk P w K mg base CX0 4 t.a_l_counts t.fd_l_counts ["_law_draw", "_law_units_here"] (spCounts6 K) := by
  have G_l_next : FnOk P w K mg base CX0 2 t.a_l_next t.fd_l_next ["_law_draw", "_law_size"] (spNext K) := ok_next T
  have G_l_pick : FnOk P w K mg base CX0 3 t.a_l_pick t.fd_l_pick ["_law_draw", "_law_some"] (spPickL K) := ok_pickL T
  have G_l_sizes : FnOk P w K mg base CX0 1 t.a_l_sizes t.fd_l_sizes ["_law_units_here"] spLSizes := ok_lsizes T
  refine T.f_l_counts.okQ sc_l_counts (fun vs H Q E h => ?_) (fun cdv A outer s H vs Q E hr h => ?_)
  · obtain ⟨d, a, p, ns, pre, z, rfl, _⟩ := h
    rfl
  · obtain ⟨d, a, p, ns, pre, z, rfl, D, g, u, q⟩ := h
    have hr_l_pick := hr
    have hr_l_next : Room 2 _ := hr.mono (by decide)
    have hr_l_sizes : Room 1 _ := hr.mono (by decide)
    refine ⟨_, (q_pss_cons (q_ps_set (i := 2) sc_l_counts.nd rfl (by first | exact Or.inl rfl | exact Or.inr (Or.inl rfl) | exact Or.inr rfl) (q_pe_op op_sub (q_pe_op op_add (q_pe_op op_pow q_pe_int q_pe_int) (q_pe_call G_l_next hr_l_next (by rfl) T.mg_l_next T.kp_l_next T.b_l_next .nil pass0 (q_pa_cons (q_pv 0) (q_pa_cons q_pe_int q_pa_nil star_Constant) star_Name))) q_pe_int))
      (q_pss_cons (q_ps_if (q_pt_cmpR op_gt (q_pe_call G_l_next hr_l_next (by rfl) T.mg_l_next T.kp_l_next T.b_l_next .nil pass0 (q_pa_cons (q_pv 0) (q_pa_cons q_pe_int q_pa_nil star_Constant) star_Name)) q_pe_int (nomark _)) (q_pss_one (q_ps_ret (q_pe_lc (own := [("_law_unit", 5)]) (g := gName 5) (by rfl) sc_l_counts.nd (q_pi_tup (q_pv 1)) (blkOk_by (own := [("_law_unit", 5)]) (N := ["_law_draw", "_law_units_here", "_law_far", "_law_found", "_law_size", "_law_unit"]) (sc := defScope s_l_counts) (by decide +kernel)) (fun _ _ _ _ _ => (q_pg_name (i := 5) sc_l_counts.nd rfl (by first | exact Or.inl rfl | exact Or.inr (Or.inl rfl) | exact Or.inr rfl))) (fun _ _ _ _ _ => q_pts_nil) (fun _ _ _ _ _ => (q_pe_call G_l_pick hr_l_pick (by rfl) T.mg_l_pick T.kp_l_pick T.b_l_pick .nil pass0 (q_pa_cons (q_pv 0) (q_pa_cons (q_pe_lst (q_pa_cons q_pe_int (q_pa_cons q_pe_int (q_pa_cons q_pe_int (q_pa_cons (q_pe_call G_l_next hr_l_next (by rfl) T.mg_l_next T.kp_l_next T.b_l_next .nil pass0 (q_pa_cons (q_pv 0) (q_pa_cons q_pe_int q_pa_nil star_Constant) star_Name)) (q_pa_cons (q_pe_call G_l_next hr_l_next (by rfl) T.mg_l_next T.kp_l_next T.b_l_next .nil pass0 (q_pa_cons (q_pv 0) (q_pa_cons q_pe_int q_pa_nil star_Constant) star_Name)) q_pa_nil star_Call) star_Call) star_Constant) star_Constant) star_Constant)) q_pa_nil star_List) star_Name)))))) q_pss_nil)
      (q_pss_cons (q_ps_set (i := 3) sc_l_counts.nd rfl (by first | exact Or.inl rfl | exact Or.inr (Or.inl rfl) | exact Or.inr rfl) (q_pe_lst q_pa_nil))
      (q_pss_cons (q_ps_for PassesOwn.never rfl (q_pi_list (q_pe_call G_l_sizes hr_l_sizes (by rfl) T.mg_l_sizes T.kp_l_sizes T.b_l_sizes .nil pass0 (q_pa_cons (q_pv 1) q_pa_nil star_Name))) (q_pg_name (i := 4) sc_l_counts.nd rfl (by first | exact Or.inl rfl | exact Or.inr (Or.inl rfl) | exact Or.inr rfl))
      (q_pss_cons (q_ps_expr (q_pe_bm PySem.F.plainAttrs_list PySem.F.slot_list_append PySem.F.type_list_append mt_append (q_pv 3) (q_pa_cons (q_pe_op op_fdivL (q_pv 2) (q_pv 4)) q_pa_nil star_BinOp)))
      (q_pss_one (q_ps_set (i := 2) sc_l_counts.nd rfl (by first | exact Or.inl rfl | exact Or.inr (Or.inl rfl) | exact Or.inr rfl) (q_pe_op op_mod (q_pv 2) (q_pv 4))))))
      (q_pss_one (q_ps_ret (q_pv 3))))))), ?_⟩
    have gm := g.ms
    have gl := g.ml
    have lp := g.len
    obtain ⟨rs, hp, ua⟩ := u.all
    have lrs : (rs.map V.ref).length = pre.length + 1 := by rw [List.length_map, ua.len, List.length_append]; rfl
    refine ⟨_, _, rfl, rfl, ⟨by decide, by decide, by decide⟩, _, rfl, d, a, ns, _, rfl, D, by decide, fun f1 H1 f10 f11 D1 k1 => ⟨_, _, rfl, rfl, _, _, rfl, rfl, ?_⟩⟩
    have e15 : (10 : Int) ^ (15 : Int).toNat = 1000000000000000 := by decide
    refine ⟨_, rfl, d, a, ns, _, rfl, D1, by decide, fun wy H2 w0 w1 D2 k2 => ⟨_, _, rfl, rfl, _, rfl, ?_⟩⟩
    have K2 := k1.trans k2
    have hp2 := D.tups K2 _ _ hp
    refine ite2 (fun _ => ?_) (fun _ => ?_)
    · refine ⟨_, rfl, p, rfl, ⟨_, SqT.of hp2⟩, fun Lc hLc => ?_⟩
      have nLc := D2.ne hLc
      refine lc_tup (xs := rs.map V.ref) (fun i H' => ∃ cs : List Int, cs.length = i ∧ (∀ c ∈ cs, 0 ≤ c ∧ c ≤ 1000000000000001) ∧ H' Lc = some (.lst (cs.map V.int)) ∧ DrawAt K H' d a ns ∧ Keep d H2 H') ?_ ?_ ?_ ?_
      · exact ⟨[], rfl, by simp, upd_same, D2.same (same_new hLc), .of (same_new hLc)⟩
      · rintro i H5 hi ⟨cs, lc, ac, h5, D5, k5⟩
        exact SqT.of (D2.tups k5 _ _ hp2)
      · rintro i y H5 hy ⟨cs, lc, ac, h5, D5, k5⟩
        have hi := (List.getElem?_eq_some_iff.mp hy).1
        rw [lrs] at hi
        refine ⟨rfl, yes_i ?_⟩
        refine ⟨_, rfl, _, rfl, d, a, ns, _, rfl, D5, by decide, fun r1 H6 r10 r11 D6 k6 => ?_⟩
        refine ⟨_, rfl, d, a, ns, _, rfl, D6, by decide, fun r2 H7 r20 r21 D7 k7 => ⟨(by show 5 ≤ sizeLine; decide), fun l hl => ?_⟩⟩
        refine ⟨d, a, l, ns, _, rfl, D7.same (same_new hl), upd_same, D7.ne hl, (by show 0 < 5; decide), fun v H8 hv D8 k8 => ?_⟩
        have vb : ∃ n : Int, v = .int n ∧ 0 ≤ n ∧ n ≤ 1000000000000001 := by
          simp only [List.mem_cons, List.not_mem_nil, or_false] at hv
          rcases hv with rfl | rfl | rfl | rfl | rfl
          · exact ⟨_, rfl, by decide, by decide⟩
          · exact ⟨_, rfl, by decide, by decide⟩
          · exact ⟨_, rfl, by decide, by decide⟩
          · exact ⟨_, rfl, by omega, by omega⟩
          · exact ⟨_, rfl, by omega, by omega⟩
        obtain ⟨n, rfl, n0, n1⟩ := vb
        have k58 := ((k6.trans k7).trans (.of (same_new hl))).trans k8
        have h8 := k58 _ _ h5 nLc
        refine ⟨_, h8, small1000 (by rw [List.length_map]; omega), cs ++ [n], by rw [List.length_append, lc]; rfl, ?_, by rw [upd_same, List.map_append]; rfl, D8.upd nLc (nofrz h8), (k5.trans k58).updNew hLc⟩
        intro m hm
        rcases List.mem_append.mp hm with q | q
        · exact ac m q
        · rw [List.mem_singleton.mp q]; exact ⟨n0, n1⟩
      rintro H5 ⟨cs, lc, ac, h5, D5, k5⟩
      rw [lrs] at lc
      exact q Lc cs H5 h5 lc ac nLc D5 (K2.trans k5)
    · refine ⟨by decide, fun Lf hLf => ?_⟩
      have s3 := same_new (o := .lst []) hLf
      have nLf := D2.ne hLf
      have D3 := D2.same s3
      have u3 := u.mono (D.tups (K2.trans (.of s3)))
      refine ⟨_, rfl, p, pre, z, rfl, g, u3, fun Ls H4 h4 hLs s4 => ?_⟩
      have D4 := D3.same s4
      have f4 := s4 _ _ (new_at (o := .lst []) hLf)
      have nLL : Ls ≠ Lf := by
        rintro rfl
        rw [new_at (o := .lst []) hLf] at hLs; cases hLs
      have K4 := (K2.trans (.of s3)).trans (.of s4)
      have lsz : ((sz (pre.map (·.2))).map V.int).length = pre.length + 1 := by rw [List.length_map, sz_len, List.length_map]
      refine ⟨Ls, rfl, ⟨_, SqL.of h4⟩, ?_⟩
      refine for_list (xs := (sz (pre.map (·.2))).map V.int) (fun i σ H' => ∃ (o4 o5 : Option V) (far : Int) (cs : List Int), σ = [some (.ref d), some (.ref p), some (.int far), some (.ref Lf), o4, o5] ∧ 0 ≤ far ∧ far ≤ 1000000000000001 ∧ cs.length = i ∧ (∀ c ∈ cs, 0 ≤ c ∧ c ≤ 1000000000000001) ∧ H' Lf = some (.lst (cs.map V.int)) ∧ H' Ls = some (.lst ((sz (pre.map (·.2))).map V.int)) ∧ DrawAt K H' d a ns ∧ Keep d H H') ?_ ?_ ?_ ?_
      · exact ⟨_, _, _, [], rfl, by rw [e15]; omega, by rw [e15]; omega, rfl, by simp, f4, h4, D4, K4⟩
      · rintro i σ H5 hi ⟨o4, o5, far, cs, rfl, f0, f1', lc, ac, h5, h5', D5, K5⟩
        exact SqL.of h5'
      · rintro i y σ H5 hy ⟨o4, o5, far, cs, rfl, f0, f1', lc, ac, h5, h5', D5, K5⟩
        have hi := (List.getElem?_eq_some_iff.mp hy).1
        rw [lsz] at hi
        obtain ⟨v, hv, rfl⟩ := int_at hy
        obtain ⟨j, rfl⟩ := sz_mem (List.mem_of_getElem? hv)
        obtain ⟨p1, p2⟩ := pr_le gm gl j
        generalize pr ((pre.map (·.2)).drop j) = sv at p1 p2
        have d0 : 0 ≤ far / sv := Int.ediv_nonneg f0 (by omega)
        have d1 : far / sv ≤ far := Int.ediv_le_self _ f0
        have m0 := Int.emod_nonneg far (show sv ≠ 0 by omega)
        have m1 : far % sv ≤ far := by
          have := Int.emod_add_mul_ediv far sv
          have : 0 ≤ sv * (far / sv) := Int.mul_nonneg (by omega) d0
          omega
        refine ⟨_, rfl, .inl ⟨rfl, _, SqL.of h5⟩, _, rfl, _, rfl, _, _, rfl, rfl, ⟨by omega, log9000 (by omega) p2⟩, ?_⟩
        refine ⟨Lf, _, _, rfl, rfl, h5, small1000 (by rw [List.length_map]; omega), ?_⟩
        refine ⟨_, rfl, _, rfl, _, _, rfl, rfl, (by show 0 < sv; omega), ?_⟩
        refine ⟨_, _, far % sv, cs ++ [far / sv], rfl, m0, by omega, by rw [List.length_append, lc]; rfl, ?_, by rw [upd_same, List.map_append]; rfl, by rw [upd_ne nLL]; exact h5', D5.upd nLf (nofrz h5), K5.updNew ?_⟩
        · intro c hc
          rcases List.mem_append.mp hc with z | z
          · exact ac c z
          · rw [List.mem_singleton.mp z]; exact ⟨d0, by omega⟩
        · cases e : H Lf with
          | none => rfl
          | some o => rw [K2 _ _ e nLf] at hLf; cases hLf
      rintro σ H5 ⟨o4, o5, far, cs, rfl, f0, f1', lc, ac, h5, h5', D5, K5⟩
      rw [lsz] at lc
      exact ⟨_, rfl, q Lf cs H5 h5 lc ac nLf D5 K5⟩
end
end Ck
set_option Elab.async false
set_option linter.all false
set_option pp.maxSteps 1500
set_option maxRecDepth 100000
set_option maxHeartbeats 4000000
namespace Ck
open PySem L2
theorem cutV_strs2 (ws : List Str) (lo hi : Option Int) : ∃ vs : List Str, cutV (ws.map V.str) lo hi = vs.map V.str ∧ vs.length ≤ HT.sIx ws.length ws.length hi - HT.sIx ws.length 0 lo ∧ ∀ x ∈ vs, x ∈ ws := by
  unfold cutV
  rw [List.length_map]
  refine ⟨(ws.drop (HT.sIx ws.length 0 lo)).take (HT.sIx ws.length ws.length hi - HT.sIx ws.length 0 lo), by rw [List.map_take, List.map_drop], ?_, fun x hx => List.mem_of_mem_drop (List.mem_of_mem_take hx)⟩
  rw [List.length_take, List.length_drop]
  omega
theorem sIx_nn {n d : Nat} {v : Int} (h : 0 ≤ v) : HT.sIx n d (some v) = min v.toNat n := by
  show (if v < 0 then _ else _) = _
  rw [if_neg (by omega)]
end Ck
set_option Elab.async false
set_option linter.all false
set_option pp.maxSteps 1500
set_option maxRecDepth 100000
set_option maxHeartbeats 4000000
namespace Ck
open PySem L2
def figOk (x : Str) : Bool := madeOf x "0123456789" && decide (x.length ≤ 16) && (decide (x.length = 1) || decide (x.cps.toList[0]? ≠ some 48))
theorem dec_sgn (c : Nat) : decide (V.str (sgn c) = V.str "0") = decide (c = 48) := by
  refine decide_eq_decide.mpr ⟨fun e => ?_, fun e => by rw [e]; rfl⟩
  have := congrArg (fun x : Str => x.cps.toList) (V.str.inj e)
  exact (List.cons.inj this).1
section
variable {P : Program} {w : World} {K : PySem.W.Frag} {mg : Str → Option Value} {base : Heap} {t : Ad}
theorem ok_isfig (T : Env K mg t) : FnOk P w K mg base CX0 2 t.a_is_figures t.fd_is_figures ["text"] (spTx figOk) := by
  have G_is_made_of : FnOk P w K mg base CX0 1 t.a_is_made_of t.fd_is_made_of ["text", "signs"] spMade := ok_made T
  refine T.f_is_figures.okQ sc_is_figures (fun vs H Q E h => ?_) (fun cdv A outer s H vs Q E hr h => ?_)
  · obtain ⟨x, rfl, _⟩ := h
    rfl
  · obtain ⟨x, rfl, lx, q⟩ := h
    have hr_is_made_of := hr
    have sl : x.length ≤ sizeLine := Nat.le_of_lt (small1000 lx)
    refine ⟨_, (q_pss_cons (q_ps_if (QW.pt (q_pw_or (q_pt_not (q_pt_val (q_pe_call G_is_made_of hr_is_made_of (by rfl) T.mg_is_made_of T.kp_is_made_of T.b_is_made_of .nil pass0 (q_pa_cons (q_pv 0) (q_pa_cons (q_pe_glob (v := c_FIGURES) (by rfl) T.mg_FIGURES ⟨_, rfl⟩) q_pa_nil star_Name) star_Name)))) (q_pw_or1 (q_pt_cmpR op_gt (q_pe_callB call_len_str (by rfl) T.z_len PySem.boot_len (q_pa_cons (q_pv 0) q_pa_nil star_Name)) (q_pe_glob (v := c_MOST_FIGURES) (by rfl) T.mg_MOST_FIGURES ⟨_, rfl⟩) (nomark _))))) (q_pss_one (q_ps_ret q_pe_bl)) q_pss_nil)
      (q_pss_one (q_ps_ret (q_pe_or (q_pe_cmpR op_eq (q_pe_callB call_len_str (by rfl) T.z_len PySem.boot_len (q_pa_cons (q_pv 0) q_pa_nil star_Name)) q_pe_int (nomark _)) (q_pe_one (q_pe_cmpR op_ne (q_pe_ix ix_str (q_pv 0) q_pe_int (fun _ _ => rfl)) q_pe_str (nomark _))))))), ?_⟩
    refine ⟨_, rfl, x, _, rfl, lx, fun H1 s1 => ?_⟩
    have q := q H1 s1
    unfold figOk at q
    cases hm : madeOf x "0123456789" with
    | false =>
      rw [hm] at q
      exact ⟨_, rfl, iteT (iteT q)⟩
    | true =>
      rw [hm, Bool.true_and] at q
      refine ⟨_, rfl, iteF ?_⟩
      refine ⟨_, rfl, x, rfl, sl, _, _, rfl, rfl, _, rfl, ite2 (fun hb => ?_) (fun hb => ?_)⟩
      · have hb := of_decide_eq_true hb
        rw [decide_eq_false (by omega : ¬ x.length ≤ 16), Bool.false_and] at q
        exact q
      · have hb : ¬ (16 : Int) < x.length := fun z => hb (decide_eq_true z)
        rw [decide_eq_true (by omega : x.length ≤ 16), Bool.true_and] at q
        have h0 : 0 < x.length := by
          unfold madeOf at hm
          rw [Bool.and_eq_true] at hm
          exact of_decide_eq_true hm.1
        refine ⟨_, rfl, x, rfl, sl, rfl, _, rfl, ite2 (fun h1 => ?_) (fun h1 => ?_)⟩
        · have h1 := of_decide_eq_true h1
          have h1 : (x.length : Int) = 1 := by injection h1
          rw [decide_eq_true (by omega : x.length = 1), Bool.true_or] at q
          exact q
        · have h1 : ¬ x.length = 1 := fun z => h1 (decide_eq_true (by rw [z]; rfl))
          rw [decide_eq_false h1, Bool.false_or] at q
          have hl : 0 < x.cps.toList.length := by rw [← str_len]; exact h0
          have hc : x.cps.toList[0]? = some (x.cps.toList[0]'hl) := List.getElem?_eq_getElem hl
          refine ⟨_, rfl, x, 0, x.cps.toList[0]'hl, rfl, rfl, sl, atI_nat hc, rfl, ?_⟩
          rw [dec_sgn]
          rw [hc] at q
          have e : (!decide ((x.cps.toList[0]'hl) = 48)) = decide (some (x.cps.toList[0]'hl) ≠ some 48) := by
            rw [← decide_not]
            exact decide_eq_decide.mpr ⟨fun a b => a (Option.some.inj b), fun a b => a (by rw [b])⟩
          rw [e]
          exact q
end
end Ck
set_option Elab.async false
set_option linter.all false
set_option pp.maxSteps 1500
set_option maxRecDepth 100000
set_option maxHeartbeats 4000000
namespace Ck
open PySem L2
def badFg (x : Str) : List Nat := x.cps.toList.filter fun c => !decide (c ∈ (Str.ofString "0123456789").cps.toList)
theorem badFg_none {x : Str} : (badFg x).isEmpty = x.cps.toList.all fun c => decide (c ∈ (Str.ofString "0123456789").cps.toList) := by
  unfold badFg
  rw [Bool.eq_iff_iff, List.isEmpty_iff, List.filter_eq_nil_iff, List.all_eq_true]
  constructor
  · intro h c hc
    have := h c hc
    simpa using this
  · intro h c hc
    have := h c hc
    simpa using this
theorem zero_iff {x : Str} {c : Nat} (hc : x.cps.toList[0]? = some c) : decide (V.str x = V.str "0") = (decide (x.length = 1) && decide (c = 48)) := by
  rw [Bool.eq_iff_iff, Bool.and_eq_true, decide_eq_true_eq, decide_eq_true_eq, decide_eq_true_eq]
  constructor
  · intro e
    have e := V.str.inj e
    subst e
    refine ⟨rfl, ?_⟩
    have : (some 48 : Option Nat) = some c := hc
    exact (Option.some.inj this).symm
  · rintro ⟨l, rfl⟩
    have hl : x.cps.toList.length = 1 := by rw [← str_len]; exact l
    obtain ⟨y, hy⟩ : ∃ y, x.cps.toList = [y] := List.length_eq_one_iff.mp hl
    rw [hy] at hc
    have : y = 48 := Option.some.inj hc
    subst this
    have e : x = Str.ofString "0" := by
      cases x
      simp only at hy
      exact congrArg _ (Array.toList_inj.mp hy)
    rw [e]
section
variable {P : Program} {w : World} {K : PySem.W.Frag} {mg : Str → Option Value} {base : Heap} {t : Ad}
def spFg : Sp := fun vs H Q _ => ∃ (x : Str), vs = [.str x] ∧ x.length ≤ 1000 ∧ Okt x ∧ ∀ H', Same H H' → Q (.bl (figOk x)) H'
theorem ok_lfig (T : Env K mg t) : FnOk P w K mg base CX0 1 t.a_l_figures t.fd_l_figures ["_law_word_here"] spFg := by
  refine T.f_l_figures.okQ sc_l_figures (fun vs H Q E h => ?_) (fun cdv A outer s H vs Q E hr h => ?_)
  · obtain ⟨x, rfl, _⟩ := h
    rfl
  · obtain ⟨x, rfl, lx, ox, q⟩ := h
    have lz : x.length ≤ sizeLine := Nat.le_of_lt (small1000 lx)
    refine ⟨_, (q_pss_cons (q_ps_if (QW.pt (q_pw_or (q_pt_not (q_pt_chain op_lt op_lt q_pe_int (q_pe_callB call_len_str (by rfl) T.z_len PySem.boot_len (q_pa_cons (q_pv 0) q_pa_nil star_Name)) q_pe_int)) (q_pw_or1 (q_pt_cmpR (op_neD hr.units) (q_pe_lc (own := [("_law_sign", 1)]) (g := gName 1) (by rfl) sc_l_figures.nd (q_pi_str (q_pv 0)) (blkOk_by (own := [("_law_sign", 1)]) (N := ["_law_word_here", "_law_sign"]) (sc := defScope s_l_figures) (by decide +kernel)) (fun _ _ _ _ _ => (q_pg_name (i := 1) sc_l_figures.nd rfl (by first | exact Or.inl rfl | exact Or.inr (Or.inl rfl) | exact Or.inr rfl))) (fun _ _ _ _ _ => (q_pts_one (q_pt_cmpR op_notIn_sign (q_pv 1) q_pe_str (by rfl)))) (fun _ _ _ _ _ => (q_pv 1))) (q_pe_lst q_pa_nil) (nomark _))))) (q_pss_one (q_ps_ret q_pe_bl)) q_pss_nil)
      (q_pss_one (q_ps_ret (q_pe_or (q_pe_cmpR op_eq (q_pv 0) q_pe_str (nomark _)) (q_pe_one (q_pe_cmpR op_ne (q_pe_ix ix_str (q_pv 0) q_pe_int (fun _ _ => rfl)) q_pe_str (nomark _))))))), ?_⟩
    refine ⟨_, rfl, x, rfl, lz, _, _, rfl, rfl, _, rfl, ?_⟩
    by_cases c1 : (0 : Int) < x.length
    case neg =>
      rw [decide_eq_false c1]
      have e : figOk x = false := by unfold figOk madeOf; rw [decide_eq_false (by omega : ¬ 0 < x.length), Bool.false_and, Bool.false_and, Bool.false_and]
      have q := q H (Same.refl _)
      rw [e] at q
      exact iteF ⟨_, rfl, iteT (iteT q)⟩
    rw [decide_eq_true c1]
    refine iteT ⟨_, _, rfl, rfl, _, rfl, ?_⟩
    by_cases c2 : (x.length : Int) < 17
    case neg =>
      rw [decide_eq_false c2]
      have e : figOk x = false := by unfold figOk; rw [decide_eq_false (by omega : ¬ x.length ≤ 16), Bool.and_false, Bool.false_and]
      have q := q H (Same.refl _)
      rw [e] at q
      exact iteT (iteT q)
    rw [decide_eq_true c2]
    refine iteF ?_
    refine ⟨_, rfl, x, rfl, fun L2 hL2 => ?_⟩
    refine lc_str (fun i H' => H' L2 = some (.lst (((x.cps.toList.take i).filter fun c => !decide (c ∈ (Str.ofString "0123456789").cps.toList)).map fun c => .str (sgn c))) ∧ Same H H') ?_ ?_ ?_
    · exact ⟨by rw [upd_same]; rfl, same_new hL2⟩
    · rintro i c H2 hc ⟨h2, s2⟩
      refine ⟨rfl, ?_⟩
      refine ⟨_, rfl, c, Str.ofString "0123456789", rfl, rfl, _, rfl, ?_⟩
      refine ite2 (fun g => ?_) (fun g => ?_)
      · refine ⟨_, rfl, _, h2, small1000 ?_, ?_, fun b o e => ?_⟩
        · have := filtm_len (ns := x.cps.toList) (p := fun c => !decide (c ∈ (Str.ofString "0123456789").cps.toList)) (f := fun c => V.str (sgn c)) (i := i)
          rw [← str_len] at this
          omega
        · rw [upd_same, filtm_yes hc g]
        · rw [upd_ne (ne_of_none e hL2)]; exact s2 b o e
      · exact ⟨by rw [h2, filtm_no hc g], s2⟩
    rintro H2 ⟨h2, s2⟩
    rw [List.take_length] at h2
    have h2 : H2 L2 = some (.lst ((((badFg x).map sgn)).map V.str)) := by rw [List.map_map]; exact h2
    refine ⟨(by decide), fun l hl => ?_⟩
    have s3 := same_new (o := .lst []) hl
    refine ⟨.list ((((badFg x).map sgn)).map PyData.str), .list [], .lst (SqL.of (s3 _ _ h2)) (dp_strs _), .lst (SqL.of upd_same) .nil, shaped_strs _ ?_, rfl, _, rfl, ?_⟩
    · intro z hz
      obtain ⟨c, hc, rfl⟩ := List.mem_map.mp hz
      intro b hb
      rw [show b = c by simpa using hb]
      exact ox c (List.mem_filter.mp hc).1
    rw [eqv_nil, List.isEmpty_map, List.isEmpty_map, badFg_none]
    have z3 := s2.trans s3
    have q := q _ z3
    unfold figOk madeOf at q
    rw [decide_eq_true (by omega : 0 < x.length), decide_eq_true (by omega : x.length ≤ 16), Bool.true_and, Bool.and_true] at q
    cases hm : (x.cps.toList.all fun c => decide (c ∈ (Str.ofString "0123456789").cps.toList)) with
    | false =>
      rw [hm] at q
      exact iteT q
    | true =>
      rw [hm, Bool.true_and] at q
      refine iteF ?_
      have hl : 0 < x.cps.toList.length := by rw [← str_len]; omega
      have hc : x.cps.toList[0]? = some (x.cps.toList[0]'hl) := List.getElem?_eq_getElem hl
      refine ⟨_, rfl, rfl, _, rfl, ?_⟩
      rw [zero_iff hc]
      rw [hc] at q
      refine ite2 (fun h1 => ?_) (fun h1 => ?_)
      · rw [Bool.and_eq_true] at h1
        rw [h1.1, Bool.true_or] at q
        exact q
      · refine ⟨_, rfl, x, 0, x.cps.toList[0]'hl, rfl, rfl, lz, atI_nat hc, rfl, ?_⟩
        rw [dec_sgn]
        have e : (decide (x.length = 1) || decide (some (x.cps.toList[0]'hl) ≠ some 48)) = !decide ((x.cps.toList[0]'hl) = 48) := by
          rw [Bool.and_eq_true, decide_eq_true_eq, decide_eq_true_eq] at h1
          by_cases c : (x.cps.toList[0]'hl) = 48
          · rw [decide_eq_false (fun z => h1 ⟨z, c⟩), decide_eq_true c, Bool.false_or]
            exact decide_eq_false fun z => z (by rw [c])
          · rw [decide_eq_false c, decide_eq_true (show some (x.cps.toList[0]'hl) ≠ some 48 from fun z => c (Option.some.inj z)), Bool.or_true]
            rfl
        rw [e] at q
        exact q
end
end Ck
set_option Elab.async false
set_option linter.all false
set_option pp.maxSteps 1500
set_option maxRecDepth 100000
set_option maxHeartbeats 4000000
namespace Ck
open PySem L2
def s12 (x : Str) : List Str := ["0", "00", "007", "-1", "+3", "1_0", "1.5", "9999999999999999", "10000000000000000", x, "", "1"]
def s8 : List Str := ["1000000000000000", "1000000000000001", "999999999999999", "x", "0x1", "1e3", "08", "10"]
def Wds (ws : List Str) : Prop := ∀ x ∈ ws, Ax 24 x
theorem Wds.app {a b : List Str} (ha : Wds a) (hb : Wds b) : Wds (a ++ b) := fun x hx => (List.mem_append.mp hx).elim (ha x) (hb x)
theorem Wds.sub {a b : List Str} (ha : Wds a) (h : ∀ x ∈ b, x ∈ a) : Wds b := fun x hx => ha x (h x hx)
theorem Wds.one {x : Str} (h : Ax 24 x) : Wds [x] := fun y hy => by rw [List.mem_singleton.mp hy]; exact h
theorem wds8 : Wds s8 := by unfold Wds Ax Asc; decide +kernel
theorem wds12 {x : Str} (h : Ax 24 x) : Wds (s12 x) := by
  have c : Wds ["0", "00", "007", "-1", "+3", "1_0", "1.5", "9999999999999999", "10000000000000000", "", "1"] := by unfold Wds Ax Asc; decide +kernel
  intro y hy
  unfold s12 at hy
  simp only [List.mem_cons, List.not_mem_nil, or_false] at hy
  rcases hy with e | e | e | e | e | e | e | e | e | e | e | e
  case inr.inr.inr.inr.inr.inr.inr.inr.inr.inl => rw [e]; exact h
  all_goals exact c y (by rw [e]; simp)
def s9 (x a b : Str) : List Str := [x, x, x ++ Str.ofString "s", Txt.upper x, cutS x none (some (-1)), "", "and", a, b]
theorem wds9 {x a b : Str} (hx : Ax 8 x) (ha : Ax 8 a) (hb : Ax 8 b) : Wds (s9 x a b) := by
  have c : Wds ["", "and", "s"] := by unfold Wds Ax Asc; decide +kernel
  have l := hx.1
  intro y hy
  unfold s9 at hy
  simp only [List.mem_cons, List.not_mem_nil, or_false] at hy
  rcases hy with e | e | e | e | e | e | e | e | e
  · rw [e]; exact hx.mono (by decide)
  · rw [e]; exact hx.mono (by decide)
  · rw [e]; exact ⟨by rw [len_app]; show _ + 1 ≤ _; omega, hx.2.app (c "s" (by simp)).2⟩
  · rw [e]; exact ⟨by have := PyProof.Rows.len_upper x; omega, hx.2.upper⟩
  · rw [e]; exact ⟨by have := len_cut x none (some (-1)); omega, hx.2.cut _ _⟩
  · exact c y (by rw [e]; simp)
  · exact c y (by rw [e]; simp)
  · rw [e]; exact ha.mono (by decide)
  · rw [e]; exact hb.mono (by decide)
section
variable {P : Program} {w : World} {K : PySem.W.Frag} {mg : Str → Option Value} {base : Heap} {t : Ad}
def spBent (K : PySem.W.Frag) : Sp := fun vs H Q _ => ∃ (d a Lw p : Addr) (ns : List Int) (pre : List Un1) (z : Str) (ws : List Str) (n : Nat), vs = [.ref d, .ref Lw, .ref p] ∧ DrawAt K H d a ns ∧ H Lw = some (.lst (ws.map V.str)) ∧ Lw ≠ d ∧ Wds ws ∧ ws.length ≤ n ∧ n ≤ 200 ∧ Good pre z ∧ Units H p pre z ∧
  ∀ (L' : Addr) (ws' : List Str) (H' : Hp), H' L' = some (.lst (ws'.map V.str)) → L' ≠ d → Wds ws' → ws'.length ≤ n + 6 → DrawAt K H' d a ns → Keep d H H' → Q (.ref L') H'
theorem ok_bent (T : Env K mg t) : FnOk P w K mg base CX0 4 t.a_l_bent t.fd_l_bent ["_law_draw", "_law_words_here", "_law_units_here"] (spBent K) := by
  have G_l_next : FnOk P w K mg base CX0 2 t.a_l_next t.fd_l_next ["_law_draw", "_law_size"] (spNext K) := ok_next T
  have G_l_pick : FnOk P w K mg base CX0 3 t.a_l_pick t.fd_l_pick ["_law_draw", "_law_some"] (spPickL K) := ok_pickL T
  refine T.f_l_bent.okQ sc_l_bent (fun vs H Q E h => ?_) (fun cdv A outer s H vs Q E hr h => ?_)
  · obtain ⟨d, a, Lw, p, ns, pre, z, ws, n, rfl, _⟩ := h
    rfl
  · obtain ⟨d, a, Lw, p, ns, pre, z, ws, n, rfl, D, hw, nLw, wd, lw, n200, g, u, q⟩ := h
    have hr_l_next : Room 2 _ := hr.mono (by decide)
    have hr_l_pick : Room 3 _ := hr.mono (by decide)
    refine ⟨_, (q_pss_cons (q_ps_set (i := 3) sc_l_bent.nd rfl (by first | exact Or.inl rfl | exact Or.inr (Or.inl rfl) | exact Or.inr rfl) (q_pe_call G_l_next hr_l_next (by rfl) T.mg_l_next T.kp_l_next T.b_l_next .nil pass0 (q_pa_cons (q_pv 0) (q_pa_cons q_pe_int q_pa_nil star_Constant) star_Name)))
      (q_pss_cons (q_ps_set (i := 4) sc_l_bent.nd rfl (by first | exact Or.inl rfl | exact Or.inr (Or.inl rfl) | exact Or.inr rfl) (q_pe_call G_l_next hr_l_next (by rfl) T.mg_l_next T.kp_l_next T.b_l_next .nil pass0 (q_pa_cons (q_pv 0) (q_pa_cons (q_pe_callB (call_max2 rfl) (by rfl) T.z_max (by decide +kernel) (q_pa_cons q_pe_int (q_pa_cons (q_pe_callB call_len_seq (by rfl) T.z_len PySem.boot_len (q_pa_cons (q_pv 1) q_pa_nil star_Name)) q_pa_nil star_Call) star_Constant)) q_pa_nil star_Call) star_Name)))
      (q_pss_cons ((q_ps_setLc (i := 5) (own := [("_law_name", 8), ("_law_many", 9)]) (g := _) (by rfl) sc_l_bent.nd rfl rfl (sw_true rfl rfl rfl (by decide +kernel)) (q_pi_tup (q_pv 2)) (blkOk_by (own := [("_law_name", 8), ("_law_many", 9)]) (N := ["_law_draw", "_law_words_here", "_law_units_here", "_law_way", "_law_at", "_law_names", "_law_some", "_law_turned", "_law_name", "_law_many"]) (sc := defScope s_l_bent) (by decide +kernel)) (fun _ _ _ _ _ => (q_pg_tupK (K := K) 2 rfl (by rfl) (q_pgs_cons (q_pg_name (i := 8) sc_l_bent.nd rfl (by first | exact Or.inl rfl | exact Or.inr (Or.inl rfl) | exact Or.inr rfl)) (q_pgs_cons (q_pg_name (i := 9) sc_l_bent.nd rfl (by first | exact Or.inl rfl | exact Or.inr (Or.inl rfl) | exact Or.inr rfl)) q_pgs_nil)))) (fun _ _ _ _ _ => q_pts_nil) (fun _ _ _ _ _ => (q_pv 8))))
      (q_pss_cons (q_ps_if (q_pt_cmpR op_eq (q_pv 3) q_pe_int (nomark _)) (q_pss_one (q_ps_ret (q_pe_op op_cat (q_pe_slice sl_list (q_pv 1) q_po_none (q_po_some (q_pv 4))) (q_pe_slice sl_list (q_pv 1) (q_po_some (q_pe_op op_add (q_pv 4) q_pe_int)) q_po_none)))) q_pss_nil)
      (q_pss_cons (q_ps_if (q_pt_cmpR op_eq (q_pv 3) q_pe_int (nomark _)) (q_pss_one (q_ps_ret (q_pe_op op_cat (q_pe_slice sl_list (q_pv 1) q_po_none (q_po_some (q_pe_op op_add (q_pv 4) q_pe_int))) (q_pe_slice sl_list (q_pv 1) (q_po_some (q_pv 4)) q_po_none)))) q_pss_nil)
      (q_pss_cons (q_ps_if (q_pt_cmpR op_eq (q_pv 3) q_pe_int (nomark _)) (q_pss_cons (q_ps_set (i := 7) sc_l_bent.nd rfl (by first | exact Or.inl rfl | exact Or.inr (Or.inl rfl) | exact Or.inr rfl) (q_pe_op op_cat (q_pe_slice sl_list (q_pv 1) (q_po_some (q_pe_op op_add (q_pv 4) q_pe_int)) (q_po_some (q_pe_op op_add (q_pv 4) q_pe_int))) (q_pe_slice sl_list (q_pv 1) (q_po_some (q_pv 4)) (q_po_some (q_pe_op op_add (q_pv 4) q_pe_int)))))
      (q_pss_one (q_ps_ret (q_pe_op op_cat (q_pe_op op_cat (q_pe_slice sl_list (q_pv 1) q_po_none (q_po_some (q_pv 4))) (q_pv 7)) (q_pe_slice sl_list (q_pv 1) (q_po_some (q_pe_op op_add (q_pv 4) q_pe_int)) q_po_none))))) q_pss_nil)
      (q_pss_cons (q_ps_if (q_pt_cmpR op_eq (q_pv 3) q_pe_int (nomark _)) (q_pss_cons (q_ps_set (i := 4) sc_l_bent.nd rfl (by first | exact Or.inl rfl | exact Or.inr (Or.inl rfl) | exact Or.inr rfl) (q_pe_op op_mul (q_pe_op op_fdiv (q_pv 4) q_pe_int) q_pe_int))
      (q_pss_one (q_ps_ret (q_pe_op op_cat (q_pe_op op_cat (q_pe_slice sl_list (q_pv 1) q_po_none (q_po_some (q_pv 4))) (q_pe_slice sl_list (q_pv 1) (q_po_some (q_pe_op op_add (q_pv 4) q_pe_int)) q_po_none)) (q_pe_slice sl_list (q_pv 1) (q_po_some (q_pv 4)) (q_po_some (q_pe_op op_add (q_pv 4) q_pe_int))))))) q_pss_nil)
      (q_pss_cons (q_ps_if (q_pt_cmpR op_eq (q_pv 3) q_pe_int (nomark _)) (q_pss_cons (q_ps_set (i := 4) sc_l_bent.nd rfl (by first | exact Or.inl rfl | exact Or.inr (Or.inl rfl) | exact Or.inr rfl) (q_pe_op op_mul (q_pe_op op_fdiv (q_pv 4) q_pe_int) q_pe_int))
      (q_pss_one (q_ps_ret (q_pe_op op_cat (q_pe_slice sl_list (q_pv 1) q_po_none (q_po_some (q_pe_op op_add (q_pv 4) q_pe_int))) (q_pe_slice sl_list (q_pv 1) (q_po_some (q_pv 4)) q_po_none))))) q_pss_nil)
      (q_pss_cons (q_ps_if (q_pt_cmpR op_eq (q_pv 3) q_pe_int (nomark _)) (q_pss_cons (q_ps_set (i := 6) sc_l_bent.nd rfl (by first | exact Or.inl rfl | exact Or.inr (Or.inl rfl) | exact Or.inr rfl) (q_pe_lst (q_pa_cons q_pe_str (q_pa_cons q_pe_str (q_pa_cons q_pe_str (q_pa_cons q_pe_str (q_pa_cons q_pe_str (q_pa_cons q_pe_str (q_pa_cons q_pe_str (q_pa_cons q_pe_str (q_pa_cons q_pe_str (q_pa_cons (q_pe_op op_rep_strA q_pe_str q_pe_int) (q_pa_cons q_pe_str (q_pa_cons q_pe_str q_pa_nil star_Constant) star_Constant) star_BinOp) star_Constant) star_Constant) star_Constant) star_Constant) star_Constant) star_Constant) star_Constant) star_Constant) star_Constant)))
      (q_pss_cons (q_ps_set (i := 6) sc_l_bent.nd rfl (by first | exact Or.inl rfl | exact Or.inr (Or.inl rfl) | exact Or.inr rfl) (q_pe_op op_cat (q_pv 6) (q_pe_lst (q_pa_cons q_pe_str (q_pa_cons q_pe_str (q_pa_cons q_pe_str (q_pa_cons q_pe_str (q_pa_cons q_pe_str (q_pa_cons q_pe_str (q_pa_cons q_pe_str (q_pa_cons q_pe_str q_pa_nil star_Constant) star_Constant) star_Constant) star_Constant) star_Constant) star_Constant) star_Constant) star_Constant))))
      (q_pss_cons (q_ps_set (i := 4) sc_l_bent.nd rfl (by first | exact Or.inl rfl | exact Or.inr (Or.inl rfl) | exact Or.inr rfl) (q_pe_op op_mul (q_pe_op op_fdiv (q_pv 4) q_pe_int) q_pe_int))
      (q_pss_one (q_ps_ret (q_pe_op op_cat (q_pe_op op_cat (q_pe_slice sl_list (q_pv 1) q_po_none (q_po_some (q_pv 4))) (q_pe_lst (q_pa_cons (q_pe_call G_l_pick hr_l_pick (by rfl) T.mg_l_pick T.kp_l_pick T.b_l_pick .nil pass0 (q_pa_cons (q_pv 0) (q_pa_cons (q_pv 6) q_pa_nil star_Name) star_Name)) q_pa_nil star_Call))) (q_pe_slice sl_list (q_pv 1) (q_po_some (q_pe_op op_add (q_pv 4) q_pe_int)) q_po_none))))))) q_pss_nil)
      (q_pss_cons (q_ps_if (q_pt_cmpR op_eq (q_pv 3) q_pe_int (nomark _)) (q_pss_cons (q_ps_set (i := 8) sc_l_bent.nd rfl (by first | exact Or.inl rfl | exact Or.inr (Or.inl rfl) | exact Or.inr rfl) (q_pe_call G_l_pick hr_l_pick (by rfl) T.mg_l_pick T.kp_l_pick T.b_l_pick .nil pass0 (q_pa_cons (q_pv 0) (q_pa_cons (q_pv 5) q_pa_nil star_Name) star_Name)))
      (q_pss_cons (q_ps_set (i := 6) sc_l_bent.nd rfl (by first | exact Or.inl rfl | exact Or.inr (Or.inl rfl) | exact Or.inr rfl) (q_pe_lst (q_pa_cons (q_pv 8) (q_pa_cons (q_pv 8) (q_pa_cons (q_pe_op op_add_str (q_pv 8) q_pe_str) (q_pa_cons (q_pe_upper (q_pv 8)) (q_pa_cons (q_pe_slice sl_str (q_pv 8) q_po_none (q_po_some (q_pe_un un_neg q_pe_int))) (q_pa_cons q_pe_str (q_pa_cons q_pe_str (q_pa_cons (q_pe_ix ix_list (q_pv 5) q_pe_int (fun _ _ => rfl)) (q_pa_cons (q_pe_ix ix_list (q_pv 5) (q_pe_un un_neg q_pe_int) (fun _ _ => rfl)) q_pa_nil star_Subscript) star_Subscript) star_Constant) star_Constant) star_Subscript) star_Call) star_BinOp) star_Name) star_Name)))
      (q_pss_cons (q_ps_set (i := 4) sc_l_bent.nd rfl (by first | exact Or.inl rfl | exact Or.inr (Or.inl rfl) | exact Or.inr rfl) (q_pe_op op_add (q_pe_op op_mul (q_pe_op op_fdiv (q_pv 4) q_pe_int) q_pe_int) q_pe_int))
      (q_pss_one (q_ps_ret (q_pe_op op_cat (q_pe_op op_cat (q_pe_slice sl_list (q_pv 1) q_po_none (q_po_some (q_pv 4))) (q_pe_lst (q_pa_cons (q_pe_call G_l_pick hr_l_pick (by rfl) T.mg_l_pick T.kp_l_pick T.b_l_pick .nil pass0 (q_pa_cons (q_pv 0) (q_pa_cons (q_pv 6) q_pa_nil star_Name) star_Name)) q_pa_nil star_Call))) (q_pe_slice sl_list (q_pv 1) (q_po_some (q_pe_op op_add (q_pv 4) q_pe_int)) q_po_none))))))) q_pss_nil)
      (q_pss_cons (q_ps_set (i := 6) sc_l_bent.nd rfl (by first | exact Or.inl rfl | exact Or.inr (Or.inl rfl) | exact Or.inr rfl) (q_pe_lst (q_pa_cons (q_pe_lst q_pa_nil) (q_pa_cons (q_pe_lst (q_pa_cons q_pe_str q_pa_nil star_Constant)) (q_pa_cons (q_pe_lst (q_pa_cons q_pe_str q_pa_nil star_Constant)) (q_pa_cons (q_pe_lst (q_pa_cons q_pe_str (q_pa_cons (q_pe_ix ix_list (q_pv 5) q_pe_int (fun _ _ => rfl)) q_pa_nil star_Subscript) star_Constant)) (q_pa_cons (q_pe_lst (q_pa_cons q_pe_str (q_pa_cons (q_pe_ix ix_list (q_pv 5) (q_pe_un un_neg q_pe_int) (fun _ _ => rfl)) q_pa_nil star_Subscript) star_Constant)) (q_pa_cons (q_pe_lst (q_pa_cons (q_pe_ix ix_list (q_pv 5) q_pe_int (fun _ _ => rfl)) q_pa_nil star_Subscript)) (q_pa_cons (q_pe_lst (q_pa_cons q_pe_str (q_pa_cons q_pe_str (q_pa_cons (q_pe_ix ix_list (q_pv 5) (q_pe_un un_neg q_pe_int) (fun _ _ => rfl)) q_pa_nil star_Subscript) star_Constant) star_Constant)) (q_pa_cons (q_pe_lst (q_pa_cons q_pe_str (q_pa_cons (q_pe_ix ix_list (q_pv 5) (q_pe_un un_neg q_pe_int) (fun _ _ => rfl)) q_pa_nil star_Subscript) star_Constant)) q_pa_nil star_List) star_List) star_List) star_List) star_List) star_List) star_List) star_List)))
      (q_pss_one (q_ps_ret (q_pe_call G_l_pick hr_l_pick (by rfl) T.mg_l_pick T.kp_l_pick T.b_l_pick .nil pass0 (q_pa_cons (q_pv 0) (q_pa_cons (q_pe_op op_cat (q_pv 6) (q_pe_lst (q_pa_cons (q_pe_lst (q_pa_cons q_pe_str (q_pa_cons (q_pe_ix ix_list (q_pv 5) (q_pe_un un_neg q_pe_int) (fun _ _ => rfl)) (q_pa_cons q_pe_str q_pa_nil star_Constant) star_Subscript) star_Constant)) (q_pa_cons (q_pe_lst (q_pa_cons q_pe_str (q_pa_cons (q_pe_ix ix_list (q_pv 5) q_pe_int (fun _ _ => rfl)) (q_pa_cons q_pe_str (q_pa_cons (q_pe_ix ix_list (q_pv 5) (q_pe_un un_neg q_pe_int) (fun _ _ => rfl)) q_pa_nil star_Subscript) star_Constant) star_Subscript) star_Constant)) (q_pa_cons (q_pe_op op_rep (q_pe_lst (q_pa_cons q_pe_str (q_pa_cons (q_pe_ix ix_list (q_pv 5) (q_pe_un un_neg q_pe_int) (fun _ _ => rfl)) q_pa_nil star_Subscript) star_Constant)) q_pe_int) q_pa_nil star_BinOp) star_List) star_List))) q_pa_nil star_BinOp) star_Name))))))))))))))), ?_⟩
    obtain ⟨rs, hp, ua⟩ := u.all
    have lu : (pre ++ [(z, (1 : Int))]).length = pre.length + 1 := by rw [List.length_append]; rfl
    have lp := g.len
    have wm : (ws.map V.str).length = ws.length := List.length_map _
    refine ⟨_, rfl, d, a, ns, _, rfl, D, by decide, fun wy H1 w0 w1 D1 k1 => ?_⟩
    have hw := k1 _ _ hw nLw
    refine ⟨_, rfl, _, rfl, Lw, _, rfl, .inl (SqL.of hw), _, _, rfl, d, a, ns, _, rfl, D1, by split <;> omega, fun at' H2 t0 t1 D2 k2 => ?_⟩
    have t1 : at' < 300 := by split at t1 <;> omega
    have hw := k2 _ _ hw nLw
    have hp := D.tups (k1.trans k2) _ _ hp
    have ua := ua.mono (D.tups (k1.trans k2))
    refine ⟨_, rfl, p, rfl, ⟨_, SqT.of hp⟩, fun Ln hLn => ?_⟩
    have nLn := D2.ne hLn
    refine lc_tup (xs := rs.map V.ref) (fun i H' => H' Ln = some (.lst (((pre ++ [(z, (1 : Int))]).take i).map fun u => .str u.1)) ∧ Same H2 H') ?_ ?_ ?_ ?_
    · exact ⟨by rw [upd_same]; rfl, same_new hLn⟩
    · rintro i H3 hi ⟨h3, s3⟩
      exact SqT.of (s3 _ _ hp)
    · rintro i x H3 hx ⟨h3, s3⟩
      obtain ⟨r, hr, rfl⟩ := ref_at hx
      obtain ⟨u, hu, e⟩ := ua.at_ i r hr
      refine ⟨r, _, rfl, SqT.of (s3 _ _ e), rfl, _, _, rfl, _, _, rfl, rfl, rfl, yes_i ⟨_, rfl, _, h3, small1000 ?_, ?_, fun b o e => ?_⟩⟩
      · rw [List.length_map, List.length_take]; omega
      · rw [upd_same, fst_take hu]
      · rw [upd_ne (ne_of_none e hLn)]
        exact s3 b o e
    rintro H3 ⟨h3, s3⟩
    rw [List.length_map, ua.len, List.take_length] at h3
    have e1 : ((pre ++ [(z, (1 : Int))]).map fun u => V.str u.1) = ((pre ++ [(z, (1 : Int))]).map (·.1)).map V.str := by rw [List.map_map]; rfl
    rw [e1] at h3
    have gn := g.names
    have ln : ((pre ++ [(z, (1 : Int))]).map (·.1)).length = pre.length + 1 := by rw [List.length_map, lu]
    generalize (pre ++ [(z, (1 : Int))]).map (·.1) = nms at gn h3 ln
    have hw := s3 _ _ hw
    have D := D2.same s3
    have Kk := (k1.trans k2).trans (.of s3)
    clear D1 D2 k1 k2 s3 ua hp e1
    have hwy : wy = 0 ∨ wy = 1 ∨ wy = 2 ∨ wy = 3 ∨ wy = 4 ∨ wy = 5 ∨ wy = 6 ∨ wy = 7 := by omega
    rcases hwy with rfl | rfl | rfl | rfl | rfl | rfl | rfl | rfl
    · refine ⟨_, rfl, rfl, _, rfl, iteT ?_⟩
      refine ⟨_, rfl, _, rfl, at', rfl, Lw, _, rfl, SqL.of hw, fun q1 hq1 => ?_⟩
      obtain ⟨vq1, eq1, lq1, mq1⟩ := cutV_strs2 ws none (some (at'))
      rw [eq1]
      rw [sIx_nn (v := at') (by omega), HT.sIx_none] at lq1
      have wq1 := wd.sub mq1
      have sA1 := same_new (o := .lst (vq1.map V.str)) hq1
      have gq1 := new_at (o := .lst (vq1.map V.str)) hq1
      have nq1 := D.ne hq1
      have hw := sA1 _ _ hw
      have h3 := sA1 _ _ h3
      have D := D.same sA1
      have Kk := Kk.trans (.of sA1)
      refine ⟨_, rfl, _, rfl, _, _, rfl, rfl, at' + 1, rfl, Lw, _, rfl, SqL.of hw, fun q2 hq2 => ?_⟩
      obtain ⟨vq2, eq2, lq2, mq2⟩ := cutV_strs2 ws (some (at' + 1)) none
      rw [eq2]
      rw [HT.sIx_none, sIx_nn (v := at' + 1) (by omega)] at lq2
      have wq2 := wd.sub mq2
      have sA2 := same_new (o := .lst (vq2.map V.str)) hq2
      have gq2 := new_at (o := .lst (vq2.map V.str)) hq2
      have nq2 := D.ne hq2
      have hw := sA2 _ _ hw
      have h3 := sA2 _ _ h3
      have gq1 := sA2 _ _ gq1
      have D := D.same sA2
      have Kk := Kk.trans (.of sA2)
      refine ⟨q1, q2, _, _, rfl, rfl, gq1, gq2, Nat.le_of_lt (small1000 (by rw [List.length_map, List.length_map]; omega)), fun q3 hq3 => ?_⟩
      rw [← List.map_append]
      have wq3 := wq1.app wq2
      have lq3 : (vq1 ++ vq2).length = vq1.length + vq2.length := List.length_append
      obtain ⟨vq3, evq3⟩ : ∃ v, v = vq1 ++ vq2 := ⟨_, rfl⟩
      rw [← evq3] at wq3 lq3 ⊢
      have sA3 := same_new (o := .lst (vq3.map V.str)) hq3
      have gq3 := new_at (o := .lst (vq3.map V.str)) hq3
      have nq3 := D.ne hq3
      have hw := sA3 _ _ hw
      have h3 := sA3 _ _ h3
      have gq1 := sA3 _ _ gq1
      have gq2 := sA3 _ _ gq2
      have D := D.same sA3
      have Kk := Kk.trans (.of sA3)
      exact q q3 vq3 _ gq3 nq3 wq3 (by omega) D Kk
    · refine ⟨_, rfl, rfl, _, rfl, iteF ?_⟩
      refine ⟨_, rfl, rfl, _, rfl, iteT ?_⟩
      refine ⟨_, rfl, _, rfl, _, _, rfl, rfl, at' + 1, rfl, Lw, _, rfl, SqL.of hw, fun q1 hq1 => ?_⟩
      obtain ⟨vq1, eq1, lq1, mq1⟩ := cutV_strs2 ws none (some (at' + 1))
      rw [eq1]
      rw [sIx_nn (v := at' + 1) (by omega), HT.sIx_none] at lq1
      have wq1 := wd.sub mq1
      have sA1 := same_new (o := .lst (vq1.map V.str)) hq1
      have gq1 := new_at (o := .lst (vq1.map V.str)) hq1
      have nq1 := D.ne hq1
      have hw := sA1 _ _ hw
      have h3 := sA1 _ _ h3
      have D := D.same sA1
      have Kk := Kk.trans (.of sA1)
      refine ⟨_, rfl, _, rfl, at', rfl, Lw, _, rfl, SqL.of hw, fun q2 hq2 => ?_⟩
      obtain ⟨vq2, eq2, lq2, mq2⟩ := cutV_strs2 ws (some (at')) none
      rw [eq2]
      rw [HT.sIx_none, sIx_nn (v := at') (by omega)] at lq2
      have wq2 := wd.sub mq2
      have sA2 := same_new (o := .lst (vq2.map V.str)) hq2
      have gq2 := new_at (o := .lst (vq2.map V.str)) hq2
      have nq2 := D.ne hq2
      have hw := sA2 _ _ hw
      have h3 := sA2 _ _ h3
      have gq1 := sA2 _ _ gq1
      have D := D.same sA2
      have Kk := Kk.trans (.of sA2)
      refine ⟨q1, q2, _, _, rfl, rfl, gq1, gq2, Nat.le_of_lt (small1000 (by rw [List.length_map, List.length_map]; omega)), fun q3 hq3 => ?_⟩
      rw [← List.map_append]
      have wq3 := wq1.app wq2
      have lq3 : (vq1 ++ vq2).length = vq1.length + vq2.length := List.length_append
      obtain ⟨vq3, evq3⟩ : ∃ v, v = vq1 ++ vq2 := ⟨_, rfl⟩
      rw [← evq3] at wq3 lq3 ⊢
      have sA3 := same_new (o := .lst (vq3.map V.str)) hq3
      have gq3 := new_at (o := .lst (vq3.map V.str)) hq3
      have nq3 := D.ne hq3
      have hw := sA3 _ _ hw
      have h3 := sA3 _ _ h3
      have gq1 := sA3 _ _ gq1
      have gq2 := sA3 _ _ gq2
      have D := D.same sA3
      have Kk := Kk.trans (.of sA3)
      exact q q3 vq3 _ gq3 nq3 wq3 (by omega) D Kk
    · refine ⟨_, rfl, rfl, _, rfl, iteF ?_⟩
      refine ⟨_, rfl, rfl, _, rfl, iteF ?_⟩
      refine ⟨_, rfl, rfl, _, rfl, iteT ?_⟩
      refine ⟨_, rfl, _, rfl, _, _, rfl, rfl, at' + 1, rfl, _, rfl, _, _, rfl, rfl, at' + 2, rfl, Lw, _, rfl, SqL.of hw, fun q1 hq1 => ?_⟩
      obtain ⟨vq1, eq1, lq1, mq1⟩ := cutV_strs2 ws (some (at' + 1)) (some (at' + 2))
      rw [eq1]
      rw [sIx_nn (v := at' + 2) (by omega), sIx_nn (v := at' + 1) (by omega)] at lq1
      have wq1 := wd.sub mq1
      have sA1 := same_new (o := .lst (vq1.map V.str)) hq1
      have gq1 := new_at (o := .lst (vq1.map V.str)) hq1
      have nq1 := D.ne hq1
      have hw := sA1 _ _ hw
      have h3 := sA1 _ _ h3
      have D := D.same sA1
      have Kk := Kk.trans (.of sA1)
      refine ⟨_, rfl, _, rfl, at', rfl, _, rfl, _, _, rfl, rfl, at' + 1, rfl, Lw, _, rfl, SqL.of hw, fun q2 hq2 => ?_⟩
      obtain ⟨vq2, eq2, lq2, mq2⟩ := cutV_strs2 ws (some (at')) (some (at' + 1))
      rw [eq2]
      rw [sIx_nn (v := at' + 1) (by omega), sIx_nn (v := at') (by omega)] at lq2
      have wq2 := wd.sub mq2
      have sA2 := same_new (o := .lst (vq2.map V.str)) hq2
      have gq2 := new_at (o := .lst (vq2.map V.str)) hq2
      have nq2 := D.ne hq2
      have hw := sA2 _ _ hw
      have h3 := sA2 _ _ h3
      have gq1 := sA2 _ _ gq1
      have D := D.same sA2
      have Kk := Kk.trans (.of sA2)
      refine ⟨q1, q2, _, _, rfl, rfl, gq1, gq2, Nat.le_of_lt (small1000 (by rw [List.length_map, List.length_map]; omega)), fun q3 hq3 => ?_⟩
      rw [← List.map_append]
      have wq3 := wq1.app wq2
      have lq3 : (vq1 ++ vq2).length = vq1.length + vq2.length := List.length_append
      obtain ⟨vq3, evq3⟩ : ∃ v, v = vq1 ++ vq2 := ⟨_, rfl⟩
      rw [← evq3] at wq3 lq3 ⊢
      have sA3 := same_new (o := .lst (vq3.map V.str)) hq3
      have gq3 := new_at (o := .lst (vq3.map V.str)) hq3
      have nq3 := D.ne hq3
      have hw := sA3 _ _ hw
      have h3 := sA3 _ _ h3
      have gq1 := sA3 _ _ gq1
      have gq2 := sA3 _ _ gq2
      have D := D.same sA3
      have Kk := Kk.trans (.of sA3)
      refine ⟨_, rfl, _, rfl, at', rfl, Lw, _, rfl, SqL.of hw, fun q4 hq4 => ?_⟩
      obtain ⟨vq4, eq4, lq4, mq4⟩ := cutV_strs2 ws none (some (at'))
      rw [eq4]
      rw [sIx_nn (v := at') (by omega), HT.sIx_none] at lq4
      have wq4 := wd.sub mq4
      have sA4 := same_new (o := .lst (vq4.map V.str)) hq4
      have gq4 := new_at (o := .lst (vq4.map V.str)) hq4
      have nq4 := D.ne hq4
      have hw := sA4 _ _ hw
      have h3 := sA4 _ _ h3
      have gq1 := sA4 _ _ gq1
      have gq2 := sA4 _ _ gq2
      have gq3 := sA4 _ _ gq3
      have D := D.same sA4
      have Kk := Kk.trans (.of sA4)
      refine ⟨_, rfl, q4, q3, _, _, rfl, rfl, gq4, gq3, Nat.le_of_lt (small1000 (by rw [List.length_map, List.length_map]; omega)), fun q5 hq5 => ?_⟩
      rw [← List.map_append]
      have wq5 := wq4.app wq3
      have lq5 : (vq4 ++ vq3).length = vq4.length + vq3.length := List.length_append
      obtain ⟨vq5, evq5⟩ : ∃ v, v = vq4 ++ vq3 := ⟨_, rfl⟩
      rw [← evq5] at wq5 lq5 ⊢
      have sA5 := same_new (o := .lst (vq5.map V.str)) hq5
      have gq5 := new_at (o := .lst (vq5.map V.str)) hq5
      have nq5 := D.ne hq5
      have hw := sA5 _ _ hw
      have h3 := sA5 _ _ h3
      have gq1 := sA5 _ _ gq1
      have gq2 := sA5 _ _ gq2
      have gq3 := sA5 _ _ gq3
      have gq4 := sA5 _ _ gq4
      have D := D.same sA5
      have Kk := Kk.trans (.of sA5)
      refine ⟨_, rfl, _, rfl, _, _, rfl, rfl, at' + 2, rfl, Lw, _, rfl, SqL.of hw, fun q6 hq6 => ?_⟩
      obtain ⟨vq6, eq6, lq6, mq6⟩ := cutV_strs2 ws (some (at' + 2)) none
      rw [eq6]
      rw [HT.sIx_none, sIx_nn (v := at' + 2) (by omega)] at lq6
      have wq6 := wd.sub mq6
      have sA6 := same_new (o := .lst (vq6.map V.str)) hq6
      have gq6 := new_at (o := .lst (vq6.map V.str)) hq6
      have nq6 := D.ne hq6
      have hw := sA6 _ _ hw
      have h3 := sA6 _ _ h3
      have gq1 := sA6 _ _ gq1
      have gq2 := sA6 _ _ gq2
      have gq3 := sA6 _ _ gq3
      have gq4 := sA6 _ _ gq4
      have gq5 := sA6 _ _ gq5
      have D := D.same sA6
      have Kk := Kk.trans (.of sA6)
      refine ⟨q5, q6, _, _, rfl, rfl, gq5, gq6, Nat.le_of_lt (small1000 (by rw [List.length_map, List.length_map]; omega)), fun q7 hq7 => ?_⟩
      rw [← List.map_append]
      have wq7 := wq5.app wq6
      have lq7 : (vq5 ++ vq6).length = vq5.length + vq6.length := List.length_append
      obtain ⟨vq7, evq7⟩ : ∃ v, v = vq5 ++ vq6 := ⟨_, rfl⟩
      rw [← evq7] at wq7 lq7 ⊢
      have sA7 := same_new (o := .lst (vq7.map V.str)) hq7
      have gq7 := new_at (o := .lst (vq7.map V.str)) hq7
      have nq7 := D.ne hq7
      have hw := sA7 _ _ hw
      have h3 := sA7 _ _ h3
      have gq1 := sA7 _ _ gq1
      have gq2 := sA7 _ _ gq2
      have gq3 := sA7 _ _ gq3
      have gq4 := sA7 _ _ gq4
      have gq5 := sA7 _ _ gq5
      have gq6 := sA7 _ _ gq6
      have D := D.same sA7
      have Kk := Kk.trans (.of sA7)
      exact q q7 vq7 _ gq7 nq7 wq7 (by omega) D Kk
    · refine ⟨_, rfl, rfl, _, rfl, iteF ?_⟩
      refine ⟨_, rfl, rfl, _, rfl, iteF ?_⟩
      refine ⟨_, rfl, rfl, _, rfl, iteF ?_⟩
      refine ⟨_, rfl, rfl, _, rfl, iteT ?_⟩
      refine ⟨_, rfl, _, _, rfl, rfl, ⟨by decide, by decide⟩, _, _, rfl, rfl, .inl ⟨by omega, by omega⟩, ?_⟩
      refine ⟨_, rfl, _, rfl, at' / 2 * 2, rfl, Lw, _, rfl, SqL.of hw, fun q1 hq1 => ?_⟩
      obtain ⟨vq1, eq1, lq1, mq1⟩ := cutV_strs2 ws none (some (at' / 2 * 2))
      rw [eq1]
      rw [sIx_nn (v := at' / 2 * 2) (by omega), HT.sIx_none] at lq1
      have wq1 := wd.sub mq1
      have sA1 := same_new (o := .lst (vq1.map V.str)) hq1
      have gq1 := new_at (o := .lst (vq1.map V.str)) hq1
      have nq1 := D.ne hq1
      have hw := sA1 _ _ hw
      have h3 := sA1 _ _ h3
      have D := D.same sA1
      have Kk := Kk.trans (.of sA1)
      refine ⟨_, rfl, _, rfl, _, _, rfl, rfl, at' / 2 * 2 + 2, rfl, Lw, _, rfl, SqL.of hw, fun q2 hq2 => ?_⟩
      obtain ⟨vq2, eq2, lq2, mq2⟩ := cutV_strs2 ws (some (at' / 2 * 2 + 2)) none
      rw [eq2]
      rw [HT.sIx_none, sIx_nn (v := at' / 2 * 2 + 2) (by omega)] at lq2
      have wq2 := wd.sub mq2
      have sA2 := same_new (o := .lst (vq2.map V.str)) hq2
      have gq2 := new_at (o := .lst (vq2.map V.str)) hq2
      have nq2 := D.ne hq2
      have hw := sA2 _ _ hw
      have h3 := sA2 _ _ h3
      have gq1 := sA2 _ _ gq1
      have D := D.same sA2
      have Kk := Kk.trans (.of sA2)
      refine ⟨q1, q2, _, _, rfl, rfl, gq1, gq2, Nat.le_of_lt (small1000 (by rw [List.length_map, List.length_map]; omega)), fun q3 hq3 => ?_⟩
      rw [← List.map_append]
      have wq3 := wq1.app wq2
      have lq3 : (vq1 ++ vq2).length = vq1.length + vq2.length := List.length_append
      obtain ⟨vq3, evq3⟩ : ∃ v, v = vq1 ++ vq2 := ⟨_, rfl⟩
      rw [← evq3] at wq3 lq3 ⊢
      have sA3 := same_new (o := .lst (vq3.map V.str)) hq3
      have gq3 := new_at (o := .lst (vq3.map V.str)) hq3
      have nq3 := D.ne hq3
      have hw := sA3 _ _ hw
      have h3 := sA3 _ _ h3
      have gq1 := sA3 _ _ gq1
      have gq2 := sA3 _ _ gq2
      have D := D.same sA3
      have Kk := Kk.trans (.of sA3)
      refine ⟨_, rfl, _, rfl, at' / 2 * 2, rfl, _, rfl, _, _, rfl, rfl, at' / 2 * 2 + 2, rfl, Lw, _, rfl, SqL.of hw, fun q4 hq4 => ?_⟩
      obtain ⟨vq4, eq4, lq4, mq4⟩ := cutV_strs2 ws (some (at' / 2 * 2)) (some (at' / 2 * 2 + 2))
      rw [eq4]
      rw [sIx_nn (v := at' / 2 * 2 + 2) (by omega), sIx_nn (v := at' / 2 * 2) (by omega)] at lq4
      have wq4 := wd.sub mq4
      have sA4 := same_new (o := .lst (vq4.map V.str)) hq4
      have gq4 := new_at (o := .lst (vq4.map V.str)) hq4
      have nq4 := D.ne hq4
      have hw := sA4 _ _ hw
      have h3 := sA4 _ _ h3
      have gq1 := sA4 _ _ gq1
      have gq2 := sA4 _ _ gq2
      have gq3 := sA4 _ _ gq3
      have D := D.same sA4
      have Kk := Kk.trans (.of sA4)
      refine ⟨q3, q4, _, _, rfl, rfl, gq3, gq4, Nat.le_of_lt (small1000 (by rw [List.length_map, List.length_map]; omega)), fun q5 hq5 => ?_⟩
      rw [← List.map_append]
      have wq5 := wq3.app wq4
      have lq5 : (vq3 ++ vq4).length = vq3.length + vq4.length := List.length_append
      obtain ⟨vq5, evq5⟩ : ∃ v, v = vq3 ++ vq4 := ⟨_, rfl⟩
      rw [← evq5] at wq5 lq5 ⊢
      have sA5 := same_new (o := .lst (vq5.map V.str)) hq5
      have gq5 := new_at (o := .lst (vq5.map V.str)) hq5
      have nq5 := D.ne hq5
      have hw := sA5 _ _ hw
      have h3 := sA5 _ _ h3
      have gq1 := sA5 _ _ gq1
      have gq2 := sA5 _ _ gq2
      have gq3 := sA5 _ _ gq3
      have gq4 := sA5 _ _ gq4
      have D := D.same sA5
      have Kk := Kk.trans (.of sA5)
      exact q q5 vq5 _ gq5 nq5 wq5 (by omega) D Kk
    · refine ⟨_, rfl, rfl, _, rfl, iteF ?_⟩
      refine ⟨_, rfl, rfl, _, rfl, iteF ?_⟩
      refine ⟨_, rfl, rfl, _, rfl, iteF ?_⟩
      refine ⟨_, rfl, rfl, _, rfl, iteF ?_⟩
      refine ⟨_, rfl, rfl, _, rfl, iteT ?_⟩
      refine ⟨_, rfl, _, _, rfl, rfl, ⟨by decide, by decide⟩, _, _, rfl, rfl, .inl ⟨by omega, by omega⟩, ?_⟩
      refine ⟨_, rfl, _, rfl, _, _, rfl, rfl, at' / 2 * 2 + 2, rfl, Lw, _, rfl, SqL.of hw, fun q1 hq1 => ?_⟩
      obtain ⟨vq1, eq1, lq1, mq1⟩ := cutV_strs2 ws none (some (at' / 2 * 2 + 2))
      rw [eq1]
      rw [sIx_nn (v := at' / 2 * 2 + 2) (by omega), HT.sIx_none] at lq1
      have wq1 := wd.sub mq1
      have sA1 := same_new (o := .lst (vq1.map V.str)) hq1
      have gq1 := new_at (o := .lst (vq1.map V.str)) hq1
      have nq1 := D.ne hq1
      have hw := sA1 _ _ hw
      have h3 := sA1 _ _ h3
      have D := D.same sA1
      have Kk := Kk.trans (.of sA1)
      refine ⟨_, rfl, _, rfl, at' / 2 * 2, rfl, Lw, _, rfl, SqL.of hw, fun q2 hq2 => ?_⟩
      obtain ⟨vq2, eq2, lq2, mq2⟩ := cutV_strs2 ws (some (at' / 2 * 2)) none
      rw [eq2]
      rw [HT.sIx_none, sIx_nn (v := at' / 2 * 2) (by omega)] at lq2
      have wq2 := wd.sub mq2
      have sA2 := same_new (o := .lst (vq2.map V.str)) hq2
      have gq2 := new_at (o := .lst (vq2.map V.str)) hq2
      have nq2 := D.ne hq2
      have hw := sA2 _ _ hw
      have h3 := sA2 _ _ h3
      have gq1 := sA2 _ _ gq1
      have D := D.same sA2
      have Kk := Kk.trans (.of sA2)
      refine ⟨q1, q2, _, _, rfl, rfl, gq1, gq2, Nat.le_of_lt (small1000 (by rw [List.length_map, List.length_map]; omega)), fun q3 hq3 => ?_⟩
      rw [← List.map_append]
      have wq3 := wq1.app wq2
      have lq3 : (vq1 ++ vq2).length = vq1.length + vq2.length := List.length_append
      obtain ⟨vq3, evq3⟩ : ∃ v, v = vq1 ++ vq2 := ⟨_, rfl⟩
      rw [← evq3] at wq3 lq3 ⊢
      have sA3 := same_new (o := .lst (vq3.map V.str)) hq3
      have gq3 := new_at (o := .lst (vq3.map V.str)) hq3
      have nq3 := D.ne hq3
      have hw := sA3 _ _ hw
      have h3 := sA3 _ _ h3
      have gq1 := sA3 _ _ gq1
      have gq2 := sA3 _ _ gq2
      have D := D.same sA3
      have Kk := Kk.trans (.of sA3)
      exact q q3 vq3 _ gq3 nq3 wq3 (by omega) D Kk
    · refine ⟨_, rfl, rfl, _, rfl, iteF ?_⟩
      refine ⟨_, rfl, rfl, _, rfl, iteF ?_⟩
      refine ⟨_, rfl, rfl, _, rfl, iteF ?_⟩
      refine ⟨_, rfl, rfl, _, rfl, iteF ?_⟩
      refine ⟨_, rfl, rfl, _, rfl, iteF ?_⟩
      refine ⟨_, rfl, rfl, _, rfl, iteT ?_⟩
      refine ⟨Str.ofString "9", 17, rfl, rfl, by decide, by decide, by decide, by decide, fun x17 lx mx => ⟨(by show 12 ≤ sizeLine; decide), fun p1 hp1 => ?_⟩⟩
      have ax17 : Ax 24 x17 := ⟨by rw [lx]; decide, fun c hc => by
        have := mx c hc
        have e : c = 57 := List.mem_singleton.mp (show c ∈ [57] from this)
        rw [e]; decide⟩
      have wp1 := wds12 ax17
      obtain ⟨vp1, evp1⟩ : ∃ v, v = s12 x17 := ⟨_, rfl⟩
      have lp1 : vp1.length = 12 := by rw [evp1]; rfl
      have sA1 := same_new (o := .lst (s12 x17 |>.map V.str)) hp1
      have gp1 := new_at (o := .lst (s12 x17 |>.map V.str)) hp1
      have np1 := D.ne hp1
      have hw := sA1 _ _ hw
      have h3 := sA1 _ _ h3
      have D := D.same sA1
      have Kk := Kk.trans (.of sA1)
      refine ⟨_, rfl, (by show 8 ≤ sizeLine; decide), fun p2 hp2 => ?_⟩
      have sA2 := same_new (o := .lst (s8.map V.str)) hp2
      have gp2 := new_at (o := .lst (s8.map V.str)) hp2
      have np2 := D.ne hp2
      have hw := sA2 _ _ hw
      have h3 := sA2 _ _ h3
      have gp1 := sA2 _ _ gp1
      have D := D.same sA2
      have Kk := Kk.trans (.of sA2)
      refine ⟨p1, p2, _, _, rfl, rfl, gp1, gp2, (by show 12 + 8 ≤ sizeLine; decide), fun p3 hp3 => ?_⟩
      have sA3 := same_new (o := .lst ((s12 x17 ++ s8).map V.str)) hp3
      have gp3 := new_at (o := .lst ((s12 x17 ++ s8).map V.str)) hp3
      have np3 := D.ne hp3
      have hw := sA3 _ _ hw
      have h3 := sA3 _ _ h3
      have gp1 := sA3 _ _ gp1
      have gp2 := sA3 _ _ gp2
      have D := D.same sA3
      have Kk := Kk.trans (.of sA3)
      refine ⟨_, rfl, _, _, rfl, rfl, ⟨by decide, by decide⟩, _, _, rfl, rfl, .inl ⟨by omega, by omega⟩, ?_⟩
      refine ⟨_, rfl, _, rfl, at' / 2 * 2, rfl, Lw, _, rfl, SqL.of hw, fun q1 hq1 => ?_⟩
      obtain ⟨vq1, eq1, lq1, mq1⟩ := cutV_strs2 ws none (some (at' / 2 * 2))
      rw [eq1]
      rw [sIx_nn (v := at' / 2 * 2) (by omega), HT.sIx_none] at lq1
      have wq1 := wd.sub mq1
      have sA4 := same_new (o := .lst (vq1.map V.str)) hq1
      have gq1 := new_at (o := .lst (vq1.map V.str)) hq1
      have nq1 := D.ne hq1
      have hw := sA4 _ _ hw
      have h3 := sA4 _ _ h3
      have gp1 := sA4 _ _ gp1
      have gp2 := sA4 _ _ gp2
      have gp3 := sA4 _ _ gp3
      have D := D.same sA4
      have Kk := Kk.trans (.of sA4)
      refine ⟨_, rfl, _, rfl, d, a, p3, ns, _, rfl, D, gp3, np3, (by show 0 < 20; decide), fun v H9 hv D9 k9 => ⟨(by show 1 ≤ sizeLine; decide), fun q2 hq2 => ?_⟩⟩
      obtain ⟨x, hx, rfl⟩ := List.mem_map.mp hv
      have wq2 := Wds.one (((wds12 ax17).app wds8) x hx)
      obtain ⟨vq2, evq2⟩ : ∃ v, v = [x] := ⟨_, rfl⟩
      have lq2 : vq2.length = 1 := by rw [evq2]; rfl
      rw [← evq2] at wq2
      have hw := k9 _ _ hw nLw
      have gq1 := k9 _ _ gq1 nq1
      have D := D9
      have Kk := Kk.trans k9
      have sA5 := same_new (o := .lst ([x].map V.str)) hq2
      have gq2 := new_at (o := .lst ([x].map V.str)) hq2
      have nq2 := D.ne hq2
      have hw := sA5 _ _ hw
      have gq1 := sA5 _ _ gq1
      have D := D.same sA5
      have Kk := Kk.trans (.of sA5)
      have gq2 : _ = some (HO.lst (vq2.map V.str)) := (show _ = some (HO.lst ([x].map V.str)) from gq2).trans (by rw [evq2])
      refine ⟨q1, q2, _, _, rfl, rfl, gq1, gq2, Nat.le_of_lt (small1000 (by rw [List.length_map, List.length_map]; omega)), fun q3 hq3 => ?_⟩
      rw [← List.map_append]
      have wq3 := wq1.app wq2
      have lq3 : (vq1 ++ vq2).length = vq1.length + vq2.length := List.length_append
      obtain ⟨vq3, evq3⟩ : ∃ v, v = vq1 ++ vq2 := ⟨_, rfl⟩
      rw [← evq3] at wq3 lq3 ⊢
      have sA6 := same_new (o := .lst (vq3.map V.str)) hq3
      have gq3 := new_at (o := .lst (vq3.map V.str)) hq3
      have nq3 := D.ne hq3
      have hw := sA6 _ _ hw
      have gq1 := sA6 _ _ gq1
      have gq2 := sA6 _ _ gq2
      have D := D.same sA6
      have Kk := Kk.trans (.of sA6)
      refine ⟨_, rfl, _, rfl, _, _, rfl, rfl, at' / 2 * 2 + 1, rfl, Lw, _, rfl, SqL.of hw, fun q4 hq4 => ?_⟩
      obtain ⟨vq4, eq4, lq4, mq4⟩ := cutV_strs2 ws (some (at' / 2 * 2 + 1)) none
      rw [eq4]
      rw [HT.sIx_none, sIx_nn (v := at' / 2 * 2 + 1) (by omega)] at lq4
      have wq4 := wd.sub mq4
      have sA7 := same_new (o := .lst (vq4.map V.str)) hq4
      have gq4 := new_at (o := .lst (vq4.map V.str)) hq4
      have nq4 := D.ne hq4
      have hw := sA7 _ _ hw
      have gq1 := sA7 _ _ gq1
      have gq2 := sA7 _ _ gq2
      have gq3 := sA7 _ _ gq3
      have D := D.same sA7
      have Kk := Kk.trans (.of sA7)
      refine ⟨q3, q4, _, _, rfl, rfl, gq3, gq4, Nat.le_of_lt (small1000 (by rw [List.length_map, List.length_map]; omega)), fun q5 hq5 => ?_⟩
      rw [← List.map_append]
      have wq5 := wq3.app wq4
      have lq5 : (vq3 ++ vq4).length = vq3.length + vq4.length := List.length_append
      obtain ⟨vq5, evq5⟩ : ∃ v, v = vq3 ++ vq4 := ⟨_, rfl⟩
      rw [← evq5] at wq5 lq5 ⊢
      have sA8 := same_new (o := .lst (vq5.map V.str)) hq5
      have gq5 := new_at (o := .lst (vq5.map V.str)) hq5
      have nq5 := D.ne hq5
      have hw := sA8 _ _ hw
      have gq1 := sA8 _ _ gq1
      have gq2 := sA8 _ _ gq2
      have gq3 := sA8 _ _ gq3
      have gq4 := sA8 _ _ gq4
      have D := D.same sA8
      have Kk := Kk.trans (.of sA8)
      exact q q5 vq5 _ gq5 nq5 wq5 (by omega) D Kk
    · refine ⟨_, rfl, rfl, _, rfl, iteF ?_⟩
      refine ⟨_, rfl, rfl, _, rfl, iteF ?_⟩
      refine ⟨_, rfl, rfl, _, rfl, iteF ?_⟩
      refine ⟨_, rfl, rfl, _, rfl, iteF ?_⟩
      refine ⟨_, rfl, rfl, _, rfl, iteF ?_⟩
      refine ⟨_, rfl, rfl, _, rfl, iteF ?_⟩
      refine ⟨_, rfl, rfl, _, rfl, iteT ?_⟩
      refine ⟨_, rfl, _, rfl, d, a, Ln, ns, _, rfl, D, h3, nLn, by rw [List.length_map, ln]; omega, fun v H8 hv D8 k8 => ?_⟩
      obtain ⟨nm, hnm, rfl⟩ := List.mem_map.mp hv
      have hw := k8 _ _ hw nLw
      have h3 := k8 _ _ h3 nLn
      have D := D8
      have Kk := Kk.trans k8
      have anm := Ax.name (gn nm hnm)
      have lnm := anm.1
      have lz : nm.length ≤ sizeLine := Nat.le_of_lt (small1000 (by omega))
      have lup := PyProof.Rows.len_upper nm
      obtain ⟨x0, hx0, mx0⟩ : ∃ x0, (nms.map V.str)[0]? = some (V.str x0) ∧ x0 ∈ nms := ⟨nms[0]'(by omega), by rw [List.getElem?_map, List.getElem?_eq_getElem (by omega)]; rfl, List.getElem_mem _⟩
      obtain ⟨xl, hxl, mxl⟩ : ∃ xl, (nms.map V.str).getLast? = some (V.str xl) ∧ xl ∈ nms := ⟨nms[nms.length - 1]'(by omega), by rw [List.getLast?_eq_getElem?, List.length_map, List.getElem?_map, List.getElem?_eq_getElem (by omega)]; rfl, List.getElem_mem _⟩
      refine ⟨_, rfl, _, rfl, _, rfl, _, _, rfl, rfl, Nat.le_of_lt (small1000 (by show _ + 1 ≤ _; omega)), ?_⟩
      refine ⟨_, rfl, ⟨_, rfl⟩, nm, rfl, rfl, by omega, ?_⟩
      refine ⟨_, rfl, _, rfl, -1, rfl, nm, rfl, lz, ?_⟩
      refine ⟨_, rfl, Ln, _, 0, _, rfl, rfl, SqL.of h3, at_of (j := 0) (by decide) hx0, _, rfl, _, rfl, Ln, _, -1, _, rfl, rfl, SqL.of h3, at_last hxl, (by show 9 ≤ sizeLine; decide), fun p1 hp1 => ?_⟩
      have w9 := wds9 anm (Ax.name (gn x0 mx0)) (Ax.name (gn xl mxl))
      have sA1 := same_new (o := .lst ((s9 nm x0 xl).map V.str)) hp1
      have gp1 := new_at (o := .lst ((s9 nm x0 xl).map V.str)) hp1
      have np1 := D.ne hp1
      have hw := sA1 _ _ hw
      have h3 := sA1 _ _ h3
      have D := D.same sA1
      have Kk := Kk.trans (.of sA1)
      refine ⟨_, rfl, _, _, rfl, rfl, ⟨by decide, by decide⟩, _, _, rfl, rfl, .inl ⟨by omega, by omega⟩, _, _, rfl, rfl, ?_⟩
      refine ⟨_, rfl, _, rfl, at' / 2 * 2 + 1, rfl, Lw, _, rfl, SqL.of hw, fun q1 hq1 => ?_⟩
      obtain ⟨vq1, eq1, lq1, mq1⟩ := cutV_strs2 ws none (some (at' / 2 * 2 + 1))
      rw [eq1]
      rw [sIx_nn (v := at' / 2 * 2 + 1) (by omega), HT.sIx_none] at lq1
      have wq1 := wd.sub mq1
      have sA2 := same_new (o := .lst (vq1.map V.str)) hq1
      have gq1 := new_at (o := .lst (vq1.map V.str)) hq1
      have nq1 := D.ne hq1
      have hw := sA2 _ _ hw
      have h3 := sA2 _ _ h3
      have gp1 := sA2 _ _ gp1
      have D := D.same sA2
      have Kk := Kk.trans (.of sA2)
      refine ⟨_, rfl, _, rfl, d, a, p1, ns, _, rfl, D, gp1, np1, (by show 0 < 9; decide), fun v H9 hv D9 k9 => ⟨(by show 1 ≤ sizeLine; decide), fun q2 hq2 => ?_⟩⟩
      obtain ⟨x, hx, rfl⟩ := List.mem_map.mp hv
      have wq2 := Wds.one (w9 x hx)
      obtain ⟨vq2, evq2⟩ : ∃ v, v = [x] := ⟨_, rfl⟩
      have lq2 : vq2.length = 1 := by rw [evq2]; rfl
      rw [← evq2] at wq2
      have hw := k9 _ _ hw nLw
      have gq1 := k9 _ _ gq1 nq1
      have D := D9
      have Kk := Kk.trans k9
      have sA3 := same_new (o := .lst ([x].map V.str)) hq2
      have gq2 := new_at (o := .lst ([x].map V.str)) hq2
      have nq2 := D.ne hq2
      have hw := sA3 _ _ hw
      have gq1 := sA3 _ _ gq1
      have D := D.same sA3
      have Kk := Kk.trans (.of sA3)
      have gq2 : _ = some (HO.lst (vq2.map V.str)) := (show _ = some (HO.lst ([x].map V.str)) from gq2).trans (by rw [evq2])
      refine ⟨q1, q2, _, _, rfl, rfl, gq1, gq2, Nat.le_of_lt (small1000 (by rw [List.length_map, List.length_map]; omega)), fun q3 hq3 => ?_⟩
      rw [← List.map_append]
      have wq3 := wq1.app wq2
      have lq3 : (vq1 ++ vq2).length = vq1.length + vq2.length := List.length_append
      obtain ⟨vq3, evq3⟩ : ∃ v, v = vq1 ++ vq2 := ⟨_, rfl⟩
      rw [← evq3] at wq3 lq3 ⊢
      have sA4 := same_new (o := .lst (vq3.map V.str)) hq3
      have gq3 := new_at (o := .lst (vq3.map V.str)) hq3
      have nq3 := D.ne hq3
      have hw := sA4 _ _ hw
      have gq1 := sA4 _ _ gq1
      have gq2 := sA4 _ _ gq2
      have D := D.same sA4
      have Kk := Kk.trans (.of sA4)
      refine ⟨_, rfl, _, rfl, _, _, rfl, rfl, at' / 2 * 2 + 1 + 1, rfl, Lw, _, rfl, SqL.of hw, fun q4 hq4 => ?_⟩
      obtain ⟨vq4, eq4, lq4, mq4⟩ := cutV_strs2 ws (some (at' / 2 * 2 + 1 + 1)) none
      rw [eq4]
      rw [HT.sIx_none, sIx_nn (v := at' / 2 * 2 + 1 + 1) (by omega)] at lq4
      have wq4 := wd.sub mq4
      have sA5 := same_new (o := .lst (vq4.map V.str)) hq4
      have gq4 := new_at (o := .lst (vq4.map V.str)) hq4
      have nq4 := D.ne hq4
      have hw := sA5 _ _ hw
      have gq1 := sA5 _ _ gq1
      have gq2 := sA5 _ _ gq2
      have gq3 := sA5 _ _ gq3
      have D := D.same sA5
      have Kk := Kk.trans (.of sA5)
      refine ⟨q3, q4, _, _, rfl, rfl, gq3, gq4, Nat.le_of_lt (small1000 (by rw [List.length_map, List.length_map]; omega)), fun q5 hq5 => ?_⟩
      rw [← List.map_append]
      have wq5 := wq3.app wq4
      have lq5 : (vq3 ++ vq4).length = vq3.length + vq4.length := List.length_append
      obtain ⟨vq5, evq5⟩ : ∃ v, v = vq3 ++ vq4 := ⟨_, rfl⟩
      rw [← evq5] at wq5 lq5 ⊢
      have sA6 := same_new (o := .lst (vq5.map V.str)) hq5
      have gq5 := new_at (o := .lst (vq5.map V.str)) hq5
      have nq5 := D.ne hq5
      have hw := sA6 _ _ hw
      have gq1 := sA6 _ _ gq1
      have gq2 := sA6 _ _ gq2
      have gq3 := sA6 _ _ gq3
      have gq4 := sA6 _ _ gq4
      have D := D.same sA6
      have Kk := Kk.trans (.of sA6)
      exact q q5 vq5 _ gq5 nq5 wq5 (by omega) D Kk
    · refine ⟨_, rfl, rfl, _, rfl, iteF ?_⟩
      refine ⟨_, rfl, rfl, _, rfl, iteF ?_⟩
      refine ⟨_, rfl, rfl, _, rfl, iteF ?_⟩
      refine ⟨_, rfl, rfl, _, rfl, iteF ?_⟩
      refine ⟨_, rfl, rfl, _, rfl, iteF ?_⟩
      refine ⟨_, rfl, rfl, _, rfl, iteF ?_⟩
      refine ⟨_, rfl, rfl, _, rfl, iteF ?_⟩
      obtain ⟨x0, hx0, mx0⟩ : ∃ x0, (nms.map V.str)[0]? = some (V.str x0) ∧ x0 ∈ nms := ⟨nms[0]'(by omega), by rw [List.getElem?_map, List.getElem?_eq_getElem (by omega)]; rfl, List.getElem_mem _⟩
      obtain ⟨xl, hxl, mxl⟩ : ∃ xl, (nms.map V.str).getLast? = some (V.str xl) ∧ xl ∈ nms := ⟨nms[nms.length - 1]'(by omega), by rw [List.getLast?_eq_getElem?, List.length_map, List.getElem?_map, List.getElem?_eq_getElem (by omega)]; rfl, List.getElem_mem _⟩
      have bse : Wds [Str.ofString "", Str.ofString "0", Str.ofString "00", Str.ofString "1", x0, xl] := by
        have c : Wds [Str.ofString "", Str.ofString "0", Str.ofString "00", Str.ofString "1"] := by unfold Wds Ax Asc; decide +kernel
        have e : Wds [x0, xl] := fun y hy => by
          simp only [List.mem_cons, List.not_mem_nil, or_false] at hy
          rcases hy with h | h
          · rw [h]; exact (Ax.name (gn x0 mx0)).mono (by decide)
          · rw [h]; exact (Ax.name (gn xl mxl)).mono (by decide)
        exact c.app e
      refine ⟨(by show 0 ≤ sizeLine; decide), fun a1 ha1 => ?_⟩
      have sA1 := same_new (o := .lst (([] : List Str).map V.str)) ha1
      have ga1 := new_at (o := .lst (([] : List Str).map V.str)) ha1
      have na1 := D.ne ha1
      have hw := sA1 _ _ hw
      have h3 := sA1 _ _ h3
      have D := D.same sA1
      have Kk := Kk.trans (.of sA1)
      refine ⟨(by show 1 ≤ sizeLine; decide), fun a2 ha2 => ?_⟩
      have sA2 := same_new (o := .lst (([Str.ofString ""] : List Str).map V.str)) ha2
      have ga2 := new_at (o := .lst (([Str.ofString ""] : List Str).map V.str)) ha2
      have na2 := D.ne ha2
      have hw := sA2 _ _ hw
      have h3 := sA2 _ _ h3
      have ga1 := sA2 _ _ ga1
      have D := D.same sA2
      have Kk := Kk.trans (.of sA2)
      refine ⟨(by show 1 ≤ sizeLine; decide), fun a3 ha3 => ?_⟩
      have sA3 := same_new (o := .lst (([Str.ofString "0"] : List Str).map V.str)) ha3
      have ga3 := new_at (o := .lst (([Str.ofString "0"] : List Str).map V.str)) ha3
      have na3 := D.ne ha3
      have hw := sA3 _ _ hw
      have h3 := sA3 _ _ h3
      have ga1 := sA3 _ _ ga1
      have ga2 := sA3 _ _ ga2
      have D := D.same sA3
      have Kk := Kk.trans (.of sA3)
      refine ⟨_, rfl, Ln, _, 0, _, rfl, rfl, SqL.of h3, at_of (j := 0) (by decide) hx0, (by show 2 ≤ sizeLine; decide), fun a4 ha4 => ?_⟩
      have sA4 := same_new (o := .lst (([Str.ofString "0", x0] : List Str).map V.str)) ha4
      have ga4 := new_at (o := .lst (([Str.ofString "0", x0] : List Str).map V.str)) ha4
      have na4 := D.ne ha4
      have hw := sA4 _ _ hw
      have h3 := sA4 _ _ h3
      have ga1 := sA4 _ _ ga1
      have ga2 := sA4 _ _ ga2
      have ga3 := sA4 _ _ ga3
      have D := D.same sA4
      have Kk := Kk.trans (.of sA4)
      refine ⟨_, rfl, _, rfl, Ln, _, -1, _, rfl, rfl, SqL.of h3, at_last hxl, (by show 2 ≤ sizeLine; decide), fun a5 ha5 => ?_⟩
      have sA5 := same_new (o := .lst (([Str.ofString "0", xl] : List Str).map V.str)) ha5
      have ga5 := new_at (o := .lst (([Str.ofString "0", xl] : List Str).map V.str)) ha5
      have na5 := D.ne ha5
      have hw := sA5 _ _ hw
      have h3 := sA5 _ _ h3
      have ga1 := sA5 _ _ ga1
      have ga2 := sA5 _ _ ga2
      have ga3 := sA5 _ _ ga3
      have ga4 := sA5 _ _ ga4
      have D := D.same sA5
      have Kk := Kk.trans (.of sA5)
      refine ⟨_, rfl, Ln, _, 0, _, rfl, rfl, SqL.of h3, at_of (j := 0) (by decide) hx0, (by show 1 ≤ sizeLine; decide), fun a6 ha6 => ?_⟩
      have sA6 := same_new (o := .lst (([x0] : List Str).map V.str)) ha6
      have ga6 := new_at (o := .lst (([x0] : List Str).map V.str)) ha6
      have na6 := D.ne ha6
      have hw := sA6 _ _ hw
      have h3 := sA6 _ _ h3
      have ga1 := sA6 _ _ ga1
      have ga2 := sA6 _ _ ga2
      have ga3 := sA6 _ _ ga3
      have ga4 := sA6 _ _ ga4
      have ga5 := sA6 _ _ ga5
      have D := D.same sA6
      have Kk := Kk.trans (.of sA6)
      refine ⟨_, rfl, _, rfl, Ln, _, -1, _, rfl, rfl, SqL.of h3, at_last hxl, (by show 3 ≤ sizeLine; decide), fun a7 ha7 => ?_⟩
      have sA7 := same_new (o := .lst (([Str.ofString "", Str.ofString "0", xl] : List Str).map V.str)) ha7
      have ga7 := new_at (o := .lst (([Str.ofString "", Str.ofString "0", xl] : List Str).map V.str)) ha7
      have na7 := D.ne ha7
      have hw := sA7 _ _ hw
      have h3 := sA7 _ _ h3
      have ga1 := sA7 _ _ ga1
      have ga2 := sA7 _ _ ga2
      have ga3 := sA7 _ _ ga3
      have ga4 := sA7 _ _ ga4
      have ga5 := sA7 _ _ ga5
      have ga6 := sA7 _ _ ga6
      have D := D.same sA7
      have Kk := Kk.trans (.of sA7)
      refine ⟨_, rfl, _, rfl, Ln, _, -1, _, rfl, rfl, SqL.of h3, at_last hxl, (by show 2 ≤ sizeLine; decide), fun a8 ha8 => ?_⟩
      have sA8 := same_new (o := .lst (([Str.ofString "00", xl] : List Str).map V.str)) ha8
      have ga8 := new_at (o := .lst (([Str.ofString "00", xl] : List Str).map V.str)) ha8
      have na8 := D.ne ha8
      have hw := sA8 _ _ hw
      have h3 := sA8 _ _ h3
      have ga1 := sA8 _ _ ga1
      have ga2 := sA8 _ _ ga2
      have ga3 := sA8 _ _ ga3
      have ga4 := sA8 _ _ ga4
      have ga5 := sA8 _ _ ga5
      have ga6 := sA8 _ _ ga6
      have ga7 := sA8 _ _ ga7
      have D := D.same sA8
      have Kk := Kk.trans (.of sA8)
      refine ⟨(by show 8 ≤ sizeLine; decide), fun p1 hp1 => ?_⟩
      have sA9 := same_new (o := .lst ([a1, a2, a3, a4, a5, a6, a7, a8].map V.ref)) hp1
      have gp1 := new_at (o := .lst ([a1, a2, a3, a4, a5, a6, a7, a8].map V.ref)) hp1
      have np1 := D.ne hp1
      have hw := sA9 _ _ hw
      have h3 := sA9 _ _ h3
      have ga1 := sA9 _ _ ga1
      have ga2 := sA9 _ _ ga2
      have ga3 := sA9 _ _ ga3
      have ga4 := sA9 _ _ ga4
      have ga5 := sA9 _ _ ga5
      have ga6 := sA9 _ _ ga6
      have ga7 := sA9 _ _ ga7
      have ga8 := sA9 _ _ ga8
      have D := D.same sA9
      have Kk := Kk.trans (.of sA9)
      refine ⟨_, rfl, _, rfl, ?_⟩
      refine ⟨_, rfl, _, rfl, Ln, _, -1, _, rfl, rfl, SqL.of h3, at_last hxl, (by show 3 ≤ sizeLine; decide), fun b1 hb1 => ?_⟩
      have sA10 := same_new (o := .lst (([Str.ofString "0", xl, Str.ofString ""] : List Str).map V.str)) hb1
      have gb1 := new_at (o := .lst (([Str.ofString "0", xl, Str.ofString ""] : List Str).map V.str)) hb1
      have nb1 := D.ne hb1
      have hw := sA10 _ _ hw
      have h3 := sA10 _ _ h3
      have ga1 := sA10 _ _ ga1
      have ga2 := sA10 _ _ ga2
      have ga3 := sA10 _ _ ga3
      have ga4 := sA10 _ _ ga4
      have ga5 := sA10 _ _ ga5
      have ga6 := sA10 _ _ ga6
      have ga7 := sA10 _ _ ga7
      have ga8 := sA10 _ _ ga8
      have gp1 := sA10 _ _ gp1
      have D := D.same sA10
      have Kk := Kk.trans (.of sA10)
      refine ⟨_, rfl, Ln, _, 0, _, rfl, rfl, SqL.of h3, at_of (j := 0) (by decide) hx0, _, rfl, _, rfl, Ln, _, -1, _, rfl, rfl, SqL.of h3, at_last hxl, (by show 4 ≤ sizeLine; decide), fun b2 hb2 => ?_⟩
      have sA11 := same_new (o := .lst (([Str.ofString "1", x0, Str.ofString "0", xl] : List Str).map V.str)) hb2
      have gb2 := new_at (o := .lst (([Str.ofString "1", x0, Str.ofString "0", xl] : List Str).map V.str)) hb2
      have nb2 := D.ne hb2
      have hw := sA11 _ _ hw
      have h3 := sA11 _ _ h3
      have ga1 := sA11 _ _ ga1
      have ga2 := sA11 _ _ ga2
      have ga3 := sA11 _ _ ga3
      have ga4 := sA11 _ _ ga4
      have ga5 := sA11 _ _ ga5
      have ga6 := sA11 _ _ ga6
      have ga7 := sA11 _ _ ga7
      have ga8 := sA11 _ _ ga8
      have gp1 := sA11 _ _ gp1
      have gb1 := sA11 _ _ gb1
      have D := D.same sA11
      have Kk := Kk.trans (.of sA11)
      refine ⟨_, rfl, _, rfl, Ln, _, -1, _, rfl, rfl, SqL.of h3, at_last hxl, (by show 2 ≤ sizeLine; decide), fun c1 hc1 => ?_⟩
      have sA12 := same_new (o := .lst (([Str.ofString "0", xl] : List Str).map V.str)) hc1
      have gc1 := new_at (o := .lst (([Str.ofString "0", xl] : List Str).map V.str)) hc1
      have nc1 := D.ne hc1
      have hw := sA12 _ _ hw
      have h3 := sA12 _ _ h3
      have ga1 := sA12 _ _ ga1
      have ga2 := sA12 _ _ ga2
      have ga3 := sA12 _ _ ga3
      have ga4 := sA12 _ _ ga4
      have ga5 := sA12 _ _ ga5
      have ga6 := sA12 _ _ ga6
      have ga7 := sA12 _ _ ga7
      have ga8 := sA12 _ _ ga8
      have gp1 := sA12 _ _ gp1
      have gb1 := sA12 _ _ gb1
      have gb2 := sA12 _ _ gb2
      have D := D.same sA12
      have Kk := Kk.trans (.of sA12)
      refine ⟨c1, 2, _, rfl, rfl, gc1, by decide, by decide, (by show 2 * 2 ≤ sizeLine; decide), fun b3 hb3 => ?_⟩
      have sA13 := same_new (o := .lst (([Str.ofString "0", xl, Str.ofString "0", xl] : List Str).map V.str)) hb3
      have gb3 := new_at (o := .lst (([Str.ofString "0", xl, Str.ofString "0", xl] : List Str).map V.str)) hb3
      have nb3 := D.ne hb3
      have hw := sA13 _ _ hw
      have h3 := sA13 _ _ h3
      have ga1 := sA13 _ _ ga1
      have ga2 := sA13 _ _ ga2
      have ga3 := sA13 _ _ ga3
      have ga4 := sA13 _ _ ga4
      have ga5 := sA13 _ _ ga5
      have ga6 := sA13 _ _ ga6
      have ga7 := sA13 _ _ ga7
      have ga8 := sA13 _ _ ga8
      have gp1 := sA13 _ _ gp1
      have gb1 := sA13 _ _ gb1
      have gb2 := sA13 _ _ gb2
      have gc1 := sA13 _ _ gc1
      have D := D.same sA13
      have Kk := Kk.trans (.of sA13)
      refine ⟨(by show 3 ≤ sizeLine; decide), fun p2 hp2 => ?_⟩
      have sA14 := same_new (o := .lst ([b1, b2, b3].map V.ref)) hp2
      have gp2 := new_at (o := .lst ([b1, b2, b3].map V.ref)) hp2
      have np2 := D.ne hp2
      have hw := sA14 _ _ hw
      have h3 := sA14 _ _ h3
      have ga1 := sA14 _ _ ga1
      have ga2 := sA14 _ _ ga2
      have ga3 := sA14 _ _ ga3
      have ga4 := sA14 _ _ ga4
      have ga5 := sA14 _ _ ga5
      have ga6 := sA14 _ _ ga6
      have ga7 := sA14 _ _ ga7
      have ga8 := sA14 _ _ ga8
      have gp1 := sA14 _ _ gp1
      have gb1 := sA14 _ _ gb1
      have gb2 := sA14 _ _ gb2
      have gc1 := sA14 _ _ gc1
      have gb3 := sA14 _ _ gb3
      have D := D.same sA14
      have Kk := Kk.trans (.of sA14)
      refine ⟨p1, p2, _, _, rfl, rfl, gp1, gp2, (by show 8 + 3 ≤ sizeLine; decide), fun p3 hp3 => ?_⟩
      have sA15 := same_new (o := .lst ([a1, a2, a3, a4, a5, a6, a7, a8, b1, b2, b3].map V.ref)) hp3
      have gp3 := new_at (o := .lst ([a1, a2, a3, a4, a5, a6, a7, a8, b1, b2, b3].map V.ref)) hp3
      have np3 := D.ne hp3
      have hw := sA15 _ _ hw
      have h3 := sA15 _ _ h3
      have ga1 := sA15 _ _ ga1
      have ga2 := sA15 _ _ ga2
      have ga3 := sA15 _ _ ga3
      have ga4 := sA15 _ _ ga4
      have ga5 := sA15 _ _ ga5
      have ga6 := sA15 _ _ ga6
      have ga7 := sA15 _ _ ga7
      have ga8 := sA15 _ _ ga8
      have gp1 := sA15 _ _ gp1
      have gb1 := sA15 _ _ gb1
      have gb2 := sA15 _ _ gb2
      have gc1 := sA15 _ _ gc1
      have gb3 := sA15 _ _ gb3
      have gp2 := sA15 _ _ gp2
      have D := D.same sA15
      have Kk := Kk.trans (.of sA15)
      refine ⟨d, a, p3, ns, _, rfl, D, gp3, np3, (by show 0 < 11; decide), fun v H9 hv D9 k9 => ?_⟩
      have hv : v ∈ ([a1, a2, a3, a4, a5, a6, a7, a8, b1, b2, b3].map V.ref) := hv
      simp only [List.map_cons, List.map_nil, List.mem_cons, List.not_mem_nil, or_false] at hv
      rcases hv with rfl | rfl | rfl | rfl | rfl | rfl | rfl | rfl | rfl | rfl | rfl
      · exact q a1 [] H9 (k9 _ _ ga1 na1) na1 (bse.sub (by simp)) (by show 0 ≤ _; omega) D9 (Kk.trans k9)
      · exact q a2 [Str.ofString ""] H9 (k9 _ _ ga2 na2) na2 (bse.sub (by simp)) (by show 1 ≤ _; omega) D9 (Kk.trans k9)
      · exact q a3 [Str.ofString "0"] H9 (k9 _ _ ga3 na3) na3 (bse.sub (by simp)) (by show 1 ≤ _; omega) D9 (Kk.trans k9)
      · exact q a4 [Str.ofString "0", x0] H9 (k9 _ _ ga4 na4) na4 (bse.sub (by simp)) (by show 2 ≤ _; omega) D9 (Kk.trans k9)
      · exact q a5 [Str.ofString "0", xl] H9 (k9 _ _ ga5 na5) na5 (bse.sub (by simp)) (by show 2 ≤ _; omega) D9 (Kk.trans k9)
      · exact q a6 [x0] H9 (k9 _ _ ga6 na6) na6 (bse.sub (by simp)) (by show 1 ≤ _; omega) D9 (Kk.trans k9)
      · exact q a7 [Str.ofString "", Str.ofString "0", xl] H9 (k9 _ _ ga7 na7) na7 (bse.sub (by simp)) (by show 3 ≤ _; omega) D9 (Kk.trans k9)
      · exact q a8 [Str.ofString "00", xl] H9 (k9 _ _ ga8 na8) na8 (bse.sub (by simp)) (by show 2 ≤ _; omega) D9 (Kk.trans k9)
      · exact q b1 [Str.ofString "0", xl, Str.ofString ""] H9 (k9 _ _ gb1 nb1) nb1 (bse.sub (by simp)) (by show 3 ≤ _; omega) D9 (Kk.trans k9)
      · exact q b2 [Str.ofString "1", x0, Str.ofString "0", xl] H9 (k9 _ _ gb2 nb2) nb2 (bse.sub (by simp)) (by show 4 ≤ _; omega) D9 (Kk.trans k9)
      · exact q b3 [Str.ofString "0", xl, Str.ofString "0", xl] H9 (k9 _ _ gb3 nb3) nb3 (bse.sub (by simp)) (by show 4 ≤ _; omega) D9 (Kk.trans k9)
end
end Ck
set_option Elab.async false
set_option linter.all false
set_option pp.maxSteps 1500
set_option maxRecDepth 100000
set_option maxHeartbeats 4000000
namespace Ck
open PySem L2
section
variable {P : Program} {w : World} {K : PySem.W.Frag} {mg : Str → Option Value} {base : Heap} {t : Ad}
theorem dp_bls {K : PySem.W.Frag} {H : Hp} : ∀ bs : List Bool, DpAll K H (bs.map V.bl) (bs.map PyData.bool)
  | [] => .nil
  | b :: r => .cons (.bl b) (dp_bls r)
def spAloneA (CN : Addr) : Sp := fun vs H Q _ => ∃ (ea : Addr), vs = [.ref ea, .int 2] ∧ H ea = some (.ext (excAt ea CN)) ∧ ∀ H', Same H H' → Q (.bl true) H'
theorem ok_aloneA (T : Env K mg t) : FnOk P w K mg base CX0 1 t.a_l_alone t.fd_l_alone ["_law_error", "_law_due_here"] (spAloneA t.C_NoAmount) := by
  refine T.f_l_alone.okQ sc_l_alone (fun vs H Q E h => ?_) (fun cdv A outer s H vs Q E hr h => ?_)
  · obtain ⟨ea, rfl, _⟩ := h
    rfl
  · obtain ⟨ea, rfl, he, q⟩ := h
    refine ⟨_, (q_pss_cons (q_ps_set (i := 2) sc_l_alone.nd rfl (by first | exact Or.inl rfl | exact Or.inr (Or.inl rfl) | exact Or.inr rfl) (q_pe_lst (q_pa_cons (q_pe_callB call_isinstG (by rfl) T.z_isinstance (by decide +kernel) (q_pa_cons (q_pv 0) (q_pa_cons (q_pe_glob (v := .ref _) (by rfl) T.mg_NoName rfl) q_pa_nil star_Name) star_Name)) (q_pa_cons (q_pe_callB call_isinstG (by rfl) T.z_isinstance (by decide +kernel) (q_pa_cons (q_pv 0) (q_pa_cons (q_pe_glob (v := .ref _) (by rfl) T.mg_NoMoney rfl) q_pa_nil star_Name) star_Name)) (q_pa_cons (q_pe_callB call_isinstG (by rfl) T.z_isinstance (by decide +kernel) (q_pa_cons (q_pv 0) (q_pa_cons (q_pe_glob (v := .ref _) (by rfl) T.mg_NoAmount rfl) q_pa_nil star_Name) star_Name)) q_pa_nil star_Call) star_Call) star_Call)))
      (q_pss_cons (q_ps_set (i := 2) sc_l_alone.nd rfl (by first | exact Or.inl rfl | exact Or.inr (Or.inl rfl) | exact Or.inr rfl) (q_pe_op op_cat (q_pv 2) (q_pe_lst (q_pa_cons (q_pe_callB call_isinstG (by rfl) T.z_isinstance (by decide +kernel) (q_pa_cons (q_pv 0) (q_pa_cons (q_pe_glob (v := .ref _) (by rfl) T.mg_NoText rfl) q_pa_nil star_Name) star_Name)) (q_pa_cons (q_pe_callB call_isinstG (by rfl) T.z_isinstance (by decide +kernel) (q_pa_cons (q_pv 0) (q_pa_cons (q_pe_glob (v := .ref _) (by rfl) T.mg_NoBridge rfl) q_pa_nil star_Name) star_Name)) (q_pa_cons (q_pe_callB call_isinstG (by rfl) T.z_isinstance (by decide +kernel) (q_pa_cons (q_pv 0) (q_pa_cons (q_pe_glob (v := .ref _) (by rfl) T.mg_NoDay rfl) q_pa_nil star_Name) star_Name)) q_pa_nil star_Call) star_Call) star_Call))))
      (q_pss_cons (q_ps_set (i := 2) sc_l_alone.nd rfl (by first | exact Or.inl rfl | exact Or.inr (Or.inl rfl) | exact Or.inr rfl) (q_pe_op op_cat (q_pv 2) (q_pe_lst (q_pa_cons (q_pe_callB call_isinstG (by rfl) T.z_isinstance (by decide +kernel) (q_pa_cons (q_pv 0) (q_pa_cons (q_pe_glob (v := .ref _) (by rfl) T.mg_NoWorth rfl) q_pa_nil star_Name) star_Name)) (q_pa_cons (q_pe_callB call_isinstG (by rfl) T.z_isinstance (by decide +kernel) (q_pa_cons (q_pv 0) (q_pa_cons (q_pe_glob (v := .ref _) (by rfl) T.mg_NoBook rfl) q_pa_nil star_Name) star_Name)) (q_pa_cons (q_pe_callB call_isinstG (by rfl) T.z_isinstance (by decide +kernel) (q_pa_cons (q_pv 0) (q_pa_cons (q_pe_glob (v := .ref _) (by rfl) T.mg_NoTerm rfl) q_pa_nil star_Name) star_Name)) q_pa_nil star_Call) star_Call) star_Call))))
      (q_pss_cons (q_ps_set (i := 2) sc_l_alone.nd rfl (by first | exact Or.inl rfl | exact Or.inr (Or.inl rfl) | exact Or.inr rfl) (q_pe_op op_cat (q_pv 2) (q_pe_lst (q_pa_cons (q_pe_callB call_isinstG (by rfl) T.z_isinstance (by decide +kernel) (q_pa_cons (q_pv 0) (q_pa_cons (q_pe_glob (v := .ref _) (by rfl) T.mg_NoWeight rfl) q_pa_nil star_Name) star_Name)) (q_pa_cons (q_pe_callB call_isinstG (by rfl) T.z_isinstance (by decide +kernel) (q_pa_cons (q_pv 0) (q_pa_cons (q_pe_glob (v := .ref _) (by rfl) T.mg_NoMany rfl) q_pa_nil star_Name) star_Name)) (q_pa_cons (q_pe_callB call_isinstG (by rfl) T.z_isinstance (by decide +kernel) (q_pa_cons (q_pv 0) (q_pa_cons (q_pe_glob (v := .ref _) (by rfl) T.mg_NoKinds rfl) q_pa_nil star_Name) star_Name)) q_pa_nil star_Call) star_Call) star_Call))))
      (q_pss_cons (q_ps_set (i := 2) sc_l_alone.nd rfl (by first | exact Or.inl rfl | exact Or.inr (Or.inl rfl) | exact Or.inr rfl) (q_pe_op op_cat (q_pv 2) (q_pe_lst (q_pa_cons (q_pe_callB call_isinstG (by rfl) T.z_isinstance (by decide +kernel) (q_pa_cons (q_pv 0) (q_pa_cons (q_pe_glob (v := .ref _) (by rfl) T.mg_Lacking rfl) q_pa_nil star_Name) star_Name)) (q_pa_cons (q_pe_callB call_isinstG (by rfl) T.z_isinstance (by decide +kernel) (q_pa_cons (q_pv 0) (q_pa_cons (q_pe_glob (v := .ref _) (by rfl) T.mg_NoRow rfl) q_pa_nil star_Name) star_Name)) (q_pa_cons (q_pe_callB call_isinstG (by rfl) T.z_isinstance (by decide +kernel) (q_pa_cons (q_pv 0) (q_pa_cons (q_pe_glob (v := .ref _) (by rfl) T.mg_NoStock rfl) q_pa_nil star_Name) star_Name)) q_pa_nil star_Call) star_Call) star_Call))))
      (q_pss_cons (q_ps_set (i := 2) sc_l_alone.nd rfl (by first | exact Or.inl rfl | exact Or.inr (Or.inl rfl) | exact Or.inr rfl) (q_pe_op op_cat (q_pv 2) (q_pe_lst (q_pa_cons (q_pe_callB call_isinstG (by rfl) T.z_isinstance (by decide +kernel) (q_pa_cons (q_pv 0) (q_pa_cons (q_pe_glob (v := .ref _) (by rfl) T.mg_NoDebt rfl) q_pa_nil star_Name) star_Name)) (q_pa_cons (q_pe_callB call_isinstG (by rfl) T.z_isinstance (by decide +kernel) (q_pa_cons (q_pv 0) (q_pa_cons (q_pe_glob (v := .ref _) (by rfl) T.mg_NoPeople rfl) q_pa_nil star_Name) star_Name)) (q_pa_cons (q_pe_callB call_isinstG (by rfl) T.z_isinstance (by decide +kernel) (q_pa_cons (q_pv 0) (q_pa_cons (q_pe_glob (v := .ref _) (by rfl) T.mg_NoDeed rfl) q_pa_nil star_Name) star_Name)) q_pa_nil star_Call) star_Call) star_Call))))
      (q_pss_cons (q_ps_set (i := 2) sc_l_alone.nd rfl (by first | exact Or.inl rfl | exact Or.inr (Or.inl rfl) | exact Or.inr rfl) (q_pe_op op_cat (q_pv 2) (q_pe_lst (q_pa_cons (q_pe_callB call_isinstG (by rfl) T.z_isinstance (by decide +kernel) (q_pa_cons (q_pv 0) (q_pa_cons (q_pe_glob (v := .ref _) (by rfl) T.mg_Shut rfl) q_pa_nil star_Name) star_Name)) (q_pa_cons (q_pe_callB call_isinstG (by rfl) T.z_isinstance (by decide +kernel) (q_pa_cons (q_pv 0) (q_pa_cons (q_pe_glob (v := .ref _) (by rfl) T.mg_TooMany rfl) q_pa_nil star_Name) star_Name)) q_pa_nil star_Call) star_Call))))
      (q_pss_one (q_ps_ret (q_pe_and (q_pe_cmpR (op_eqD hr.units) (q_pv 2) (q_pe_lc (own := [("_law_k", 3)]) (g := gName 3) (by rfl) sc_l_alone.nd (q_pi_range1 (by rfl) T.z_range (q_pa_cons q_pe_int q_pa_nil star_Constant)) (blkOk_by (own := [("_law_k", 3)]) (N := ["_law_error", "_law_due_here", "_law_kinds", "_law_k"]) (sc := defScope s_l_alone) (by decide +kernel)) (fun _ _ _ _ _ => (q_pg_name (i := 3) sc_l_alone.nd rfl (by first | exact Or.inl rfl | exact Or.inr (Or.inl rfl) | exact Or.inr rfl))) (fun _ _ _ _ _ => q_pts_nil) (fun _ _ _ _ _ => (q_pe_cmpR op_eq (q_pv 3) (q_pv 1) (nomark _)))) (nomark _)) (q_pe_one (q_pe_callB call_isinstG (by rfl) T.z_isinstance (by decide +kernel) (q_pa_cons (q_pv 0) (q_pa_cons (q_pe_bltn (v := .ty "ValueError") (by rfl) T.z_ValueError (by decide +kernel) rfl) q_pa_nil star_Name) star_Name))))))))))))), ?_⟩
    refine ⟨_, rfl, _, _, _, _, _, rfl, rfl, .exc he T.ex_NoAmount, T.is_NoAmount_NoName, _, rfl, _, _, _, _, _, rfl, rfl, .exc he T.ex_NoAmount, T.is_NoAmount_NoMoney, _, rfl, _, _, _, _, _, rfl, rfl, .exc he T.ex_NoAmount, T.is_NoAmount_NoAmount, (by show 3 ≤ sizeLine; decide), fun l0 h0 => ?_⟩
    have s0 := same_new (o := .lst ([false, false, true].map V.bl)) h0
    have e0 := s0 _ _ he
    have k0 := new_at (o := .lst ([false, false, true].map V.bl)) h0
    refine ⟨_, rfl, _, rfl, _, _, _, _, _, rfl, rfl, .exc e0 T.ex_NoAmount, T.is_NoAmount_NoText, _, rfl, _, _, _, _, _, rfl, rfl, .exc e0 T.ex_NoAmount, T.is_NoAmount_NoBridge, _, rfl, _, _, _, _, _, rfl, rfl, .exc e0 T.ex_NoAmount, T.is_NoAmount_NoDay, (by show 3 ≤ sizeLine; decide), fun m1 hm1 => ?_⟩
    have t1 := same_new (o := .lst ([false, false, false].map V.bl)) hm1
    refine ⟨l0, m1, _, _, rfl, rfl, t1 _ _ k0, upd_same, (by show 3 + 3 ≤ sizeLine; decide), fun l1 h1 => ?_⟩
    have s1 := (s0.trans t1).trans (same_new (o := .lst ([false, false, true, false, false, false].map V.bl)) h1)
    have e1 := s1 _ _ he
    have k1 := new_at (o := .lst ([false, false, true, false, false, false].map V.bl)) h1
    refine ⟨_, rfl, _, rfl, _, _, _, _, _, rfl, rfl, .exc e1 T.ex_NoAmount, T.is_NoAmount_NoWorth, _, rfl, _, _, _, _, _, rfl, rfl, .exc e1 T.ex_NoAmount, T.is_NoAmount_NoBook, _, rfl, _, _, _, _, _, rfl, rfl, .exc e1 T.ex_NoAmount, T.is_NoAmount_NoTerm, (by show 3 ≤ sizeLine; decide), fun m2 hm2 => ?_⟩
    have t2 := same_new (o := .lst ([false, false, false].map V.bl)) hm2
    refine ⟨l1, m2, _, _, rfl, rfl, t2 _ _ k1, upd_same, (by show 6 + 3 ≤ sizeLine; decide), fun l2 h2 => ?_⟩
    have s2 := (s1.trans t2).trans (same_new (o := .lst ([false, false, true, false, false, false, false, false, false].map V.bl)) h2)
    have e2 := s2 _ _ he
    have k2 := new_at (o := .lst ([false, false, true, false, false, false, false, false, false].map V.bl)) h2
    refine ⟨_, rfl, _, rfl, _, _, _, _, _, rfl, rfl, .exc e2 T.ex_NoAmount, T.is_NoAmount_NoWeight, _, rfl, _, _, _, _, _, rfl, rfl, .exc e2 T.ex_NoAmount, T.is_NoAmount_NoMany, _, rfl, _, _, _, _, _, rfl, rfl, .exc e2 T.ex_NoAmount, T.is_NoAmount_NoKinds, (by show 3 ≤ sizeLine; decide), fun m3 hm3 => ?_⟩
    have t3 := same_new (o := .lst ([false, false, false].map V.bl)) hm3
    refine ⟨l2, m3, _, _, rfl, rfl, t3 _ _ k2, upd_same, (by show 9 + 3 ≤ sizeLine; decide), fun l3 h3 => ?_⟩
    have s3 := (s2.trans t3).trans (same_new (o := .lst ([false, false, true, false, false, false, false, false, false, false, false, false].map V.bl)) h3)
    have e3 := s3 _ _ he
    have k3 := new_at (o := .lst ([false, false, true, false, false, false, false, false, false, false, false, false].map V.bl)) h3
    refine ⟨_, rfl, _, rfl, _, _, _, _, _, rfl, rfl, .exc e3 T.ex_NoAmount, T.is_NoAmount_Lacking, _, rfl, _, _, _, _, _, rfl, rfl, .exc e3 T.ex_NoAmount, T.is_NoAmount_NoRow, _, rfl, _, _, _, _, _, rfl, rfl, .exc e3 T.ex_NoAmount, T.is_NoAmount_NoStock, (by show 3 ≤ sizeLine; decide), fun m4 hm4 => ?_⟩
    have t4 := same_new (o := .lst ([false, false, false].map V.bl)) hm4
    refine ⟨l3, m4, _, _, rfl, rfl, t4 _ _ k3, upd_same, (by show 12 + 3 ≤ sizeLine; decide), fun l4 h4 => ?_⟩
    have s4 := (s3.trans t4).trans (same_new (o := .lst ([false, false, true, false, false, false, false, false, false, false, false, false, false, false, false].map V.bl)) h4)
    have e4 := s4 _ _ he
    have k4 := new_at (o := .lst ([false, false, true, false, false, false, false, false, false, false, false, false, false, false, false].map V.bl)) h4
    refine ⟨_, rfl, _, rfl, _, _, _, _, _, rfl, rfl, .exc e4 T.ex_NoAmount, T.is_NoAmount_NoDebt, _, rfl, _, _, _, _, _, rfl, rfl, .exc e4 T.ex_NoAmount, T.is_NoAmount_NoPeople, _, rfl, _, _, _, _, _, rfl, rfl, .exc e4 T.ex_NoAmount, T.is_NoAmount_NoDeed, (by show 3 ≤ sizeLine; decide), fun m5 hm5 => ?_⟩
    have t5 := same_new (o := .lst ([false, false, false].map V.bl)) hm5
    refine ⟨l4, m5, _, _, rfl, rfl, t5 _ _ k4, upd_same, (by show 15 + 3 ≤ sizeLine; decide), fun l5 h5 => ?_⟩
    have s5 := (s4.trans t5).trans (same_new (o := .lst ([false, false, true, false, false, false, false, false, false, false, false, false, false, false, false, false, false, false].map V.bl)) h5)
    have e5 := s5 _ _ he
    have k5 := new_at (o := .lst ([false, false, true, false, false, false, false, false, false, false, false, false, false, false, false, false, false, false].map V.bl)) h5
    refine ⟨_, rfl, _, rfl, _, _, _, _, _, rfl, rfl, .exc e5 T.ex_NoAmount, T.is_NoAmount_Shut, _, rfl, _, _, _, _, _, rfl, rfl, .exc e5 T.ex_NoAmount, T.is_NoAmount_TooMany, (by show 2 ≤ sizeLine; decide), fun m6 hm6 => ?_⟩
    have t6 := same_new (o := .lst ([false, false].map V.bl)) hm6
    refine ⟨l5, m6, _, _, rfl, rfl, t6 _ _ k5, upd_same, (by show 18 + 2 ≤ sizeLine; decide), fun l6 h6 => ?_⟩
    have s6 := (s5.trans t6).trans (same_new (o := .lst ([false, false, true, false, false, false, false, false, false, false, false, false, false, false, false, false, false, false, false, false].map V.bl)) h6)
    have e6 := s6 _ _ he
    have k6 := new_at (o := .lst ([false, false, true, false, false, false, false, false, false, false, false, false, false, false, false, false, false, false, false, false].map V.bl)) h6
    refine ⟨_, rfl, 20, rfl, by decide, by decide, fun L hL => ?_⟩
    refine lc_range (lo := 0) (n := 20) (fun i H' => H' L = some (.lst (((List.range i).map fun (k : Nat) => decide (k = 2)).map V.bl)) ∧ Same H H' ∧ H' l6 = some (.lst ([false, false, true, false, false, false, false, false, false, false, false, false, false, false, false, false, false, false, false, false].map V.bl))) ?_ ?_ ?_
    · exact ⟨upd_same, s6.trans (same_new hL), same_new hL _ _ k6⟩
    · rintro i H1 hi ⟨h1, s1, q1⟩
      have nL : l6 ≠ L := ne_of_none k6 hL
      refine ⟨rfl, yes_i ⟨_, rfl, _, rfl, rfl, _, h1, small1000 (by rw [List.length_map, List.length_map, List.length_range]; omega), ?_, fun b o e => ?_, ?_⟩⟩
      · rw [upd_same, List.range_succ, List.map_append, List.map_append]
        have e : decide (V.int (0 + (i : Int)) = V.int 2) = decide (i = 2) := decide_eq_decide.mpr (by rw [V.int.injEq]; omega)
        rw [e]
        rfl
      · rw [upd_ne (ne_of_none (s6 _ _ e) hL)]
        exact s1 b o e
      · rw [upd_ne nL]; exact q1
    · rintro H1 ⟨h1, s1, q1⟩
      refine ⟨.list ([false, false, true, false, false, false, false, false, false, false, false, false, false, false, false, false, false, false, false, false].map PyData.bool), .list (((List.range 20).map fun (k : Nat) => decide (k = 2)).map PyData.bool), .lst (SqL.of q1) (dp_bls _), .lst (SqL.of h1) (dp_bls _), by decide +kernel, by decide +kernel, _, rfl, ?_⟩
      have e : PyData.eqv (.list ([false, false, true, false, false, false, false, false, false, false, false, false, false, false, false, false, false, false, false, false].map PyData.bool)) (.list (((List.range 20).map fun (k : Nat) => decide (k = 2)).map PyData.bool)) = true := by decide +kernel
      rw [e]
      refine iteT ?_
      refine ⟨_, rfl, _, _, _, _, _, rfl, rfl, .exc (s1 _ _ he) T.ex_NoAmount, T.is_NoAmount_ValueError, ?_⟩
      exact q H1 s1
def spAloneT (CN : Addr) : Sp := fun vs H Q _ => ∃ (ea : Addr), vs = [.ref ea, .int 3] ∧ H ea = some (.ext (excAt ea CN)) ∧ ∀ H', Same H H' → Q (.bl true) H'
theorem ok_aloneT (T : Env K mg t) : FnOk P w K mg base CX0 1 t.a_l_alone t.fd_l_alone ["_law_error", "_law_due_here"] (spAloneT t.C_NoText) := by
  refine T.f_l_alone.okQ sc_l_alone (fun vs H Q E h => ?_) (fun cdv A outer s H vs Q E hr h => ?_)
  · obtain ⟨ea, rfl, _⟩ := h
    rfl
  · obtain ⟨ea, rfl, he, q⟩ := h
    refine ⟨_, (q_pss_cons (q_ps_set (i := 2) sc_l_alone.nd rfl (by first | exact Or.inl rfl | exact Or.inr (Or.inl rfl) | exact Or.inr rfl) (q_pe_lst (q_pa_cons (q_pe_callB call_isinstG (by rfl) T.z_isinstance (by decide +kernel) (q_pa_cons (q_pv 0) (q_pa_cons (q_pe_glob (v := .ref _) (by rfl) T.mg_NoName rfl) q_pa_nil star_Name) star_Name)) (q_pa_cons (q_pe_callB call_isinstG (by rfl) T.z_isinstance (by decide +kernel) (q_pa_cons (q_pv 0) (q_pa_cons (q_pe_glob (v := .ref _) (by rfl) T.mg_NoMoney rfl) q_pa_nil star_Name) star_Name)) (q_pa_cons (q_pe_callB call_isinstG (by rfl) T.z_isinstance (by decide +kernel) (q_pa_cons (q_pv 0) (q_pa_cons (q_pe_glob (v := .ref _) (by rfl) T.mg_NoAmount rfl) q_pa_nil star_Name) star_Name)) q_pa_nil star_Call) star_Call) star_Call)))
      (q_pss_cons (q_ps_set (i := 2) sc_l_alone.nd rfl (by first | exact Or.inl rfl | exact Or.inr (Or.inl rfl) | exact Or.inr rfl) (q_pe_op op_cat (q_pv 2) (q_pe_lst (q_pa_cons (q_pe_callB call_isinstG (by rfl) T.z_isinstance (by decide +kernel) (q_pa_cons (q_pv 0) (q_pa_cons (q_pe_glob (v := .ref _) (by rfl) T.mg_NoText rfl) q_pa_nil star_Name) star_Name)) (q_pa_cons (q_pe_callB call_isinstG (by rfl) T.z_isinstance (by decide +kernel) (q_pa_cons (q_pv 0) (q_pa_cons (q_pe_glob (v := .ref _) (by rfl) T.mg_NoBridge rfl) q_pa_nil star_Name) star_Name)) (q_pa_cons (q_pe_callB call_isinstG (by rfl) T.z_isinstance (by decide +kernel) (q_pa_cons (q_pv 0) (q_pa_cons (q_pe_glob (v := .ref _) (by rfl) T.mg_NoDay rfl) q_pa_nil star_Name) star_Name)) q_pa_nil star_Call) star_Call) star_Call))))
      (q_pss_cons (q_ps_set (i := 2) sc_l_alone.nd rfl (by first | exact Or.inl rfl | exact Or.inr (Or.inl rfl) | exact Or.inr rfl) (q_pe_op op_cat (q_pv 2) (q_pe_lst (q_pa_cons (q_pe_callB call_isinstG (by rfl) T.z_isinstance (by decide +kernel) (q_pa_cons (q_pv 0) (q_pa_cons (q_pe_glob (v := .ref _) (by rfl) T.mg_NoWorth rfl) q_pa_nil star_Name) star_Name)) (q_pa_cons (q_pe_callB call_isinstG (by rfl) T.z_isinstance (by decide +kernel) (q_pa_cons (q_pv 0) (q_pa_cons (q_pe_glob (v := .ref _) (by rfl) T.mg_NoBook rfl) q_pa_nil star_Name) star_Name)) (q_pa_cons (q_pe_callB call_isinstG (by rfl) T.z_isinstance (by decide +kernel) (q_pa_cons (q_pv 0) (q_pa_cons (q_pe_glob (v := .ref _) (by rfl) T.mg_NoTerm rfl) q_pa_nil star_Name) star_Name)) q_pa_nil star_Call) star_Call) star_Call))))
      (q_pss_cons (q_ps_set (i := 2) sc_l_alone.nd rfl (by first | exact Or.inl rfl | exact Or.inr (Or.inl rfl) | exact Or.inr rfl) (q_pe_op op_cat (q_pv 2) (q_pe_lst (q_pa_cons (q_pe_callB call_isinstG (by rfl) T.z_isinstance (by decide +kernel) (q_pa_cons (q_pv 0) (q_pa_cons (q_pe_glob (v := .ref _) (by rfl) T.mg_NoWeight rfl) q_pa_nil star_Name) star_Name)) (q_pa_cons (q_pe_callB call_isinstG (by rfl) T.z_isinstance (by decide +kernel) (q_pa_cons (q_pv 0) (q_pa_cons (q_pe_glob (v := .ref _) (by rfl) T.mg_NoMany rfl) q_pa_nil star_Name) star_Name)) (q_pa_cons (q_pe_callB call_isinstG (by rfl) T.z_isinstance (by decide +kernel) (q_pa_cons (q_pv 0) (q_pa_cons (q_pe_glob (v := .ref _) (by rfl) T.mg_NoKinds rfl) q_pa_nil star_Name) star_Name)) q_pa_nil star_Call) star_Call) star_Call))))
      (q_pss_cons (q_ps_set (i := 2) sc_l_alone.nd rfl (by first | exact Or.inl rfl | exact Or.inr (Or.inl rfl) | exact Or.inr rfl) (q_pe_op op_cat (q_pv 2) (q_pe_lst (q_pa_cons (q_pe_callB call_isinstG (by rfl) T.z_isinstance (by decide +kernel) (q_pa_cons (q_pv 0) (q_pa_cons (q_pe_glob (v := .ref _) (by rfl) T.mg_Lacking rfl) q_pa_nil star_Name) star_Name)) (q_pa_cons (q_pe_callB call_isinstG (by rfl) T.z_isinstance (by decide +kernel) (q_pa_cons (q_pv 0) (q_pa_cons (q_pe_glob (v := .ref _) (by rfl) T.mg_NoRow rfl) q_pa_nil star_Name) star_Name)) (q_pa_cons (q_pe_callB call_isinstG (by rfl) T.z_isinstance (by decide +kernel) (q_pa_cons (q_pv 0) (q_pa_cons (q_pe_glob (v := .ref _) (by rfl) T.mg_NoStock rfl) q_pa_nil star_Name) star_Name)) q_pa_nil star_Call) star_Call) star_Call))))
      (q_pss_cons (q_ps_set (i := 2) sc_l_alone.nd rfl (by first | exact Or.inl rfl | exact Or.inr (Or.inl rfl) | exact Or.inr rfl) (q_pe_op op_cat (q_pv 2) (q_pe_lst (q_pa_cons (q_pe_callB call_isinstG (by rfl) T.z_isinstance (by decide +kernel) (q_pa_cons (q_pv 0) (q_pa_cons (q_pe_glob (v := .ref _) (by rfl) T.mg_NoDebt rfl) q_pa_nil star_Name) star_Name)) (q_pa_cons (q_pe_callB call_isinstG (by rfl) T.z_isinstance (by decide +kernel) (q_pa_cons (q_pv 0) (q_pa_cons (q_pe_glob (v := .ref _) (by rfl) T.mg_NoPeople rfl) q_pa_nil star_Name) star_Name)) (q_pa_cons (q_pe_callB call_isinstG (by rfl) T.z_isinstance (by decide +kernel) (q_pa_cons (q_pv 0) (q_pa_cons (q_pe_glob (v := .ref _) (by rfl) T.mg_NoDeed rfl) q_pa_nil star_Name) star_Name)) q_pa_nil star_Call) star_Call) star_Call))))
      (q_pss_cons (q_ps_set (i := 2) sc_l_alone.nd rfl (by first | exact Or.inl rfl | exact Or.inr (Or.inl rfl) | exact Or.inr rfl) (q_pe_op op_cat (q_pv 2) (q_pe_lst (q_pa_cons (q_pe_callB call_isinstG (by rfl) T.z_isinstance (by decide +kernel) (q_pa_cons (q_pv 0) (q_pa_cons (q_pe_glob (v := .ref _) (by rfl) T.mg_Shut rfl) q_pa_nil star_Name) star_Name)) (q_pa_cons (q_pe_callB call_isinstG (by rfl) T.z_isinstance (by decide +kernel) (q_pa_cons (q_pv 0) (q_pa_cons (q_pe_glob (v := .ref _) (by rfl) T.mg_TooMany rfl) q_pa_nil star_Name) star_Name)) q_pa_nil star_Call) star_Call))))
      (q_pss_one (q_ps_ret (q_pe_and (q_pe_cmpR (op_eqD hr.units) (q_pv 2) (q_pe_lc (own := [("_law_k", 3)]) (g := gName 3) (by rfl) sc_l_alone.nd (q_pi_range1 (by rfl) T.z_range (q_pa_cons q_pe_int q_pa_nil star_Constant)) (blkOk_by (own := [("_law_k", 3)]) (N := ["_law_error", "_law_due_here", "_law_kinds", "_law_k"]) (sc := defScope s_l_alone) (by decide +kernel)) (fun _ _ _ _ _ => (q_pg_name (i := 3) sc_l_alone.nd rfl (by first | exact Or.inl rfl | exact Or.inr (Or.inl rfl) | exact Or.inr rfl))) (fun _ _ _ _ _ => q_pts_nil) (fun _ _ _ _ _ => (q_pe_cmpR op_eq (q_pv 3) (q_pv 1) (nomark _)))) (nomark _)) (q_pe_one (q_pe_callB call_isinstG (by rfl) T.z_isinstance (by decide +kernel) (q_pa_cons (q_pv 0) (q_pa_cons (q_pe_bltn (v := .ty "ValueError") (by rfl) T.z_ValueError (by decide +kernel) rfl) q_pa_nil star_Name) star_Name))))))))))))), ?_⟩
    refine ⟨_, rfl, _, _, _, _, _, rfl, rfl, .exc he T.ex_NoText, T.is_NoText_NoName, _, rfl, _, _, _, _, _, rfl, rfl, .exc he T.ex_NoText, T.is_NoText_NoMoney, _, rfl, _, _, _, _, _, rfl, rfl, .exc he T.ex_NoText, T.is_NoText_NoAmount, (by show 3 ≤ sizeLine; decide), fun l0 h0 => ?_⟩
    have s0 := same_new (o := .lst ([false, false, false].map V.bl)) h0
    have e0 := s0 _ _ he
    have k0 := new_at (o := .lst ([false, false, false].map V.bl)) h0
    refine ⟨_, rfl, _, rfl, _, _, _, _, _, rfl, rfl, .exc e0 T.ex_NoText, T.is_NoText_NoText, _, rfl, _, _, _, _, _, rfl, rfl, .exc e0 T.ex_NoText, T.is_NoText_NoBridge, _, rfl, _, _, _, _, _, rfl, rfl, .exc e0 T.ex_NoText, T.is_NoText_NoDay, (by show 3 ≤ sizeLine; decide), fun m1 hm1 => ?_⟩
    have t1 := same_new (o := .lst ([true, false, false].map V.bl)) hm1
    refine ⟨l0, m1, _, _, rfl, rfl, t1 _ _ k0, upd_same, (by show 3 + 3 ≤ sizeLine; decide), fun l1 h1 => ?_⟩
    have s1 := (s0.trans t1).trans (same_new (o := .lst ([false, false, false, true, false, false].map V.bl)) h1)
    have e1 := s1 _ _ he
    have k1 := new_at (o := .lst ([false, false, false, true, false, false].map V.bl)) h1
    refine ⟨_, rfl, _, rfl, _, _, _, _, _, rfl, rfl, .exc e1 T.ex_NoText, T.is_NoText_NoWorth, _, rfl, _, _, _, _, _, rfl, rfl, .exc e1 T.ex_NoText, T.is_NoText_NoBook, _, rfl, _, _, _, _, _, rfl, rfl, .exc e1 T.ex_NoText, T.is_NoText_NoTerm, (by show 3 ≤ sizeLine; decide), fun m2 hm2 => ?_⟩
    have t2 := same_new (o := .lst ([false, false, false].map V.bl)) hm2
    refine ⟨l1, m2, _, _, rfl, rfl, t2 _ _ k1, upd_same, (by show 6 + 3 ≤ sizeLine; decide), fun l2 h2 => ?_⟩
    have s2 := (s1.trans t2).trans (same_new (o := .lst ([false, false, false, true, false, false, false, false, false].map V.bl)) h2)
    have e2 := s2 _ _ he
    have k2 := new_at (o := .lst ([false, false, false, true, false, false, false, false, false].map V.bl)) h2
    refine ⟨_, rfl, _, rfl, _, _, _, _, _, rfl, rfl, .exc e2 T.ex_NoText, T.is_NoText_NoWeight, _, rfl, _, _, _, _, _, rfl, rfl, .exc e2 T.ex_NoText, T.is_NoText_NoMany, _, rfl, _, _, _, _, _, rfl, rfl, .exc e2 T.ex_NoText, T.is_NoText_NoKinds, (by show 3 ≤ sizeLine; decide), fun m3 hm3 => ?_⟩
    have t3 := same_new (o := .lst ([false, false, false].map V.bl)) hm3
    refine ⟨l2, m3, _, _, rfl, rfl, t3 _ _ k2, upd_same, (by show 9 + 3 ≤ sizeLine; decide), fun l3 h3 => ?_⟩
    have s3 := (s2.trans t3).trans (same_new (o := .lst ([false, false, false, true, false, false, false, false, false, false, false, false].map V.bl)) h3)
    have e3 := s3 _ _ he
    have k3 := new_at (o := .lst ([false, false, false, true, false, false, false, false, false, false, false, false].map V.bl)) h3
    refine ⟨_, rfl, _, rfl, _, _, _, _, _, rfl, rfl, .exc e3 T.ex_NoText, T.is_NoText_Lacking, _, rfl, _, _, _, _, _, rfl, rfl, .exc e3 T.ex_NoText, T.is_NoText_NoRow, _, rfl, _, _, _, _, _, rfl, rfl, .exc e3 T.ex_NoText, T.is_NoText_NoStock, (by show 3 ≤ sizeLine; decide), fun m4 hm4 => ?_⟩
    have t4 := same_new (o := .lst ([false, false, false].map V.bl)) hm4
    refine ⟨l3, m4, _, _, rfl, rfl, t4 _ _ k3, upd_same, (by show 12 + 3 ≤ sizeLine; decide), fun l4 h4 => ?_⟩
    have s4 := (s3.trans t4).trans (same_new (o := .lst ([false, false, false, true, false, false, false, false, false, false, false, false, false, false, false].map V.bl)) h4)
    have e4 := s4 _ _ he
    have k4 := new_at (o := .lst ([false, false, false, true, false, false, false, false, false, false, false, false, false, false, false].map V.bl)) h4
    refine ⟨_, rfl, _, rfl, _, _, _, _, _, rfl, rfl, .exc e4 T.ex_NoText, T.is_NoText_NoDebt, _, rfl, _, _, _, _, _, rfl, rfl, .exc e4 T.ex_NoText, T.is_NoText_NoPeople, _, rfl, _, _, _, _, _, rfl, rfl, .exc e4 T.ex_NoText, T.is_NoText_NoDeed, (by show 3 ≤ sizeLine; decide), fun m5 hm5 => ?_⟩
    have t5 := same_new (o := .lst ([false, false, false].map V.bl)) hm5
    refine ⟨l4, m5, _, _, rfl, rfl, t5 _ _ k4, upd_same, (by show 15 + 3 ≤ sizeLine; decide), fun l5 h5 => ?_⟩
    have s5 := (s4.trans t5).trans (same_new (o := .lst ([false, false, false, true, false, false, false, false, false, false, false, false, false, false, false, false, false, false].map V.bl)) h5)
    have e5 := s5 _ _ he
    have k5 := new_at (o := .lst ([false, false, false, true, false, false, false, false, false, false, false, false, false, false, false, false, false, false].map V.bl)) h5
    refine ⟨_, rfl, _, rfl, _, _, _, _, _, rfl, rfl, .exc e5 T.ex_NoText, T.is_NoText_Shut, _, rfl, _, _, _, _, _, rfl, rfl, .exc e5 T.ex_NoText, T.is_NoText_TooMany, (by show 2 ≤ sizeLine; decide), fun m6 hm6 => ?_⟩
    have t6 := same_new (o := .lst ([false, false].map V.bl)) hm6
    refine ⟨l5, m6, _, _, rfl, rfl, t6 _ _ k5, upd_same, (by show 18 + 2 ≤ sizeLine; decide), fun l6 h6 => ?_⟩
    have s6 := (s5.trans t6).trans (same_new (o := .lst ([false, false, false, true, false, false, false, false, false, false, false, false, false, false, false, false, false, false, false, false].map V.bl)) h6)
    have e6 := s6 _ _ he
    have k6 := new_at (o := .lst ([false, false, false, true, false, false, false, false, false, false, false, false, false, false, false, false, false, false, false, false].map V.bl)) h6
    refine ⟨_, rfl, 20, rfl, by decide, by decide, fun L hL => ?_⟩
    refine lc_range (lo := 0) (n := 20) (fun i H' => H' L = some (.lst (((List.range i).map fun (k : Nat) => decide (k = 3)).map V.bl)) ∧ Same H H' ∧ H' l6 = some (.lst ([false, false, false, true, false, false, false, false, false, false, false, false, false, false, false, false, false, false, false, false].map V.bl))) ?_ ?_ ?_
    · exact ⟨upd_same, s6.trans (same_new hL), same_new hL _ _ k6⟩
    · rintro i H1 hi ⟨h1, s1, q1⟩
      have nL : l6 ≠ L := ne_of_none k6 hL
      refine ⟨rfl, yes_i ⟨_, rfl, _, rfl, rfl, _, h1, small1000 (by rw [List.length_map, List.length_map, List.length_range]; omega), ?_, fun b o e => ?_, ?_⟩⟩
      · rw [upd_same, List.range_succ, List.map_append, List.map_append]
        have e : decide (V.int (0 + (i : Int)) = V.int 3) = decide (i = 3) := decide_eq_decide.mpr (by rw [V.int.injEq]; omega)
        rw [e]
        rfl
      · rw [upd_ne (ne_of_none (s6 _ _ e) hL)]
        exact s1 b o e
      · rw [upd_ne nL]; exact q1
    · rintro H1 ⟨h1, s1, q1⟩
      refine ⟨.list ([false, false, false, true, false, false, false, false, false, false, false, false, false, false, false, false, false, false, false, false].map PyData.bool), .list (((List.range 20).map fun (k : Nat) => decide (k = 3)).map PyData.bool), .lst (SqL.of q1) (dp_bls _), .lst (SqL.of h1) (dp_bls _), by decide +kernel, by decide +kernel, _, rfl, ?_⟩
      have e : PyData.eqv (.list ([false, false, false, true, false, false, false, false, false, false, false, false, false, false, false, false, false, false, false, false].map PyData.bool)) (.list (((List.range 20).map fun (k : Nat) => decide (k = 3)).map PyData.bool)) = true := by decide +kernel
      rw [e]
      refine iteT ?_
      refine ⟨_, rfl, _, _, _, _, _, rfl, rfl, .exc (s1 _ _ he) T.ex_NoText, T.is_NoText_ValueError, ?_⟩
      exact q H1 s1
def spAl (t : Ad) : Sp := fun vs H Q E => spAloneA t.C_NoAmount vs H Q E ∨ spAloneT t.C_NoText vs H Q E
theorem ok_al (T : Env K mg t) : FnOk P w K mg base CX0 1 t.a_l_alone t.fd_l_alone ["_law_error", "_law_due_here"] (spAl t) := or1 (ok_aloneA T) (ok_aloneT T)
end
end Ck
set_option Elab.async false
set_option linter.all false
set_option pp.maxSteps 120
set_option maxRecDepth 100000
set_option maxHeartbeats 4000000
namespace Ck
open PySem L2
theorem hit32 (acc r : List Nat) : TL.spl [32] 0 acc (32 :: r) = acc :: TL.spl [32] 0 [] r := TL.spl_hit (S := [32]) (c := 32) (TL.pre_self [32] r)
theorem spl_cons (L : List Nat) : ∀ acc : List Nat, TL.spl [32] 0 acc L ≠ [] := by
  induction L with
  | nil => intro acc; rw [TL.spl_nil]; simp
  | cons c r ih =>
    intro acc
    by_cases h : c = 32
    · subst h; rw [hit32]; simp
    · rw [TL.spl_miss (TL.pre_of_head [] r h)]; exact ih _
theorem joinL_cons (p : List Nat) {q : List (List Nat)} (h : q ≠ []) : TL.joinL [32] (p :: q) = p ++ ([32] ++ TL.joinL [32] q) := by
  cases q with
  | nil => exact absurd rfl h
  | cons a b => rfl
theorem joinL_spl (L : List Nat) : ∀ acc : List Nat, TL.joinL [32] (TL.spl [32] 0 acc L) = acc ++ L := by
  induction L with
  | nil => intro acc; rw [TL.spl_nil, List.append_nil]; rfl
  | cons c r ih =>
    intro acc
    by_cases h : c = 32
    · subst h
      rw [hit32]
      show TL.joinL [32] (acc :: TL.spl [32] 0 [] r) = _
      rw [joinL_cons _ (spl_cons r []), ih []]; rfl
    · rw [TL.spl_miss (TL.pre_of_head [] r h), ih, List.append_assoc]; rfl
theorem spl_word (L : List Nat) : ∀ (acc p : List Nat), p ∈ TL.spl [32] 0 acc L → p.length ≤ acc.length + L.length ∧ ∀ c ∈ p, c ∈ acc ∨ c ∈ L := by
  induction L with
  | nil => intro acc p h; rw [TL.spl_nil] at h; rw [List.mem_singleton.mp h]; exact ⟨by simp, fun c hc => .inl hc⟩
  | cons c r ih =>
    intro acc p h
    by_cases e : c = 32
    · subst e
      rw [hit32] at h
      rcases List.mem_cons.mp h with rfl | h
      · exact ⟨by simp, fun c hc => .inl hc⟩
      · obtain ⟨a, b⟩ := ih [] p h
        refine ⟨by simp only [List.length_nil, List.length_cons] at a ⊢; omega, fun c hc => ?_⟩
        rcases b c hc with z | z
        · simp at z
        · exact .inr (List.mem_cons_of_mem _ z)
    · rw [TL.spl_miss (TL.pre_of_head [] r e)] at h
      obtain ⟨a, b⟩ := ih _ p h
      refine ⟨by simp only [List.length_append, List.length_nil, List.length_cons] at a ⊢; omega, fun x hx => ?_⟩
      rcases b x hx with z | z
      · rcases List.mem_append.mp z with z | z
        · exact .inl z
        · rw [List.mem_singleton.mp z]; exact .inr List.mem_cons_self
      · exact .inr (List.mem_cons_of_mem _ z)
abbrev wsOf (x : Str) : List Str := Txt.split x " "
theorem wsOf_tl (x : Str) : (wsOf x).map TL.tl = TL.spl [32] 0 [] (TL.tl x) :=
  TL.split_spl x " " (by decide +kernel) (TL.kind_ok (by decide +kernel))
theorem join_wsOf (x : Str) : Txt.join " " (wsOf x) = x := by
  rw [TL.join_eq]
  refine str_ext ?_
  show TL.tl _ = TL.tl _
  rw [TL.tl_join, wsOf_tl]
  exact joinL_spl _ []
theorem wsOf_ax {n : Nat} {x y : Str} (h : Ax n x) (hy : y ∈ wsOf x) : Ax n y := by
  have hm : TL.tl y ∈ TL.spl [32] 0 [] (TL.tl x) := by rw [← wsOf_tl]; exact List.mem_map_of_mem hy
  obtain ⟨a, b⟩ := spl_word _ _ _ hm
  have l := h.1
  refine ⟨?_, fun c hc => ?_⟩
  · rw [TL.len_tl] at l ⊢
    simp only [List.length_nil] at a
    omega
  · rcases b c hc with z | z
    · simp at z
    · exact h.2 c z
theorem wsOf_len (x : Str) : (wsOf x).length ≤ x.length + 2 := PyProof.Rows.split_le x " "
theorem zero_split {z : Str} (hz : nameOk z = true) (x : Str) : wsOf x = (["0", z] : List Str) ↔ x = (("0 " : Str) ++ z) := by
  have e0 : (("0 " : Str) ++ z) = Txt.join " " (["0", z] : List Str) := by
    rw [TL.join_eq]
    refine str_ext ?_
    show TL.tl _ = TL.tl _
    rw [TL.tl_join, TL.tl_append]
    rfl
  constructor
  · intro h
    rw [e0, ← h, join_wsOf]
  · intro h
    rw [h, e0]
    refine TL.split_join (y := " ") (s := 32) (S := []) (by decide +kernel) (by decide +kernel) (by simp) ?_
    intro p hp
    rcases List.mem_cons.mp hp with rfl | hp
    · decide +kernel
    · rw [List.mem_singleton.mp hp]; exact name_free hz
def evs {α : Type} : List α → List α
  | [] => []
  | [a] => [a]
  | a :: _ :: r => a :: evs r
def ods {α : Type} : List α → List α
  | [] => []
  | [_] => []
  | _ :: b :: r => b :: ods r
theorem evs_mem {α : Type} : ∀ {l : List α} {x : α}, x ∈ evs l → x ∈ l
  | [], _, h => h
  | [_], _, h => h
  | a :: b :: r, x, h => by
    rcases List.mem_cons.mp h with rfl | h
    · exact List.mem_cons_self
    · exact List.mem_cons_of_mem _ (List.mem_cons_of_mem _ (evs_mem h))
theorem evs_len {α : Type} : ∀ l : List α, (evs l).length = (l.length + 1) / 2
  | [] => by simp [evs]
  | [_] => by simp [evs]
  | a :: b :: r => by show (evs r).length + 1 = (r.length + 1 + 1 + 1) / 2; rw [evs_len r]; omega
theorem ods_len {α : Type} : ∀ l : List α, (ods l).length = l.length / 2
  | [] => by simp [ods]
  | [_] => by simp [ods]
  | a :: b :: r => by show (ods r).length + 1 = (r.length + 1 + 1) / 2; rw [ods_len r]; omega
theorem evs_map {α β : Type} (f : α → β) : ∀ l : List α, evs (l.map f) = (evs l).map f
  | [] => rfl
  | [_] => rfl
  | a :: b :: r => by show f a :: evs (r.map f) = f a :: (evs r).map f; rw [evs_map f r]
theorem ods_map {α β : Type} (f : α → β) : ∀ l : List α, ods (l.map f) = (ods l).map f
  | [] => rfl
  | [_] => rfl
  | a :: b :: r => by show f b :: ods (r.map f) = f b :: (ods r).map f; rw [ods_map f r]
theorem ev_range {α : Type} : ∀ l : List α, (List.range ((l.length + 1) / 2)).filterMap (fun k => l[2 * k]?) = evs l
  | [] => by simp [evs]
  | [_] => by simp [evs, List.range_succ]
  | a :: b :: r => by
    have e : ((a :: b :: r).length + 1) / 2 = (r.length + 1) / 2 + 1 := by simp only [List.length_cons]; omega
    rw [e, List.range_succ_eq_map, List.filterMap_cons, List.filterMap_map]
    exact congrArg (a :: ·) (ev_range r)
theorem od_range {α : Type} : ∀ l : List α, (List.range (l.length / 2)).filterMap (fun k => l[2 * k + 1]?) = ods l
  | [] => by simp [ods]
  | [_] => by simp [ods]
  | a :: b :: r => by
    have e : (a :: b :: r).length / 2 = r.length / 2 + 1 := by simp only [List.length_cons]; omega
    rw [e, List.range_succ_eq_map, List.filterMap_cons, List.filterMap_map]
    exact congrArg (b :: ·) (od_range r)
theorem pick_ev (l : List V) : pickV l none none (some 2) = evs l := by
  unfold pickV
  rw [← ev_range l]
  have e : sliceRange (sliceBounds none none (some 2) l.length).1 (sliceBounds none none (some 2) l.length).2.1 (sliceBounds none none (some 2) l.length).2.2 = (List.range ((l.length + 1) / 2)).map (2 * ·) := by
    show sliceRange 0 (l.length : Nat) 2 = _
    unfold sliceRange
    have ec : (if (2 : Int) > 0 then (if (0 : Int) < (l.length : Nat) then (((l.length : Nat) : Int) - 0 + 2 - 1) / 2 else 0) else (if (0 : Int) > (l.length : Nat) then (0 - ((l.length : Nat) : Int) - 2 - 1) / (-2) else 0)).toNat = (l.length + 1) / 2 := by
      rw [if_pos (by decide)]
      split <;> omega
    show (List.range (Int.toNat _)).map _ = _
    rw [ec]
    refine List.map_congr_left fun k _ => ?_
    omega
  rw [e, List.filterMap_map]
  rfl
theorem pick_od (l : List V) : pickV l (some 1) none (some 2) = ods l := by
  unfold pickV
  rw [← od_range l]
  have e : sliceRange (sliceBounds (some 1) none (some 2) l.length).1 (sliceBounds (some 1) none (some 2) l.length).2.1 (sliceBounds (some 1) none (some 2) l.length).2.2 = (List.range (l.length / 2)).map (2 * · + 1) := by
    have e1 : (sliceBounds (some 1) none (some 2) l.length).1 = max 0 (min 1 ((l.length : Nat) : Int)) := rfl
    have e2 : (sliceBounds (some 1) none (some 2) l.length).2.1 = ((l.length : Nat) : Int) := rfl
    have e3 : (sliceBounds (some 1) none (some 2) l.length).2.2 = 2 := rfl
    rw [e1, e2, e3]
    generalize hn : l.length = n
    by_cases h0 : n = 0
    · subst h0; rfl
    have e4 : max 0 (min 1 ((n : Nat) : Int)) = 1 := by omega
    rw [e4]
    unfold sliceRange
    have ec : (if (2 : Int) > 0 then (if (1 : Int) < (n : Nat) then (((n : Nat) : Int) - 1 + 2 - 1) / 2 else 0) else (if (1 : Int) > (n : Nat) then (1 - ((n : Nat) : Int) - 2 - 1) / (-2) else 0)).toNat = n / 2 := by
      rw [if_pos (by decide)]
      split <;> omega
    show (List.range (Int.toNat _)).map _ = _
    rw [ec]
    refine List.map_congr_left fun k _ => ?_
    omega
  rw [e, List.filterMap_map]
  rfl
def numS (x : Str) : Int := ((NumText.digitsVal x.cps.toList : Nat) : Int)
theorem fig_digits {x : Str} (h : figOk x = true) : NumText.AllDigits x.cps.toList ∧ x.cps.toList ≠ [] ∧ x.length ≤ 16 := by
  unfold figOk madeOf at h
  rw [Bool.and_eq_true, Bool.and_eq_true, Bool.and_eq_true, decide_eq_true_eq, decide_eq_true_eq, List.all_eq_true] at h
  obtain ⟨⟨⟨h1, h2⟩, h3⟩, _⟩ := h
  refine ⟨fun c hc => ?_, fun e => ?_, h3⟩
  · have := of_decide_eq_true (h2 c hc)
    have k : ∀ c ∈ (Str.ofString "0123456789").cps.toList, 48 ≤ c ∧ c ≤ 57 := by decide +kernel
    exact k c this
  · rw [str_len, e] at h1
    simp at h1
theorem fig_int {x : Str} (h : figOk x = true) : intText? x = some (numS x) := by
  obtain ⟨a, b, c⟩ := fig_digits h
  exact intText_digits a b (by omega)
theorem fig_nonneg (x : Str) : 0 ≤ numS x := by unfold numS; omega
theorem digits_lt : ∀ (l : List Nat) (a : Nat), NumText.AllDigits l → l.foldl (fun acc c => acc * 10 + (c - 48)) a < (a + 1) * 10 ^ l.length
  | [], a, _ => by simp
  | c :: r, a, h => by
    have hc := h.head
    rw [List.foldl_cons]
    have := digits_lt r (a * 10 + (c - 48)) h.tail
    refine Nat.lt_of_lt_of_le this ?_
    rw [List.length_cons, Nat.pow_succ, Nat.mul_comm (10 ^ r.length) 10, ← Nat.mul_assoc]
    exact Nat.mul_le_mul_right _ (by omega)
theorem fig_lt {x : Str} (h : figOk x = true) : numS x < 10000000000000000 := by
  obtain ⟨a, _, c⟩ := fig_digits h
  have := digits_lt x.cps.toList 0 a
  rw [← str_len] at this
  have p : 10 ^ x.length ≤ 10 ^ 16 := Nat.pow_le_pow_right (by decide) c
  have e : (10 : Nat) ^ 16 = 10000000000000000 := by decide
  unfold numS NumText.digitsVal
  omega
def fnd : List Str → Str → Int
  | [], _ => -1
  | w :: r, x => if w = x then 0 else if fnd r x < 0 then -1 else fnd r x + 1
theorem fnd_no : ∀ {ws : List Str} {x : Str}, x ∉ ws → fnd ws x = -1
  | [], _, _ => rfl
  | w :: r, x, h => by
    show (if w = x then (0 : Int) else if fnd r x < 0 then -1 else fnd r x + 1) = -1
    rw [if_neg (fun e => h (by rw [e]; exact List.mem_cons_self)), fnd_no (fun e => h (List.mem_cons_of_mem _ e))]; rfl
theorem fnd_yes : ∀ {ws : List Str} {x : Str} {j : Nat}, ws.Nodup → ws[j]? = some x → fnd ws x = (j : Int)
  | [], _, _, _, h => by simp at h
  | w :: r, x, 0, _, h => by
    have e : w = x := by simpa using h
    show (if w = x then (0 : Int) else if fnd r x < 0 then -1 else fnd r x + 1) = 0
    rw [if_pos e]
  | w :: r, x, j + 1, nd, h => by
    have h : r[j]? = some x := by simpa using h
    have hm := List.mem_of_getElem? h
    have nd := List.nodup_cons.mp nd
    show (if w = x then (0 : Int) else if fnd r x < 0 then -1 else fnd r x + 1) = _
    rw [if_neg (fun e => nd.1 (by rw [e]; exact hm)), fnd_yes nd.2 h, if_neg (by omega)]; omega
theorem fnd_ge : ∀ (ws : List Str) (x : Str), -1 ≤ fnd ws x
  | [], _ => Int.le_refl _
  | w :: r, x => by
    show -1 ≤ (if w = x then (0 : Int) else if fnd r x < 0 then -1 else fnd r x + 1)
    split
    · omega
    · split <;> omega
theorem fnd_lt : ∀ (ws : List Str) (x : Str), fnd ws x < ws.length
  | [], _ => by show (-1 : Int) < 0; omega
  | w :: r, x => by
    have := fnd_lt r x
    show (if w = x then (0 : Int) else if fnd r x < 0 then -1 else fnd r x + 1) < ((r.length + 1 : Nat) : Int)
    split
    · omega
    · split <;> omega
def nxt (P : List Int) : Nat → Int
  | 0 => 0
  | i + 1 => P.getD i 0 + 1
def figBad (x : Str) : Prop := figOk x = false ∨ x = "0"
structure BadW (ns ws : List Str) : Prop where
  mk' ::
  why : ws.length % 2 = 1 ∨ (∃ x ∈ evs ws, figBad x) ∨ ∃ i, i < (ods ws).length ∧ ((ods ws).map (fnd ns)).getD i 0 < nxt ((ods ws).map (fnd ns)) i
def totW (ms : List Int) (ns : List Str) (ws : List Str) (i : Nat) : Int := ((List.range i).map fun k => numS ((evs ws).getD k Str.empty) * pr (ms.drop (fnd ns ((ods ws).getD k Str.empty)).toNat)).sum
theorem totW_next (ms : List Int) (ns ws : List Str) (i : Nat) : totW ms ns ws (i + 1) = totW ms ns ws i + numS ((evs ws).getD i Str.empty) * pr (ms.drop (fnd ns ((ods ws).getD i Str.empty)).toNat) := by
  unfold totW
  rw [List.range_succ, List.map_append, List.sum_append]
  show _ + (_ + 0) = _
  rw [Int.add_zero]
theorem totW_nonneg {ms : List Int} (hm : ∀ k, 1 ≤ pr (ms.drop k)) (ns ws : List Str) : ∀ i, 0 ≤ totW ms ns ws i
  | 0 => Int.le_refl 0
  | i + 1 => by
    have ih := totW_nonneg hm ns ws i
    rw [totW_next]
    have := Int.mul_nonneg (fig_nonneg ((evs ws).getD i Str.empty)) (show 0 ≤ pr (ms.drop (fnd ns ((ods ws).getD i Str.empty)).toNat) by have := hm (fnd ns ((ods ws).getD i Str.empty)).toNat; omega)
    omega
inductive DueIs (ms : List Int) (ns : List Str) (z tx : Str) : Int ⊕ Int → Prop
  | zero : tx = (("0 " : Str) ++ z) → DueIs ms ns z tx (.inl 0)
  | bad : tx ≠ (("0 " : Str) ++ z) → BadW ns (wsOf tx) → DueIs ms ns z tx (.inr 3)
  | good : tx ≠ (("0 " : Str) ++ z) → ¬ BadW ns (wsOf tx) → totW ms ns (wsOf tx) (ods (wsOf tx)).length ≤ 1000000000000000 → DueIs ms ns z tx (.inl (totW ms ns (wsOf tx) (ods (wsOf tx)).length))
  | much : tx ≠ (("0 " : Str) ++ z) → ¬ BadW ns (wsOf tx) → 1000000000000000 < totW ms ns (wsOf tx) (ods (wsOf tx)).length → DueIs ms ns z tx (.inr 2)
theorem nxt_nonneg {P : List Int} (h : ∀ p ∈ P, -1 ≤ p) : ∀ i, i ≤ P.length → 0 ≤ nxt P i
  | 0, _ => Int.le_refl 0
  | i + 1, hi => by
    have hl : i < P.length := by omega
    have := h P[i] (List.getElem_mem hl)
    show 0 ≤ P.getD i 0 + 1
    rw [List.getD_eq_getElem?_getD, List.getElem?_eq_getElem hl]
    show 0 ≤ P[i] + 1
    omega
theorem rise_of {P : List Int} (h : ∀ p ∈ P, -1 ≤ p) (h1 : (-1 : Int) ∉ P) (h2 : ∀ k, 1 ≤ k → k < P.length → P.getD (k - 1) 0 < P.getD k 0) : ∀ i, i < P.length → nxt P i ≤ P.getD i 0
  | 0, hi => by
    have hm := List.getElem_mem hi
    have := h _ hm
    have n1 : P[0] ≠ -1 := fun e => h1 (by rw [← e]; exact hm)
    show 0 ≤ P.getD 0 0
    rw [List.getD_eq_getElem?_getD, List.getElem?_eq_getElem hi]
    show 0 ≤ P[0]
    omega
  | i + 1, hi => by
    have := h2 (i + 1) (by omega) hi
    show P.getD i 0 + 1 ≤ P.getD (i + 1) 0
    have e : i + 1 - 1 = i := rfl
    rw [e] at this
    omega
end Ck
set_option Elab.async false
set_option linter.all false
set_option pp.maxSteps 120
set_option maxRecDepth 100000
set_option maxHeartbeats 4000000
namespace Ck
open PySem L2
abbrev namesOf (pre : List Un1) (z : Str) : List Str := (pre ++ [(z, (1 : Int))]).map (·.1)
abbrev PS2 := Str × Str
abbrev fnV (p : PS2) : List V := [.int (numS p.1), .str p.2]
def prs (ws : List Str) : List PS2 := (evs ws).zip (ods ws)
theorem bit_par (n : Nat) : Builtin.bitAnd (n : Int) 1 = ((n % 2 : Nat) : Int) := by
  have := Bits.bitAnd_mask (x := (n : Int)) 1 (by omega)
  rw [show (2 : Int) ^ 1 - 1 = 1 by decide, show (2 : Int) ^ 1 = 2 by decide] at this
  rw [this]; omega
theorem prs_at {ws : List Str} {i : Nat} {x y : Str} (hx : (evs ws)[i]? = some x) (hy : (ods ws)[i]? = some y) : (prs ws)[i]? = some (x, y) := by
  unfold prs
  rw [List.getElem?_zip_eq_some]
  exact ⟨hx, hy⟩
section
variable {P : Program} {w : World} {K : PySem.W.Frag} {mg : Str → Option Value} {base : Heap} {t : Ad}
def FigsBad (ws : List Str) : Prop := ws.length % 2 = 1 ∨ ∃ x ∈ evs ws, figBad x
def spRd (t : Ad) : Sp := fun vs H Q E => ∃ (tx : Str), vs = [.str tx] ∧ Ax 900 tx ∧
  ((FigsBad (wsOf tx) ∧ ∀ H', Same H H' → E (.ref t.C_NoText) none H') ∨
   (¬ FigsBad (wsOf tx) ∧ ∀ (L : Addr) (rs : List Addr) (H' : Hp), H' L = some (.lst (rs.map V.ref)) → TA fnV H' rs (prs (wsOf tx)) → Same H H' → Q (.ref L) H'))
theorem ok_rd (T : Env K mg t) : FnOk P w K mg base (CX1 P w) 3 t.a_read_pairs t.fd_read_pairs ["text"] (spRd t) := by
  have G_is_figures : FnOk P w K mg base CX0 2 t.a_is_figures t.fd_is_figures ["text"] (spTx figOk) := ok_isfig T
  refine T.f_read_pairs.okX sc_read_pairs (fun vs H Q E h => ?_) (fun cdv A outer s H vs Q E hr h O => ?_)
  · obtain ⟨tx, rfl, _⟩ := h
    rfl
  · obtain ⟨tx, rfl, ax, h⟩ := h
    have hr_is_figures := hr
    refine ⟨_, (q_pss_cons (q_ps_set (i := 1) sc_read_pairs.nd rfl (by first | exact Or.inl rfl | exact Or.inr (Or.inl rfl) | exact Or.inr rfl) (q_pe_split (q_pv 0) q_pe_str))
      (q_pss_cons (q_ps_if (q_pt_truth (q_pe_op op_and (q_pe_callB call_len_seq (by rfl) T.z_len PySem.boot_len (q_pa_cons (q_pv 1) q_pa_nil star_Name)) q_pe_int) (by intro _; rfl)) (q_pss_one (q_ps_raise O T.ex_NoText.toExcCls (by rfl) T.mg_NoText (q_pa_cons q_pe_str q_pa_nil star_Constant))) q_pss_nil)
      (q_pss_cons (q_ps_set (i := 2) sc_read_pairs.nd rfl (by first | exact Or.inl rfl | exact Or.inr (Or.inl rfl) | exact Or.inr rfl) (q_pe_lst q_pa_nil))
      (q_pss_cons (q_ps_for PassesOwn.leaving rfl (q_pi_zipG false false (by rfl) T.z_zip (q_pa_cons (q_pe_sl3 (q_pv 1) q_po_none q_po_none (q_po_some q_pe_int)) (q_pa_cons (q_pe_sl3 (q_pv 1) (q_po_some q_pe_int) q_po_none (q_po_some q_pe_int)) q_pa_nil star_Subscript) star_Subscript)) (q_pg_tup (by rfl) (q_pgs_cons (q_pg_name (i := 3) sc_read_pairs.nd rfl (by first | exact Or.inl rfl | exact Or.inr (Or.inl rfl) | exact Or.inr rfl)) (q_pgs_cons (q_pg_name (i := 4) sc_read_pairs.nd rfl (by first | exact Or.inl rfl | exact Or.inr (Or.inl rfl) | exact Or.inr rfl)) q_pgs_nil)))
      (q_pss_cons (q_ps_if (QW.pt (q_pw_or (q_pt_not (q_pt_val (q_pe_call G_is_figures hr_is_figures (by rfl) T.mg_is_figures T.kp_is_figures T.b_is_figures .nil pass0 (q_pa_cons (q_pv 3) q_pa_nil star_Name)))) (q_pw_or1 (q_pt_cmpR op_eq (q_pv 3) q_pe_str (nomark _))))) (q_pss_one (q_ps_raise O T.ex_NoText.toExcCls (by rfl) T.mg_NoText (q_pa_cons q_pe_str q_pa_nil star_Constant))) q_pss_nil)
      (q_pss_one (q_ps_expr (q_pe_bm PySem.F.plainAttrs_list PySem.F.slot_list_append PySem.F.type_list_append mt_append (q_pv 2) (q_pa_cons (q_pe_tup (q_pa_cons (q_pe_callTy call_int_str (by rfl) T.z_int (by decide +kernel) (q_pa_cons (q_pv 3) q_pa_nil star_Name)) (q_pa_cons (q_pv 4) q_pa_nil star_Name) star_Call)) q_pa_nil star_Tuple))))))
      (q_pss_one (q_ps_ret (q_pv 2))))))), ?_⟩
    have lx := ax.1
    have wl := wsOf_len tx
    have wa : ∀ y ∈ wsOf tx, Ax 900 y := fun y hy => wsOf_ax ax hy
    refine ⟨_, rfl, ⟨_, rfl⟩, _, _, rfl, rfl, (by decide +kernel), Nat.le_of_lt (small1000 (by omega)), fun W hW => ?_⟩
    obtain ⟨ws, ews⟩ : ∃ ws, ws = Txt.split tx " " := ⟨_, rfl⟩
    have ews' : wsOf tx = ws := ews.symm
    rw [ews'] at wl wa h
    rw [← ews] at *
    have s1 := same_new (o := .lst (ws.map V.str)) hW
    have tm : (ws.map V.str).length = ws.length := List.length_map _
    refine ⟨_, rfl, W, _, rfl, .inl (SqL.of upd_same), _, _, rfl, rfl, _, rfl, ?_⟩
    rw [tm, bit_par]
    have bad : FigsBad ws → ∀ H', Same H H' → 1 ≤ sizeLine ∧ E (.ref t.C_NoText) none H' := fun b H' s' => by
      refine ⟨by decide, ?_⟩
      rcases h with ⟨_, q⟩ | ⟨n, _⟩
      · exact q _ s'
      · exact absurd b n
    by_cases par : ws.length % 2 = 1
    · rw [par]
      exact iteT (bad (.inl par) _ s1)
    have par0 : ws.length % 2 = 0 := by omega
    rw [par0]
    refine iteF ?_
    refine ⟨by decide, fun L hL => ?_⟩
    have s2 := s1.trans (same_new (o := .lst []) hL)
    have hW2 := same_new (o := .lst []) hL _ _ (upd_same (H := H) (a := W) (o := .lst (ws.map V.str)))
    have pe : pickV (ws.map V.str) none none (some 2) = (evs ws).map V.str := by rw [pick_ev, evs_map]
    have po : pickV (ws.map V.str) (some 1) none (some 2) = (ods ws).map V.str := by rw [pick_od, ods_map]
    have le := evs_len ws
    have lo := ods_len ws
    have leo : (evs ws).length = (ods ws).length := by omega
    refine ⟨_, rfl, 2, rfl, W, _, rfl, SqL.of hW2, (by decide), (by rw [pe, List.length_map, tm]; omega), fun Ev hE => ?_⟩
    rw [pe]
    have s3 := s2.trans (same_new (o := .lst ((evs ws).map V.str)) hE)
    have hW3 := same_new (o := .lst ((evs ws).map V.str)) hE _ _ hW2
    have hL3 := same_new (o := .lst ((evs ws).map V.str)) hE _ _ (upd_same (a := L) (o := .lst []))
    refine ⟨_, rfl, 1, rfl, 2, rfl, W, _, rfl, SqL.of hW3, (by decide), (by rw [po, List.length_map, tm]; omega), fun Od hO => ?_⟩
    rw [po]
    have s4' := same_new (o := .lst ((ods ws).map V.str)) hO
    have s4 := s3.trans s4'
    have hE4 := s4' _ _ (upd_same (a := Ev) (o := .lst ((evs ws).map V.str)))
    have hL4 := s4' _ _ hL3
    refine ⟨Ev, Od, _, _, rfl, SqL.of hE4, SqL.of upd_same, ?_⟩
    have nEL : Ev ≠ L := fun e => by rw [e] at hE; rw [upd_same] at hE; cases hE
    have nOL : Od ≠ L := fun e => by rw [e] at hO; rw [hL3] at hO; cases hO
    have hL0 : H L = none := by
      cases e : H L with
      | none => rfl
      | some o => rw [s1 _ _ e] at hL; cases hL
    refine for_zipG (xs := (evs ws).map V.str) (ys := (ods ws).map V.str) (by rw [List.length_map, List.length_map, leo]) (fun i σ H' => ∃ (o3 o4 : Option V) (rs : List Addr), σ = [some (.str tx), some (.ref W), some (.ref L), o3, o4] ∧ H' L = some (.lst (rs.map V.ref)) ∧ TA fnV H' rs ((prs ws).take i) ∧ H' Ev = some (.lst ((evs ws).map V.str)) ∧ H' Od = some (.lst ((ods ws).map V.str)) ∧ Same H H' ∧ ∀ x ∈ (evs ws).take i, ¬ figBad x) ?_ ?_ ?_ ?_
    · exact ⟨none, none, [], rfl, hL4, .nil _ _, hE4, upd_same, s4, by simp⟩
    · rintro i σ H5 hi ⟨o3, o4, rs, rfl, h5, u5, e5, d5, s5, n5⟩
      exact ⟨SqL.of e5, SqL.of d5⟩
    · rintro i px py Tp σ H5 hpx hpy ⟨o3, o4, rs, rfl, h5, u5, e5, d5, s5, n5⟩ hTp
      obtain ⟨x, hx, rfl⟩ := str_at hpx
      obtain ⟨y, hy, rfl⟩ := str_at hpy
      have mx := List.mem_of_getElem? hx
      have lx := (wa x (evs_mem mx)).1
      have s6 := same_new (o := .tup [V.str x, V.str y]) hTp
      refine ⟨Tp, _, rfl, SqT.of upd_same, rfl, _, _, rfl, _, _, rfl, rfl, ?_⟩
      refine ⟨_, rfl, x, rfl, by omega, fun H7 s7 => ?_⟩
      have s67 := s6.trans s7
      cases cf : figOk x with
      | false => exact ⟨_, rfl, iteT (iteT (bad (.inr ⟨x, mx, .inl cf⟩) _ (s5.trans s67)))⟩
      | true =>
      refine ⟨_, rfl, iteF ?_⟩
      refine ⟨_, rfl, rfl, _, rfl, ite2 (fun hb => ?_) (fun hb => ?_)⟩
      · exact bad (.inr ⟨x, mx, .inr (V.str.inj (of_decide_eq_true hb))⟩) _ (s5.trans s67)
      have h7 := s67 _ _ h5
      have l16 := (fig_digits cf).2.2
      refine ⟨_, rfl, .inl ⟨rfl, _, SqL.of h7⟩, _, rfl, _, numS x, rfl, fig_int cf, by omega, _, rfl, (by show 2 ≤ sizeLine; decide), fun Tn hTn => ?_⟩
      have s8 := same_new (o := .tup (fnV (x, y))) hTn
      have ul := u5.len
      have hi := (List.getElem?_eq_some_iff.mp hx).1
      rw [List.length_take] at ul
      refine ⟨L, _, _, rfl, rfl, s8 _ _ h7, small1000 (by rw [List.length_map]; omega), ?_⟩
      have t9 : Tups (upd H7 Tn (.tup (fnV (x, y)))) (upd (upd H7 Tn (.tup (fnV (x, y)))) L (.lst (rs.map V.ref ++ [V.ref Tn]))) := Tups.upd (s8 _ _ h7)
      refine ⟨_, _, rs ++ [Tn], rfl, ?_, ?_, ?_, ?_, fun b o eb => ?_, ?_⟩
      · rw [upd_same, List.map_append]; rfl
      · rw [List.take_succ, prs_at hx hy]
        exact (((u5.mono (.same s67)).mono (.same s8)).mono t9).snoc (t9 _ _ upd_same)
      · rw [upd_ne nEL]
        exact s8 _ _ (s67 _ _ e5)
      · rw [upd_ne nOL]
        exact s8 _ _ (s67 _ _ d5)
      · rw [upd_ne (ne_of_none eb hL0)]
        exact s8 _ _ (s67 _ _ (s5 b o eb))
      · intro a ha
        rw [List.take_succ, hx] at ha
        rcases List.mem_append.mp ha with z | z
        · exact n5 a z
        · have : a = x := by simpa using z
          subst this
          rintro (e | e)
          · rw [cf] at e; cases e
          · exact hb (decide_eq_true (by rw [e]))
    · rintro σ H5 ⟨o3, o4, rs, rfl, h5, u5, e5, d5, s5, n5⟩
      rw [List.length_map, List.take_length] at n5
      have lp : (prs ws).length = ((evs ws).map V.str).length := by unfold prs; rw [List.length_zip, List.length_map]; omega
      rw [← lp, List.take_length] at u5
      rcases h with ⟨b, _⟩ | ⟨_, q⟩
      · rcases b with b | ⟨x, hx, b⟩
        · omega
        · exact absurd b (n5 x hx)
      · exact ⟨_, rfl, q L rs H5 h5 u5 s5⟩
def spAm (t : Ad) : Sp := fun vs H Q E => ∃ (x : Addr) (pre : List Un1) (z tx : Str) (d : Int ⊕ Int), vs = [.ref x, .str tx] ∧ MoneyAt t.C_Money H x pre z ∧ Good pre z ∧ Ax 900 tx ∧ DueIs (pre.map (·.2)) (namesOf pre z) z tx d ∧
  (∀ n, d = .inl n → ∀ H', Same H H' → Q (.int n) H') ∧ (d = .inr 3 → ∀ H', Same H H' → E (.ref t.C_NoText) none H') ∧ (d = .inr 2 → ∀ H', Same H H' → E (.ref t.C_NoAmount) none H')
theorem ok_am (T : Env K mg t) : FnOk P w K mg base (CX1 P w) 6 t.a_Money_amount t.fd_Money_amount ["self", "text"] (spAm t) := by
  have G_Money_text : FnOk P w K mg base CX0 5 t.a_Money_text t.fd_Money_text ["self", "amount"] (spText t.C_Money) := ok_textm T
  have G_read_pairs : FnOk P w K mg base (CX1 P w) 3 t.a_read_pairs t.fd_read_pairs ["text"] (spRd t) := ok_rd T
  have G_is_amount : FnOk P w K mg base CX0 3 t.a_is_amount t.fd_is_amount ["number"] spAmt := ok_amt T
  refine T.f_Money_amount.okX sc_Money_amount (fun vs H Q E h => ?_) (fun cdv A outer s H vs Q E hr h O => ?_)
  · obtain ⟨x, pre, z, tx, d, rfl, _⟩ := h
    rfl
  · obtain ⟨x, pre, z, tx, d, rfl, m, g, ax, du, qg, q3, q2⟩ := h
    have hr_Money_text := hr
    have hr_read_pairs : Room 3 _ := hr.mono (by decide)
    have hr_is_amount : Room 3 _ := hr.mono (by decide)
    have hu := hu_of hr
    refine ⟨_, (q_pss_cons (q_ps_if (q_pt_cmpR op_eq (q_pv 1) (q_pe_meth (q_pv 0) T.cl_Money T.m_Money_text G_Money_text hr_Money_text T.b_Money_text .nil pass0 (q_pa_cons q_pe_int q_pa_nil star_Constant)) (nomark _)) (q_pss_one (q_ps_ret q_pe_int)) q_pss_nil)
      (q_pss_cons (q_ps_set (i := 2) sc_Money_amount.nd rfl (by first | exact Or.inl rfl | exact Or.inr (Or.inl rfl) | exact Or.inr rfl) q_pe_int)
      (q_pss_cons (q_ps_set (i := 3) sc_Money_amount.nd rfl (by first | exact Or.inl rfl | exact Or.inr (Or.inl rfl) | exact Or.inr rfl) q_pe_int)
      (q_pss_cons (q_ps_for PassesOwn.leaving rfl (q_pi_list (q_pe_call G_read_pairs hr_read_pairs (by rfl) T.mg_read_pairs T.kp_read_pairs T.b_read_pairs .nil (passX O (fun _ _ _ z => z)) (q_pa_cons (q_pv 1) q_pa_nil star_Name))) (q_pg_tup (by rfl) (q_pgs_cons (q_pg_name (i := 4) sc_Money_amount.nd rfl (by first | exact Or.inl rfl | exact Or.inr (Or.inl rfl) | exact Or.inr rfl)) (q_pgs_cons (q_pg_name (i := 5) sc_Money_amount.nd rfl (by first | exact Or.inl rfl | exact Or.inr (Or.inl rfl) | exact Or.inr rfl)) q_pgs_nil)))
      (q_pss_cons (q_ps_set (i := 6) sc_Money_amount.nd rfl (by first | exact Or.inl rfl | exact Or.inr (Or.inl rfl) | exact Or.inr rfl) (q_pe_dget2 hu (q_pe_fld (q_pv 0) rfl) (q_pv 5) (q_pe_un un_neg q_pe_int) ⟨by rfl, by rfl, by rfl, by rfl⟩))
      (q_pss_cons (q_ps_if (q_pt_cmpR op_lt (q_pv 6) (q_pv 3) (nomark _)) (q_pss_one (q_ps_raise O T.ex_NoText.toExcCls (by rfl) T.mg_NoText (q_pa_cons q_pe_str q_pa_nil star_Constant))) q_pss_nil)
      (q_pss_cons (q_ps_aug (i := 2) sc_Money_amount.nd rfl (.inl rfl) (q_pe_op op_mul (q_pv 4) (q_pe_ix ix_tup (q_pe_fld (q_pv 0) rfl) (q_pv 6) (fun _ _ => rfl))) ip_add)
      (q_pss_one (q_ps_set (i := 3) sc_Money_amount.nd rfl (by first | exact Or.inl rfl | exact Or.inr (Or.inl rfl) | exact Or.inr rfl) (q_pe_op op_add (q_pv 6) q_pe_int)))))))
      (q_pss_cons (q_ps_if (q_pt_not (q_pt_val (q_pe_call G_is_amount hr_is_amount (by rfl) T.mg_is_amount T.kp_is_amount T.b_is_amount .nil pass0 (q_pa_cons (q_pv 2) q_pa_nil star_Name)))) (q_pss_one (q_ps_raise O T.ex_NoAmount.toExcCls (by rfl) T.mg_NoAmount (q_pa_cons q_pe_str q_pa_nil star_Constant))) q_pss_nil)
      (q_pss_one (q_ps_ret (q_pv 2)))))))), ?_⟩
    have gm := g.ms
    have gl := g.ml
    have lu : (namesOf pre z).length = pre.length + 1 := by rw [List.length_map, List.length_append]; rfl
    have lp := g.len
    have nd : (namesOf pre z).Nodup := by
      have := g.nd
      have e : namesOf pre z = pre.map (·.1) ++ [z] := by unfold namesOf; rw [List.map_append]; rfl
      rw [e]; exact this
    obtain ⟨dx, uo, so, po, kvs, hx, hs, _, _, _⟩ := id m
    refine ⟨_, rfl, _, rfl, x, dx, _, rfl, hx, rfl, x, .int 0, pre, z, rfl, m, g, 0, rfl, by decide, by decide, fun H1 s1 => ?_⟩
    rw [text_zero]
    refine ⟨rfl, _, rfl, ?_⟩
    by_cases e0 : tx = (("0 " : Str) ++ z)
    · rw [decide_eq_true (by rw [e0])]
      refine iteT ?_
      cases du with
      | zero _ => exact qg 0 rfl _ s1
      | bad h _ => exact absurd e0 h
      | good h _ _ => exact absurd e0 h
      | much h _ _ => exact absurd e0 h
    rw [decide_eq_false (fun e => e0 (V.str.inj e))]
    refine iteF ?_
    have m1 := m.same s1
    generalize hws : namesOf pre z = ns at *
    have bad : BadW ns (wsOf tx) → ∀ H', Same H H' → E (.ref t.C_NoText) none H' := fun b H' s' => by
      cases du with
      | zero h => exact absurd h e0
      | bad _ _ => exact q3 rfl _ s'
      | good _ h _ => exact absurd b h
      | much _ h _ => exact absurd b h
    refine ⟨_, rfl, tx, rfl, ax, ?_⟩
    by_cases fb : FigsBad (wsOf tx)
    · refine .inl ⟨fb, fun H2 s2 => bad ?_ _ (s1.trans s2)⟩
      rcases fb with fb | fb
      · exact ⟨.inl fb⟩
      · exact ⟨.inr (.inl fb)⟩
    refine .inr ⟨fb, fun L rs H2 hL u2 s2 => ?_⟩
    have s12 := s1.trans s2
    have ev0 : (wsOf tx).length % 2 = 0 := Classical.byContradiction fun z => fb (.inl (by omega))
    have fg : ∀ x ∈ evs (wsOf tx), ¬ figBad x := fun x hx z => fb (.inr ⟨x, hx, z⟩)
    generalize ews : wsOf tx = ws at *
    have hm1 : ∀ k, 1 ≤ pr ((pre.map (·.2)).drop k) := fun k => (pr_le gm gl k).1
    have le := evs_len ws
    have lo := ods_len ws
    have lpr : (prs ws).length = (ods ws).length := by unfold prs; rw [List.length_zip]; omega
    refine ⟨L, rfl, ⟨_, SqL.of hL⟩, ?_⟩
    refine for_list (xs := rs.map V.ref) (fun i σ H' => ∃ (o4 o5 o6 : Option V), σ = [some (.ref x), some (.str tx), some (.int (totW (pre.map (·.2)) ns ws i)), some (.int (nxt ((ods ws).map (fnd ns)) i)), o4, o5, o6] ∧ (∀ j, j < i → nxt ((ods ws).map (fnd ns)) j ≤ ((ods ws).map (fnd ns)).getD j 0) ∧ H2 = H') ?_ ?_ ?_ ?_
    · exact ⟨none, none, none, rfl, fun j h => by omega, rfl⟩
    · rintro i σ H3 hi ⟨o4, o5, o6, rfl, hN, rfl⟩
      exact SqL.of hL
    · rintro i y σ H3 hy ⟨o4, o5, o6, rfl, hN, rfl⟩
      obtain ⟨r, hr, rfl⟩ := ref_at hy
      obtain ⟨e, he, er⟩ := u2.at_ i r hr
      obtain ⟨f1, f2⟩ := e
      obtain ⟨he1, he2⟩ := List.getElem?_zip_eq_some.mp he
      have hm := List.mem_of_getElem? he1
      have hi2 := (List.getElem?_eq_some_iff.mp he2).1
      have fk : figOk f1 = true := by
        cases c : figOk f1 with
        | true => rfl
        | false => exact absurd (.inl c) (fg f1 hm)
      have p0 := fig_nonneg f1
      have p1 := fig_lt fk
      have ge : (evs ws).getD i Str.empty = f1 := by rw [List.getD_eq_getElem?_getD, he1]; rfl
      have go : (ods ws).getD i Str.empty = f2 := by rw [List.getD_eq_getElem?_getD, he2]; rfl
      have gp : ((ods ws).map (fnd ns)).getD i 0 = fnd ns f2 := by rw [List.getD_eq_getElem?_getD, List.getElem?_map, he2]; rfl
      obtain ⟨dx, uo, so, po, kvs, hx, hs, _, hpo, pl⟩ := m1.same s2
      have pl : PlOf kvs ns := by rw [← hws]; exact pl
      refine ⟨r, _, rfl, SqT.of er, rfl, _, _, rfl, _, _, rfl, rfl, ?_⟩
      refine ⟨_, rfl, x, _, dx, _, _, rfl, hx, T.cl_Money, T.no_Money_places, rfl, po, rfl, .inl ⟨kvs, .inl hpo⟩, _, rfl, ?_⟩
      have dg := DGet.k (k := .inr f2) hpo
      have ev : (valV kvs (.inr f2)).getD (.int (-1)) = .int (fnd ns f2) := by
        by_cases hin : f2 ∈ ns
        · obtain ⟨j, hj⟩ := List.getElem?_of_mem hin
          rw [pl.yes _ _ hj, fnd_yes nd hj]; rfl
        · rw [pl.no _ hin, fnd_no hin]; rfl
      refine ⟨_, rfl, _, dg, ?_⟩
      rw [ev]
      refine ⟨_, rfl, _, rfl, _, _, rfl, rfl, _, rfl, ite2 (fun hb => ?_) (fun hb => ?_)⟩
      · have hb := of_decide_eq_true hb
        exact ⟨by decide, bad ⟨.inr (.inr ⟨i, hi2, by rw [gp]; exact hb⟩)⟩ _ s12⟩
      have hb : nxt ((ods ws).map (fnd ns)) i ≤ fnd ns f2 := Int.not_lt.mp fun z => hb (decide_eq_true z)
      have n0 : 0 ≤ nxt ((ods ws).map (fnd ns)) i := nxt_nonneg (fun p hp => by
        obtain ⟨y, _, rfl⟩ := List.mem_map.mp hp
        exact fnd_ge ns y) i (by rw [List.length_map]; omega)
      have lt := fnd_lt ns f2
      obtain ⟨k, hk⟩ : ∃ k : Nat, fnd ns f2 = (k : Int) := ⟨(fnd ns f2).toNat, by omega⟩
      rw [hk]
      rw [hk, lu] at lt
      have hk5 : k ≤ (pre.map (·.2)).length := by rw [List.length_map]; omega
      obtain ⟨q0, q1⟩ := pr_le gm gl k
      have ha : atI ((sz (pre.map (·.2))).map V.int) (k : Int) = some (.int (pr ((pre.map (·.2)).drop k))) := at_of (j := k) rfl (by rw [List.getElem?_map, sz_at _ _ hk5]; rfl)
      refine ⟨_, rfl, _, rfl, _, rfl, x, _, dx, _, _, rfl, hx, T.cl_Money, T.no_Money_sizes, rfl, _, rfl, so, _, _, _, rfl, rfl, SqT.of hs, ha, _, _, rfl, rfl, .inl ⟨(show -(2 ^ 64 : Int) < numS f1 by omega), (show numS f1 < (2 ^ 64 : Int) by omega)⟩, ?_⟩
      refine ⟨_, _, rfl, rfl, _, rfl, _, _, rfl, rfl, ?_⟩
      have et : totW (pre.map (·.2)) ns ws (i + 1) = totW (pre.map (·.2)) ns ws i + numS f1 * pr ((pre.map (·.2)).drop k) := by rw [totW_next, ge, go, hk]; rfl
      have en : nxt ((ods ws).map (fnd ns)) (i + 1) = (k : Int) + 1 := by show ((ods ws).map (fnd ns)).getD i 0 + 1 = _; rw [gp, hk]
      refine ⟨some (.int (numS f1)), some (.str f2), some (.int (k : Int)), (by rw [et, en]; rfl), fun j hj => ?_, rfl⟩
      · by_cases ej : j = i
        · rw [ej, gp]; exact hb
        · exact hN j (by omega)
    · rintro σ H3 ⟨o4, o5, o6, rfl, hN, rfl⟩
      rw [List.length_map, u2.len, lpr] at hN ⊢
      have nb : ¬ BadW ns ws := by
        rintro ⟨h | ⟨y, hy, h⟩ | ⟨i, hi, h⟩⟩
        · omega
        · exact fg y hy h
        · have := hN i hi; omega
      have tn := totW_nonneg hm1 ns ws (ods ws).length
      refine ⟨_, rfl, _, rfl, .inl ⟨_, rfl, ?_⟩⟩
      rw [decide_eq_true tn]
      by_cases hc : totW (pre.map (·.2)) ns ws (ods ws).length ≤ 1000000000000000
      · rw [decide_eq_true hc]
        refine ⟨_, rfl, iteN rfl ?_⟩
        refine ⟨_, rfl, ?_⟩
        cases du with
        | zero h => exact absurd h e0
        | bad _ b => rw [ews] at b; exact absurd b nb
        | good _ _ _ => rw [ews] at qg; exact qg _ rfl _ s12
        | much _ _ h => rw [ews] at h; omega
      · rw [decide_eq_false hc]
        refine ⟨_, rfl, iteT ⟨by decide, ?_⟩⟩
        cases du with
        | zero h => exact absurd h e0
        | bad _ b => rw [ews] at b; exact absurd b nb
        | good _ _ h => rw [ews] at h; exact absurd h hc
        | much _ _ _ => exact q2 rfl _ s12
end
end Ck
set_option Elab.async false
set_option linter.all false
set_option pp.maxSteps 120
set_option maxRecDepth 100000
set_option maxHeartbeats 4000000
namespace Ck
open PySem L2
theorem eqvAll_strs : ∀ as bs : List Str, PyData.eqvAll (as.map PyData.str) (bs.map PyData.str) = decide (as = bs)
  | [], [] => by simp [PyData.eqvAll]
  | [], b :: bs => by simp [PyData.eqvAll]
  | a :: as, [] => by simp [PyData.eqvAll]
  | a :: as, b :: bs => by
    rw [List.map_cons, List.map_cons]
    simp only [PyData.eqvAll, PyData.eqv, eqvAll_strs as bs]
    rw [Bool.eq_iff_iff]
    simp
theorem eqv_strs2 (as bs : List Str) : PyData.eqv (.list (as.map PyData.str)) (.list (bs.map PyData.str)) = decide (as = bs) := by
  simp only [PyData.eqv]
  exact eqvAll_strs as bs
theorem inV_ints (x : Int) (ws : List Int) : inV (.int x) (ws.map V.int) = decide (x ∈ ws) := by
  unfold inV
  rw [List.any_map, Bool.eq_iff_iff, List.any_eq_true, decide_eq_true_eq]
  constructor
  · rintro ⟨y, hy, e⟩
    have e : (y == x) = true := e
    rw [← eq_of_beq e]; exact hy
  · intro h
    exact ⟨x, h, by show (x == x) = true; exact beq_self_eq_true x⟩
theorem flat_ints (ws : List Int) : (ws.map V.int).all flatV = true := by
  rw [List.all_map, List.all_eq_true]; intro x _; rfl
def fgs (x : Str) : Str := if figOk x then x else "0"
theorem fgs_bad {x : Str} : fgs x = "0" ↔ figBad x := by
  unfold fgs figBad
  cases c : figOk x with
  | false => simp
  | true => simp
def DueV (H' : Hp) (v : V) : Int ⊕ Int → Prop
  | .inl n => v = .int n
  | .inr k => ∃ T, v = .ref T ∧ H' T = some (.tup [.int k])
section
variable {P : Program} {w : World} {K : PySem.W.Frag} {mg : Str → Option Value} {base : Heap} {t : Ad}
def spDue : Sp := fun vs H Q _ => ∃ (p : Addr) (pre : List Un1) (z tx : Str), vs = [.ref p, .str tx] ∧ Good pre z ∧ Units H p pre z ∧ Ax 900 tx ∧
  ∀ (v : V) (d : Int ⊕ Int) (H' : Hp), DueIs (pre.map (·.2)) (namesOf pre z) z tx d → DueV H' v d → Same H H' → Q v H'
theorem ok_due (T : Env K mg t) : FnOk P w K mg base CX0 2 t.a_l_due t.fd_l_due ["_law_units_here", "_law_text_here"] spDue := by
  have G_l_figures : FnOk P w K mg base CX0 1 t.a_l_figures t.fd_l_figures ["_law_word_here"] spFg := ok_lfig T
  have G_l_sizes : FnOk P w K mg base CX0 1 t.a_l_sizes t.fd_l_sizes ["_law_units_here"] spLSizes := ok_lsizes T
  refine T.f_l_due.okQ sc_l_due (fun vs H Q E h => ?_) (fun cdv A outer s H vs Q E hr h => ?_)
  · obtain ⟨p, pre, z, tx, rfl, _⟩ := h
    rfl
  · obtain ⟨p, pre, z, tx, rfl, g, u, ax, q⟩ := h
    have hr_l_figures : Room 1 _ := hr.mono (by decide)
    have hr_l_sizes : Room 1 _ := hr.mono (by decide)
    refine ⟨_, (q_pss_cons (q_ps_set (i := 2) sc_l_due.nd rfl (by first | exact Or.inl rfl | exact Or.inr (Or.inl rfl) | exact Or.inr rfl) (q_pe_lc (own := [("_law_name", 8), ("_law_many", 9)]) (g := _) (by rfl) sc_l_due.nd (q_pi_tup (q_pv 0)) (blkOk_by (own := [("_law_name", 8), ("_law_many", 9)]) (N := ["_law_units_here", "_law_text_here", "_law_names", "_law_words_here", "_law_told", "_law_numbers", "_law_sizes_here", "_law_total", "_law_name", "_law_many", "_law_word_here", "_law_k", "_law_number", "_law_place"]) (sc := defScope s_l_due) (by decide +kernel)) (fun _ _ _ _ _ => (q_pg_tupK (K := K) 2 rfl (by rfl) (q_pgs_cons (q_pg_name (i := 8) sc_l_due.nd rfl (by first | exact Or.inl rfl | exact Or.inr (Or.inl rfl) | exact Or.inr rfl)) (q_pgs_cons (q_pg_name (i := 9) sc_l_due.nd rfl (by first | exact Or.inl rfl | exact Or.inr (Or.inl rfl) | exact Or.inr rfl)) q_pgs_nil)))) (fun _ _ _ _ _ => q_pts_nil) (fun _ _ _ _ _ => (q_pv 8))))
      (q_pss_cons (q_ps_set (i := 3) sc_l_due.nd rfl (by first | exact Or.inl rfl | exact Or.inr (Or.inl rfl) | exact Or.inr rfl) (q_pe_split (q_pv 1) q_pe_str))
      (q_pss_cons (q_ps_if (q_pt_cmpR (op_eqD hr.units) (q_pv 3) (q_pe_lst (q_pa_cons q_pe_str (q_pa_cons (q_pe_ix ix_list (q_pv 2) (q_pe_un un_neg q_pe_int) (fun _ _ => rfl)) q_pa_nil star_Subscript) star_Constant)) (nomark _)) (q_pss_one (q_ps_ret q_pe_int)) q_pss_nil)
      (q_pss_cons (q_ps_set (i := 4) sc_l_due.nd rfl (by first | exact Or.inl rfl | exact Or.inr (Or.inl rfl) | exact Or.inr rfl) (q_pe_lc (own := [("_law_word_here", 10)]) (g := gName 10) (by rfl) sc_l_due.nd (q_pi_list (q_pe_sl3 (q_pv 3) (q_po_some q_pe_int) q_po_none (q_po_some q_pe_int))) (blkOk_by (own := [("_law_word_here", 10)]) (N := ["_law_units_here", "_law_text_here", "_law_names", "_law_words_here", "_law_told", "_law_numbers", "_law_sizes_here", "_law_total", "_law_name", "_law_many", "_law_word_here", "_law_k", "_law_number", "_law_place"]) (sc := defScope s_l_due) (by decide +kernel)) (fun _ _ _ _ _ => (q_pg_name (i := 10) sc_l_due.nd rfl (by first | exact Or.inl rfl | exact Or.inr (Or.inl rfl) | exact Or.inr rfl))) (fun _ _ _ _ _ => q_pts_nil) (fun _ _ _ _ _ => (q_pe_ifExp (q_pt_cmpR (op_in_seqK (K := K) rfl) (q_pv 10) (q_pv 2) (by rfl)) (q_pe_bmK (K := K) rfl PySem.F.plainAttrs_list PySem.F.slot_list_index PySem.F.type_list_index (mt_indexK (K := K) rfl) (q_pv 2) (q_pa_cons (q_pv 10) q_pa_nil star_Name)) (q_pe_un un_neg q_pe_int)))))
      (q_pss_cons ((q_ps_setLc (i := 5) (own := [("_law_word_here", 10)]) (g := gName 10) (by rfl) sc_l_due.nd rfl rfl (sw_true rfl rfl rfl (by decide +kernel)) (q_pi_list (q_pe_sl3 (q_pv 3) q_po_none q_po_none (q_po_some q_pe_int))) (blkOk_by (own := [("_law_word_here", 10)]) (N := ["_law_units_here", "_law_text_here", "_law_names", "_law_words_here", "_law_told", "_law_numbers", "_law_sizes_here", "_law_total", "_law_name", "_law_many", "_law_word_here", "_law_k", "_law_number", "_law_place"]) (sc := defScope s_l_due) (by decide +kernel)) (fun _ _ _ _ _ => (q_pg_name (i := 10) sc_l_due.nd rfl (by first | exact Or.inl rfl | exact Or.inr (Or.inl rfl) | exact Or.inr rfl))) (fun _ _ _ _ _ => q_pts_nil) (fun _ _ _ _ _ => (q_pe_ifExp (q_pt_val (q_pe_call G_l_figures hr_l_figures (by rfl) T.mg_l_figures T.kp_l_figures T.b_l_figures .nil pass0 (q_pa_cons (q_pv 10) q_pa_nil star_Name))) (q_pv 10) q_pe_str))))
      (q_pss_cons (q_ps_if (QW.pt (q_pw_or (q_pt_cmpR op_eq (q_pe_op op_mod (q_pe_callB call_len_seq (by rfl) T.z_len PySem.boot_len (q_pa_cons (q_pv 3) q_pa_nil star_Name)) q_pe_int) q_pe_int (nomark _)) (q_pw_or (q_pt_cmpR op_in_seq q_pe_str (q_pv 5) (by rfl)) (q_pw_or1 (q_pt_cmpR op_in_seq (q_pe_un un_neg q_pe_int) (q_pv 4) (by rfl)))))) (q_pss_one (q_ps_ret (q_pe_tup (q_pa_cons q_pe_int q_pa_nil star_Constant)))) q_pss_nil)
      (q_pss_cons (q_ps_if (q_pt_cmpR (op_neD hr.units) (q_pe_lc (own := [("_law_k", 11)]) (g := gName 11) (by rfl) sc_l_due.nd (q_pi_range2 (by rfl) T.z_range (q_pa_cons q_pe_int (q_pa_cons (q_pe_callB call_len_seq (by rfl) T.z_len PySem.boot_len (q_pa_cons (q_pv 4) q_pa_nil star_Name)) q_pa_nil star_Call) star_Constant)) (blkOk_by (own := [("_law_k", 11)]) (N := ["_law_units_here", "_law_text_here", "_law_names", "_law_words_here", "_law_told", "_law_numbers", "_law_sizes_here", "_law_total", "_law_name", "_law_many", "_law_word_here", "_law_k", "_law_number", "_law_place"]) (sc := defScope s_l_due) (by decide +kernel)) (fun _ _ _ _ _ => (q_pg_name (i := 11) sc_l_due.nd rfl (by first | exact Or.inl rfl | exact Or.inr (Or.inl rfl) | exact Or.inr rfl))) (fun _ _ _ _ _ => (q_pts_one (q_pt_cmpR op_ge (q_pe_ix (ix_listK (K := K) rfl) (q_pv 4) (q_pe_op op_sub (q_pv 11) q_pe_int) (fun _ _ => rfl)) (q_pe_ix (ix_listK (K := K) rfl) (q_pv 4) (q_pv 11) (fun _ _ => rfl)) (nomark _)))) (fun _ _ _ _ _ => (q_pv 11))) (q_pe_lst q_pa_nil) (nomark _)) (q_pss_one (q_ps_ret (q_pe_tup (q_pa_cons q_pe_int q_pa_nil star_Constant)))) q_pss_nil)
      (q_pss_cons (q_ps_set (i := 6) sc_l_due.nd rfl (by first | exact Or.inl rfl | exact Or.inr (Or.inl rfl) | exact Or.inr rfl) (q_pe_call G_l_sizes hr_l_sizes (by rfl) T.mg_l_sizes T.kp_l_sizes T.b_l_sizes .nil pass0 (q_pa_cons (q_pv 0) q_pa_nil star_Name)))
      (q_pss_cons (q_ps_set (i := 7) sc_l_due.nd rfl (by first | exact Or.inl rfl | exact Or.inr (Or.inl rfl) | exact Or.inr rfl) (q_pe_callB (cr_sum rfl) (by rfl) T.z_sum (by decide +kernel) (q_pa_cons (q_pe_lc (own := [("_law_number", 12), ("_law_place", 13)]) (g := _) (by rfl) sc_l_due.nd (q_pi_zipG false false (by rfl) T.z_zip (q_pa_cons (q_pv 5) (q_pa_cons (q_pv 4) q_pa_nil star_Name) star_Name)) (blkOk_by (own := [("_law_number", 12), ("_law_place", 13)]) (N := ["_law_units_here", "_law_text_here", "_law_names", "_law_words_here", "_law_told", "_law_numbers", "_law_sizes_here", "_law_total", "_law_name", "_law_many", "_law_word_here", "_law_k", "_law_number", "_law_place"]) (sc := defScope s_l_due) (by decide +kernel)) (fun _ _ _ _ _ => (q_pg_tupK (K := K) 2 rfl (by rfl) (q_pgs_cons (q_pg_name (i := 12) sc_l_due.nd rfl (by first | exact Or.inl rfl | exact Or.inr (Or.inl rfl) | exact Or.inr rfl)) (q_pgs_cons (q_pg_name (i := 13) sc_l_due.nd rfl (by first | exact Or.inl rfl | exact Or.inr (Or.inl rfl) | exact Or.inr rfl)) q_pgs_nil)))) (fun _ _ _ _ _ => q_pts_nil) (fun _ _ _ _ _ => (q_pe_op op_mul (q_pe_callTy call_int_str (by rfl) T.z_int (by decide +kernel) (q_pa_cons (q_pv 12) q_pa_nil star_Name)) (q_pe_ix (ix_listK (K := K) rfl) (q_pv 6) (q_pv 13) (fun _ _ => rfl))))) q_pa_nil star_ListComp)))
      (q_pss_one (q_ps_ret (q_pe_ifExp (q_pt_cmpR op_le (q_pv 7) (q_pe_op op_pow q_pe_int q_pe_int) (nomark _)) (q_pv 7) (q_pe_tup (q_pa_cons q_pe_int q_pa_nil star_Constant)))))))))))))), ?_⟩
    have gm := g.ms
    have gl := g.ml
    have lp := g.len
    have lx := ax.1
    obtain ⟨rs, hp, ua⟩ := u.all
    have lu : (pre ++ [(z, (1 : Int))]).length = pre.length + 1 := by rw [List.length_append]; rfl
    refine ⟨_, rfl, p, rfl, ⟨_, SqT.of hp⟩, fun Ln hLn => ?_⟩
    refine lc_tup (xs := rs.map V.ref) (fun i H' => H' Ln = some (.lst (((pre ++ [(z, (1 : Int))]).take i).map fun u => .str u.1)) ∧ Same H H') ?_ ?_ ?_ ?_
    · exact ⟨by rw [upd_same]; rfl, same_new hLn⟩
    · rintro i H3 hi ⟨h3, s3⟩
      exact SqT.of (s3 _ _ hp)
    · rintro i x H3 hx ⟨h3, s3⟩
      obtain ⟨r, hr, rfl⟩ := ref_at hx
      obtain ⟨u, hu, e⟩ := ua.at_ i r hr
      refine ⟨r, _, rfl, SqT.of (s3 _ _ e), rfl, _, _, rfl, _, _, rfl, rfl, rfl, yes_i ⟨_, rfl, _, h3, small1000 ?_, ?_, fun b o e => ?_⟩⟩
      · rw [List.length_map, List.length_take]; omega
      · rw [upd_same, fst_take hu]
      · rw [upd_ne (ne_of_none e hLn)]
        exact s3 b o e
    rintro H1 ⟨h1, s1⟩
    rw [List.length_map, ua.len, List.take_length] at h1
    have e1 : ((pre ++ [(z, (1 : Int))]).map fun u => V.str u.1) = (namesOf pre z).map V.str := by rw [List.map_map]; rfl
    rw [e1] at h1
    have en : namesOf pre z = pre.map (·.1) ++ [z] := by unfold namesOf; rw [List.map_append]; rfl
    have gn : ∀ y ∈ namesOf pre z, nameOk y = true := g.names
    have nd : (namesOf pre z).Nodup := by rw [en]; exact g.nd
    have ln : (namesOf pre z).length = pre.length + 1 := by rw [List.length_map, lu]
    have wl := wsOf_len tx
    have wa : ∀ y ∈ wsOf tx, Ax 900 y := fun y hy => wsOf_ax ax hy
    have zs := zero_split g.nz tx
    refine ⟨_, rfl, ⟨_, rfl⟩, _, _, rfl, rfl, (by decide +kernel), Nat.le_of_lt (small1000 (by omega)), fun W hW => ?_⟩
    have s2 := same_new (o := .lst ((Txt.split tx " ").map V.str)) hW
    have hW2 := new_at (o := .lst ((Txt.split tx " ").map V.str)) hW
    have h2 := s2 _ _ h1
    have h2' := h2
    rw [en, List.map_append] at h2'
    simp only [List.map_cons, List.map_nil] at h2'
    obtain ⟨ns, ens⟩ : ∃ ns, ns = namesOf pre z := ⟨_, rfl⟩
    rw [← ens] at q gn nd ln h2
    obtain ⟨ws, ews⟩ : ∃ ws, ws = wsOf tx := ⟨_, rfl⟩
    have ews' : Txt.split tx " " = ws := ews.symm
    rw [ews'] at hW2 s2 h2 h2' ⊢
    rw [← ews] at wl wa zs
    have s12 := s1.trans s2
    clear s2 h1
    generalize upd H1 W (.lst (ws.map V.str)) = H2 at *
    refine ⟨_, rfl, _, rfl, _, rfl, Ln, _, _, _, rfl, rfl, SqL.of h2', atI_last _ _, (by show 2 ≤ sizeLine; decide), fun l hl => ?_⟩
    have s3 := same_new (o := .lst [V.str "0", V.str z]) hl
    refine ⟨.list (ws.map PyData.str), .list ((["0", z] : List Str).map PyData.str), .lst (SqL.of (s3 _ _ hW2)) (dp_strs _), .lst (SqL.of upd_same) (dp_strs (["0", z] : List Str)), shaped_strs _ (fun x hx => (wa x hx).2.okt), shaped_strs _ ?_, _, rfl, ?_⟩
    · intro x hx
      have : Asc "0" := by unfold Asc; decide +kernel
      rcases List.mem_cons.mp hx with rfl | hx
      · exact this.okt
      · rw [List.mem_singleton.mp hx]; exact (Ax.name g.nz).2.okt
    rw [eqv_strs2]
    have s13 := s12.trans s3
    have hW3 := s3 _ _ hW2
    have h3 := s3 _ _ h2
    clear s3 hW2 h2 h2' s12
    generalize upd H2 l _ = H3 at *
    refine ite2 (fun hb => ?_) (fun hb => ?_)
    · exact q _ _ H3 (.zero (zs.mp (of_decide_eq_true hb))) rfl s13
    have nz : tx ≠ (("0 " : Str) ++ z) := fun e => hb (decide_eq_true (zs.mpr e))
    have tm : (ws.map V.str).length = ws.length := List.length_map _
    have pe : pickV (ws.map V.str) none none (some 2) = (evs ws).map V.str := by rw [pick_ev, evs_map]
    have po : pickV (ws.map V.str) (some 1) none (some 2) = (ods ws).map V.str := by rw [pick_od, ods_map]
    have le := evs_len ws
    have lo := ods_len ws
    refine ⟨_, rfl, 1, rfl, 2, rfl, W, _, rfl, SqL.of hW3, (by decide), (by rw [po, List.length_map, tm]; omega), fun Od hO => ?_⟩
    rw [po]
    have s4 := same_new (o := .lst ((ods ws).map V.str)) hO
    have hO4 := new_at (o := .lst ((ods ws).map V.str)) hO
    refine ⟨Od, rfl, ⟨_, SqL.of hO4⟩, fun Lt hLt => ?_⟩
    refine lc_list (xs := (ods ws).map V.str) (fun i H' => H' Lt = some (.lst ((((ods ws).take i).map (fnd ns)).map V.int)) ∧ Same (upd H3 Od (.lst ((ods ws).map V.str))) H') ?_ ?_ ?_ ?_
    · exact ⟨by rw [upd_same]; rfl, same_new hLt⟩
    · rintro i H5 hi ⟨h5, s5⟩
      exact SqL.of (s5 _ _ hO4)
    · rintro i px H5 hpx ⟨h5, s5⟩
      obtain ⟨y, hy, rfl⟩ := str_at hpx
      have hi := (List.getElem?_eq_some_iff.mp hy).1
      have hn5 := s5 _ _ (s4 _ _ h3)
      have fin : ∀ v, v = V.int (fnd ns y) → ∃ acc, H5 Lt = some (.lst acc) ∧ acc.length < sizeLine ∧ (upd H5 Lt (.lst (acc ++ [v]))) Lt = some (.lst ((((ods ws).take (i + 1)).map (fnd ns)).map V.int)) ∧ Same (upd H3 Od (.lst ((ods ws).map V.str))) (upd H5 Lt (.lst (acc ++ [v]))) := by
        rintro v rfl
        refine ⟨_, h5, small1000 ?_, ?_, fun b o e => ?_⟩
        · rw [List.length_map, List.length_map, List.length_take]; omega
        · rw [upd_same, List.take_succ, hy, List.map_append, List.map_append]; rfl
        · rw [upd_ne (ne_of_none e hLt)]
          exact s5 b o e
      refine ⟨rfl, yes_i ?_⟩
      refine ⟨_, rfl, _, rfl, Ln, _, rfl, .inl (SqL.of hn5), rfl, flat_strs _, _, rfl, ?_⟩
      rw [if_neg (by decide : ¬ (false = true)), inV_strs]
      refine ite2 (fun hb => ?_) (fun hb => ?_)
      · obtain ⟨j, hj⟩ := List.getElem?_of_mem (of_decide_eq_true hb)
        refine ⟨_, rfl, .inl ⟨rfl, _, SqL.of hn5⟩, _, rfl, Ln, _, _, j, _, rfl, rfl, SqL.of hn5, rfl, flat_strs _, (by rw [List.getElem?_map, hj]; rfl), (by show (y == y) = true; exact beq_self_eq_true y), fun m z' hm hz => ?_, ?_⟩
        · obtain ⟨b, hb2, rfl⟩ := str_at hz
          refine Bool.eq_false_iff.mpr fun e => ?_
          have e : b = y := eq_of_beq (show (b == y) = true from e)
          subst e
          have a1 := fnd_yes nd hj
          have a2 := fnd_yes nd hb2
          omega
        · exact fin _ (by rw [fnd_yes nd hj])
      · have hn : y ∉ ns := fun z => hb (decide_eq_true z)
        exact ⟨_, rfl, fin _ (by rw [fnd_no hn])⟩
    rintro H5 ⟨h5, s5⟩
    rw [List.length_map, List.take_length] at h5
    have s15 := (s13.trans s4).trans s5
    have hW5 := s5 _ _ (s4 _ _ hW3)
    have hn5 := s5 _ _ (s4 _ _ h3)
    clear s4 s5 hO4 hW3 h3 s13
    refine ⟨_, rfl, 2, rfl, W, _, rfl, SqL.of hW5, (by decide), (by rw [pe, List.length_map, tm]; omega), fun Ev hE => ?_⟩
    rw [pe]
    have s6 := same_new (o := .lst ((evs ws).map V.str)) hE
    have hE6 := new_at (o := .lst ((evs ws).map V.str)) hE
    refine ⟨Ev, rfl, ⟨_, SqL.of hE6⟩, fun Lf hLf => ?_⟩
    refine lc_list (xs := (evs ws).map V.str) (fun i H' => H' Lf = some (.lst ((((evs ws).take i).map fgs).map V.str)) ∧ Same (upd H5 Ev (.lst ((evs ws).map V.str))) H') ?_ ?_ ?_ ?_
    · exact ⟨by rw [upd_same]; rfl, same_new hLf⟩
    · rintro i H7 hi ⟨h7, s7⟩
      exact SqL.of (s7 _ _ hE6)
    · rintro i px H7 hpx ⟨h7, s7⟩
      obtain ⟨y, hy, rfl⟩ := str_at hpx
      have hi := (List.getElem?_eq_some_iff.mp hy).1
      have ya := wa y (evs_mem (List.mem_of_getElem? hy))
      have y1 := ya.1
      refine ⟨rfl, yes_i ⟨_, rfl, y, rfl, by omega, ya.2.okt, fun H8 s8 => ?_⟩⟩
      have fin : ∀ v, v = V.str (fgs y) → ∃ acc, H8 Lf = some (.lst acc) ∧ acc.length < sizeLine ∧ (upd H8 Lf (.lst (acc ++ [v]))) Lf = some (.lst ((((evs ws).take (i + 1)).map fgs).map V.str)) ∧ Same (upd H5 Ev (.lst ((evs ws).map V.str))) (upd H8 Lf (.lst (acc ++ [v]))) := by
        rintro v rfl
        refine ⟨_, s8 _ _ h7, small1000 ?_, ?_, fun b o e => ?_⟩
        · rw [List.length_map, List.length_map, List.length_take]; omega
        · rw [upd_same, List.take_succ, hy, List.map_append, List.map_append]; rfl
        · rw [upd_ne (ne_of_none e hLf)]
          exact s8 _ _ (s7 b o e)
      refine ⟨_, rfl, ?_⟩
      cases cf : figOk y with
      | true => exact iteT ⟨_, rfl, fin _ (by unfold fgs; rw [cf]; rfl)⟩
      | false => exact iteF (fin _ (by unfold fgs; rw [cf]; rfl))
    rintro H7 ⟨h7, s7⟩
    rw [List.length_map, List.take_length] at h7
    have s17 := (s15.trans s6).trans s7
    have hW7 := s7 _ _ (s6 _ _ hW5)
    have ht7 := s7 _ _ (s6 _ _ h5)
    clear s6 s7 hE6 hW5 hn5 h5 s15
    generalize hP : (ods ws).map (fnd ns) = Pl at *
    have lP : Pl.length = ws.length / 2 := by rw [← hP, List.length_map, lo]
    have Pge : ∀ p ∈ Pl, -1 ≤ p := fun p hp => by
      rw [← hP] at hp
      obtain ⟨y, _, rfl⟩ := List.mem_map.mp hp
      exact fnd_ge ns y
    have bad3 : BadW ns ws → ∀ H', Same H H' → 1 ≤ sizeLine ∧ ∀ T3, H' T3 = none → Q (.ref T3) (upd H' T3 (.tup [.int 3])) := fun b H' s' => ⟨by decide, fun T3 h3 => by
      subst ens ews
      exact q _ _ _ (.bad nz b) ⟨T3, rfl, upd_same⟩ (s'.trans (same_new h3))⟩
    refine ⟨_, rfl, W, _, rfl, .inl (SqL.of hW7), _, _, rfl, rfl, (by show (0 : Int) < 2; decide), rfl, _, rfl, ?_⟩
    by_cases c1 : ws.length % 2 = 1
    case pos =>
      rw [decide_eq_true (by rw [tm]; exact congrArg V.int (by omega))]
      exact iteT (iteT (bad3 ⟨.inl c1⟩ _ s17))
    rw [decide_eq_false (by rw [tm]; intro e; have := V.int.inj e; omega)]
    refine iteF ?_
    refine ⟨_, rfl, Lf, _, rfl, .inl (SqL.of h7), rfl, flat_strs _, _, rfl, ?_⟩
    rw [if_neg (by decide : ¬ (false = true)), inV_strs]
    by_cases c2 : ("0" : Str) ∈ (evs ws).map fgs
    case pos =>
      rw [decide_eq_true c2]
      obtain ⟨x, hx, e⟩ := List.mem_map.mp c2
      exact iteT (iteT (bad3 ⟨.inr (.inl ⟨x, hx, fgs_bad.mp e⟩)⟩ _ s17))
    rw [decide_eq_false c2]
    refine iteF ?_
    have fg : ∀ x ∈ evs ws, ¬ figBad x := fun x hx b => c2 (List.mem_map.mpr ⟨x, hx, fgs_bad.mpr b⟩)
    refine ⟨_, rfl, _, rfl, Lt, _, rfl, .inl (SqL.of ht7), rfl, flat_ints _, _, rfl, ?_⟩
    rw [if_neg (by decide : ¬ (false = true)), inV_ints]
    by_cases c3 : (-1 : Int) ∈ Pl
    case pos =>
      rw [decide_eq_true c3]
      obtain ⟨i, hi⟩ := List.getElem?_of_mem c3
      have hl := (List.getElem?_eq_some_iff.mp hi).1
      have := nxt_nonneg Pge i (by omega)
      refine iteT (bad3 ⟨.inr (.inr ⟨i, by omega, ?_⟩)⟩ _ s17)
      rw [hP, List.getD_eq_getElem?_getD, hi]
      show (-1 : Int) < _
      omega
    rw [decide_eq_false c3]
    refine iteF ?_
    have lPv : (Pl.map V.int).length = Pl.length := List.length_map _
    refine ⟨_, rfl, Lt, _, rfl, .inl (SqL.of ht7), 1, _, rfl, ⟨by decide, by decide, by omega, by omega⟩, fun Lk hLk => ?_⟩
    refine lc_range (lo := 1) (fun i H' => ∃ ks : List Int, H' Lk = some (.lst (ks.map V.int)) ∧ ks.length ≤ i ∧ (ks = [] ↔ ∀ k, 1 ≤ k → k < 1 + i → Pl.getD (k - 1) 0 < Pl.getD k 0) ∧ Same H7 H') ?_ ?_ ?_
    · exact ⟨[], upd_same, Nat.le_refl _, ⟨fun _ k k1 k2 => by omega, fun _ => rfl⟩, same_new hLk⟩
    · rintro i H8 hi ⟨ks, h8, lk, ek, s8⟩
      have hi1 : i + 1 < Pl.length := by omega
      have ht8 := s8 _ _ ht7
      have a1 : atI (Pl.map V.int) (1 + (i : Int) - 1) = some (.int (Pl.getD i 0)) := at_of (j := i) (by omega) (by rw [List.getElem?_map, List.getD_eq_getElem?_getD, List.getElem?_eq_getElem (by omega)]; rfl)
      have a2 : atI (Pl.map V.int) (1 + (i : Int)) = some (.int (Pl.getD (i + 1) 0)) := at_of (j := i + 1) (by omega) (by rw [List.getElem?_map, List.getD_eq_getElem?_getD, List.getElem?_eq_getElem hi1]; rfl)
      refine ⟨rfl, ?_⟩
      refine ⟨_, rfl, _, rfl, _, _, rfl, rfl, Lt, _, _, _, rfl, rfl, SqL.of ht8, a1, ?_⟩
      refine ⟨_, rfl, _, rfl, Lt, _, _, _, rfl, rfl, SqL.of ht8, a2, _, _, rfl, rfl, _, rfl, ?_⟩
      refine ite2 (fun hb => ?_) (fun hb => ?_)
      · have hb := of_decide_eq_true hb
        refine ⟨_, rfl, _, h8, small1000 (by rw [List.length_map]; omega), ks ++ [1 + (i : Int)], ?_, ?_, ?_, fun b o e => ?_⟩
        · rw [upd_same, List.map_append]; rfl
        · rw [List.length_append]; show _ + 1 ≤ _; omega
        · constructor
          · intro e; simp at e
          · intro e
            have := e (i + 1) (by omega) (by omega)
            have e1 : i + 1 - 1 = i := rfl
            rw [e1] at this
            omega
        · rw [upd_ne (ne_of_none e hLk)]; exact s8 b o e
      · have hb : ¬ Pl.getD (i + 1) 0 ≤ Pl.getD i 0 := fun z => hb (decide_eq_true z)
        refine ⟨ks, h8, by omega, ?_, s8⟩
        rw [ek]
        constructor
        · intro e k k1 k2
          by_cases ek : k = i + 1
          · subst ek
            have e1 : i + 1 - 1 = i := rfl
            rw [e1]; omega
          · exact e k k1 (by omega)
        · intro e k k1 k2
          exact e k k1 (by omega)
    rintro H8 ⟨ks, h8, lk, ek, s8⟩
    refine ⟨(by decide), fun l2 hl2 => ?_⟩
    have s9 := same_new (o := .lst []) hl2
    refine ⟨.list (ks.map PyData.int), .list [], .lst (SqL.of (s9 _ _ h8)) (dp_ints _), .lst (SqL.of upd_same) .nil, shaped_ints _, rfl, _, rfl, ?_⟩
    rw [eqv_nil, List.isEmpty_map]
    have s19 := (s17.trans s8).trans s9
    have ht9 := s9 _ _ (s8 _ _ ht7)
    have h9 := s9 _ _ (s8 _ _ h7)
    cases hk : ks with
    | cons k0 kr =>
      refine iteT (bad3 ?_ _ s19)
      have nk : ¬ ∀ k, 1 ≤ k → k < 1 + ((((Pl.map V.int).length : Nat) : Int) - 1).toNat → Pl.getD (k - 1) 0 < Pl.getD k 0 := fun z => by
        have := ek.mpr z
        rw [hk] at this; cases this
      refine Classical.byContradiction fun nb => nk fun k k1 k2 => ?_
      have hkl : k < Pl.length := by omega
      refine Int.not_le.mp fun z => nb ⟨.inr (.inr ⟨k, by omega, ?_⟩)⟩
      rw [hP]
      obtain ⟨j, rfl⟩ : ∃ j, k = j + 1 := ⟨k - 1, by omega⟩
      show Pl.getD (j + 1) 0 < Pl.getD j 0 + 1
      have e1 : j + 1 - 1 = j := rfl
      rw [e1] at z
      omega
    | nil =>
    refine iteF ?_
    have rise := rise_of Pge c3 fun k k1 k2 => ek.mp hk k k1 (by omega)
    have nb : ¬ BadW ns ws := by
      rintro ⟨h | ⟨y, hy, h⟩ | ⟨i, hi, h⟩⟩
      · omega
      · exact fg y hy h
      · rw [hP] at h
        have := rise i (by omega)
        omega
    have u9 := u.mono (.same s19)
    clear s8 s9 s17
    generalize upd H8 l2 (.lst []) = H9 at *
    refine ⟨_, rfl, p, pre, z, rfl, g, u9, fun Ls H10 h10 hLs s10 => ?_⟩
    have ht10 := s10 _ _ ht9
    have hf10 := s10 _ _ h9
    have s110 := s19.trans s10
    have lfv : (((evs ws).map fgs).map V.str).length = ws.length / 2 := by rw [List.length_map, List.length_map]; omega
    refine ⟨_, rfl, _, rfl, Lf, Lt, _, _, rfl, SqL.of hf10, SqL.of ht10, fun Lp hLp => ?_⟩
    refine lc_zipG (xs := ((evs ws).map fgs).map V.str) (ys := Pl.map V.int) (by rw [lfv, lPv, lP]) (fun i H' => H' Lp = some (.lst (((List.range i).map fun k => numS ((evs ws).getD k Str.empty) * pr ((pre.map (·.2)).drop (fnd ns ((ods ws).getD k Str.empty)).toNat)).map V.int)) ∧ Same H10 H') ?_ ?_ ?_ ?_
    · exact ⟨by rw [upd_same]; rfl, same_new hLp⟩
    · rintro i H11 hi ⟨h11, s11⟩
      exact ⟨SqL.of (s11 _ _ hf10), SqL.of (s11 _ _ ht10)⟩
    · rintro i px py Tp H11 hpx hpy ⟨h11, s11⟩ hTp
      have hi := (List.getElem?_eq_some_iff.mp hpx).1
      rw [lfv] at hi
      have hie : i < (evs ws).length := by omega
      have hio : i < (ods ws).length := by omega
      rw [List.getElem?_map, List.getElem?_map, List.getElem?_eq_getElem hie] at hpx
      have hpy' := hpy
      rw [← hP, List.getElem?_map, List.getElem?_map, List.getElem?_eq_getElem hio] at hpy
      cases hpx
      cases hpy
      have mx := List.getElem_mem hie
      have fk : figOk (evs ws)[i] = true := by
        cases c : figOk (evs ws)[i] with
        | true => rfl
        | false => exact absurd (.inl c) (fg _ mx)
      have ef : fgs (evs ws)[i] = (evs ws)[i] := by unfold fgs; rw [fk]; rfl
      have ge : (evs ws).getD i Str.empty = (evs ws)[i] := by rw [List.getD_eq_getElem?_getD, List.getElem?_eq_getElem hie]; rfl
      have go : (ods ws).getD i Str.empty = (ods ws)[i] := by rw [List.getD_eq_getElem?_getD, List.getElem?_eq_getElem hio]; rfl
      have gp : Pl.getD i 0 = fnd ns (ods ws)[i] := by rw [← hP, List.getD_eq_getElem?_getD, List.getElem?_map, List.getElem?_eq_getElem hio]; rfl
      have r1 := rise i (by omega)
      have r0 := nxt_nonneg Pge i (by omega)
      have lt := fnd_lt ns (ods ws)[i]
      rw [gp] at r1
      obtain ⟨k, hk'⟩ : ∃ k : Nat, fnd ns (ods ws)[i] = (k : Int) := ⟨(fnd ns (ods ws)[i]).toNat, by omega⟩
      rw [hk', ln] at lt
      have hk5 : k ≤ (pre.map (·.2)).length := by rw [List.length_map]; omega
      have ha : atI ((sz (pre.map (·.2))).map V.int) (fnd ns (ods ws)[i]) = some (.int (pr ((pre.map (·.2)).drop k))) := by rw [hk']; exact at_of (j := k) rfl (by rw [List.getElem?_map, sz_at _ _ hk5]; rfl)
      have p0 := fig_nonneg (evs ws)[i]
      have p1 := fig_lt fk
      have l16 := (fig_digits fk).2.2
      have s12 := same_new (o := .tup [V.str (fgs (evs ws)[i]), V.int (fnd ns (ods ws)[i])]) hTp
      refine ⟨Tp, _, rfl, SqT.of upd_same, rfl, _, _, rfl, _, _, rfl, rfl, rfl, yes_i ?_⟩
      refine ⟨_, rfl, _, numS (evs ws)[i], rfl, (by rw [ef]; exact fig_int fk), (by rw [ef]; omega), ?_⟩
      refine ⟨_, rfl, _, rfl, Ls, _, _, _, rfl, rfl, SqL.of (s12 _ _ (s11 _ _ h10)), ha, _, _, rfl, rfl, .inl ⟨(show -(2 ^ 64 : Int) < numS (evs ws)[i] by omega), (show numS (evs ws)[i] < (2 ^ 64 : Int) by omega)⟩, ?_⟩
      refine ⟨_, s12 _ _ h11, small1000 (by rw [List.length_map, List.length_map, List.length_range]; omega), ?_, fun b o e => ?_⟩
      · rw [upd_same, List.range_succ, List.map_append, List.map_append]
        have e2 : numS ((evs ws).getD i Str.empty) * pr ((pre.map (·.2)).drop (fnd ns ((ods ws).getD i Str.empty)).toNat) = numS (evs ws)[i] * pr ((pre.map (·.2)).drop k) := by rw [ge, go, hk']; rfl
        show _ = some (HO.lst (_ ++ [V.int (numS ((evs ws).getD i Str.empty) * pr ((pre.map (·.2)).drop (fnd ns ((ods ws).getD i Str.empty)).toNat))]))
        rw [e2]
      · rw [upd_ne (ne_of_none e hLp)]
        exact s12 _ _ (s11 b o e)
    rintro H11 ⟨h11, s11⟩
    rw [lfv, ← lo] at h11
    refine ⟨Lp, _, rfl, SqL.of h11, ?_⟩
    have s111 := s110.trans s11
    have et : (((List.range (ods ws).length).map fun k => numS ((evs ws).getD k Str.empty) * pr ((pre.map (·.2)).drop (fnd ns ((ods ws).getD k Str.empty)).toNat))).sum = totW (pre.map (·.2)) ns ws (ods ws).length := rfl
    rw [et]
    refine ⟨_, rfl, _, _, rfl, rfl, ⟨by decide, by decide, by decide⟩, _, _, rfl, rfl, _, rfl, ?_⟩
    have e15 : (10 : Int) ^ (15 : Int).toNat = 1000000000000000 := by decide
    rw [e15]
    subst ens ews
    refine ite2 (fun hb => ?_) (fun hb => ?_)
    · have hb := of_decide_eq_true hb
      exact ⟨_, rfl, q _ _ _ (.good nz nb hb) rfl s111⟩
    · have hb := Int.not_le.mp fun z => hb (decide_eq_true z)
      refine ⟨(by decide), fun T2 hT2 => ?_⟩
      exact q _ _ _ (.much nz nb hb) ⟨T2, rfl, upd_same⟩ (s111.trans (same_new hT2))
end
end Ck
set_option Elab.async false
set_option linter.all false
set_option pp.maxSteps 120
set_option maxRecDepth 100000
set_option maxHeartbeats 4000000
namespace Ck
open PySem L2
theorem len_cutlo (x : Str) {m : Int} (h : 0 ≤ m) : (cutS x none (some m)).length ≤ m.toNat := by
  show (cutS x none (some m)).cps.size ≤ _
  unfold cutS
  rw [sIx_nn h]
  simp only [List.size_toArray, List.length_take, List.length_drop, Array.length_toList]
  omega
theorem len_cuthi (x : Str) {m : Int} (h : 0 ≤ m) : (cutS x (some m) none).length + min m.toNat x.length ≤ x.length := by
  show (cutS x (some m) none).cps.size + _ ≤ _
  unfold cutS
  rw [sIx_nn h]
  simp only [List.size_toArray, List.length_take, List.length_drop, Array.length_toList]
  show min _ (x.length - _) + _ ≤ x.length
  omega
theorem log_small {p : Int} (h0 : 0 ≤ p) (h1 : p ≤ 1000000000000001) : p.natAbs.log2 < 1920 := by
  by_cases hp : p.natAbs = 0
  · rw [hp]; decide
  · refine (Nat.log2_lt hp).mpr ?_
    have a : p.natAbs ≤ 1000000000000001 := by omega
    have b : (1000000000000001 : Nat) < 2 ^ 50 := by decide
    have c : (2 : Nat) ^ 50 ≤ 2 ^ 1920 := Nat.pow_le_pow_right (by decide) (by decide)
    omega
theorem dig_ax {i : Int} (h : 0 ≤ i) (h1 : i ≤ 1000000000000001) : Ax 24 (dig i) := by
  constructor
  · rw [TL.len_tl, dig_nat h]
    have := TL.numL_len (n := i.toNat) (k := 16) (by decide) (by
      have : (10 : Nat) ^ 16 = 10000000000000000 := by decide
      omega)
    omega
  · intro c hc
    have hc : c ∈ TL.tl (dig i) := hc
    rw [dig_nat h] at hc
    have := TL.numL_digits _ c hc
    omega
theorem join_ax : ∀ ws : List Str, Wds ws → (TL.joinL [32] (ws.map TL.tl)).length ≤ 25 * ws.length ∧ ∀ c ∈ TL.joinL [32] (ws.map TL.tl), c < 128
  | [], _ => ⟨by simp [TL.joinL], by simp [TL.joinL]⟩
  | [x], h => by
    have a := h x List.mem_cons_self
    have l := a.1
    rw [TL.len_tl] at l
    refine ⟨?_, fun c hc => a.2 c hc⟩
    show (TL.tl x).length ≤ 25 * 1
    omega
  | x :: y :: r, h => by
    have a := h x List.mem_cons_self
    have l := a.1
    rw [TL.len_tl] at l
    obtain ⟨b, c⟩ := join_ax (y :: r) fun z hz => h z (List.mem_cons_of_mem _ hz)
    refine ⟨?_, fun q hq => ?_⟩
    · show (TL.tl x ++ ([32] ++ TL.joinL [32] ((y :: r).map TL.tl))).length ≤ _
      rw [List.length_append, List.length_append]
      simp only [List.length_cons, List.length_nil] at b ⊢
      omega
    · have hq : q ∈ TL.tl x ++ ([32] ++ TL.joinL [32] ((y :: r).map TL.tl)) := hq
      rcases List.mem_append.mp hq with z | z
      · exact a.2 q z
      · rcases List.mem_append.mp z with z | z
        · rw [List.mem_singleton.mp z]; decide
        · exact c q z
theorem join_Ax {ws : List Str} (h : Wds ws) (l : ws.length ≤ 24) : Ax 600 (Txt.join " " ws) := by
  obtain ⟨a, b⟩ := join_ax ws h
  have e : TL.tl (Txt.join " " ws) = TL.joinL [32] (ws.map TL.tl) := by rw [TL.join_eq, TL.tl_join]; rfl
  refine ⟨?_, fun c hc => b c (by rw [← e]; exact hc)⟩
  rw [TL.len_tl, e]
  omega
theorem join_room {ws : List Str} (h : Wds ws) (l : ws.length ≤ 24) : (ws.map (·.length)).sum + ws.length * 1 ≤ 16777216 := by
  have : ∀ ws : List Str, Wds ws → (ws.map (·.length)).sum ≤ 24 * ws.length := by
    intro ws
    induction ws with
    | nil => intro _; simp
    | cons x r ih =>
      intro h
      have a := (h x List.mem_cons_self).1
      have b := ih fun z hz => h z (List.mem_cons_of_mem _ hz)
      simp only [List.map_cons, List.sum_cons, List.length_cons]
      omega
  have := this ws h
  omega
section
variable {P : Program} {w : World} {K : PySem.W.Frag} {mg : Str → Option Value} {base : Heap} {t : Ad}
def spLText (K : PySem.W.Frag) : Sp := fun vs H Q _ => ∃ (d a p : Addr) (ns : List Int) (pre : List Un1) (z : Str), vs = [.ref d, .ref p] ∧ DrawAt K H d a ns ∧ Good pre z ∧ Units H p pre z ∧
  ∀ (tx : Str) (H' : Hp), Ax 900 tx → DrawAt K H' d a ns → Keep d H H' → Q (.str tx) H'
theorem ok_ltext (T : Env K mg t) : FnOk P w K mg base CX0 5 t.a_l_text t.fd_l_text ["_law_draw", "_law_units_here"] (spLText K) := by
  have G_l_next : FnOk P w K mg base CX0 2 t.a_l_next t.fd_l_next ["_law_draw", "_law_size"] (spNext K) := ok_next T
  have G_l_pick : FnOk P w K mg base CX0 3 t.a_l_pick t.fd_l_pick ["_law_draw", "_law_some"] (spPick K) := ok_pick T
  have G_l_signs : FnOk P w K mg base CX0 1 t.a_l_signs t.fd_l_signs [] spSigns := ok_signs T
  have G_l_counts : FnOk P w K mg base CX0 4 t.a_l_counts t.fd_l_counts ["_law_draw", "_law_units_here"] (spCounts6 K) := ok_counts6 T
  have G_l_bent : FnOk P w K mg base CX0 4 t.a_l_bent t.fd_l_bent ["_law_draw", "_law_words_here", "_law_units_here"] (spBent K) := ok_bent T
  refine T.f_l_text.okQ sc_l_text (fun vs H Q E h => ?_) (fun cdv A outer s H vs Q E hr h => ?_)
  · obtain ⟨d, a, p, ns, pre, z, rfl, _⟩ := h
    rfl
  · obtain ⟨d, a, p, ns, pre, z, rfl, D, g, u, q⟩ := h
    have hr_l_next : Room 2 _ := hr.mono (by decide)
    have hr_l_pick : Room 3 _ := hr.mono (by decide)
    have hr_l_signs : Room 1 _ := hr.mono (by decide)
    have hr_l_counts : Room 4 _ := hr.mono (by decide)
    have hr_l_bent : Room 4 _ := hr.mono (by decide)
    refine ⟨_, (q_pss_cons (q_ps_set (i := 2) sc_l_text.nd rfl (by first | exact Or.inl rfl | exact Or.inr (Or.inl rfl) | exact Or.inr rfl) (q_pe_call G_l_next hr_l_next (by rfl) T.mg_l_next T.kp_l_next T.b_l_next .nil pass0 (q_pa_cons (q_pv 0) (q_pa_cons q_pe_int q_pa_nil star_Constant) star_Name)))
      (q_pss_cons (q_ps_set (i := 3) sc_l_text.nd rfl (by first | exact Or.inl rfl | exact Or.inr (Or.inl rfl) | exact Or.inr rfl) (q_pe_call G_l_next hr_l_next (by rfl) T.mg_l_next T.kp_l_next T.b_l_next .nil pass0 (q_pa_cons (q_pv 0) (q_pa_cons q_pe_int q_pa_nil star_Constant) star_Name)))
      (q_pss_cons (q_ps_set (i := 4) sc_l_text.nd rfl (by first | exact Or.inl rfl | exact Or.inr (Or.inl rfl) | exact Or.inr rfl) (q_pe_lst q_pa_nil))
      (q_pss_cons (q_ps_for PassesOwn.never rfl (q_pi_zipG false true (by rfl) T.z_zip (q_pa_cons (q_pe_call G_l_counts hr_l_counts (by rfl) T.mg_l_counts T.kp_l_counts T.b_l_counts .nil pass0 (q_pa_cons (q_pv 0) (q_pa_cons (q_pv 1) q_pa_nil star_Name) star_Name)) (q_pa_cons (q_pv 1) q_pa_nil star_Name) star_Call)) (q_pg_tup (by rfl) (q_pgs_cons (q_pg_name (i := 5) sc_l_text.nd rfl (by first | exact Or.inl rfl | exact Or.inr (Or.inl rfl) | exact Or.inr rfl)) (q_pgs_cons (q_pg_tup (by rfl) (q_pgs_cons (q_pg_name (i := 6) sc_l_text.nd rfl (by first | exact Or.inl rfl | exact Or.inr (Or.inl rfl) | exact Or.inr rfl)) (q_pgs_cons (q_pg_name (i := 7) sc_l_text.nd rfl (by first | exact Or.inl rfl | exact Or.inr (Or.inl rfl) | exact Or.inr rfl)) q_pgs_nil))) q_pgs_nil)))
      (q_pss_one (q_ps_if (q_pt_cmpR op_gt (q_pv 5) q_pe_int (nomark _)) (q_pss_one (q_ps_set (i := 4) sc_l_text.nd rfl (by first | exact Or.inl rfl | exact Or.inr (Or.inl rfl) | exact Or.inr rfl) (q_pe_op op_cat (q_pv 4) (q_pe_lst (q_pa_cons (q_pe_callTy call_str_int (by rfl) T.z_str (by decide +kernel) (q_pa_cons (q_pv 5) q_pa_nil star_Name)) (q_pa_cons (q_pv 6) q_pa_nil star_Name) star_Call))))) q_pss_nil)))
      (q_pss_cons (q_ps_for PassesOwn.never rfl (q_pi_range1 (by rfl) T.z_range (q_pa_cons (q_pv 2) q_pa_nil star_Name)) (q_pg_name (i := 8) sc_l_text.nd rfl (by first | exact Or.inl rfl | exact Or.inr (Or.inl rfl) | exact Or.inr rfl))
      (q_pss_one (q_ps_set (i := 4) sc_l_text.nd rfl (by first | exact Or.inl rfl | exact Or.inr (Or.inl rfl) | exact Or.inr rfl) (q_pe_call G_l_bent hr_l_bent (by rfl) T.mg_l_bent T.kp_l_bent T.b_l_bent .nil pass0 (q_pa_cons (q_pv 0) (q_pa_cons (q_pv 4) (q_pa_cons (q_pv 1) q_pa_nil star_Name) star_Name) star_Name)))))
      (q_pss_cons (q_ps_set (i := 9) sc_l_text.nd rfl (by first | exact Or.inl rfl | exact Or.inr (Or.inl rfl) | exact Or.inr rfl) (q_pe_join q_pe_str (q_pv 4)))
      (q_pss_cons (q_ps_if (q_pt_cmpR op_gt (q_pv 3) q_pe_int (nomark _)) (q_pss_one (q_ps_ret (q_pv 9))) q_pss_nil)
      (q_pss_cons (q_ps_set (i := 10) sc_l_text.nd rfl (by first | exact Or.inl rfl | exact Or.inr (Or.inl rfl) | exact Or.inr rfl) (q_pe_call G_l_next hr_l_next (by rfl) T.mg_l_next T.kp_l_next T.b_l_next .nil pass0 (q_pa_cons (q_pv 0) (q_pa_cons (q_pe_op op_add (q_pe_callB call_len_str (by rfl) T.z_len PySem.boot_len (q_pa_cons (q_pv 9) q_pa_nil star_Name)) q_pe_int) q_pa_nil star_BinOp) star_Name)))
      (q_pss_cons (q_ps_set (i := 11) sc_l_text.nd rfl (by first | exact Or.inl rfl | exact Or.inr (Or.inl rfl) | exact Or.inr rfl) (q_pe_call G_l_pick hr_l_pick (by rfl) T.mg_l_pick T.kp_l_pick T.b_l_pick .nil pass0 (q_pa_cons (q_pv 0) (q_pa_cons (q_pe_lst (q_pa_cons (q_pe_call G_l_pick hr_l_pick (by rfl) T.mg_l_pick T.kp_l_pick T.b_l_pick .nil pass0 (q_pa_cons (q_pv 0) (q_pa_cons (q_pe_call0 G_l_signs hr_l_signs (by rfl) T.mg_l_signs T.kp_l_signs T.b_l_signs .nil pass0) q_pa_nil star_Call) star_Name)) (q_pa_cons q_pe_str (q_pa_cons q_pe_str (q_pa_cons q_pe_str (q_pa_cons q_pe_str q_pa_nil star_Constant) star_Constant) star_Constant) star_Constant) star_Call)) q_pa_nil star_List) star_Name)))
      (q_pss_one (q_ps_ret (q_pe_op op_add_str (q_pe_op op_add_str (q_pe_slice sl_str (q_pv 9) q_po_none (q_po_some (q_pv 10))) (q_pv 11)) (q_pe_slice sl_str (q_pv 9) (q_po_some (q_pe_op op_add (q_pv 10) (q_pe_call G_l_next hr_l_next (by rfl) T.mg_l_next T.kp_l_next T.b_l_next .nil pass0 (q_pa_cons (q_pv 0) (q_pa_cons q_pe_int q_pa_nil star_Constant) star_Name)))) q_po_none))))))))))))), ?_⟩
    have lp := g.len
    refine ⟨_, rfl, d, a, ns, _, rfl, D, by decide, fun tm H1 t0 t1 D1 k1 => ?_⟩
    refine ⟨_, rfl, d, a, ns, _, rfl, D1, by decide, fun sg H2 g0 g1 D2 k2 => ?_⟩
    refine ⟨by decide, fun L hL => ?_⟩
    have nL := D2.ne hL
    have s3 := same_new (o := .lst []) hL
    have D3 := D2.same s3
    have k3 := (k1.trans k2).trans (.of s3)
    have u3 := u.mono (D.tups k3)
    refine ⟨_, rfl, _, rfl, d, a, p, ns, pre, z, rfl, D3, g, u3, fun Lc cs H4 h4 lc cb nLc D4 k4 => ?_⟩
    have k34 := k3.trans k4
    have u4 := u3.mono (D3.tups k4)
    obtain ⟨rs, hp4, ua⟩ := u4.all
    have hL4 := k4 _ _ (new_at (o := .lst []) hL) nL
    have lu : (pre ++ [(z, (1 : Int))]).length = pre.length + 1 := by rw [List.length_append]; rfl
    have lrs : (rs.map V.ref).length = pre.length + 1 := by rw [List.length_map, ua.len, lu]
    have lcv : (cs.map V.int).length = pre.length + 1 := by rw [List.length_map, lc]
    refine ⟨_, rfl, Lc, p, _, _, rfl, SqL.of h4, SqT.of hp4, ?_⟩
    refine for_zipG (xs := cs.map V.int) (ys := rs.map V.ref) (by rw [lcv, lrs]) (fun i σ H' => ∃ (o5 o6 o7 : Option V) (Lw : Addr) (ws : List Str), σ = [some (.ref d), some (.ref p), some (.int tm), some (.int sg), some (.ref Lw), o5, o6, o7, none, none, none, none] ∧ H' Lw = some (.lst (ws.map V.str)) ∧ Lw ≠ d ∧ Wds ws ∧ ws.length ≤ 2 * i ∧ Same H4 H') ?_ ?_ ?_ ?_
    · exact ⟨none, none, none, L, [], rfl, hL4, nL, fun x hx => by simp at hx, by simp, Same.refl _⟩
    · rintro i σ H5 hi ⟨o5, o6, o7, Lw, ws, rfl, h5, nw, wd, wl, s5⟩
      exact ⟨SqL.of (s5 _ _ h4), SqT.of (s5 _ _ hp4)⟩
    · rintro i px py Tp σ H5 hpx hpy ⟨o5, o6, o7, Lw, ws, rfl, h5, nw, wd, wl, s5⟩ hTp
      have hi := (List.getElem?_eq_some_iff.mp hpx).1
      rw [lcv] at hi
      rw [List.getElem?_map] at hpx
      cases hc : cs[i]? with
      | none => rw [hc] at hpx; cases hpx
      | some c =>
      rw [hc] at hpx
      cases hpx
      obtain ⟨r, hr', rfl⟩ := ref_at hpy
      obtain ⟨v, hv, er⟩ := ua.at_ i r hr'
      obtain ⟨c0, c1⟩ := cb c (List.mem_of_getElem? hc)
      have s6 := same_new (o := .tup [V.int c, V.ref r]) hTp
      refine ⟨Tp, _, rfl, SqT.of upd_same, rfl, _, _, rfl, _, _, rfl, ?_⟩
      refine ⟨r, _, rfl, SqT.of (s6 _ _ (s5 _ _ er)), rfl, _, _, rfl, _, _, rfl, rfl, rfl, ?_⟩
      refine ⟨_, rfl, _, _, rfl, rfl, _, rfl, ite2 (fun hb => ?_) (fun hb => ?_)⟩
      · have da := dig_ax c0 c1
        have vn : nameOk v.1 = true := g.names _ (List.mem_map.mpr ⟨v, List.mem_of_getElem? hv, rfl⟩)
        refine ⟨_, rfl, _, rfl, _, rfl, ?_, _, rfl, (by show 2 ≤ sizeLine; decide), fun l hl => ?_⟩
        · exact log_small c0 (by omega)
        have s7 := same_new (o := .lst ([dig c, v.1].map V.str)) hl
        refine ⟨Lw, l, _, _, rfl, rfl, s7 _ _ (s6 _ _ h5), upd_same, Nat.le_of_lt (small1000 (by rw [List.length_map]; show _ + 2 ≤ 1000; omega)), fun l2 hl2 => ?_⟩
        have s8 := same_new (o := .lst ((ws ++ [dig c, v.1]).map V.str)) hl2
        have sA := (s6.trans s7)
        refine ⟨_, _, _, l2, ws ++ [dig c, v.1], rfl, ?_, (D4.same ((s5.trans sA))).ne hl2, wd.app ?_, ?_, ?_⟩
        · rw [upd_same, List.map_append]; rfl
        · intro x hx
          rcases List.mem_cons.mp hx with rfl | hx
          · exact da
          · rw [List.mem_singleton.mp hx]; exact (Ax.name vn).mono (by decide)
        · rw [List.length_append]; show _ + 2 ≤ _; omega
        · rw [List.map_append] at s8
          exact (s5.trans sA).trans s8
      · exact ⟨_, _, _, Lw, ws, rfl, s6 _ _ h5, nw, wd, by omega, s5.trans s6⟩
    rintro σ H5 ⟨o5, o6, o7, Lw, ws, rfl, h5, nw, wd, wl, s5⟩
    rw [lcv] at wl
    have wl : ws.length ≤ 12 := by omega
    have D5 := D4.same s5
    have k5 := k34.trans (.of s5)
    have u5 := u4.mono (.same s5)
    refine ⟨_, rfl, tm, rfl, by omega, by omega, ?_⟩
    refine for_range (lo := 0) (fun i σ H' => ∃ (o8 : Option V) (Lw : Addr) (ws : List Str), σ = [some (.ref d), some (.ref p), some (.int tm), some (.int sg), some (.ref Lw), o5, o6, o7, o8, none, none, none] ∧ H' Lw = some (.lst (ws.map V.str)) ∧ Lw ≠ d ∧ Wds ws ∧ ws.length ≤ 12 + 6 * i ∧ DrawAt K H' d a ns ∧ Keep d H H') ?_ ?_ ?_
    · exact ⟨none, Lw, ws, rfl, h5, nw, wd, by omega, D5, k5⟩
    · rintro i σ H6 hi ⟨o8, Lw, ws, rfl, h6, nw, wd, wl, D6, k6⟩
      refine ⟨_, rfl, _, rfl, _, rfl, d, a, Lw, p, ns, pre, z, ws, 12 + 6 * i, rfl, D6, h6, nw, wd, wl, by omega, g, u.mono (D.tups k6), fun L' ws' H7 h7 n7 wd7 wl7 D7 k7 => ?_⟩
      exact ⟨_, L', ws', rfl, h7, n7, wd7, by omega, D7, k6.trans k7⟩
    rintro σ H6 ⟨o8, Lw, ws, rfl, h6, nw, wd, wl, D6, k6⟩
    have wl : ws.length ≤ 24 := by omega
    have ja := join_Ax wd wl
    have jl := ja.1
    refine ⟨⟨_, rfl⟩, _, rfl, _, Lw, ws, rfl, rfl, .inl (SqL.of h6), join_room wd wl, ?_⟩
    refine ⟨_, rfl, _, _, rfl, rfl, _, rfl, ite2 (fun hb => ?_) (fun hb => ?_)⟩
    · exact ⟨_, rfl, q _ H6 (ja.mono (by decide)) D6 k6⟩
    generalize Txt.join " " ws = tx at *
    have lz : tx.length ≤ sizeLine := Nat.le_of_lt (small1000 (by omega))
    refine ⟨_, rfl, _, rfl, tx, rfl, lz, _, _, rfl, rfl, d, a, ns, _, rfl, D6, by omega, fun at' H7 a0 a1 D7 k7 => ?_⟩
    refine ⟨_, rfl, _, rfl, rfl, .inr ⟨d, a, ns, sgs, rfl, D7, sgs_len.1, by have := sgs_len.2; omega, fun c H8 hc D8 k8 => ?_⟩⟩
    refine ⟨(by show 5 ≤ sizeLine; decide), fun lp' hlp => ?_⟩
    have s9 := same_new (o := .lst ([sgn c, " ", "0", "", "\n"].map V.str)) hlp
    refine .inl ⟨d, a, lp', ns, _, rfl, D8.same s9, new_at (o := .lst ([sgn c, " ", "0", "", "\n"].map V.str)) hlp, D8.ne hlp, (by show 0 < 5; decide), fun v H9 hv D9 k9 => ?_⟩
    obtain ⟨pt, hpt, rfl⟩ := List.mem_map.mp hv
    have pa : Ax 1 pt := by
      have cc : ∀ y ∈ ([" ", "0", "", "\n"] : List Str), Ax 1 y := by unfold Ax Asc; decide +kernel
      rcases List.mem_cons.mp hpt with rfl | h
      · exact ⟨by show 1 ≤ 1; decide, Asc.sgn hc⟩
      · exact cc pt h
    have kA := ((k6.trans k7).trans k8).trans ((Keep.of s9).trans k9)
    have p1 := pa.1
    have c1 := len_cut tx none (some at')
    refine ⟨_, rfl, _, rfl, at', rfl, tx, rfl, ?_, _, rfl, _, _, rfl, rfl, ?_, ?_⟩
    · exact lz
    · refine Nat.le_of_lt (small1000 ?_); show _ + pt.length ≤ 1000; omega
    refine ⟨_, rfl, _, rfl, _, rfl, d, a, ns, _, rfl, D9, by decide, fun r H10 r0 r1 D10 k10 => ?_⟩
    refine ⟨_, _, rfl, rfl, at' + r, rfl, tx, rfl, lz, _, _, rfl, rfl, ?_, ?_⟩
    · refine Nat.le_of_lt (small1000 ?_)
      have c2 := len_cuthi tx (m := at' + r) (by omega)
      have c3 := len_cutlo tx a0
      show (_ ++ pt).length + _ ≤ 1000
      rw [len_app]
      omega
    refine q _ H10 ⟨?_, ?_⟩ D10 (kA.trans k10)
    · have c2 := len_cuthi tx (m := at' + r) (by omega)
      have c3 := len_cutlo tx a0
      rw [len_app, len_app]
      omega
    · exact ((ja.2.cut _ _).app pa.2).app (ja.2.cut _ _)
end
end Ck
set_option Elab.async false
set_option linter.all false
set_option pp.maxSteps 120
set_option maxRecDepth 100000
set_option maxHeartbeats 4000000
namespace Ck
open PySem L2
theorem kit_int_tup {K : PySem.W.Frag} : PySem.W.kitOne K (.type "int") (.type "tuple") = some false := by
  unfold PySem.W.kitOne PySem.W.kitCls
  rw [if_neg (by decide)]
  rfl
section
variable {P : Program} {w : World} {K : PySem.W.Frag} {mg : Str → Option Value} {base : Heap} {t : Ad}
def spRR (t : Ad) : Sp := fun vs H Q _ => ∃ (x : Addr) (pre : List Un1) (z tx : Str) (v : V) (d : Int ⊕ Int), vs = [.ref x, v, .str tx] ∧ MoneyAt t.C_Money H x pre z ∧ Good pre z ∧ Ax 900 tx ∧ DueIs (pre.map (·.2)) (namesOf pre z) z tx d ∧ DueV H v d ∧ ∀ H', Same H H' → Q (.bl true) H'
theorem ok_rr (T : Env K mg t) : FnOk P w K mg base CX0 7 t.a_l_read_right t.fd_l_read_right ["_law_money", "_law_due_here", "_law_text_here"] (spRR t) := by
  have G_Money_amount : FnOk P w K mg base (CX1 P w) 6 t.a_Money_amount t.fd_Money_amount ["self", "text"] (spAm t) := ok_am T
  have G_l_alone : FnOk P w K mg base CX0 1 t.a_l_alone t.fd_l_alone ["_law_error", "_law_due_here"] (spAl t) := ok_al T
  refine T.f_l_read_right.okQ sc_l_read_right (fun vs H Q E h => ?_) (fun cdv A outer s H vs Q E hr h => ?_)
  · obtain ⟨x, pre, z, tx, v, d, rfl, _⟩ := h
    rfl
  · obtain ⟨x, pre, z, tx, v, d, rfl, m, g, ax, du, dv, q⟩ := h
    have hr_Money_amount := hr
    have hr_l_alone : Room 1 _ := hr.mono (by decide)
    refine ⟨_, (q_pss_cons (q_ps_set (i := 3) sc_l_read_right.nd rfl (by first | exact Or.inl rfl | exact Or.inr (Or.inl rfl) | exact Or.inr rfl) q_pe_non)
      (q_pss_cons (q_ps_set (i := 4) sc_l_read_right.nd rfl (by first | exact Or.inl rfl | exact Or.inr (Or.inl rfl) | exact Or.inr rfl) q_pe_non)
      (q_pss_cons (q_ps_tryAs (i := 5) sc_l_read_right.nd rfl rfl (by rfl) T.mg_CoinError (qsx_set (i := 4) sc_l_read_right.nd rfl (by first | exact Or.inl rfl | exact Or.inr (Or.inl rfl) | exact Or.inr rfl) (qx_meth (q_pv 0) T.cl_Money T.m_Money_amount G_Money_amount hr_Money_amount T.b_Money_amount .nil (q_pa_cons (q_pv 2) q_pa_nil star_Name))) (fun _ => (q_pss_one (q_ps_set (i := 3) sc_l_read_right.nd rfl (by first | exact Or.inl rfl | exact Or.inr (Or.inl rfl) | exact Or.inr rfl) (q_pv 5)))))
      (q_pss_cons (q_ps_if (q_pt_val (q_pe_callB call_isinst (by rfl) T.z_isinstance (by decide +kernel) (q_pa_cons (q_pv 1) (q_pa_cons (q_pe_bltn (v := .ty "tuple") (by rfl) T.z_tuple (by decide +kernel) rfl) q_pa_nil star_Name) star_Name))) (q_pss_one (q_ps_ret (q_pe_call G_l_alone hr_l_alone (by rfl) T.mg_l_alone T.kp_l_alone T.b_l_alone .nil pass0 (q_pa_cons (q_pv 3) (q_pa_cons (q_pe_ix ix_tup (q_pv 1) q_pe_int (fun _ _ => rfl)) q_pa_nil star_Subscript) star_Name)))) q_pss_nil)
      (q_pss_one (q_ps_ret (q_pe_and (q_pe_cmpR op_isN (q_pv 3) q_pe_non (nomark _)) (q_pe_and (q_pe_callB call_isinst (by rfl) T.z_isinstance (by decide +kernel) (q_pa_cons (q_pv 4) (q_pa_cons (q_pe_bltn (v := .ty "int") (by rfl) T.z_int (by decide +kernel) rfl) q_pa_nil star_Name) star_Name)) (q_pe_and (q_pe_not (q_pe_callB call_isinst (by rfl) T.z_isinstance (by decide +kernel) (q_pa_cons (q_pv 4) (q_pa_cons (q_pe_bltn (v := .ty "bool") (by rfl) T.z_bool (by decide +kernel) rfl) q_pa_nil star_Name) star_Name))) (q_pe_one (q_pe_cmpR op_eq (q_pv 4) (q_pv 1) (nomark _)))))))))))), ?_⟩
    obtain ⟨dx, uo, so, po, kvs, hx, _⟩ := id m
    have none3 : ∀ ea : Addr, ea = ea := fun _ => rfl
    refine ⟨_, rfl, x, dx, _, rfl, hx, rfl, _, rfl, x, pre, z, tx, d, rfl, m, g, ax, du, ?_, ?_, ?_⟩
    · rintro n rfl H1 s1
      have dv : v = .int n := dv
      subst dv
      refine ⟨_, rfl, _, "tuple", _, _, rfl, .int n, kit_int_tup, _, rfl, iteF ?_⟩
      refine ⟨_, rfl, rfl, _, rfl, iteT ?_⟩
      refine ⟨_, rfl, _, "int", _, _, rfl, .int n, kit_same, _, rfl, iteT ?_⟩
      refine ⟨_, rfl, _, "bool", _, _, rfl, .int n, kit_int_bool, _, rfl, _, rfl, iteT ?_⟩
      refine ⟨_, rfl, _, rfl, rfl, ?_⟩
      rw [decide_eq_true rfl]
      exact q _ s1
    · rintro rfl H1 s1
      obtain ⟨T3, rfl, h3⟩ := id dv
      refine ⟨_, rfl, T.ca_NoText_CoinError, fun ea hea => ?_⟩
      have s2 := same_new (o := .ext (excAt ea t.C_NoText)) hea
      refine ⟨_, rfl, ?_⟩
      refine ⟨_, rfl, _, "tuple", _, _, rfl, .tup (s2 _ _ (s1 _ _ h3)), kit_same, _, rfl, iteT ?_⟩
      refine ⟨_, rfl, _, rfl, T3, _, 0, _, rfl, rfl, SqT.of (s2 _ _ (s1 _ _ h3)), at_of (j := 0) (by decide) rfl, .inr ⟨ea, rfl, upd_same, fun H3 s3 => ?_⟩⟩
      exact q _ ((s1.trans s2).trans s3)
    · rintro rfl H1 s1
      obtain ⟨T3, rfl, h3⟩ := id dv
      refine ⟨_, rfl, T.ca_NoAmount_CoinError, fun ea hea => ?_⟩
      have s2 := same_new (o := .ext (excAt ea t.C_NoAmount)) hea
      refine ⟨_, rfl, ?_⟩
      refine ⟨_, rfl, _, "tuple", _, _, rfl, .tup (s2 _ _ (s1 _ _ h3)), kit_same, _, rfl, iteT ?_⟩
      refine ⟨_, rfl, _, rfl, T3, _, 0, _, rfl, rfl, SqT.of (s2 _ _ (s1 _ _ h3)), at_of (j := 0) (by decide) rfl, .inl ⟨ea, rfl, upd_same, fun H3 s3 => ?_⟩⟩
      exact q _ ((s1.trans s2).trans s3)
end
end Ck
set_option Elab.async false
set_option linter.all false
set_option pp.maxSteps 120
set_option maxRecDepth 100000
set_option maxHeartbeats 4000000
namespace Ck
open PySem L2
theorem tups_made {H : Hp} {x dx : Addr} {o1 o2 : HO} (hx : H x = none) (hdx : H dx = none) : Tups H (upd (upd H dx o1) x o2) := fun b xs e => by
  rw [upd_ne (ne_of_none e hx), upd_ne (ne_of_none e hdx)]
  exact e
def ten (u : Un1) : Un1 := (u.1, 10)
theorem other_good {pre : List Un1} {z : Str} (g : Good pre z) {u0 : Un1} {rest : List Un1} (e : pre ++ [(z, (1 : Int))] = u0 :: rest) : Good (rest.reverse.map ten) u0.1 := by
  have lu := congrArg List.length e
  rw [List.length_append] at lu
  have lu : pre.length + 1 = rest.length + 1 := lu
  have lp := g.len
  have gn : ∀ u ∈ u0 :: rest, nameOk u.1 = true := fun u hu => g.names _ (List.mem_map.mpr ⟨u, by rw [e]; exact hu, rfl⟩)
  refine ⟨by rw [List.length_map, List.length_reverse]; omega, ?_, gn u0 List.mem_cons_self, ?_, ?_⟩
  · intro u hu
    obtain ⟨v, hv, rfl⟩ := List.mem_map.mp hu
    exact gn v (List.mem_cons_of_mem _ (List.mem_reverse.mp hv))
  · intro u hu
    obtain ⟨v, hv, rfl⟩ := List.mem_map.mp hu
    exact ⟨(by show (2 : Int) ≤ 10; decide), (by show (10 : Int) ≤ 1000; decide)⟩
  · have e1 : (rest.reverse.map ten).map (·.1) ++ [u0.1] = ((u0 :: rest).map (·.1)).reverse := by
      rw [List.map_cons, List.reverse_cons, List.map_map, ← List.map_reverse]; rfl
    rw [e1, ← e, List.map_append]
    exact List.pairwise_reverse.mpr (g.nd.imp fun h => h.symm)
section
variable {P : Program} {w : World} {K : PySem.W.Frag} {mg : Str → Option Value} {base : Heap} {t : Ad}
def spLaw (K : PySem.W.Frag) : Sp := fun vs H Q _ => ∃ (a : Addr) (ns : List Int), vs = [.ref a] ∧ Scr K H a ns ∧ ns.length ≤ 63 ∧ ∀ H', Q (.bl true) H'
theorem ok_law (T : Env K mg t) : FnOk P w K mg base CX0 8 t.a_law t.fd_law ["_law_script"] (spLaw K) := by
  have G_l_units : FnOk P w K mg base CX0 5 t.a_l_units t.fd_l_units ["_law_draw"] (spUnits K) := ok_units T
  have G_Money_init : FnOk P w K mg base CX0 5 t.a_Money_init t.fd_Money_init ["self", "units"] (spInit t.C_Money) := ok_init T
  have G_l_text : FnOk P w K mg base CX0 5 t.a_l_text t.fd_l_text ["_law_draw", "_law_units_here"] (spLText K) := ok_ltext T
  have G_l_due : FnOk P w K mg base CX0 2 t.a_l_due t.fd_l_due ["_law_units_here", "_law_text_here"] spDue := ok_due T
  have G_l_read_right : FnOk P w K mg base CX0 7 t.a_l_read_right t.fd_l_read_right ["_law_money", "_law_due_here", "_law_text_here"] (spRR t) := ok_rr T
  refine T.f_law.okQ sc_law (fun vs H Q E h => ?_) (fun cdv A outer s H vs Q E hr h => ?_)
  · obtain ⟨a, ns, rfl, _⟩ := h
    rfl
  · obtain ⟨a, ns, rfl, hS, hlen, k⟩ := h
    have hr_Money_init : Room 6 _ := hr.mono (by decide)
    have hr_l_units : Room 5 _ := hr.mono (by decide)
    have hr_l_text : Room 5 _ := hr.mono (by decide)
    have hr_l_due : Room 2 _ := hr.mono (by decide)
    have hr_l_read_right : Room 7 _ := hr.mono (by decide)
    refine ⟨_, (q_pss_cons (q_ps_set (i := 1) sc_law.nd rfl (by first | exact Or.inl rfl | exact Or.inr (Or.inl rfl) | exact Or.inr rfl) (q_pe_lst (q_pa_cons (q_pv 0) (q_pa_cons q_pe_int q_pa_nil star_Constant) star_Name)))
      (q_pss_cons (q_ps_for PassesOwn.never rfl (q_pi_range1 (by rfl) T.z_range (q_pa_cons (q_pe_callB (call_max2 rfl) (by rfl) T.z_max (by decide +kernel) (q_pa_cons q_pe_int (q_pa_cons (q_pe_callB (call_min2 rfl) (by rfl) T.z_min (by decide +kernel) (q_pa_cons (q_pe_op op_fdiv (q_pe_callB call_len_seq (by rfl) T.z_len PySem.boot_len (q_pa_cons (q_pv 0) q_pa_nil star_Name)) q_pe_int) (q_pa_cons q_pe_int q_pa_nil star_Constant) star_BinOp)) q_pa_nil star_Call) star_Constant)) q_pa_nil star_Call)) (q_pg_name (i := 2) sc_law.nd rfl (by first | exact Or.inl rfl | exact Or.inr (Or.inl rfl) | exact Or.inr rfl))
      (q_pss_cons (q_ps_set (i := 3) sc_law.nd rfl (by first | exact Or.inl rfl | exact Or.inr (Or.inl rfl) | exact Or.inr rfl) (q_pe_call G_l_units hr_l_units (by rfl) T.mg_l_units T.kp_l_units T.b_l_units .nil pass0 (q_pa_cons (q_pv 1) q_pa_nil star_Name)))
      (q_pss_cons ((q_ps_setLc (i := 4) (own := [("_law_name", 10), ("_law_many", 11)]) (g := _) (by rfl) sc_law.nd rfl rfl (sw_true rfl rfl rfl (by decide +kernel)) (q_pi_revT (by rfl) T.z_reversed (q_pa_cons (q_pv 3) q_pa_nil star_Name)) (blkOk_by (own := [("_law_name", 10), ("_law_many", 11)]) (N := ["_law_script", "_law_draw", "_law_turn", "_law_units_here", "_law_other", "_law_moneys", "_law_time", "_law_text_here", "_law_told", "_law_money", "_law_name", "_law_many"]) (sc := defScope s_law) (by decide +kernel)) (fun _ _ _ _ _ => (q_pg_tupK (K := K) 2 rfl (by rfl) (q_pgs_cons (q_pg_name (i := 10) sc_law.nd rfl (by first | exact Or.inl rfl | exact Or.inr (Or.inl rfl) | exact Or.inr rfl)) (q_pgs_cons (q_pg_name (i := 11) sc_law.nd rfl (by first | exact Or.inl rfl | exact Or.inr (Or.inl rfl) | exact Or.inr rfl)) q_pgs_nil)))) (fun _ _ _ _ _ => q_pts_nil) (fun _ _ _ _ _ => (q_pe_tup (q_pa_cons (q_pv 10) (q_pa_cons q_pe_int q_pa_nil star_Constant) star_Name)))))
      (q_pss_cons (q_ps_set (i := 4) sc_law.nd rfl (by first | exact Or.inl rfl | exact Or.inr (Or.inl rfl) | exact Or.inr rfl) (q_pe_callTy call_tuple_of (by rfl) T.z_tuple (by decide +kernel) (q_pa_cons (q_pe_op op_cat (q_pe_slice sl_list (q_pv 4) q_po_none (q_po_some (q_pe_un un_neg q_pe_int))) (q_pe_lst (q_pa_cons (q_pe_tup (q_pa_cons (q_pe_ix ix_tup (q_pe_ix ix_tup (q_pv 3) q_pe_int (fun _ _ => rfl)) q_pe_int (fun _ _ => rfl)) (q_pa_cons q_pe_int q_pa_nil star_Constant) star_Subscript)) q_pa_nil star_Tuple))) q_pa_nil star_BinOp)))
      (q_pss_cons (q_ps_set (i := 5) sc_law.nd rfl (by first | exact Or.inl rfl | exact Or.inr (Or.inl rfl) | exact Or.inr rfl) (q_pe_lst (q_pa_cons (q_pe_make T.mk_Money G_Money_init hr_Money_init (by rfl) T.mg_Money T.b_Money_init .nil pass0 (q_pa_cons (q_pv 3) q_pa_nil star_Name)) (q_pa_cons (q_pe_make T.mk_Money G_Money_init hr_Money_init (by rfl) T.mg_Money T.b_Money_init .nil pass0 (q_pa_cons (q_pv 4) q_pa_nil star_Name)) q_pa_nil star_Call) star_Call)))
      (q_pss_one (q_ps_for PassesOwn.never rfl (q_pi_range1 (by rfl) T.z_range (q_pa_cons q_pe_int q_pa_nil star_Constant)) (q_pg_name (i := 6) sc_law.nd rfl (by first | exact Or.inl rfl | exact Or.inr (Or.inl rfl) | exact Or.inr rfl))
      (q_pss_cons (q_ps_set (i := 7) sc_law.nd rfl (by first | exact Or.inl rfl | exact Or.inr (Or.inl rfl) | exact Or.inr rfl) (q_pe_call G_l_text hr_l_text (by rfl) T.mg_l_text T.kp_l_text T.b_l_text .nil pass0 (q_pa_cons (q_pv 1) (q_pa_cons (q_pv 3) q_pa_nil star_Name) star_Name)))
      (q_pss_one (q_ps_for PassesOwn.never rfl (q_pi_list (q_pe_lst (q_pa_cons (q_pe_tup (q_pa_cons (q_pv 3) (q_pa_cons (q_pe_ix ix_list (q_pv 5) q_pe_int (fun _ _ => rfl)) q_pa_nil star_Subscript) star_Name)) (q_pa_cons (q_pe_tup (q_pa_cons (q_pv 4) (q_pa_cons (q_pe_ix ix_list (q_pv 5) q_pe_int (fun _ _ => rfl)) q_pa_nil star_Subscript) star_Name)) (q_pa_cons (q_pe_tup (q_pa_cons (q_pv 3) (q_pa_cons (q_pe_ix ix_list (q_pv 5) q_pe_int (fun _ _ => rfl)) q_pa_nil star_Subscript) star_Name)) q_pa_nil star_Tuple) star_Tuple) star_Tuple))) (q_pg_tup (by rfl) (q_pgs_cons (q_pg_name (i := 8) sc_law.nd rfl (by first | exact Or.inl rfl | exact Or.inr (Or.inl rfl) | exact Or.inr rfl)) (q_pgs_cons (q_pg_name (i := 9) sc_law.nd rfl (by first | exact Or.inl rfl | exact Or.inr (Or.inl rfl) | exact Or.inr rfl)) q_pgs_nil)))
      (q_pss_one (q_ps_if (q_pt_not (q_pt_val (q_pe_call G_l_read_right hr_l_read_right (by rfl) T.mg_l_read_right T.kp_l_read_right T.b_l_read_right .nil pass0 (q_pa_cons (q_pv 9) (q_pa_cons (q_pe_call G_l_due hr_l_due (by rfl) T.mg_l_due T.kp_l_due T.b_l_due .nil pass0 (q_pa_cons (q_pv 8) (q_pa_cons (q_pv 7) q_pa_nil star_Name) star_Name)) (q_pa_cons (q_pv 7) q_pa_nil star_Name) star_Call) star_Name)))) (q_pss_one (q_ps_ret q_pe_bl)) q_pss_nil))))))))))))
      (q_pss_one (q_ps_ret q_pe_bl)))), ?_⟩
    refine ⟨_, rfl, (by show 2 ≤ sizeLine; decide), fun d hd => ?_⟩
    have sd := same_new (o := .lst [V.ref a, V.int 0]) hd
    have D0 : DrawAt K (upd H d (.lst [V.ref a, V.int 0])) d a ns := ⟨⟨0, by decide, upd_same⟩, hS.same sd, hlen⟩
    have lm : ((ns.map V.int).length : Int) = (ns.length : Int) := by rw [List.length_map]
    refine ⟨_, rfl, a, _, rfl, .inl D0.sq, _, _, rfl, rfl, ⟨by decide, by decide⟩, _, _, rfl, _, _, rfl, _, rfl, ?_, ?_, ?_⟩
    · show -(2 ^ 62 : Int) ≤ _
      rw [lm]; split <;> (try split) <;> omega
    · show _ < (2 ^ 62 : Int)
      rw [lm]; split <;> (try split) <;> omega
    refine for_range (lo := 0) (fun i σ H' => ∃ (o2 o3 o4 o5 o6 o7 o8 o9 : Option V), σ = [some (.ref a), some (.ref d), o2, o3, o4, o5, o6, o7, o8, o9, none, none] ∧ DrawAt K H' d a ns) ?_ ?_ ?_
    · exact ⟨none, none, none, none, none, none, none, none, rfl, D0⟩
    · rintro i σ H1 hi ⟨o2, o3, o4, o5, o6, o7, o8, o9, rfl, D1⟩
      refine ⟨_, rfl, d, a, ns, rfl, D1, fun p1 pre z H2 g1 u1 D2 k2 => ?_⟩
      clear D1 k2
      have lp := g1.len
      obtain ⟨rs, hp1, ua⟩ := u1.all
      have lu : (pre ++ [(z, (1 : Int))]).length = pre.length + 1 := by rw [List.length_append]; rfl
      have lrs : (rs.map V.ref).length = pre.length + 1 := by rw [List.length_map, ua.len, lu]
      refine ⟨_, rfl, p1, _, rfl, SqT.of hp1, fun Lo hLo => ?_⟩
      refine lc_revT (xs := rs.map V.ref) (fun i H' => ∃ rr : List Addr, H' Lo = some (.lst (rr.map V.ref)) ∧ UsAt H' rr (((pre ++ [(z, (1 : Int))]).reverse.take i).map ten) ∧ Same H2 H') ?_ ?_ ?_ ?_
      · exact ⟨[], upd_same, .nil _, same_new hLo⟩
      · rintro j H3 hj ⟨rr, h3, u3, s3⟩
        exact SqT.of (s3 _ _ hp1)
      · rintro j x H3 hj hx ⟨rr, h3, u3, s3⟩
        rw [lrs] at hj hx
        obtain ⟨r, hr', rfl⟩ := ref_at hx
        obtain ⟨u, hu, e⟩ := ua.at_ _ r hr'
        have hu' : (pre ++ [(z, (1 : Int))]).reverse[j]? = some u := by
          rw [List.getElem?_reverse (by omega), lu]; exact hu
        have lrr := u3.len
        rw [List.length_map, List.length_take] at lrr
        refine ⟨r, _, rfl, SqT.of (s3 _ _ e), rfl, _, _, rfl, _, _, rfl, rfl, rfl, yes_i ⟨_, rfl, (by show 2 ≤ sizeLine; decide), fun Tn hTn => ?_⟩⟩
        have s4 := same_new (o := .tup [V.str u.1, V.int 10]) hTn
        refine ⟨_, s4 _ _ h3, small1000 (by rw [List.length_map]; omega), rr ++ [Tn], ?_, ?_, fun b o e => ?_⟩
        · rw [upd_same, List.map_append]; rfl
        · rw [List.take_succ, hu', List.map_append]
          have t5 : Tups (upd H3 Tn (.tup [V.str u.1, V.int 10])) (upd (upd H3 Tn (.tup [V.str u.1, V.int 10])) Lo (.lst (rr.map V.ref ++ [V.ref Tn]))) := Tups.upd (s4 _ _ h3)
          exact ((u3.mono (.same s4)).mono t5).snoc (t5 _ _ upd_same)
        · rw [upd_ne (ne_of_none e hLo)]
          exact s4 _ _ (s3 b o e)
      rintro H3 ⟨rr, h3, u3, s3⟩
      rw [lrs, ← lu, ← List.length_reverse, List.take_length] at u3
      obtain ⟨u0, rest, eus⟩ : ∃ u0 rest, pre ++ [(z, (1 : Int))] = u0 :: rest := by
        cases e : pre ++ [(z, (1 : Int))] with
        | nil => rw [e] at lu; cases lu
        | cons u0 rest => exact ⟨u0, rest, rfl⟩
      have g2 := other_good g1 eus
      rw [eus, List.reverse_cons, List.map_append] at u3
      have u3 : UsAt H3 rr (rest.reverse.map ten ++ [(u0.1, (10 : Int))]) := u3
      have lr := u3.len
      rw [List.length_append] at lr
      have lr : rr.length = (rest.reverse.map ten).length + 1 := lr
      obtain ⟨ri, r9, rfl⟩ := snoc_of rr (by omega)
      obtain ⟨ui, h9⟩ := u3.init
      have lri := ui.len
      have g2l := g2.len
      rw [List.map_append] at h3
      simp only [List.map_cons, List.map_nil] at h3
      have lur := ua.len
      obtain ⟨q0, qr, eq0⟩ : ∃ q0 qr, rs = q0 :: qr := by
        cases rs with
        | nil => rw [lu] at lur; cases lur
        | cons a b => exact ⟨a, b, rfl⟩
      subst eq0
      have hq0 : H2 q0 = some (.tup [.str u0.1, .int u0.2]) := by
        obtain ⟨u, hu, e⟩ := ua.at_ 0 q0 rfl
        rw [eus] at hu
        have : u0 = u := by simpa using hu
        rw [this]; exact e
      refine ⟨_, rfl, _, rfl, _, rfl, Lo, _, rfl, SqL.of h3, fun c hc => ?_⟩
      rw [cut_last]
      have s5 := same_new (o := .lst (ri.map V.ref)) hc
      refine ⟨_, rfl, p1, _, 0, _, rfl, rfl, SqT.of (s5 _ _ (s3 _ _ hp1)), at_of (j := 0) (by decide) rfl, ?_⟩
      refine ⟨q0, _, 0, _, rfl, rfl, SqT.of (s5 _ _ (s3 _ _ hq0)), at_of (j := 0) (by decide) rfl, (by show 2 ≤ sizeLine; decide), fun x6 hx6 => ?_⟩
      have s6 := same_new (o := .tup [V.str u0.1, V.int 1]) hx6
      refine ⟨(by show 1 ≤ sizeLine; decide), fun x7 hx7 => ?_⟩
      have s7 := same_new (o := .lst [V.ref x6]) hx7
      refine ⟨c, x7, _, _, rfl, rfl, s7 _ _ (s6 _ _ upd_same), upd_same, Nat.le_of_lt (small1000 (by rw [List.length_map]; show _ + 1 ≤ 1000; omega)), fun x8 hx8 => ?_⟩
      have s8 := same_new (o := .lst (ri.map V.ref ++ [V.ref x6])) hx8
      refine ⟨x8, _, rfl, .inl ⟨SqL.of upd_same, fun x9 hx9 => ?_⟩⟩
      have s9 := same_new (o := .tup (ri.map V.ref ++ [V.ref x6])) hx9
      have sA := ((((s3.trans s5).trans s6).trans s7).trans s8).trans s9
      have u2 : Units (upd (upd (upd (upd (upd H3 c (.lst (ri.map V.ref))) x6 (.tup [V.str u0.1, V.int 1])) x7 (.lst [V.ref x6])) x8 (.lst (ri.map V.ref ++ [V.ref x6]))) x9 (.tup (ri.map V.ref ++ [V.ref x6]))) x9 (rest.reverse.map ten) u0.1 := ⟨ri, x6, upd_same, ui.mono (.same ((((s5.trans s6).trans s7).trans s8).trans s9)), s9 _ _ (s8 _ _ (s7 _ _ upd_same))⟩
      have D9 := D2.same sA
      have u9 := u1.mono (.same sA)
      clear s5 s6 s7 s8 s9 sA ui h9 hq0 u3 h3 s3 D2 u1 ua hp1
      generalize upd _ x9 (.tup (ri.map V.ref ++ [V.ref x6])) = H9 at *
      obtain ⟨pre2, e2⟩ : ∃ pre2, pre2 = rest.reverse.map ten := ⟨_, rfl⟩
      obtain ⟨z2, ez2⟩ : ∃ z2, z2 = u0.1 := ⟨_, rfl⟩
      rw [← e2, ← ez2] at u2 g2
      refine ⟨_, rfl, fun x1 dx1 hx1 hdx1 ne1 => ⟨x1, p1, dx1, _, z, rfl, upd_same, g1, u9.mono (tups_made hx1 hdx1), fun H10 m1 k10 => ⟨rfl, ?_⟩⟩⟩
      have w10 := made_same hx1 hdx1 k10
      have u10 := u9.mono (.same w10)
      have v10 := u2.mono (.same w10)
      refine ⟨_, rfl, fun y2 dy2 hy2 hdy2 ne2 => ⟨y2, x9, dy2, _, z2, rfl, upd_same, g2, v10.mono (tups_made hy2 hdy2), fun H11 m2 k11 => ⟨rfl, ?_⟩⟩⟩
      have w11 := made_same hy2 hdy2 k11
      refine ⟨(by show 2 ≤ sizeLine; decide), fun Lm hLm => ?_⟩
      have s12 := same_new (o := .lst [V.ref x1, V.ref y2]) hLm
      have hm12 := new_at (o := .lst [V.ref x1, V.ref y2]) hLm
      have D12 := ((D9.same w10).same w11).same s12
      have nLm := ((D9.same w10).same w11).ne hLm
      have u12 := (u10.mono (.same w11)).mono (.same s12)
      have v12 := (v10.mono (.same w11)).mono (.same s12)
      have m12 := (m1.same w11).same s12
      have n12 := m2.same s12
      clear s12 u10 v10 w11 w10 k10 k11 m1 m2 u9 u2 D9
      generalize upd H11 Lm (.lst [V.ref x1, V.ref y2]) = H12 at *
      refine ⟨2, rfl, by decide, by decide, ?_⟩
      refine for_range (lo := 0) (fun j σ H' => ∃ (o6 o7 o8 o9 : Option V), σ = [some (.ref a), some (.ref d), some (.int (0 + (i : Int))), some (.ref p1), some (.ref x9), some (.ref Lm), o6, o7, o8, o9, none, none] ∧ DrawAt K H' d a ns ∧ Keep d H12 H') ?_ ?_ ?_
      · exact ⟨_, _, _, _, rfl, D12, .refl _ _⟩
      · rintro j σ H13 hj ⟨o6, o7, o8, o9, rfl, D13, k13⟩
        refine ⟨_, rfl, _, rfl, d, a, p1, ns, pre, z, rfl, D13, g1, u12.mono (D12.tups k13), fun tx H14 ax D14 k14 => ?_⟩
        have kA := k13.trans k14
        obtain ⟨zz, _, hdd⟩ := D12.ex
        have u14 := u12.mono (D12.tups kA)
        have v14 := v12.mono (D12.tups kA)
        have m14 := m12.keep kA hdd
        have n14 := n12.keep kA hdd
        have hm14 := kA _ _ hm12 nLm
        refine ⟨_, rfl, _, rfl, Lm, _, 0, _, rfl, rfl, SqL.of hm14, at_of (j := 0) (by decide) rfl, (by show 2 ≤ sizeLine; decide), fun T1 hT1 => ?_⟩
        have s15 := same_new (o := .tup [V.ref p1, V.ref x1]) hT1
        have f1 := new_at (o := .tup [V.ref p1, V.ref x1]) hT1
        refine ⟨_, rfl, _, rfl, Lm, _, 1, _, rfl, rfl, SqL.of (s15 _ _ hm14), at_of (j := 1) (by decide) rfl, (by show 2 ≤ sizeLine; decide), fun T2 hT2 => ?_⟩
        have s16 := same_new (o := .tup [V.ref x9, V.ref y2]) hT2
        have f2 := new_at (o := .tup [V.ref x9, V.ref y2]) hT2
        refine ⟨_, rfl, _, rfl, Lm, _, 0, _, rfl, rfl, SqL.of (s16 _ _ (s15 _ _ hm14)), at_of (j := 0) (by decide) rfl, (by show 2 ≤ sizeLine; decide), fun T3 hT3 => ?_⟩
        have s17 := same_new (o := .tup [V.ref p1, V.ref x1]) hT3
        have f3 := new_at (o := .tup [V.ref p1, V.ref x1]) hT3
        refine ⟨(by show 3 ≤ sizeLine; decide), fun Lz hLz => ?_⟩
        have s18 := same_new (o := .lst [V.ref T1, V.ref T2, V.ref T3]) hLz
        have f4 := new_at (o := .lst [V.ref T1, V.ref T2, V.ref T3]) hLz
        have sB := ((s15.trans s16).trans s17).trans s18
        have a1 := s18 _ _ (s17 _ _ (s16 _ _ f1))
        have a2 := s18 _ _ (s17 _ _ f2)
        have a3 := s18 _ _ f3
        have u18 := u14.mono (.same sB)
        have v18 := v14.mono (.same sB)
        have m18 := m14.same sB
        have n18 := n14.same sB
        have D18 := D14.same sB
        have k18 := kA.trans (.of sB)
        clear s15 s16 s17 s18 sB f1 f2 f3 u14 v14 m14 n14
        generalize upd _ Lz (.lst [V.ref T1, V.ref T2, V.ref T3]) = H18 at *
        refine ⟨Lz, rfl, ⟨_, SqL.of f4⟩, ?_⟩
        refine for_list (xs := [V.ref T1, V.ref T2, V.ref T3]) (fun i2 σ H' => ∃ (o8 o9 : Option V), σ = [some (.ref a), some (.ref d), some (.int (0 + (i : Int))), some (.ref p1), some (.ref x9), some (.ref Lm), some (.int (0 + (j : Int))), some (.str tx), o8, o9, none, none] ∧ Same H18 H') ?_ ?_ ?_ ?_
        · exact ⟨_, _, rfl, Same.refl _⟩
        · rintro i2 σ H19 hi2 ⟨o8, o9, rfl, s19⟩
          exact SqL.of (s19 _ _ f4)
        · rintro i2 y σ H19 hy ⟨o8, o9, rfl, s19⟩
          obtain ⟨Tq, pp, xx, preq, zq, rfl, hT, gq, uq, mq⟩ : ∃ (Tq pp xx : Addr) (preq : List Un1) (zq : Str), y = .ref Tq ∧ H18 Tq = some (.tup [V.ref pp, V.ref xx]) ∧ Good preq zq ∧ Units H18 pp preq zq ∧ MoneyAt t.C_Money H18 xx preq zq := by
            have hm := List.mem_of_getElem? hy
            simp only [List.mem_cons, List.not_mem_nil, or_false] at hm
            rcases hm with e | e | e
            · exact ⟨T1, p1, x1, pre, z, e, a1, g1, u18, m18⟩
            · exact ⟨T2, x9, y2, pre2, z2, e, a2, g2, v18, n18⟩
            · exact ⟨T3, p1, x1, pre, z, e, a3, g1, u18, m18⟩
          refine ⟨Tq, _, rfl, SqT.of (s19 _ _ hT), rfl, _, _, rfl, _, _, rfl, rfl, ?_⟩
          refine ⟨_, rfl, _, rfl, _, rfl, pp, preq, zq, tx, rfl, gq, uq.mono (.same s19), ax, fun v dd H20 di dv s20 => ?_⟩
          refine ⟨_, rfl, xx, preq, zq, tx, v, dd, rfl, (mq.same s19).same s20, gq, ax, di, dv, fun H21 s21 => ?_⟩
          refine ⟨_, rfl, iteF ?_⟩
          exact ⟨_, _, rfl, (s19.trans s20).trans s21⟩
        · rintro σ H19 ⟨o8, o9, rfl, s19⟩
          exact ⟨_, _, _, _, rfl, D18.same s19, k18.trans (.of s19)⟩
      · rintro σ H13 ⟨o6, o7, o8, o9, rfl, D13, k13⟩
        exact ⟨_, _, _, _, _, _, _, _, rfl, D13⟩
    · rintro σ H1 ⟨o2, o3, o4, o5, o6, o7, o8, o9, rfl, D1⟩
      exact k _
end
end Ck
set_option Elab.async false
set_option linter.all false
set_option pp.maxSteps 1500
set_option maxRecDepth 100000
set_option maxHeartbeats 4000000
namespace Ck
open PySem L2
theorem walk {l : PySem.W.OpenLaw} {q : Program} {loose : List Str} {XP : (Str → Option Value) → Heap → Prop} {YP : World → Heap → Prop} {d : DefRec} {K : Params → PySem.W.Frag} (hn : l.most = some 63) (hdf : d.params.defaults = [])
    (hnm : d.name = "law") (hY : ∀ (w : World) (h : Heap), YP w h → (K w.params).In h)
    (F : ∀ (w : World) (mg : Str → Option Value) (h : Heap), (K w.params).In h → h.Ns mainGlobals mg → ∃ t : Ad, Env (K w.params) mg t) :
    PySem.W.WalkO q loose XP YP l.row.toRowW d [] (fun f vs => PySem.call f vs) := by
  refine L2.walk_of (n := 63) (k := 8) (x := "_law_script") (CX := fun _ => CX0) (sp := fun w => spLaw (K w.params)) hn (by decide) hdf ⟨rfl, by decide, by decide⟩ hY ?_ (fun _ _ a ns hl hO hS => ⟨a, ns, rfl, Scr.of hS hO, hl, fun _ => rfl⟩) fun _ _ _ _ _ z => z
  intro w mg fa h KX G hmg
  obtain ⟨t, T⟩ := F w mg h KX G
  have e := hmg.symm.trans ((congrArg mg hnm).trans T.mg_law)
  cases e
  refine ⟨t.fd_law, ?_, fun base _ _ => ok_law T⟩
  obtain ⟨oc, od, kV, doc, pm, an, cdv, ct, osl, e, lk, hcd⟩ := T.f_law.ex
  rw [e]
  exact fun s v => .of_eq rfl
end Ck
open PySem PySem.W PyProof.Rows
set_option maxRecDepth 100000 in
set_option maxHeartbeats 0 in
theorem PySem.Challenge.cw_callcoin_k06_texts_read_or_refused_holds : PySem.Challenge.rw_callcoin_k06_texts_read_or_refused.Holds := by
  w_on; o_law; k_head; (case hw => w_witness2)
  k_fill
  refine Ck.walk (l := PySem.Challenge.rw_callcoin_k06_texts_read_or_refused) rfl rfl rfl (fun w h Y => PySem.W.kIn_of Y) ?F
  case F =>
    intro w mg h KX G
    refine' Ck.env_mk KX G ?n_Money ?pg_Money ?hd_Money ?po_Money ?sa_Money ?mk_Money ?kc_Money ?no_Money_units ?no_Money_sizes ?no_Money_places ?n_NoText ?n_NoAmount ?n_NoName ?n_NoMoney ?n_NoBridge ?n_NoDay ?n_NoWorth ?n_NoBook ?n_NoTerm ?n_NoWeight ?n_NoMany ?n_NoKinds ?n_Lacking ?n_NoRow ?n_NoStock ?n_NoDebt ?n_NoPeople ?n_NoDeed ?n_Shut ?n_TooMany ?n_CoinError ?e0_NoText ?e1_NoText ?e2_NoText ?e3_NoText ?is_NoText_NoName ?is_NoText_NoMoney ?is_NoText_NoAmount ?is_NoText_NoText ?is_NoText_NoBridge ?is_NoText_NoDay ?is_NoText_NoWorth ?is_NoText_NoBook ?is_NoText_NoTerm ?is_NoText_NoWeight ?is_NoText_NoMany ?is_NoText_NoKinds ?is_NoText_Lacking ?is_NoText_NoRow ?is_NoText_NoStock ?is_NoText_NoDebt ?is_NoText_NoPeople ?is_NoText_NoDeed ?is_NoText_Shut ?is_NoText_TooMany ?is_NoText_ValueError ?ca_NoText_CoinError ?e0_NoAmount ?e1_NoAmount ?e2_NoAmount ?e3_NoAmount ?is_NoAmount_NoName ?is_NoAmount_NoMoney ?is_NoAmount_NoAmount ?is_NoAmount_NoText ?is_NoAmount_NoBridge ?is_NoAmount_NoDay ?is_NoAmount_NoWorth ?is_NoAmount_NoBook ?is_NoAmount_NoTerm ?is_NoAmount_NoWeight ?is_NoAmount_NoMany ?is_NoAmount_NoKinds ?is_NoAmount_Lacking ?is_NoAmount_NoRow ?is_NoAmount_NoStock ?is_NoAmount_NoDebt ?is_NoAmount_NoPeople ?is_NoAmount_NoDeed ?is_NoAmount_Shut ?is_NoAmount_TooMany ?is_NoAmount_ValueError ?ca_NoAmount_CoinError ?n_is_made_of ?l_is_made_of ?c_is_made_of ?k_is_made_of ?n_is_word ?l_is_word ?c_is_word ?k_is_word ?n_is_name ?l_is_name ?c_is_name ?k_is_name ?n_is_figures ?l_is_figures ?c_is_figures ?k_is_figures ?n_is_number ?l_is_number ?c_is_number ?k_is_number ?n_is_within ?l_is_within ?c_is_within ?k_is_within ?n_is_amount ?l_is_amount ?c_is_amount ?k_is_amount ?n_check_units ?l_check_units ?c_check_units ?k_check_units ?n_unit_sizes ?l_unit_sizes ?c_unit_sizes ?k_unit_sizes ?n_read_pairs ?l_read_pairs ?c_read_pairs ?k_read_pairs ?n_Money_init ?i_Money_init ?l_Money_init ?c_Money_init ?k_Money_init ?n_Money_parts ?i_Money_parts ?l_Money_parts ?c_Money_parts ?k_Money_parts ?n_Money_text ?i_Money_text ?l_Money_text ?c_Money_text ?k_Money_text ?n_Money_amount ?i_Money_amount ?l_Money_amount ?c_Money_amount ?k_Money_amount ?n_l_mixed ?l_l_mixed ?c_l_mixed ?k_l_mixed ?n_l_next ?l_l_next ?c_l_next ?k_l_next ?n_l_pick ?l_l_pick ?c_l_pick ?k_l_pick ?n_l_word ?l_l_word ?c_l_word ?k_l_word ?n_l_words ?l_l_words ?c_l_words ?k_l_words ?n_l_signs ?l_l_signs ?c_l_signs ?k_l_signs ?n_l_units ?l_l_units ?c_l_units ?k_l_units ?n_l_sizes ?l_l_sizes ?c_l_sizes ?k_l_sizes ?n_l_counts ?l_l_counts ?c_l_counts ?k_l_counts ?n_l_bent ?l_l_bent ?c_l_bent ?k_l_bent ?n_l_text ?l_l_text ?c_l_text ?k_l_text ?n_l_figures ?l_l_figures ?c_l_figures ?k_l_figures ?n_l_due ?l_l_due ?c_l_due ?k_l_due ?n_l_alone ?l_l_alone ?c_l_alone ?k_l_alone ?n_l_read_right ?l_l_read_right ?c_l_read_right ?k_l_read_right ?n_law ?l_law ?c_law ?k_law ?n_SMALL_LETTERS ?n_FIGURES ?n_LONGEST_NAME ?n_MOST_FIGURES ?n_MOST_AMOUNT ?n_MOST_UNITS ?n_LEAST_MANY ?n_MOST_MANY ?z_len ?z_range ?z_max ?z_min ?z_isinstance ?z_all ?z_str ?z_bool ?z_int ?z_list ?z_tuple ?z_reversed ?z_enumerate ?z_set ?z_divmod ?z_zip ?z_sum ?z_ValueError
    (case n_Money => first | k_is | k_exc | kit_is | kts_exm | kernel_rfl)
    (case pg_Money => first | k_is | k_exc | kit_is | kts_exm | kernel_rfl)
    (case hd_Money => first | k_is | k_exc | kit_is | kts_exm | kernel_rfl)
    (case po_Money => first | k_is | k_exc | kit_is | kts_exm | kernel_rfl)
    (case sa_Money => first | k_is | k_exc | kit_is | kts_exm | kernel_rfl)
    (case mk_Money => first | k_is | k_exc | kit_is | kts_exm | kernel_rfl)
    (case kc_Money => first | k_is | k_exc | kit_is | kts_exm | kernel_rfl)
    (case no_Money_units => first | k_is | k_exc | kit_is | kts_exm | kernel_rfl)
    (case no_Money_sizes => first | k_is | k_exc | kit_is | kts_exm | kernel_rfl)
    (case no_Money_places => first | k_is | k_exc | kit_is | kts_exm | kernel_rfl)
    (case n_NoText => first | k_is | k_exc | kit_is | kts_exm | kernel_rfl)
    (case n_NoAmount => first | k_is | k_exc | kit_is | kts_exm | kernel_rfl)
    (case n_NoName => first | k_is | k_exc | kit_is | kts_exm | kernel_rfl)
    (case n_NoMoney => first | k_is | k_exc | kit_is | kts_exm | kernel_rfl)
    (case n_NoBridge => first | k_is | k_exc | kit_is | kts_exm | kernel_rfl)
    (case n_NoDay => first | k_is | k_exc | kit_is | kts_exm | kernel_rfl)
    (case n_NoWorth => first | k_is | k_exc | kit_is | kts_exm | kernel_rfl)
    (case n_NoBook => first | k_is | k_exc | kit_is | kts_exm | kernel_rfl)
    (case n_NoTerm => first | k_is | k_exc | kit_is | kts_exm | kernel_rfl)
    (case n_NoWeight => first | k_is | k_exc | kit_is | kts_exm | kernel_rfl)
    (case n_NoMany => first | k_is | k_exc | kit_is | kts_exm | kernel_rfl)
    (case n_NoKinds => first | k_is | k_exc | kit_is | kts_exm | kernel_rfl)
    (case n_Lacking => first | k_is | k_exc | kit_is | kts_exm | kernel_rfl)
    (case n_NoRow => first | k_is | k_exc | kit_is | kts_exm | kernel_rfl)
    (case n_NoStock => first | k_is | k_exc | kit_is | kts_exm | kernel_rfl)
    (case n_NoDebt => first | k_is | k_exc | kit_is | kts_exm | kernel_rfl)
    (case n_NoPeople => first | k_is | k_exc | kit_is | kts_exm | kernel_rfl)
    (case n_NoDeed => first | k_is | k_exc | kit_is | kts_exm | kernel_rfl)
    (case n_Shut => first | k_is | k_exc | kit_is | kts_exm | kernel_rfl)
    (case n_TooMany => first | k_is | k_exc | kit_is | kts_exm | kernel_rfl)
    (case n_CoinError => first | k_is | k_exc | kit_is | kts_exm | kernel_rfl)
    (case e0_NoText => first | k_is | k_exc | kit_is | kts_exm | kernel_rfl)
    (case e1_NoText => first | k_is | k_exc | kit_is | kts_exm | kernel_rfl)
    (case e2_NoText => first | k_is | k_exc | kit_is | kts_exm | kernel_rfl)
    (case e3_NoText => first | k_is | k_exc | kit_is | kts_exm | kernel_rfl)
    (case is_NoText_NoName => first | k_is | k_exc | kit_is | kts_exm | kernel_rfl)
    (case is_NoText_NoMoney => first | k_is | k_exc | kit_is | kts_exm | kernel_rfl)
    (case is_NoText_NoAmount => first | k_is | k_exc | kit_is | kts_exm | kernel_rfl)
    (case is_NoText_NoText => first | k_is | k_exc | kit_is | kts_exm | kernel_rfl)
    (case is_NoText_NoBridge => first | k_is | k_exc | kit_is | kts_exm | kernel_rfl)
    (case is_NoText_NoDay => first | k_is | k_exc | kit_is | kts_exm | kernel_rfl)
    (case is_NoText_NoWorth => first | k_is | k_exc | kit_is | kts_exm | kernel_rfl)
    (case is_NoText_NoBook => first | k_is | k_exc | kit_is | kts_exm | kernel_rfl)
    (case is_NoText_NoTerm => first | k_is | k_exc | kit_is | kts_exm | kernel_rfl)
    (case is_NoText_NoWeight => first | k_is | k_exc | kit_is | kts_exm | kernel_rfl)
    (case is_NoText_NoMany => first | k_is | k_exc | kit_is | kts_exm | kernel_rfl)
    (case is_NoText_NoKinds => first | k_is | k_exc | kit_is | kts_exm | kernel_rfl)
    (case is_NoText_Lacking => first | k_is | k_exc | kit_is | kts_exm | kernel_rfl)
    (case is_NoText_NoRow => first | k_is | k_exc | kit_is | kts_exm | kernel_rfl)
    (case is_NoText_NoStock => first | k_is | k_exc | kit_is | kts_exm | kernel_rfl)
    (case is_NoText_NoDebt => first | k_is | k_exc | kit_is | kts_exm | kernel_rfl)
    (case is_NoText_NoPeople => first | k_is | k_exc | kit_is | kts_exm | kernel_rfl)
    (case is_NoText_NoDeed => first | k_is | k_exc | kit_is | kts_exm | kernel_rfl)
    (case is_NoText_Shut => first | k_is | k_exc | kit_is | kts_exm | kernel_rfl)
    (case is_NoText_TooMany => first | k_is | k_exc | kit_is | kts_exm | kernel_rfl)
    (case is_NoText_ValueError => first | k_is | k_exc | kit_is | kts_exm | kernel_rfl)
    (case ca_NoText_CoinError => first | k_is | k_exc | kit_is | kts_exm | kernel_rfl)
    (case e0_NoAmount => first | k_is | k_exc | kit_is | kts_exm | kernel_rfl)
    (case e1_NoAmount => first | k_is | k_exc | kit_is | kts_exm | kernel_rfl)
    (case e2_NoAmount => first | k_is | k_exc | kit_is | kts_exm | kernel_rfl)
    (case e3_NoAmount => first | k_is | k_exc | kit_is | kts_exm | kernel_rfl)
    (case is_NoAmount_NoName => first | k_is | k_exc | kit_is | kts_exm | kernel_rfl)
    (case is_NoAmount_NoMoney => first | k_is | k_exc | kit_is | kts_exm | kernel_rfl)
    (case is_NoAmount_NoAmount => first | k_is | k_exc | kit_is | kts_exm | kernel_rfl)
    (case is_NoAmount_NoText => first | k_is | k_exc | kit_is | kts_exm | kernel_rfl)
    (case is_NoAmount_NoBridge => first | k_is | k_exc | kit_is | kts_exm | kernel_rfl)
    (case is_NoAmount_NoDay => first | k_is | k_exc | kit_is | kts_exm | kernel_rfl)
    (case is_NoAmount_NoWorth => first | k_is | k_exc | kit_is | kts_exm | kernel_rfl)
    (case is_NoAmount_NoBook => first | k_is | k_exc | kit_is | kts_exm | kernel_rfl)
    (case is_NoAmount_NoTerm => first | k_is | k_exc | kit_is | kts_exm | kernel_rfl)
    (case is_NoAmount_NoWeight => first | k_is | k_exc | kit_is | kts_exm | kernel_rfl)
    (case is_NoAmount_NoMany => first | k_is | k_exc | kit_is | kts_exm | kernel_rfl)
    (case is_NoAmount_NoKinds => first | k_is | k_exc | kit_is | kts_exm | kernel_rfl)
    (case is_NoAmount_Lacking => first | k_is | k_exc | kit_is | kts_exm | kernel_rfl)
    (case is_NoAmount_NoRow => first | k_is | k_exc | kit_is | kts_exm | kernel_rfl)
    (case is_NoAmount_NoStock => first | k_is | k_exc | kit_is | kts_exm | kernel_rfl)
    (case is_NoAmount_NoDebt => first | k_is | k_exc | kit_is | kts_exm | kernel_rfl)
    (case is_NoAmount_NoPeople => first | k_is | k_exc | kit_is | kts_exm | kernel_rfl)
    (case is_NoAmount_NoDeed => first | k_is | k_exc | kit_is | kts_exm | kernel_rfl)
    (case is_NoAmount_Shut => first | k_is | k_exc | kit_is | kts_exm | kernel_rfl)
    (case is_NoAmount_TooMany => first | k_is | k_exc | kit_is | kts_exm | kernel_rfl)
    (case is_NoAmount_ValueError => first | k_is | k_exc | kit_is | kts_exm | kernel_rfl)
    (case ca_NoAmount_CoinError => first | k_is | k_exc | kit_is | kts_exm | kernel_rfl)
    (case n_is_made_of => first | k_is | k_exc | kit_is | kts_exm | kernel_rfl)
    (case l_is_made_of => first | k_is | k_exc | kit_is | kts_exm | kernel_rfl)
    (case c_is_made_of => first | k_is | k_exc | kit_is | kts_exm | kernel_rfl)
    (case k_is_made_of => first | k_is | k_exc | kit_is | kts_exm | kernel_rfl)
    (case n_is_word => first | k_is | k_exc | kit_is | kts_exm | kernel_rfl)
    (case l_is_word => first | k_is | k_exc | kit_is | kts_exm | kernel_rfl)
    (case c_is_word => first | k_is | k_exc | kit_is | kts_exm | kernel_rfl)
    (case k_is_word => first | k_is | k_exc | kit_is | kts_exm | kernel_rfl)
    (case n_is_name => first | k_is | k_exc | kit_is | kts_exm | kernel_rfl)
    (case l_is_name => first | k_is | k_exc | kit_is | kts_exm | kernel_rfl)
    (case c_is_name => first | k_is | k_exc | kit_is | kts_exm | kernel_rfl)
    (case k_is_name => first | k_is | k_exc | kit_is | kts_exm | kernel_rfl)
    (case n_is_figures => first | k_is | k_exc | kit_is | kts_exm | kernel_rfl)
    (case l_is_figures => first | k_is | k_exc | kit_is | kts_exm | kernel_rfl)
    (case c_is_figures => first | k_is | k_exc | kit_is | kts_exm | kernel_rfl)
    (case k_is_figures => first | k_is | k_exc | kit_is | kts_exm | kernel_rfl)
    (case n_is_number => first | k_is | k_exc | kit_is | kts_exm | kernel_rfl)
    (case l_is_number => first | k_is | k_exc | kit_is | kts_exm | kernel_rfl)
    (case c_is_number => first | k_is | k_exc | kit_is | kts_exm | kernel_rfl)
    (case k_is_number => first | k_is | k_exc | kit_is | kts_exm | kernel_rfl)
    (case n_is_within => first | k_is | k_exc | kit_is | kts_exm | kernel_rfl)
    (case l_is_within => first | k_is | k_exc | kit_is | kts_exm | kernel_rfl)
    (case c_is_within => first | k_is | k_exc | kit_is | kts_exm | kernel_rfl)
    (case k_is_within => first | k_is | k_exc | kit_is | kts_exm | kernel_rfl)
    (case n_is_amount => first | k_is | k_exc | kit_is | kts_exm | kernel_rfl)
    (case l_is_amount => first | k_is | k_exc | kit_is | kts_exm | kernel_rfl)
    (case c_is_amount => first | k_is | k_exc | kit_is | kts_exm | kernel_rfl)
    (case k_is_amount => first | k_is | k_exc | kit_is | kts_exm | kernel_rfl)
    (case n_check_units => first | k_is | k_exc | kit_is | kts_exm | kernel_rfl)
    (case l_check_units => first | k_is | k_exc | kit_is | kts_exm | kernel_rfl)
    (case c_check_units => first | k_is | k_exc | kit_is | kts_exm | kernel_rfl)
    (case k_check_units => first | k_is | k_exc | kit_is | kts_exm | kernel_rfl)
    (case n_unit_sizes => first | k_is | k_exc | kit_is | kts_exm | kernel_rfl)
    (case l_unit_sizes => first | k_is | k_exc | kit_is | kts_exm | kernel_rfl)
    (case c_unit_sizes => first | k_is | k_exc | kit_is | kts_exm | kernel_rfl)
    (case k_unit_sizes => first | k_is | k_exc | kit_is | kts_exm | kernel_rfl)
    (case n_read_pairs => first | k_is | k_exc | kit_is | kts_exm | kernel_rfl)
    (case l_read_pairs => first | k_is | k_exc | kit_is | kts_exm | kernel_rfl)
    (case c_read_pairs => first | k_is | k_exc | kit_is | kts_exm | kernel_rfl)
    (case k_read_pairs => first | k_is | k_exc | kit_is | kts_exm | kernel_rfl)
    (case n_Money_init => first | k_is | k_exc | kit_is | kts_exm | kernel_rfl)
    (case i_Money_init => first | k_is | k_exc | kit_is | kts_exm | kernel_rfl)
    (case l_Money_init => first | k_is | k_exc | kit_is | kts_exm | kernel_rfl)
    (case c_Money_init => first | k_is | k_exc | kit_is | kts_exm | kernel_rfl)
    (case k_Money_init => first | k_is | k_exc | kit_is | kts_exm | kernel_rfl)
    (case n_Money_parts => first | k_is | k_exc | kit_is | kts_exm | kernel_rfl)
    (case i_Money_parts => first | k_is | k_exc | kit_is | kts_exm | kernel_rfl)
    (case l_Money_parts => first | k_is | k_exc | kit_is | kts_exm | kernel_rfl)
    (case c_Money_parts => first | k_is | k_exc | kit_is | kts_exm | kernel_rfl)
    (case k_Money_parts => first | k_is | k_exc | kit_is | kts_exm | kernel_rfl)
    (case n_Money_text => first | k_is | k_exc | kit_is | kts_exm | kernel_rfl)
    (case i_Money_text => first | k_is | k_exc | kit_is | kts_exm | kernel_rfl)
    (case l_Money_text => first | k_is | k_exc | kit_is | kts_exm | kernel_rfl)
    (case c_Money_text => first | k_is | k_exc | kit_is | kts_exm | kernel_rfl)
    (case k_Money_text => first | k_is | k_exc | kit_is | kts_exm | kernel_rfl)
    (case n_Money_amount => first | k_is | k_exc | kit_is | kts_exm | kernel_rfl)
    (case i_Money_amount => first | k_is | k_exc | kit_is | kts_exm | kernel_rfl)
    (case l_Money_amount => first | k_is | k_exc | kit_is | kts_exm | kernel_rfl)
    (case c_Money_amount => first | k_is | k_exc | kit_is | kts_exm | kernel_rfl)
    (case k_Money_amount => first | k_is | k_exc | kit_is | kts_exm | kernel_rfl)
    (case n_l_mixed => first | k_is | k_exc | kit_is | kts_exm | kernel_rfl)
    (case l_l_mixed => first | k_is | k_exc | kit_is | kts_exm | kernel_rfl)
    (case c_l_mixed => first | k_is | k_exc | kit_is | kts_exm | kernel_rfl)
    (case k_l_mixed => first | k_is | k_exc | kit_is | kts_exm | kernel_rfl)
    (case n_l_next => first | k_is | k_exc | kit_is | kts_exm | kernel_rfl)
    (case l_l_next => first | k_is | k_exc | kit_is | kts_exm | kernel_rfl)
    (case c_l_next => first | k_is | k_exc | kit_is | kts_exm | kernel_rfl)
    (case k_l_next => first | k_is | k_exc | kit_is | kts_exm | kernel_rfl)
    (case n_l_pick => first | k_is | k_exc | kit_is | kts_exm | kernel_rfl)
    (case l_l_pick => first | k_is | k_exc | kit_is | kts_exm | kernel_rfl)
    (case c_l_pick => first | k_is | k_exc | kit_is | kts_exm | kernel_rfl)
    (case k_l_pick => first | k_is | k_exc | kit_is | kts_exm | kernel_rfl)
    (case n_l_word => first | k_is | k_exc | kit_is | kts_exm | kernel_rfl)
    (case l_l_word => first | k_is | k_exc | kit_is | kts_exm | kernel_rfl)
    (case c_l_word => first | k_is | k_exc | kit_is | kts_exm | kernel_rfl)
    (case k_l_word => first | k_is | k_exc | kit_is | kts_exm | kernel_rfl)
    (case n_l_words => first | k_is | k_exc | kit_is | kts_exm | kernel_rfl)
    (case l_l_words => first | k_is | k_exc | kit_is | kts_exm | kernel_rfl)
    (case c_l_words => first | k_is | k_exc | kit_is | kts_exm | kernel_rfl)
    (case k_l_words => first | k_is | k_exc | kit_is | kts_exm | kernel_rfl)
    (case n_l_signs => first | k_is | k_exc | kit_is | kts_exm | kernel_rfl)
    (case l_l_signs => first | k_is | k_exc | kit_is | kts_exm | kernel_rfl)
    (case c_l_signs => first | k_is | k_exc | kit_is | kts_exm | kernel_rfl)
    (case k_l_signs => first | k_is | k_exc | kit_is | kts_exm | kernel_rfl)
    (case n_l_units => first | k_is | k_exc | kit_is | kts_exm | kernel_rfl)
    (case l_l_units => first | k_is | k_exc | kit_is | kts_exm | kernel_rfl)
    (case c_l_units => first | k_is | k_exc | kit_is | kts_exm | kernel_rfl)
    (case k_l_units => first | k_is | k_exc | kit_is | kts_exm | kernel_rfl)
    (case n_l_sizes => first | k_is | k_exc | kit_is | kts_exm | kernel_rfl)
    (case l_l_sizes => first | k_is | k_exc | kit_is | kts_exm | kernel_rfl)
    (case c_l_sizes => first | k_is | k_exc | kit_is | kts_exm | kernel_rfl)
    (case k_l_sizes => first | k_is | k_exc | kit_is | kts_exm | kernel_rfl)
    (case n_l_counts => first | k_is | k_exc | kit_is | kts_exm | kernel_rfl)
    (case l_l_counts => first | k_is | k_exc | kit_is | kts_exm | kernel_rfl)
    (case c_l_counts => first | k_is | k_exc | kit_is | kts_exm | kernel_rfl)
    (case k_l_counts => first | k_is | k_exc | kit_is | kts_exm | kernel_rfl)
    (case n_l_bent => first | k_is | k_exc | kit_is | kts_exm | kernel_rfl)
    (case l_l_bent => first | k_is | k_exc | kit_is | kts_exm | kernel_rfl)
    (case c_l_bent => first | k_is | k_exc | kit_is | kts_exm | kernel_rfl)
    (case k_l_bent => first | k_is | k_exc | kit_is | kts_exm | kernel_rfl)
    (case n_l_text => first | k_is | k_exc | kit_is | kts_exm | kernel_rfl)
    (case l_l_text => first | k_is | k_exc | kit_is | kts_exm | kernel_rfl)
    (case c_l_text => first | k_is | k_exc | kit_is | kts_exm | kernel_rfl)
    (case k_l_text => first | k_is | k_exc | kit_is | kts_exm | kernel_rfl)
    (case n_l_figures => first | k_is | k_exc | kit_is | kts_exm | kernel_rfl)
    (case l_l_figures => first | k_is | k_exc | kit_is | kts_exm | kernel_rfl)
    (case c_l_figures => first | k_is | k_exc | kit_is | kts_exm | kernel_rfl)
    (case k_l_figures => first | k_is | k_exc | kit_is | kts_exm | kernel_rfl)
    (case n_l_due => first | k_is | k_exc | kit_is | kts_exm | kernel_rfl)
    (case l_l_due => first | k_is | k_exc | kit_is | kts_exm | kernel_rfl)
    (case c_l_due => first | k_is | k_exc | kit_is | kts_exm | kernel_rfl)
    (case k_l_due => first | k_is | k_exc | kit_is | kts_exm | kernel_rfl)
    (case n_l_alone => first | k_is | k_exc | kit_is | kts_exm | kernel_rfl)
    (case l_l_alone => first | k_is | k_exc | kit_is | kts_exm | kernel_rfl)
    (case c_l_alone => first | k_is | k_exc | kit_is | kts_exm | kernel_rfl)
    (case k_l_alone => first | k_is | k_exc | kit_is | kts_exm | kernel_rfl)
    (case n_l_read_right => first | k_is | k_exc | kit_is | kts_exm | kernel_rfl)
    (case l_l_read_right => first | k_is | k_exc | kit_is | kts_exm | kernel_rfl)
    (case c_l_read_right => first | k_is | k_exc | kit_is | kts_exm | kernel_rfl)
    (case k_l_read_right => first | k_is | k_exc | kit_is | kts_exm | kernel_rfl)
    (case n_law => first | k_is | k_exc | kit_is | kts_exm | kernel_rfl)
    (case l_law => first | k_is | k_exc | kit_is | kts_exm | kernel_rfl)
    (case c_law => first | k_is | k_exc | kit_is | kts_exm | kernel_rfl)
    (case k_law => first | k_is | k_exc | kit_is | kts_exm | kernel_rfl)
    (case n_SMALL_LETTERS => first | k_is | k_exc | kit_is | kts_exm | kernel_rfl)
    (case n_FIGURES => first | k_is | k_exc | kit_is | kts_exm | kernel_rfl)
    (case n_LONGEST_NAME => first | k_is | k_exc | kit_is | kts_exm | kernel_rfl)
    (case n_MOST_FIGURES => first | k_is | k_exc | kit_is | kts_exm | kernel_rfl)
    (case n_MOST_AMOUNT => first | k_is | k_exc | kit_is | kts_exm | kernel_rfl)
    (case n_MOST_UNITS => first | k_is | k_exc | kit_is | kts_exm | kernel_rfl)
    (case n_LEAST_MANY => first | k_is | k_exc | kit_is | kts_exm | kernel_rfl)
    (case n_MOST_MANY => first | k_is | k_exc | kit_is | kts_exm | kernel_rfl)
    (case z_len => first | k_is | k_exc | kit_is | kts_exm | kernel_rfl)
    (case z_range => first | k_is | k_exc | kit_is | kts_exm | kernel_rfl)
    (case z_max => first | k_is | k_exc | kit_is | kts_exm | kernel_rfl)
    (case z_min => first | k_is | k_exc | kit_is | kts_exm | kernel_rfl)
    (case z_isinstance => first | k_is | k_exc | kit_is | kts_exm | kernel_rfl)
    (case z_all => first | k_is | k_exc | kit_is | kts_exm | kernel_rfl)
    (case z_str => first | k_is | k_exc | kit_is | kts_exm | kernel_rfl)
    (case z_bool => first | k_is | k_exc | kit_is | kts_exm | kernel_rfl)
    (case z_int => first | k_is | k_exc | kit_is | kts_exm | kernel_rfl)
    (case z_list => first | k_is | k_exc | kit_is | kts_exm | kernel_rfl)
    (case z_tuple => first | k_is | k_exc | kit_is | kts_exm | kernel_rfl)
    (case z_reversed => first | k_is | k_exc | kit_is | kts_exm | kernel_rfl)
    (case z_enumerate => first | k_is | k_exc | kit_is | kts_exm | kernel_rfl)
    (case z_set => first | k_is | k_exc | kit_is | kts_exm | kernel_rfl)
    (case z_divmod => first | k_is | k_exc | kit_is | kts_exm | kernel_rfl)
    (case z_zip => first | k_is | k_exc | kit_is | kts_exm | kernel_rfl)
    (case z_sum => first | k_is | k_exc | kit_is | kts_exm | kernel_rfl)
    (case z_ValueError => first | k_is | k_exc | kit_is | kts_exm | kernel_rfl)
