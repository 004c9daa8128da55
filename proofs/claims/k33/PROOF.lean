import PyProof.Rows.All
import Wide.All
import OpenK.AllK
import Wide.FinOn
import PyProof.EqAt
import PyProof.EqKinds
import PyProof.TupleCall
import KE.BitLaws
import PySem.Challenge.RW_formatwords_k33_machines_as_objects
set_option Elab.async false
set_option linter.all false
set_option maxRecDepth 100000
namespace L2
open PySem PySem.Spec PyProof.Rows
abbrev Key := Sum Int Str
def keyIs : Key → Value → Bool
  | .inl k, v => Value.isInt k v
  | .inr x, v => Value.isStrOf x v
def keyH (w : World) : Key → Int
  | .inl k => hashInt k
  | .inr x => hashStr w x
theorem keyIs_shape : ∀ {k : Key} {v : Value}, keyIs k v = true → (∃ i t, k = Sum.inl i ∧ v = Value.int i t) ∨ (∃ x t, k = Sum.inr x ∧ v = Value.str x t)
  | .inl i, v, h => by
    obtain ⟨t, e⟩ := Value.isInt_shape (k := i) (v := v) h
    exact .inl ⟨i, t, rfl, e⟩
  | .inr x, v, h => by
    obtain ⟨t, e⟩ := Value.isStrOf_shape (x := x) (v := v) h
    exact .inr ⟨x, t, rfl, e⟩
theorem keyIs_int (i : Int) (t : Tok) : keyIs (.inl i) (.int i t) = true := by simp [keyIs, Value.isInt]
theorem keyIs_str (x : Str) (t : Tok) : keyIs (.inr x) (.str x t) = true := by simp [keyIs, Value.isStrOf]
theorem key_ll (a b : Int) : decide ((Sum.inl a : Key) = Sum.inl b) = (a == b) := by
  by_cases e : a = b
  · subst e; simp
  · have h : ¬ (Sum.inl a : Key) = Sum.inl b := fun q => e (Sum.inl.inj q)
    rw [decide_eq_false h]
    exact (beq_eq_false_iff_ne.mpr e).symm
theorem key_rr (a b : Str) : decide ((Sum.inr a : Key) = Sum.inr b) = decide (a = b) := by
  by_cases e : a = b
  · subst e; simp
  · have h : ¬ (Sum.inr a : Key) = Sum.inr b := fun q => e (Sum.inr.inj q)
    rw [decide_eq_false h, decide_eq_false e]
theorem key_lr (a : Int) (b : Str) : decide ((Sum.inl a : Key) = Sum.inr b) = false := decide_eq_false (fun q => nomatch q)
theorem key_rl (a : Str) (b : Int) : decide ((Sum.inr a : Key) = Sum.inl b) = false := decide_eq_false (fun q => nomatch q)
def mixKind (prog : Program) (w : World) : PySem.KeyKind prog w Key where
  is := keyIs
  hash := keyH w
  inj := fun v a b ha hb => by
    rcases keyIs_shape ha with ⟨i, t, rfl, rfl⟩ | ⟨x, t, rfl, rfl⟩
    · rcases keyIs_shape hb with ⟨j, u, rfl, e⟩ | ⟨y, u, rfl, e⟩
      · injection e with e1 _; rw [e1]
      · exact nomatch e
    · rcases keyIs_shape hb with ⟨j, u, rfl, e⟩ | ⟨y, u, rfl, e⟩
      · exact nomatch e
      · injection e with e1 _; rw [e1]
  byValue := fun k v h => by
    rcases keyIs_shape h with ⟨i, t, rfl, rfl⟩ | ⟨x, t, rfl, rfl⟩ <;> rfl
  pyHash := fun hv h => by
    rcases keyIs_shape hv with ⟨i, t, rfl, rfl⟩ | ⟨x, t, rfl, rfl⟩
    · exact wpAny_pyHash_int h
    · exact wpAny_pyHash_str h
  eqBool := fun hu hv h => by
    rcases keyIs_shape hu with ⟨i, t, rfl, rfl⟩ | ⟨x, t, rfl, rfl⟩
    · rcases keyIs_shape hv with ⟨j, u, rfl, rfl⟩ | ⟨y, u, rfl, rfl⟩
      · rw [key_ll] at h; exact wpAny_eqBool_int h
      · rw [key_lr] at h; exact SeqAt.EqAt.int_str i t y u _ _ _ _ h
    · rcases keyIs_shape hv with ⟨j, u, rfl, rfl⟩ | ⟨y, u, rfl, rfl⟩
      · rw [key_rl] at h; exact SeqAt.EqAt.str_int x t j u _ _ _ _ h
      · rw [key_rr] at h; exact wpAny_eqBool_str h
  «strs» := fun k x t v h => by
    rcases keyIs_shape h with ⟨i, u, rfl, e⟩ | ⟨y, u, rfl, e⟩
    · exact nomatch e
    · injection e with e1 _
      subst e1
      cases v <;> rfl
theorem mixKind_int (prog : Program) (w : World) (i : Int) (t : Tok) : (mixKind prog w).is (.inl i) (.int i t) = true := keyIs_int i t
theorem mixKind_str (prog : Program) (w : World) (x : Str) (t : Tok) : (mixKind prog w).is (.inr x) (.str x t) = true := keyIs_str x t
end L2
namespace L2
open PySem PySem.Spec PyProof.Rows
inductive V where
  | non | bl (b : Bool) | int (i : Int) | str (x : Str) | byt (b : Array UInt8) | flt (b : UInt64) | ref (a : Addr) | ty (n : String)
  deriving DecidableEq
def RelV : V → Value → Prop
  | .non, u => u = Value.none
  | .bl b, u => u = Value.bool b
  | .int i, u => ∃ t, u = Value.int i t
  | .str x, u => ∃ t, u = Value.str x t
  | .byt b, u => ∃ t, u = Value.bytes b t
  | .flt b, u => ∃ t, u = Value.float b t
  | .ref a, u => u = Value.ref a
  | .ty n, u => u = Value.type n
abbrev Vals : List V → List Value → Prop := Paired RelV
theorem Vals.length {xs : List V} {us : List Value} (r : Vals xs us) : xs.length = us.length := Paired.length r
theorem Vals.get : ∀ {xs : List V} {us : List Value} {i : Nat} {x : V}, Vals xs us → xs[i]? = some x → ∃ u, us[i]? = some u ∧ RelV x u
  | _, _, _, _, .nil, e => by simp at e
  | _, _, 0, _, .cons r _, e => by simp at e; subst e; exact ⟨_, rfl, r⟩
  | _, _, i + 1, x, .cons _ t, e => by
    obtain ⟨u, h1, h2⟩ := Vals.get (i := i) (x := x) t (by simpa using e)
    exact ⟨u, by simpa using h1, h2⟩
theorem Vals.set {x : V} {u : Value} (r : RelV x u) : ∀ {xs : List V} {us : List Value} (i : Nat), Vals xs us → Vals (xs.set i x) (us.set i u)
  | _, _, _, .nil => .nil
  | _, _, 0, .cons _ t => .cons r t
  | _, _, i + 1, .cons q t => .cons q (Vals.set r i t)
theorem Vals.append : ∀ {xs ys : List V} {us ws : List Value}, Vals xs us → Vals ys ws → Vals (xs ++ ys) (us ++ ws)
  | _, _, _, _, .nil, s => s
  | _, _, _, _, .cons r t, s => .cons r (Vals.append t s)
theorem Vals.take : ∀ {xs : List V} {us : List Value} (n : Nat), Vals xs us → Vals (xs.take n) (us.take n)
  | _, _, 0, _ => .nil
  | _, _, _ + 1, .nil => .nil
  | _, _, n + 1, .cons r t => .cons r (Vals.take n t)
theorem Vals.drop : ∀ {xs : List V} {us : List Value} (n : Nat), Vals xs us → Vals (xs.drop n) (us.drop n)
  | _, _, 0, r => r
  | _, _, _ + 1, .nil => .nil
  | _, _, n + 1, .cons _ t => Vals.drop n t
def RelO : Option V → Option Value → Prop
  | some v, some u => RelV v u
  | none, none => True
  | _, _ => False
def KV {κ : Type} : List (κ × V) → List (κ × Value) → Prop := Paired fun (p : κ × V) (q : κ × Value) => p.1 = q.1 ∧ RelV p.2 q.2
def kV : Key → V
  | .inl i => .int i
  | .inr x => .str x
inductive HO where
  | lst (xs : List V)
  | tup (xs : List V)
  | dK (kvs : List (Key × V)) | dT (kvs : List (List Key × V))
  | set (S : Int → Bool) (n : Nat)
  | ins (C dx : Addr) (fs : List (Str × V))
  | own (x : Addr)
  | xd (fs : List (Str × V))
  | met (f x : Addr)
  | rng (lo hi : Int)
  | frz (o : Obj) (u : HO)
  | tbl (ps : Array Value)
  | ext (φ : Heap → Prop)
abbrev Hp := Addr → Option HO
def upd (H : Hp) (a : Addr) (o : HO) : Hp := fun b => if b = a then some o else H b
theorem upd_same {H : Hp} {a : Addr} {o : HO} : upd H a o a = some o := by unfold upd; rw [if_pos rfl]
theorem upd_ne {H : Hp} {a b : Addr} {o : HO} (h : b ≠ a) : upd H a o b = H b := by unfold upd; rw [if_neg h]
theorem ne_of {H : Hp} {a b : Addr} {o u : HO} (h : H a = some o) (h' : H b = some u) (d : o ≠ u) : a ≠ b := by
  intro e; subst e; rw [h] at h'; exact d (Option.some.inj h')
theorem ne_of_none {H : Hp} {a b : Addr} {o : HO} (h : H a = some o) (h' : H b = none) : a ≠ b := by
  intro e; subst e; rw [h] at h'; cases h'
section
variable (P : Program) (w : World)
def ObjOk (H : Hp) (h : Heap) (a : Addr) : HO → Prop
  | .lst xs => xs.length ≤ sizeLine ∧ ∃ (its : List Value) (n : Nat), Vals xs its ∧ h.get? a = some { cls := .type "list", data := .seq its.toArray n }
  | .tup xs => xs.length ≤ sizeLine ∧ ∃ its : List Value, Vals xs its ∧ IsTup h a its.toArray
  | .dK kvs => kvs.length ≤ sizeLine ∧ (a == sysModules) = false ∧ ∃ vs, KV kvs vs ∧ h.DictOf (mixKind P w) a vs
  | .dT kvs => kvs.length ≤ sizeLine ∧ (a == sysModules) = false ∧ ∃ xs : List (List Key × Addr × Value),
      Paired (fun (p : List Key × V) (q : List Key × Addr × Value) => p.1 = q.1 ∧ H q.2.1 = some (.tup (p.1.map kV)) ∧ RelV p.2 q.2.2) kvs xs ∧
      ∃ o es ep, h.get? a = some o ∧ o.ExactDict ∧ o.data = .dict es ep ∧ es.toList = xs.map (entryOfKey (tupleKind (mixKind P w))) ∧ (xs.map (·.1)).Nodup
  | .set S n => h.SetOf (intKind P w) a S n
  | .ins C dx fs => H dx = some (.own a) ∧ fs.length ≤ 1000 ∧ dx ≠ a ∧ h.get? a = some (PySem.W.instObj C dx) ∧
      ∃ mA, h.Ns1 dx mA ∧ (∀ f, RelO (fs.lookup f) (mA f)) ∧ PySem.Within mA (fs.map (·.1))
  | .own _ => ∃ o, h.get? a = some o
  | .xd fs => ∃ mA, h.Ns1 a mA ∧ ∀ f, RelO (fs.lookup f) (mA f)
  | .rng lo hi => ∃ t u v, h.get? a = some { cls := .type "range", data := .fields #[.int lo t, .int hi u, .int 1 v] }
  | .frz o u => h.get? a = some o ∧ ObjOk H h a u
  | .tbl ps => h.get? a = some { cls := .none, data := .fields ps }
  | .met f x => h.get? a = some (PySem.W.methodObj (.ref f) (.ref x))
  | .ext φ => φ h ∧ (∃ o, h.get? a = some o) ∧ ∀ h1 h2 : Heap, φ h1 → (∀ o, h1.get? a = some o → h2.get? a = some o) → φ h2
def HOk (H : Hp) (h : Heap) : Prop := ∀ a o, H a = some o → ObjOk P w H h a o
end
section
variable {P : Program} {w : World} {H H' : Hp} {h h' : Heap} {a : Addr} {o : HO}
theorem ObjOk.lt (x : ObjOk P w H h a o) : a < h.objs.size := by
  cases o with
  | lst xs => obtain ⟨_, _, _, _, e⟩ := x; exact Heap.lt_size e
  | tup xs => obtain ⟨_, _, _, p⟩ := x; exact p.lt
  | dK kvs => obtain ⟨_, _, _, _, o, _, _, e, _⟩ := x; exact Heap.lt_size e
  | dT kvs => obtain ⟨_, _, _, _, o, _, _, e, _⟩ := x; exact Heap.lt_size e
  | set S n => obtain ⟨o, _, _, _, e, _⟩ := x; exact Heap.lt_size e
  | ins C dx fs => obtain ⟨_, _, _, e, _⟩ := x; exact Heap.lt_size e
  | own y => obtain ⟨_, e⟩ := x; exact Heap.lt_size e
  | xd fs => obtain ⟨_, ⟨_, _, _, e, _⟩, _⟩ := x; exact Heap.lt_size e
  | rng lo hi => obtain ⟨_, _, _, e⟩ := x; exact Heap.lt_size e
  | frz ob u => obtain ⟨e, _⟩ := x; exact Heap.lt_size e
  | tbl ps => exact Heap.lt_size (show h.get? a = some _ from x)
  | met f y => exact Heap.lt_size (show h.get? a = some _ from x)
  | ext φ => obtain ⟨_, ⟨_, e⟩, _⟩ := x; exact Heap.lt_size e
theorem Paired.mapP {α β : Type} {F G : α → β → Prop} : ∀ {l₁ : List α} {l₂ : List β}, Paired F l₁ l₂ → (∀ a b, F a b → G a b) → Paired G l₁ l₂
  | _, _, .nil, _ => .nil
  | _, _, .cons r t, f => .cons (f _ _ r) (Paired.mapP t f)
theorem ObjOk.stay (x : ObjOk P w H h a o) (k : ∀ b u, (b = a ∨ H b = some (.own a)) → h.get? b = some u → h'.get? b = some u)
    (ho : ∀ b, H b = some (.own a) → H' b = some (.own a)) (ht : ∀ b xs, H b = some (.tup xs) → H' b = some (.tup xs)) : ObjOk P w H' h' a o := by
  induction o with
  | lst xs => obtain ⟨z, its, n, r, e⟩ := x; exact ⟨z, its, n, r, k _ _ (.inl rfl) e⟩
  | tup xs => obtain ⟨z, its, r, ob, e, c⟩ := x; exact ⟨z, its, r, ob, k _ _ (.inl rfl) e, c⟩
  | dK kvs => obtain ⟨z, y, vs, r, ob, es, ep, e, c⟩ := x; exact ⟨z, y, vs, r, ob, es, ep, k _ _ (.inl rfl) e, c⟩
  | dT kvs =>
    obtain ⟨z, y, xs, r, ob, es, ep, e, c⟩ := x
    exact ⟨z, y, xs, Paired.mapP r fun p q z => ⟨z.1, ht _ _ z.2.1, z.2.2⟩, ob, es, ep, k _ _ (.inl rfl) e, c⟩
  | set S n => obtain ⟨ob, es, ep, t, e, c⟩ := x; exact ⟨ob, es, ep, t, k _ _ (.inl rfl) e, c⟩
  | ins C dx fs =>
    obtain ⟨d, z, ne, e, mA, ⟨od, es, ep, e2, c⟩, r⟩ := x
    exact ⟨ho _ d, z, ne, k _ _ (.inl rfl) e, mA, ⟨od, es, ep, k _ _ (.inr d) e2, c⟩, r⟩
  | own y => obtain ⟨ob, e⟩ := x; exact ⟨ob, k _ _ (.inl rfl) e⟩
  | xd fs => obtain ⟨mA, ⟨od, es, ep, e, c⟩, r⟩ := x; exact ⟨mA, ⟨od, es, ep, k _ _ (.inl rfl) e, c⟩, r⟩
  | rng lo hi => obtain ⟨t, u, v, e⟩ := x; exact ⟨t, u, v, k _ _ (.inl rfl) e⟩
  | frz ob u ih => obtain ⟨e, q⟩ := x; exact ⟨k _ _ (.inl rfl) e, ih q⟩
  | tbl ps =>
    have e : h.get? a = some { cls := .none, data := .fields ps } := x
    show h'.get? a = some { cls := .none, data := .fields ps }
    exact k a _ (.inl rfl) e
  | met f y =>
    have e : h.get? a = some (PySem.W.methodObj (.ref f) (.ref y)) := x
    show h'.get? a = some (PySem.W.methodObj (.ref f) (.ref y))
    exact k a _ (.inl rfl) e
  | ext φ => obtain ⟨p, ⟨o, e⟩, st⟩ := x; exact ⟨st _ _ p fun o q => k _ _ (.inl rfl) q, ⟨o, k _ _ (.inl rfl) e⟩, st⟩
theorem HOk.lt (x : HOk P w H h) (e : H a = some o) : a < h.objs.size := (x a o e).lt
theorem HOk.fresh (x : HOk P w H h) (e : h.objs.size ≤ a) : H a = none := by
  cases q : H a with
  | none => rfl
  | some u => exact absurd (Nat.lt_of_lt_of_le (x.lt q) e) (Nat.lt_irrefl _)
theorem HOk.kept (x : HOk P w H h) (k : ∀ b u, h.get? b = some u → h'.get? b = some u) : HOk P w H h' := fun a o e =>
  (x a o e).stay (fun b u _ q => k b u q) (fun _ q => q) fun _ _ q => q
theorem HOk.laid (x : HOk P w H h) (k : ∀ b u, h.get? b = some u → h'.get? b = some u) (hp : h.objs.size ≤ a) (new : ObjOk P w (upd H a o) h' a o) : HOk P w (upd H a o) h' := fun b u e => by
  have hn := x.fresh hp
  by_cases hb : b = a
  · subst hb; rw [upd_same] at e; cases e; exact new
  · rw [upd_ne hb] at e
    exact (x b u e).stay (fun c v _ q => k c v q) (fun c q => by rw [upd_ne (ne_of_none q hn)]; exact q) fun c xs q => by rw [upd_ne (ne_of_none q hn)]; exact q
end
def Rd (H : Hp) (a : Addr) (u : HO) : Prop := H a = some u ∨ ∃ o, H a = some (.frz o u)
theorem Rd.of {H : Hp} {a : Addr} {u : HO} (h : H a = some u) : Rd H a u := .inl h
theorem Rd.ok {P : Program} {w : World} {H : Hp} {h : Heap} {a : Addr} {u : HO} (r : Rd H a u) (x : HOk P w H h) : ObjOk P w H h a u := by
  rcases r with r | ⟨o, r⟩
  · exact x a u r
  · obtain ⟨_, q⟩ := x a _ r
    exact q
def Mut : Option HO → Prop
  | some (.lst _) => True
  | some (.dK _) => True
  | some (.dT _) => True
  | some (.set _ _) => True
  | some (.ins _ _ _) => True
  | some (.ext _) => True
  | _ => False
section
variable {P : Program} {w : World} {H : Hp} {h h' : Heap} {x e : Addr} {o' : HO}
theorem HOk.write (ok : HOk P w H h) (mu : Mut (H x)) (he : e = x ∨ H e = some (.own x)) (k : ∀ b u, b ≠ e → h.get? b = some u → h'.get? b = some u) (heo : ∃ u, h'.get? e = some u)
    (new : ObjOk P w (upd H x o') h' x o') : HOk P w (upd H x o') h' := fun b u q => by
  have nown : ∀ c y, H c = some (.own y) → c ≠ x := fun c y r z => by subst z; rw [r] at mu; exact mu
  have ntup : ∀ c xs, H c = some (.tup xs) → c ≠ x := fun c xs r z => by subst z; rw [r] at mu; exact mu
  by_cases hb : b = x
  · subst hb; rw [upd_same] at q; cases q; exact new
  · rw [upd_ne hb] at q
    by_cases hbe : b = e
    · have q' : H b = some (.own x) := by
        rcases he with z | z
        · exact absurd (hbe.trans z) hb
        · rw [hbe]; exact z
      rw [q] at q'; cases q'
      obtain ⟨v, hv⟩ := heo
      exact ⟨v, by rw [hbe]; exact hv⟩
    · refine (ok b u q).stay (fun c v hc r => k c v ?_ r) (fun c r => by rw [upd_ne (nown c b r)]; exact r) fun c xs r => by rw [upd_ne (ntup c xs r)]; exact r
      rcases hc with rfl | hc
      · exact hbe
      · rintro rfl
        rcases he with z | z
        · exact nown c b hc z
        · rw [hc] at z; cases z; exact hb rfl
end
structure Un (fs ex : List Addr) (H H' : Hp) (h h' : Heap) : Prop where
  keep : ∀ b o, h.get? b = some o → H b = none → b ∉ fs → b ∉ ex → h'.get? b = some o
  slot : ∀ b o, h.get? b = some o → H b = none → b ∈ fs → b ∉ ex → ∃ sl, h'.get? b = some { o with slots := sl }
  free : ∀ b o, h.get? b = some o → H b = none → b ∉ ex → H' b = none
  there : ∀ b o, h.get? b = some o → b ∉ ex → ∃ o', h'.get? b = some o'
  tups : ∀ b xs, H b = some (.tup xs) → H' b = some (.tup xs)
  frzs : ∀ b o u, H b = some (.frz o u) → H' b = some (.frz o u)
  tbls : ∀ b ps, H b = some (.tbl ps) → ∃ more, H' b = some (.tbl (ps ++ more))
section
variable {fs fs' ex ex' : List Addr} {H H1 H2 : Hp} {h h1 h2 h' : Heap} {a x e : Addr} {o : HO}
theorem Un.any (u : Un fs ex H H1 h h1) {b : Addr} {ob : Obj} (q : h.get? b = some ob) (n : H b = none) (hx : b ∉ ex) : ∃ sl, h1.get? b = some { ob with slots := sl } := by
  by_cases hb : b ∈ fs
  · exact u.slot b ob q n hb hx
  · exact ⟨ob.slots, u.keep b ob q n hb hx⟩
theorem Un.trans (a : Un fs ex H H1 h h1) (b : Un fs ex H1 H2 h1 h2) : Un fs ex H H2 h h2 where
  keep := fun c ob q n hc hx => b.keep c ob (a.keep c ob q n hc hx) (a.free c ob q n hx) hc hx
  slot := fun c ob q n hc hx => by
    obtain ⟨sl, e1⟩ := a.slot c ob q n hc hx
    obtain ⟨sl', e2⟩ := b.slot c _ e1 (a.free c ob q n hx) hc hx
    exact ⟨sl', e2⟩
  free := fun c ob q n hx => by
    obtain ⟨o', e1⟩ := a.there c ob q hx
    exact b.free c o' e1 (a.free c ob q n hx) hx
  there := fun c ob q hx => by
    obtain ⟨o', e1⟩ := a.there c ob q hx
    exact b.there c o' e1 hx
  tups := fun c xs q => b.tups c xs (a.tups c xs q)
  frzs := fun c ob xs q => b.frzs c ob xs (a.frzs c ob xs q)
  tbls := fun c ps q => by
    obtain ⟨m1, e1⟩ := a.tbls c ps q
    obtain ⟨m2, e2⟩ := b.tbls c _ e1
    exact ⟨m1 ++ m2, by rw [e2, Array.append_assoc]⟩
theorem Un.kept (k : ∀ b u, h.get? b = some u → h'.get? b = some u) : Un fs ex H H h h' :=
  ⟨fun b ob q _ _ _ => k b ob q, fun b ob q _ _ _ => ⟨ob.slots, k b ob q⟩, fun _ _ _ n _ => n, fun b ob q _ => ⟨ob, k b ob q⟩, fun _ _ q => q, fun _ _ _ q => q, fun _ ps q => ⟨#[], by rw [q]; simp⟩⟩
theorem Un.refl : Un fs ex H H h h := Un.kept fun _ _ q => q
theorem Un.laid (k : ∀ b u, h.get? b = some u → h'.get? b = some u) (hp : h.objs.size ≤ a) (hn : H a = none) : Un fs ex H (upd H a o) h h' where
  keep := fun b u q _ _ _ => k b u q
  slot := fun b u q _ _ _ => ⟨u.slots, k b u q⟩
  free := fun b u q n _ => by rw [upd_ne (Nat.ne_of_lt (Nat.lt_of_lt_of_le (Heap.lt_size q) hp))]; exact n
  there := fun b u q _ => ⟨u, k b u q⟩
  tups := fun b xs q => by rw [upd_ne (ne_of_none q hn)]; exact q
  frzs := fun b u xs q => by rw [upd_ne (ne_of_none q hn)]; exact q
  tbls := fun b ps q => ⟨#[], by rw [upd_ne (ne_of_none q hn), q]; simp⟩
theorem Un.write (mu : Mut (H x)) (he : e = x ∨ H e = some (.own x)) (k : ∀ b u, b ≠ e → h.get? b = some u → h'.get? b = some u) (heo : ∃ u, h'.get? e = some u) : Un fs ex H (upd H x o) h h' := by
  have hx : ∀ b, H b = none → b ≠ x := fun b n z => by subst z; rw [n] at mu; exact mu
  have hb : ∀ b, H b = none → b ≠ e := fun b n z => by
    subst z
    rcases he with r | r
    · exact hx b n r
    · rw [n] at r; cases r
  have hm : ∀ b u, H b = some u → ¬ Mut (some u) → b ≠ x := fun b u q nm z => by subst z; rw [q] at mu; exact nm mu
  refine ⟨fun b u q n _ _ => k b u (hb b n) q, fun b u q n _ _ => ⟨u.slots, k b u (hb b n) q⟩, fun b u q n _ => by rw [upd_ne (hx b n)]; exact n, fun b u q _ => ?_,
    fun b xs q => by rw [upd_ne (hm b _ q fun z => z)]; exact q, fun b u xs q => by rw [upd_ne (hm b _ q fun z => z)]; exact q, fun b ps q => ⟨#[], by rw [upd_ne (hm b _ q fun z => z), q]; simp⟩⟩
  by_cases hbe : b = e
  · subst hbe; exact heo
  · exact ⟨u, k b u hbe q⟩
theorem Un.mono (u : Un fs ex H H1 h h1) (hs : ∀ b ∈ fs, b ∈ fs') (hx : ∀ b ∈ ex, b ∈ ex') : Un fs' ex' H H1 h h1 :=
  ⟨fun b ob q n hb he => u.keep b ob q n (fun z => hb (hs b z)) fun z => he (hx b z), fun _ _ q n _ he => u.any q n fun z => he (hx _ z), fun b ob q n he => u.free b ob q n fun z => he (hx b z), fun b ob q he => u.there b ob q fun z => he (hx b z), u.tups, u.frzs, u.tbls⟩
end
def trk (h : Heap) (H : Hp) : List Addr := (List.range h.objs.size).filter fun a => (H a).isSome
def hidT (h : Heap) (H : Hp) : Heap := PySem.W.hideAll h (trk h H)
theorem hidT_size (h : Heap) (H : Hp) : (hidT h H).objs.size = h.objs.size := PySem.W.hideAll_size _ _
theorem hidT_get {h : Heap} {H : Hp} {b : Addr} {o : Obj} (e : h.get? b = some o) (n : H b = none) : (hidT h H).get? b = some o :=
  PySem.W.hideAll_get _ e fun hm => by
    have q : (H b).isSome = true := (List.mem_filter.mp hm).2
    rw [n] at q; simp at q
theorem of_hidT {h : Heap} {H : Hp} {b : Addr} {o : Obj} (e : (hidT h H).get? b = some o) : h.get? b = some o ∧ H b = none := by
  have e' : h.get? b = some o := PySem.W.of_hideAll (trk h H) e
  refine ⟨e', ?_⟩
  cases q : H b with
  | none => rfl
  | some x =>
    have hm : b ∈ trk h H := List.mem_filter.mpr ⟨List.mem_range.mpr (Heap.lt_size e'), by simp [q]⟩
    have z : (hidT h H).get? b = none := PySem.W.hideAll_none (trk h H) hm
    rw [z] at e; cases e
def allNews (g h : Heap) (L : Addr) : List (Addr × Obj) := (List.range h.objs.size).filterMap fun a => if a = L ∨ (g.get? a).isSome = true then none else (h.get? a).map fun o => (a, o)
def rest (g h : Heap) (L d : Addr) : List (Addr × Obj) := (allNews g h L).filter fun p => decide (p.1 ≠ d)
end L2
namespace L2
open PySem PySem.Spec PyProof.Rows
structure Mod (K : PySem.W.Frag) (mg : Str → Option Value) (base : Heap) : Prop where
  kin : K.In base
  glob : base.Ns mainGlobals mg
  blt : ∃ mb, base.Ns builtinsNs mb ∧ ∀ x : Str, x ≠ "__name__" → mb x = bootBuiltins x
  nolimit : base.NoLimit
structure Cx where
  prog : Program
  w : World
  K : PySem.W.Frag
  mg : Str → Option Value
  base : Heap
  A : Around
  N : List Str
  s_0 : Shared
  H_0 : Hp
  env : Env
  outer : List Env
  stack : List Env
  ex : List Addr
  fn : Str → Bool
  calm : Bool
  pn : List (Addr × Obj)
  xe : Value → Shared → Prop
def frs (l : List Env) : List Addr := l.filterMap (·.frame)
abbrev Cx.fs (X : Cx) : List Addr := frs X.outer
def Vis (sc : Scope) (x : Str) : Prop := sc.names.lookup x = some .local ∨ sc.names.lookup x = some .cell ∨ sc.names.lookup x = some .free
def Loc (sc : Scope) (x : Str) : Prop := sc.names.lookup x = some .local ∨ sc.names.lookup x = some .cell
def Look (env : Env) (h : Heap) (m : Str → Option Value) (x : Str) (u : Value) : Prop :=
  (env.kindOf x = some .local ∧ m x = some u) ∨ ((env.kindOf x = some .cell ∨ env.kindOf x = some .free) ∧ ∃ c, env.cells.lookup x = some c ∧ h.IsCell c (some u))
structure Cx.Ok (X : Cx) : Prop where
  mod : Mod X.K X.mg X.base
  kind : X.env.scope.kind = .function
  glob : X.env.globals = mainGlobals
  blt : X.env.builtins = builtinsNs
  above : X.s_0.heap.objs.size ≤ X.env.locals
  inj : ∀ x y c, X.env.cells.lookup x = some c → X.env.cells.lookup y = some c → x = y
  has : ∀ x, (X.env.kindOf x = some .cell ∨ X.env.kindOf x = some .free) → ∃ c, X.env.cells.lookup x = some c
  cab : ∀ x c, X.fn x = true → X.env.cells.lookup x = some c → X.s_0.heap.objs.size ≤ c
  hd : X.calm = true → X.A.handled = none
  frames : X.A.frames = some X.stack
  stk : X.stack = X.outer ∨ (X.stack = X.env :: X.outer ∧ X.env.frame = some X.env.locals)
  exf : ∀ b ∈ X.ex, b ≠ X.env.locals ∧ ∀ x c, X.env.cells.lookup x = some c → c ≠ b
  bs : ∀ b o, X.base.get? b = some o → X.s_0.heap.get? b = some o ∧ X.H_0 b = none
  bsz : X.base.objs.size ≤ X.s_0.heap.objs.size
  noex : ∀ b o, X.base.get? b = some o → b ∉ X.ex
  exfs : ∀ b ∈ X.ex, b ∉ X.fs
  funs : X.s_0.heap.FunFrames X.base X.outer
  frf : ∀ b ∈ X.fs, X.H_0 b = none
structure Inv (X : Cx) (pins : List (Addr × Obj)) (σ : List (Option V)) (H : Hp) (s : Shared) : Prop where
  ok : X.Ok
  os : s.os = X.s_0.os
  bare : AllBare s.gens
  base : Un X.fs X.ex X.H_0 H X.s_0.heap s.heap
  loc : ∃ m, s.heap.Ns X.env.locals m ∧ ∀ (i : Nat) (x : Str) (v : V), X.N[i]? = some x → σ[i]? = some (some v) → Vis X.env.scope x → ∃ u, RelV v u ∧ Look X.env s.heap m x u
  cell : ∀ x c, X.env.cells.lookup x = some c → ∃ v, s.heap.IsCell c v
  free : H X.env.locals = none
  freeC : ∀ x c, X.env.cells.lookup x = some c → H c = none
  pin : ∀ p ∈ X.pn ++ pins, s.heap.get? p.1 = some p.2 ∧ H p.1 = none ∧ p.1 ≠ X.env.locals ∧ p.1 ∉ X.fs ∧ ∀ v, p.2.data ≠ .cell v
  hok : HOk X.prog X.w H s.heap
  len : σ.length = X.N.length
section
variable {X : Cx} {pins : List (Addr × Obj)} {σ : List (Option V)} {H H' : Hp} {s : Shared} {h' : Heap}
theorem Cx.Ok.nofr (ok : X.Ok) {b : Addr} {o : Obj} (e : X.base.get? b = some o) : b ∉ X.fs := fun hb => by
  have := (ok.funs.mem hb).1
  rw [e] at this; cases this
theorem Inv.bs (I : Inv X pins σ H s) : ∀ b o, X.base.get? b = some o → s.heap.get? b = some o ∧ H b = none := fun b o e =>
  ⟨I.base.keep b o (I.ok.bs b o e).1 (I.ok.bs b o e).2 (I.ok.nofr e) (I.ok.noex b o e), I.base.free b o (I.ok.bs b o e).1 (I.ok.bs b o e).2 (I.ok.noex b o e)⟩
theorem Inv.bk (I : Inv X pins σ H s) : ∀ b o, X.base.get? b = some o → s.heap.get? b = some o := fun b o e => (I.bs b o e).1
theorem Inv.mod (I : Inv X pins σ H s) : Mod X.K X.mg X.base := I.ok.mod
theorem Inv.kIn (I : Inv X pins σ H s) : X.K.In s.heap := I.ok.mod.kin.keeps I.bk
theorem Inv.nolimit (I : Inv X pins σ H s) : s.heap.NoLimit := I.ok.mod.nolimit.keeps I.bk
theorem Inv.lt (I : Inv X pins σ H s) : X.env.locals < s.heap.objs.size := let ⟨_, hn, _⟩ := I.loc; hn.lt
theorem Inv.sz (I : Inv X pins σ H s) : X.s_0.heap.objs.size ≤ s.heap.objs.size := Nat.le_trans I.ok.above (Nat.le_of_lt I.lt)
theorem Inv.nofs (I : Inv X pins σ H s) {a : Addr} (h : s.heap.objs.size ≤ a) : a ∉ X.fs := fun hb => by
  obtain ⟨_, o, ho, _⟩ := I.ok.funs.mem hb
  exact absurd (Nat.lt_of_lt_of_le (Heap.lt_size ho) (Nat.le_trans I.sz h)) (Nat.lt_irrefl _)
theorem Inv.cne (I : Inv X pins σ H s) : ∀ x c, X.env.cells.lookup x = some c → c ≠ X.env.locals := fun x c e z => by
  obtain ⟨v, o, ho, hd⟩ := I.cell x c e
  obtain ⟨m, ⟨o', es, ep, ho', hd', _⟩, _⟩ := I.loc
  rw [z, ho'] at ho; cases ho; rw [hd'] at hd; cases hd
theorem Inv.funs (I : Inv X pins σ H s) : s.heap.FunFrames X.base X.outer := by
  have all : ∀ (l : List Env), (∀ b ∈ frs l, b ∈ X.fs) → X.s_0.heap.FunFrames X.base l → s.heap.FunFrames X.base l := by
    intro l
    induction l with
    | nil => intro _ _; trivial
    | cons env r ih =>
      intro hs hl
      obtain ⟨hk, ⟨L, o, hf, hn, ho, hd⟩, hr⟩ := hl
      have hL : L ∈ X.fs := hs L (by unfold frs; rw [List.filterMap_cons, hf]; exact List.mem_cons_self)
      obtain ⟨sl, e⟩ := I.base.slot L o ho (I.ok.frf L hL) hL fun z => I.ok.exfs L z hL
      exact ⟨hk, ⟨L, _, hf, hn, e, hd⟩, ih (fun b hb => hs b (by unfold frs; rw [List.filterMap_cons, hf]; exact List.mem_cons_of_mem _ hb)) hr⟩
  exact all X.outer (fun _ hb => hb) I.ok.funs
theorem Inv.stack (I : Inv X pins σ H s) : s.heap.FunFrames X.base X.stack := by
  rcases I.ok.stk with e | ⟨e, hf⟩
  · rw [e]; exact I.funs
  · rw [e]
    obtain ⟨m, hn, _⟩ := I.loc
    refine .cons (by rw [I.ok.kind]; decide) hf hn ?_ I.funs
    exact Heap.get?_none_of_le (Nat.le_trans I.ok.bsz I.ok.above)
theorem Inv.stkSub (I : Inv X pins σ H s) : ∀ b ∈ frs X.stack, b ∈ X.env.locals :: X.fs := fun b hb => by
  rcases I.ok.stk with e | ⟨e, hf⟩
  · rw [e] at hb; exact List.mem_cons_of_mem _ hb
  · rw [e] at hb
    unfold frs at hb
    rw [List.filterMap_cons, hf] at hb
    exact hb
theorem Inv.stkFree (I : Inv X pins σ H s) : ∀ b ∈ frs X.stack, H b = none := fun b hb => by
  rcases List.mem_cons.mp (I.stkSub b hb) with e | hb
  · rw [e]; exact I.free
  · obtain ⟨_, o, ho, _⟩ := I.ok.funs.mem hb
    exact I.base.free b o ho (I.ok.frf b hb) fun z => I.ok.exfs b z hb
theorem Inv.step {g' : Array GenState} {t' : Nat} {d' : Drawn} {ch : List Addr} (I : Inv X pins σ H s)
    (hch : ∀ b ∈ ch, (b ∈ X.ex ∨ X.s_0.heap.objs.size ≤ b) ∧ b ≠ X.env.locals ∧ (∀ x c, X.env.cells.lookup x = some c → c ≠ b) ∧ ∀ p ∈ X.pn ++ pins, p.1 ≠ b)
    (keep : ∀ b o, b ≠ X.env.locals → b ∉ X.fs → b ∉ ch → s.heap.get? b = some o → H b = none → h'.get? b = some o)
    (slot : ∀ b o, b ≠ X.env.locals → b ∈ X.fs → b ∉ ch → s.heap.get? b = some o → H b = none → ∃ sl, h'.get? b = some { o with slots := sl }) (free : ∀ b o, b ∉ ch → s.heap.get? b = some o → H b = none → H' b = none)
    (there : ∀ b o, b ∉ ch → s.heap.get? b = some o → ∃ o', h'.get? b = some o')
    (tups : ∀ b xs, H b = some (.tup xs) → H' b = some (.tup xs)) (frzs : ∀ b o u, H b = some (.frz o u) → H' b = some (.frz o u)) (tbls : ∀ b ps, H b = some (.tbl ps) → ∃ more, H' b = some (.tbl (ps ++ more)))
    (ns : ∀ m, s.heap.Ns X.env.locals m → h'.Ns X.env.locals m) (hok : HOk X.prog X.w H' h') (hg : AllBare g') :
    Inv X pins σ H' { s with heap := h', gens := g', drawn := d', toks := t' } := by
  have neL : ∀ b o, X.s_0.heap.get? b = some o → b ≠ X.env.locals := fun b o e => Nat.ne_of_lt (Nat.lt_of_lt_of_le (Heap.lt_size e) I.ok.above)
  have neC : ∀ b o, X.s_0.heap.get? b = some o → b ∉ X.ex → b ∉ ch := fun b o e hx hb => by
    rcases (hch b hb).1 with z | z
    · exact hx z
    · exact absurd (Nat.lt_of_lt_of_le (Heap.lt_size e) z) (Nat.lt_irrefl _)
  have cellK : ∀ x c, X.env.cells.lookup x = some c → ∀ v, s.heap.IsCell c v → h'.IsCell c v := fun x c e v ⟨o, ho, hd⟩ => by
    have nch : c ∉ ch := fun z => (hch c z).2.2.1 x c e rfl
    by_cases hc : c ∈ X.fs
    · obtain ⟨sl, q⟩ := slot c o (I.cne x c e) hc nch ho (I.freeC x c e)
      exact ⟨_, q, hd⟩
    · exact ⟨o, keep c o (I.cne x c e) hc nch ho (I.freeC x c e), hd⟩
  refine ⟨I.ok, I.os, hg, ⟨fun b o e n hb hx => ?_, fun b o e n hb hx => ?_, fun b o e n hx => ?_, fun b o e hx => ?_, fun b xs e => tups b xs (I.base.tups b xs e), fun b o xs e => frzs b o xs (I.base.frzs b o xs e), fun b ps e => ?_⟩, ?_, fun x c e => ?_, ?_, fun x c e => ?_, fun p hp => ?_, hok, I.len⟩
  · exact keep b o (neL b o e) hb (neC b o e hx) (I.base.keep b o e n hb hx) (I.base.free b o e n hx)
  · obtain ⟨sl, e1⟩ := I.base.slot b o e n hb hx
    obtain ⟨sl', e2⟩ := slot b _ (neL b o e) hb (neC b o e hx) e1 (I.base.free b o e n hx)
    exact ⟨sl', e2⟩
  · obtain ⟨o', e1⟩ := I.base.there b o e hx
    exact free b o' (neC b o e hx) e1 (I.base.free b o e n hx)
  · obtain ⟨o', e1⟩ := I.base.there b o e hx
    exact there b o' (neC b o e hx) e1
  · obtain ⟨m1, e1⟩ := I.base.tbls b ps e
    obtain ⟨m2, e2⟩ := tbls b _ e1
    exact ⟨m1 ++ m2, by rw [e2, Array.append_assoc]⟩
  · obtain ⟨m, hn, hl⟩ := I.loc
    refine ⟨m, ns m hn, fun i x v e1 e2 e3 => ?_⟩
    obtain ⟨u, r, l⟩ := hl i x v e1 e2 e3
    refine ⟨u, r, ?_⟩
    rcases l with l | ⟨k, c, e, z⟩
    · exact .inl l
    · exact .inr ⟨k, c, e, cellK x c e _ z⟩
  · obtain ⟨v, z⟩ := I.cell x c e
    exact ⟨v, cellK x c e v z⟩
  · obtain ⟨m, ⟨o, _, _, ho, _⟩, _⟩ := I.loc
    exact free _ o (fun z => (hch _ z).2.1 rfl) ho I.free
  · obtain ⟨v, o, ho, hd⟩ := I.cell x c e
    exact free c o (fun z => (hch c z).2.2.1 x c e rfl) ho (I.freeC x c e)
  · obtain ⟨e, n, ne, nf, d⟩ := I.pin p hp
    have nch : p.1 ∉ ch := fun z => (hch p.1 z).2.2.2 p hp rfl
    exact ⟨keep p.1 p.2 ne nf nch e n, free p.1 p.2 nch e n, ne, nf, d⟩
theorem Inv.un {t' : Nat} (I : Inv X pins σ H s) (u : Un X.fs [] H H' s.heap h') (hok : HOk X.prog X.w H' h') : Inv X pins σ H' { s with heap := h', toks := t' } := by
  obtain ⟨m, ⟨o, es, ep, ho, r⟩, _⟩ := id I.loc
  obtain ⟨sl, hL⟩ := u.any ho I.free (by simp)
  exact I.step (g' := s.gens) (d' := s.drawn) (ch := []) (fun _ z => nomatch z) (fun b o _ hb _ e n => u.keep b o e n hb (by simp)) (fun b o _ hb _ e n => u.slot b o e n hb (by simp)) (fun b o _ e n => u.free b o e n (by simp)) (fun b o _ e => u.there b o e (by simp)) u.tups u.frzs u.tbls (fun m' hm => by
    obtain ⟨o', es', ep', ho', r'⟩ := hm
    rw [ho] at ho'; cases ho'
    exact ⟨_, es', ep', hL, r'⟩) hok I.bare
theorem Inv.call {g' : Array GenState} {t' : Nat} {d' : Drawn} {ch : List Addr} (I : Inv X pins σ H s) (u : Un (frs X.stack) ch H H' s.heap h') (hok : HOk X.prog X.w H' h') (hg : AllBare g')
    (hch : ∀ b ∈ ch, (b ∈ X.ex ∨ X.s_0.heap.objs.size ≤ b) ∧ b ≠ X.env.locals ∧ (∀ x c, X.env.cells.lookup x = some c → c ≠ b) ∧ ∀ p ∈ X.pn ++ pins, p.1 ≠ b) :
    Inv X pins σ H' { s with heap := h', gens := g', drawn := d', toks := t' } := by
  obtain ⟨m, ⟨o, es, ep, ho, r⟩, _⟩ := id I.loc
  obtain ⟨sl, hL⟩ := u.any ho I.free fun z => (hch _ z).2.1 rfl
  exact I.step (ch := ch) hch (fun b o hL hb hc e n => u.keep b o e n (fun z => (List.mem_cons.mp (I.stkSub b z)).elim hL hb) hc) (fun b o _ _ hc e n => u.any e n hc) (fun b o hc e n => u.free b o e n hc) (fun b o hc e => u.there b o e hc) u.tups u.frzs u.tbls (fun m' hm => by
    obtain ⟨o', es', ep', ho', r'⟩ := hm
    rw [ho] at ho'; cases ho'
    exact ⟨_, es', ep', hL, r'⟩) hok hg
theorem Inv.turned {t' : Nat} {it : Addr} (I : Inv X pins σ H s) (k : ∀ b o, b ≠ it → s.heap.get? b = some o → h'.get? b = some o) (hn : H it = none) (hL : it ≠ X.env.locals)
    (h1 : it ∈ X.ex ∨ X.s_0.heap.objs.size ≤ it) (h2 : ∀ x c, X.env.cells.lookup x = some c → c ≠ it) (h3 : ∀ p ∈ X.pn ++ pins, p.1 ≠ it) : Inv X pins σ H { s with heap := h', toks := t' } := by
  have nit : ∀ b u, H b = some u → b ≠ it := fun b u e z => by rw [z, hn] at e; cases e
  refine I.step (g' := s.gens) (d' := s.drawn) (ch := [it]) (fun b hb => ?_) (fun b o _ _ hc e _ => k b o (fun z => hc (by simp [z])) e) (fun b o _ _ hc e _ => ⟨o.slots, k b o (fun z => hc (by simp [z])) e⟩) (fun _ _ _ _ n => n)
    (fun b o hc e => ⟨o, k b o (fun z => hc (by simp [z])) e⟩) (fun _ _ e => e) (fun _ _ _ e => e) (fun b ps e => ⟨#[], by rw [e]; simp⟩) (fun m hm => ?_) (fun b u e => ?_) I.bare
  · have e : b = it := by simpa using hb
    subst e
    exact ⟨h1, hL, h2, h3⟩
  · obtain ⟨o, es, ep, ho, r⟩ := hm
    exact ⟨o, es, ep, k _ o (Ne.symm hL) ho, r⟩
  · refine (I.hok b u e).stay (fun c v hc q => k c v ?_ q) (fun _ q => q) fun _ _ q => q
    rcases hc with z | z
    · rw [z]; exact nit b u e
    · exact nit c _ z
theorem Inv.tok (I : Inv X pins σ H s) (t : Nat) : Inv X pins σ H { s with toks := t } := I.un (h' := s.heap) (t' := t) Un.refl I.hok
theorem Inv.kept {t' : Nat} (I : Inv X pins σ H s) (k : ∀ b u, s.heap.get? b = some u → h'.get? b = some u) : Inv X pins σ H { s with heap := h', toks := t' } := I.un (Un.kept k) (I.hok.kept k)
theorem Inv.laid {a : Addr} {o : HO} {t' : Nat} (I : Inv X pins σ H s) (k : ∀ b u, s.heap.get? b = some u → h'.get? b = some u) (hp : s.heap.objs.size ≤ a) (new : ObjOk X.prog X.w (upd H a o) h' a o) :
    Inv X pins σ (upd H a o) { s with heap := h', toks := t' } := I.un (Un.laid k hp (I.hok.fresh hp)) (I.hok.laid k hp new)
theorem Inv.write {x e : Addr} {o : HO} {t' : Nat} (I : Inv X pins σ H s) (mu : Mut (H x)) (he : e = x ∨ H e = some (.own x)) (k : ∀ b u, b ≠ e → s.heap.get? b = some u → h'.get? b = some u) (heo : ∃ u, h'.get? e = some u)
    (new : ObjOk X.prog X.w (upd H x o) h' x o) : Inv X pins σ (upd H x o) { s with heap := h', toks := t' } := I.un (Un.write mu he k heo) (I.hok.write mu he k heo new)
theorem Inv.weak {σ' : List (Option V)} (I : Inv X pins σ H s) (hl : σ'.length = σ.length) (w : ∀ (i : Nat) v, σ'[i]? = some (some v) → σ[i]? = some (some v)) : Inv X pins σ' H s :=
  ⟨I.ok, I.os, I.bare, I.base, let ⟨m, hn, hl'⟩ := I.loc; ⟨m, hn, fun i x v e1 e2 e3 => hl' i x v e1 (w i v e2) e3⟩, I.cell, I.free, I.freeC, I.pin, I.hok, hl.trans I.len⟩
theorem Inv.pins_of {pins' : List (Addr × Obj)} (I : Inv X pins σ H s) (h : ∀ p ∈ pins', s.heap.get? p.1 = some p.2 ∧ H p.1 = none ∧ p.1 ≠ X.env.locals ∧ p.1 ∉ X.fs ∧ ∀ v, p.2.data ≠ .cell v) : Inv X pins' σ H s :=
  ⟨I.ok, I.os, I.bare, I.base, I.loc, I.cell, I.free, I.freeC, fun p hp => (List.mem_append.mp hp).elim (fun z => I.pin p (List.mem_append_left _ z)) (h p), I.hok, I.len⟩
theorem nodup_ix {N : List Str} (hN : N.Nodup) {i j : Nat} {x : Str} (a : N[i]? = some x) (b : N[j]? = some x) : i = j := by
  obtain ⟨h1, e1⟩ := List.getElem?_eq_some_iff.mp a
  obtain ⟨h2, e2⟩ := List.getElem?_eq_some_iff.mp b
  exact (List.getElem_inj hN).mp (e1.trans e2.symm)
theorem store_ok2 {M : Model} {A : Around} {E : Value → Shared → Prop} {i : Nat} {x : Str} {v : V} {u : Value} {Q : Unit → Shared → Prop} (I : Inv X pins σ H s) (hN : X.N.Nodup) (hi : X.N[i]? = some x) (hx : Loc X.env.scope x) (r : RelV v u)
    (h : ∀ s', Inv X pins (σ.set i (some v)) H s' → (∃ a, Heap.SameBut a s.heap s'.heap ∧ (a = X.env.locals ∨ X.env.cells.lookup x = some a)) → Q () s') (hf : X.fn x = true ∨ X.env.scope.names.lookup x = some .local := by first | exact .inl rfl | exact .inr rfl | assumption) : wpAny M A (storeName X.env x u) Q E s := by
  obtain ⟨m, hn, hl⟩ := id I.loc
  have hcls : (X.env.scope.kind == .class || (X.env.scope.kind == .module && X.env.locals != X.env.globals)) = false := by rw [I.ok.kind]; rfl
  have hiσ : i < σ.length := by rw [I.len]; exact (List.getElem?_eq_some_iff.mp hi).1
  have cne := I.cne
  have tracked : ∀ {a : Addr} {h' : Heap}, (∃ o, s.heap.get? a = some o ∧ H a = none) → Heap.SameBut a s.heap h' → HOk X.prog X.w H h' := fun {a h'} ha hs b ob e => by
    obtain ⟨_, _, hfree⟩ := ha
    refine (I.hok b ob e).stay (fun c w' hc q => (hs.2 c ?_).trans q) (fun _ q => q) fun _ _ q => q
    rintro rfl
    rcases hc with rfl | hc
    · rw [hfree] at e; cases e
    · rw [hfree] at hc; cases hc
  rcases hx with hk | hk
  · refine wpAny_storeName_local hk hn (fun h' hn' hs => ?_) hcls
    obtain ⟨oL, _, _, hoL, _⟩ := id hn
    refine h _ ⟨I.ok, I.os, I.bare, ⟨fun b o e n hb hx => ?_, fun b o e n hb hx => ?_, I.base.free, fun b o e hx => ?_, I.base.tups, I.base.frzs, I.base.tbls⟩, ⟨_, hn', fun j y v' e1 e2 e3 => ?_⟩, fun y c e => ?_, I.free, I.freeC, fun p hp => ?_, tracked ⟨oL, hoL, I.free⟩ hs, by simpa using I.len⟩ ⟨_, hs, .inl rfl⟩
    · exact (hs.2 b (Nat.ne_of_lt (Nat.lt_of_lt_of_le (Heap.lt_size e) I.ok.above))).trans (I.base.keep b o e n hb hx)
    · obtain ⟨sl, e1⟩ := I.base.slot b o e n hb hx
      exact ⟨sl, (hs.2 b (Nat.ne_of_lt (Nat.lt_of_lt_of_le (Heap.lt_size e) I.ok.above))).trans e1⟩
    · obtain ⟨o', e1⟩ := I.base.there b o e hx
      exact ⟨o', (hs.2 b (Nat.ne_of_lt (Nat.lt_of_lt_of_le (Heap.lt_size e) I.ok.above))).trans e1⟩
    · by_cases hj : j = i
      · subst hj
        rw [hi] at e1; cases e1
        rw [List.getElem?_set_self hiσ] at e2
        cases e2
        exact ⟨u, r, .inl ⟨hk, by simp⟩⟩
      · rw [List.getElem?_set_ne (Ne.symm hj)] at e2
        obtain ⟨u', r', q⟩ := hl j y v' e1 e2 e3
        refine ⟨u', r', ?_⟩
        rcases q with ⟨k, e⟩ | ⟨k, c, e, z⟩
        · refine .inl ⟨k, ?_⟩
          have : y ≠ x := fun e => hj (nodup_ix hN e1 (e ▸ hi))
          simp [this, e]
        · exact .inr ⟨k, c, e, z.sameBut hs (cne y c e)⟩
    · obtain ⟨w', z⟩ := I.cell y c e
      exact ⟨w', z.sameBut hs (cne y c e)⟩
    · obtain ⟨e, n, ne, nf, d⟩ := I.pin p hp
      exact ⟨(hs.2 p.1 ne).trans e, n, ne, nf, d⟩
  · have hfn : X.fn x = true := by
      rcases hf with z | z
      · exact z
      · rw [z] at hk; cases hk
    obtain ⟨c, hc⟩ := I.ok.has x (.inl hk)
    obtain ⟨w', z⟩ := I.cell x c hc
    refine wpAny_storeName_cell I.ok.kind hk hc z (fun h' hc' hs => ?_)
    obtain ⟨oc, hoc, hocd⟩ := id z
    refine h { s with heap := h' } ⟨I.ok, I.os, I.bare, ⟨fun b o e n hb hx => ?_, fun b o e n hb hx => ?_, I.base.free, fun b o e hx => ?_, I.base.tups, I.base.frzs, I.base.tbls⟩, ⟨m, hn.sameBut hs (Ne.symm (cne x c hc)), fun j y v' e1 e2 e3 => ?_⟩, fun y c' e => ?_, I.free, I.freeC, fun p hp => ?_, tracked ⟨oc, hoc, I.freeC x c hc⟩ hs, by simpa using I.len⟩ ⟨c, hs, .inr hc⟩
    · exact (hs.2 b (Nat.ne_of_lt (Nat.lt_of_lt_of_le (Heap.lt_size e) (I.ok.cab x c hfn hc)))).trans (I.base.keep b o e n hb hx)
    · obtain ⟨sl, e1⟩ := I.base.slot b o e n hb hx
      exact ⟨sl, (hs.2 b (Nat.ne_of_lt (Nat.lt_of_lt_of_le (Heap.lt_size e) (I.ok.cab x c hfn hc)))).trans e1⟩
    · obtain ⟨o', e1⟩ := I.base.there b o e hx
      exact ⟨o', (hs.2 b (Nat.ne_of_lt (Nat.lt_of_lt_of_le (Heap.lt_size e) (I.ok.cab x c hfn hc)))).trans e1⟩
    · by_cases hj : j = i
      · subst hj
        rw [hi] at e1; cases e1
        rw [List.getElem?_set_self hiσ] at e2
        cases e2
        exact ⟨u, r, .inr ⟨.inl hk, c, hc, hc'⟩⟩
      · rw [List.getElem?_set_ne (Ne.symm hj)] at e2
        obtain ⟨u', r', q⟩ := hl j y v' e1 e2 e3
        refine ⟨u', r', ?_⟩
        rcases q with q | ⟨k, c', e, z'⟩
        · exact .inl q
        · refine .inr ⟨k, c', e, z'.sameBut hs ?_⟩
          rintro rfl
          exact hj (nodup_ix hN e1 (I.ok.inj _ _ _ e hc ▸ hi))
    · by_cases hcc : c' = c
      · subst hcc; exact ⟨_, hc'⟩
      · obtain ⟨w2, z2⟩ := I.cell y c' e
        exact ⟨w2, z2.sameBut hs hcc⟩
    · obtain ⟨e, n, ne, nf, d⟩ := I.pin p hp
      refine ⟨(hs.2 p.1 ?_).trans e, n, ne, nf, d⟩
      intro q
      rw [q, hoc] at e
      have q' : oc = p.2 := Option.some.inj e
      exact d w' (by rw [← q']; exact hocd)
theorem store_ok {M : Model} {A : Around} {E : Value → Shared → Prop} {i : Nat} {x : Str} {v : V} {u : Value} {Q : Unit → Shared → Prop} (I : Inv X pins σ H s) (hN : X.N.Nodup) (hi : X.N[i]? = some x) (hx : Loc X.env.scope x) (r : RelV v u)
    (h : ∀ s', Inv X pins (σ.set i (some v)) H s' → Q () s') (hf : X.fn x = true ∨ X.env.scope.names.lookup x = some .local := by first | exact .inl rfl | exact .inr rfl | assumption) : wpAny M A (storeName X.env x u) Q E s :=
  store_ok2 I hN hi hx r (fun s' I' _ => h s' I') hf
theorem Inv.call' {s' : Shared} {ch : List Addr} (I : Inv X pins σ H s) (ho : s'.os = s.os) (u : Un (frs X.stack) ch H H' s.heap s'.heap) (hok : HOk X.prog X.w H' s'.heap) (hg : AllBare s'.gens)
    (hch : ∀ b ∈ ch, (b ∈ X.ex ∨ X.s_0.heap.objs.size ≤ b) ∧ b ≠ X.env.locals ∧ (∀ x c, X.env.cells.lookup x = some c → c ≠ b) ∧ ∀ p ∈ X.pn ++ pins, p.1 ≠ b) : Inv X pins σ H' s' := by
  obtain ⟨h', g', d', t', o'⟩ := s'
  have e : o' = s.os := ho
  subst e
  exact I.call (g' := g') (t' := t') (d' := d') u hok hg hch
end
abbrev XK := Value → Option Addr → Hp → Prop
abbrev St := List (Option V)
abbrev VK := V → Hp → Prop
abbrev TE := St → Hp → VK → Prop
abbrev TT := St → Hp → (Bool → Hp → Prop) → Prop
abbrev TA := St → Hp → (List V → Hp → Prop) → Prop
structure Ends where
  nx : St → Hp → Prop
  rt : VK
  bk : St → Hp → Prop := fun _ _ => False
  ct : St → Hp → Prop := fun _ _ => False
abbrev TS := Ends → St → Hp → Prop
def EP (X : Cx) (pins : List (Addr × Obj)) (σ : St) (Q : VK) (u : Value) (s' : Shared) : Prop := ∃ v H', Inv X pins σ H' s' ∧ RelV v u ∧ Q v H'
def TP (X : Cx) (pins : List (Addr × Obj)) (σ : St) (Q : Bool → Hp → Prop) (b : Bool) (s' : Shared) : Prop := ∃ H', Inv X pins σ H' s' ∧ Q b H'
def AP (X : Cx) (pins : List (Addr × Obj)) (σ : St) (Q : List V → Hp → Prop) (us : List Value) (s' : Shared) : Prop := ∃ vs H', Inv X pins σ H' s' ∧ Vals vs us ∧ Q vs H'
def SP (X : Cx) (pins : List (Addr × Obj)) (D : Ends) (f : Flow) (s' : Shared) : Prop :=
  match f with
  | .next => ∃ σ' H', Inv X pins σ' H' s' ∧ D.nx σ' H'
  | .brk => ∃ σ' H', Inv X pins σ' H' s' ∧ D.bk σ' H'
  | .cont => ∃ σ' H', Inv X pins σ' H' s' ∧ D.ct σ' H'
  | .ret u => ∃ v σ' H', Inv X pins σ' H' s' ∧ RelV v u ∧ D.rt v H'
structure PE (X : Cx) (e : Expr) (t : TE) : Prop where
  run : ∀ (pins : List (Addr × Obj)) (s : Shared) (σ : St) (H : Hp) (Q : VK), Inv X pins σ H s → t σ H Q → wpAny (model X.prog X.w) X.A (eval e X.env) (EP X pins σ Q) X.xe s
instance {X : Cx} {e : Expr} {t : TE} : CoeFun (PE X e t) (fun _ => ∀ (pins : List (Addr × Obj)) (s : Shared) (σ : St) (H : Hp) (Q : VK), Inv X pins σ H s → t σ H Q → wpAny (model X.prog X.w) X.A (eval e X.env) (EP X pins σ Q) X.xe s) := ⟨PE.run⟩
structure PT (X : Cx) (e : Expr) (t : TT) : Prop where
  run : ∀ (pins : List (Addr × Obj)) (s : Shared) (σ : St) (H : Hp) (Q : Bool → Hp → Prop), Inv X pins σ H s → t σ H Q → wpAny (model X.prog X.w) X.A (isTrue e X.env (eval e X.env)) (TP X pins σ Q) X.xe s
instance {X : Cx} {e : Expr} {t : TT} : CoeFun (PT X e t) (fun _ => ∀ (pins : List (Addr × Obj)) (s : Shared) (σ : St) (H : Hp) (Q : Bool → Hp → Prop), Inv X pins σ H s → t σ H Q → wpAny (model X.prog X.w) X.A (isTrue e X.env (eval e X.env)) (TP X pins σ Q) X.xe s) := ⟨PT.run⟩
structure PW (X : Cx) (e : Expr) (t : TT) : Prop where
  run : ∀ (whole : Sem Value) (pins : List (Addr × Obj)) (s : Shared) (σ : St) (H : Hp) (Q : Bool → Hp → Prop), Inv X pins σ H s → t σ H Q → wpAny (model X.prog X.w) X.A (isTrue e X.env whole) (TP X pins σ Q) X.xe s
instance {X : Cx} {e : Expr} {t : TT} : CoeFun (PW X e t) (fun _ => ∀ (whole : Sem Value) (pins : List (Addr × Obj)) (s : Shared) (σ : St) (H : Hp) (Q : Bool → Hp → Prop), Inv X pins σ H s → t σ H Q → wpAny (model X.prog X.w) X.A (isTrue e X.env whole) (TP X pins σ Q) X.xe s) := ⟨PW.run⟩
theorem PW.pt {X : Cx} {e : Expr} {t : TT} (h : PW X e t) : PT X e t := ⟨h _⟩
structure PA (X : Cx) (es : List Expr) (t : TA) : Prop where
  run : ∀ (pos : Pos) (pins : List (Addr × Obj)) (s : Shared) (σ : St) (H : Hp) (Q : List V → Hp → Prop), Inv X pins σ H s → t σ H Q → wpAny (model X.prog X.w) X.A (spliced (backTo pos (starEach es X.env))) (AP X pins σ Q) X.xe s
instance {X : Cx} {es : List Expr} {t : TA} : CoeFun (PA X es t) (fun _ => ∀ (pos : Pos) (pins : List (Addr × Obj)) (s : Shared) (σ : St) (H : Hp) (Q : List V → Hp → Prop), Inv X pins σ H s → t σ H Q → wpAny (model X.prog X.w) X.A (spliced (backTo pos (starEach es X.env))) (AP X pins σ Q) X.xe s) := ⟨PA.run⟩
structure PS (X : Cx) (st : Stmt) (t : TS) : Prop where
  run : ∀ (pins : List (Addr × Obj)) (s : Shared) (σ : St) (H : Hp) (D : Ends), Inv X pins σ H s → t D σ H → wpAny (model X.prog X.w) X.A (exec st X.env) (SP X pins D) X.xe s
instance {X : Cx} {st : Stmt} {t : TS} : CoeFun (PS X st t) (fun _ => ∀ (pins : List (Addr × Obj)) (s : Shared) (σ : St) (H : Hp) (D : Ends), Inv X pins σ H s → t D σ H → wpAny (model X.prog X.w) X.A (exec st X.env) (SP X pins D) X.xe s) := ⟨PS.run⟩
structure PSs (X : Cx) (st : List Stmt) (t : TS) : Prop where
  run : ∀ (pins : List (Addr × Obj)) (s : Shared) (σ : St) (H : Hp) (D : Ends), Inv X pins σ H s → t D σ H → wpAny (model X.prog X.w) X.A (execs st X.env) (SP X pins D) X.xe s
instance {X : Cx} {st : List Stmt} {t : TS} : CoeFun (PSs X st t) (fun _ => ∀ (pins : List (Addr × Obj)) (s : Shared) (σ : St) (H : Hp) (D : Ends), Inv X pins σ H s → t D σ H → wpAny (model X.prog X.w) X.A (execs st X.env) (SP X pins D) X.xe s) := ⟨PSs.run⟩
theorem thn {α : Type} {t : Sem α} {Q Q' : α → Shared → Prop} {M : Model} {A : Around} {E : Value → Shared → Prop} {s : Shared} (h : wpAny M A t Q E s) (hQ : ∀ a s, Q a s → Q' a s) : wpAny M A t Q' E s := wpAny_mono h hQ fun _ _ x => x
end L2
namespace L2
open PySem PySem.Spec PyProof.Rows
section
variable {X : Cx}
def tVar (i : Nat) : TE := fun σ H Q => ∃ v, σ[i]? = some (some v) ∧ Q v H
def tC (v : V) : TE := fun _ H Q => Q v H
theorem pe_var {i : Nat} {x : Str} {pos : Pos} (hN : X.N[i]? = some x) (hv : Vis X.env.scope x) (hd : (x == ("__debug__" : Str)) = false := by decide) (hcd : (x == ("__classdict__" : Str)) = false := by decide) : PE X (.Name x pos) (tVar i) := by
  constructor
  intro pins s σ H Q I h
  obtain ⟨v, e, h⟩ := h
  obtain ⟨m, hn, hl⟩ := I.loc
  obtain ⟨u, r, l⟩ := hl i x v hN e hv
  have fin : EP X pins σ Q u s := ⟨v, H, I, r, h⟩
  rcases l with ⟨hk, hm⟩ | ⟨hk, c, hc, hcell⟩
  · exact wpAny_Name (wpAny_loadName_local I.ok.kind hk hn hm fin) hd
  · rcases hk with hk | hk
    · exact wpAny_Name (wpAny_loadName_cell I.ok.kind hk hc hcell fin) hd
    · exact wpAny_Name (wpAny_loadName_free I.ok.kind hk hc hcell fin hcd) hd
theorem pe_int {i j pos} : PE X (.Constant (.int i) j pos) (tC (.int i)) := ⟨fun _ _ _ H _ I h => wpAny_Constant_int ⟨.int i, H, I.tok _, ⟨_, rfl⟩, h⟩⟩
theorem pe_bl {b j pos} : PE X (.Constant (.bool b) j pos) (tC (.bl b)) := ⟨fun _ _ _ H _ I h => Constant_bool ⟨.bl b, H, I, rfl, h⟩⟩
theorem pe_non {j pos} : PE X (.Constant .none j pos) (tC .non) := ⟨fun _ _ _ H _ I h => Constant_none ⟨.non, H, I, rfl, h⟩⟩
theorem pe_str {x j pos} : PE X (.Constant (.str x) j pos) (tC (.str x)) := ⟨fun _ _ _ H _ I h => Calls.Constant_str ⟨.str x, H, I.tok _, ⟨_, rfl⟩, h⟩⟩
def Gl (X : Cx) (x : Str) : Prop := X.env.kindOf x = some .globalImplicit
theorem ld_glob {E : Value → Shared → Prop} {pins : List (Addr × Obj)} {s : Shared} {σ : St} {H : Hp} {x : Str} {u : Value} {pos : Pos} {Q : Value → Shared → Prop} (I : Inv X pins σ H s) (hg : Gl X x) (hm : X.mg x = some u) (h : Q u s)
    (hd : (x == ("__debug__" : Str)) = false := by decide) : wpAny (model X.prog X.w) X.A (eval (.Name x pos) X.env) Q E s :=
  Calls.Name_function_global I.ok.kind hg (Calls.loadGlobal_global (by rw [I.ok.glob]; exact I.mod.glob.keeps I.bk) hm h) hd
theorem ld_blt {E : Value → Shared → Prop} {pins : List (Addr × Obj)} {s : Shared} {σ : St} {H : Hp} {x : Str} {u : Value} {pos : Pos} {Q : Value → Shared → Prop} (I : Inv X pins σ H s) (hg : Gl X x) (hm : X.mg x = none) (hv : bootBuiltins x = some u) (h : Q u s)
    (hn : x ≠ "__name__" := by decide) (hd : (x == ("__debug__" : Str)) = false := by decide) : wpAny (model X.prog X.w) X.A (eval (.Name x pos) X.env) Q E s := by
  obtain ⟨mb, h1, h2⟩ := I.mod.blt
  exact Calls.Name_function_global I.ok.kind hg (Calls.loadGlobal_builtin (by rw [I.ok.glob]; exact I.mod.glob.keeps I.bk) hm (by rw [I.ok.blt]; exact h1.keeps I.bk) ((h2 x hn).trans hv) h) hd
theorem pe_glob {x : Str} {v : V} {u : Value} {pos : Pos} (hg : Gl X x) (hm : X.mg x = some u) (r : RelV v u) (hd : (x == ("__debug__" : Str)) = false := by decide) : PE X (.Name x pos) (tC v) := ⟨fun _ _ _ H _ I h => ld_glob I hg hm ⟨v, H, I, r, h⟩ hd⟩
theorem pe_bltn {x : Str} {v : V} {u : Value} {pos : Pos} (hg : Gl X x) (hm : X.mg x = none) (hv : bootBuiltins x = some u) (r : RelV v u) (hn : x ≠ "__name__" := by decide) (hd : (x == ("__debug__" : Str)) = false := by decide) : PE X (.Name x pos) (tC v) := ⟨fun _ _ _ H _ I h => ld_blt I hg hm hv ⟨v, H, I, r, h⟩ hn hd⟩
variable {a b : Expr} {ta tb : TE} {pos : Pos}
structure PC (X : Cx) (op : CmpOp) (a b : Expr) (t : TE) : Prop where
  run : ∀ (pins : List (Addr × Obj)) (s : Shared) (σ : St) (H : Hp) (Q : VK), Inv X pins σ H s → t σ H Q →
    wpAny (model X.prog X.w) X.A (eval a X.env) (fun v s₁ => wpAny (model X.prog X.w) X.A (eval b X.env) (fun u s₂ => wpAny (model X.prog X.w) X.A (compareOp op v u) (EP X pins σ Q) X.xe s₂) X.xe s₁) X.xe s
instance {X : Cx} {op : CmpOp} {a b : Expr} {t : TE} : CoeFun (PC X op a b t) (fun _ => ∀ (pins : List (Addr × Obj)) (s : Shared) (σ : St) (H : Hp) (Q : VK), Inv X pins σ H s → t σ H Q →
    wpAny (model X.prog X.w) X.A (eval a X.env) (fun v s₁ => wpAny (model X.prog X.w) X.A (eval b X.env) (fun u s₂ => wpAny (model X.prog X.w) X.A (compareOp op v u) (EP X pins σ Q) X.xe s₂) X.xe s₁) X.xe s) := ⟨PC.run⟩
theorem nobehind (b : Expr) {op : CmpOp} (h : op ≠ .In) (h2 : op ≠ .NotIn) : behindInMarks op b = false := by
  have e1 : (op == CmpOp.In) = false := by cases op <;> first | rfl | exact absurd rfl h
  have e2 : (op == CmpOp.NotIn) = false := by cases op <;> first | rfl | exact absurd rfl h2
  cases b <;> simp [behindInMarks, e1, e2]
def tNotN (ta : TE) : TE := fun σ H Q => ta σ H fun x H1 => Q (.bl (!decide (x = .non))) H1
theorem RelV.none_iff {x : V} {v : Value} (r : RelV x v) : (v == Value.none) = decide (x = .non) := by
  cases x with
  | non => cases r; rfl
  | bl _ => cases r; rfl
  | int _ => obtain ⟨t, rfl⟩ := r; rfl
  | str _ => obtain ⟨t, rfl⟩ := r; rfl
  | byt _ => obtain ⟨t, rfl⟩ := r; rfl
  | flt _ => obtain ⟨t, rfl⟩ := r; rfl
  | ref _ => cases r; rfl
  | ty _ => cases r; rfl
theorem pc_notN {j pos'} (ha : PE X a ta) : PC X .IsNot a (.Constant .none j pos') (tNotN ta) := by
  constructor
  intro pins s σ H Q I h
  refine thn (ha pins s σ H _ I h) fun v s1 ⟨x, H1, I1, r1, q1⟩ => ?_
  exact Constant_none (isnot_none_gen ⟨.bl _, H1, I1, by rw [r1.none_iff]; rfl, q1⟩)
def tB (t : TE) : TT := fun σ H Q => t σ H fun x H1 => ∃ c, x = .bl c ∧ Q c H1
theorem pt_cmp {op : CmpOp} {t : TE} (h : PC X op a b t) (h1 : behindInMarks op b = false := by first | exact nobehind _ (by decide) (by decide) | rfl) : PT X (.Compare a [op] [b] pos) (tB t) := by
  constructor
  intro pins s σ H Q I hw
  refine wpAny_isTrue_Compare1 (thn (h pins s σ H _ I hw) fun v s1 h1 => thn h1 fun u s2 h2 => thn h2 fun c s3 ⟨x, H1, I1, r1, q1⟩ => ?_) h1
  obtain ⟨d, rfl, q⟩ := q1
  cases r1
  exact wpAny_truthy_bool ⟨H1, I1, q⟩
theorem pt_val {e : Expr} {t : TE} (h : PE X e t) (he : ∀ whole, isTrue e X.env whole = (do let v ← whole; standAt e.pos; holding [v] (truthy v)) := by intro _; rfl) : PT X e (tB t) := by
  constructor
  intro pins s σ H Q I hw
  refine isTrue_plain (thn (h pins s σ H _ I hw) fun v s1 ⟨x, H1, I1, r1, q1⟩ => ?_) (he _)
  obtain ⟨d, rfl, q⟩ := q1
  cases r1
  exact wpAny_truthy_bool ⟨H1, I1, q⟩
variable {tA tB' : TT} {rest : List Expr}
def tAnd (t u : TT) : TT := fun σ H Q => t σ H fun c H1 => if c = true then u σ H1 Q else Q false H1
def tOr (t u : TT) : TT := fun σ H Q => t σ H fun c H1 => if c = true then Q true H1 else u σ H1 Q
def tNot (t : TT) : TT := fun σ H Q => t σ H fun c H1 => Q (!c) H1
theorem pw_and1 (ha : PT X a tA) : PW X (.BoolOp .And [a] pos) tA := by
  constructor
  intro wh pins s σ H Q I h
  refine isTrue_and (thn (ha pins s σ H Q I h) fun c s1 e => ?_)
  cases c with
  | true => exact isTrue_and_nil e
  | false => exact e
theorem pw_or1 (ha : PT X a tA) : PW X (.BoolOp .Or [a] pos) tA := by
  constructor
  intro wh pins s σ H Q I h
  refine isTrue_or (thn (ha pins s σ H Q I h) fun c s1 e => ?_)
  cases c with
  | false => exact isTrue_or_nil e
  | true => exact e
theorem pw_and (ha : PT X a tA) (hb : PW X (.BoolOp .And (b :: rest) pos) tB') : PW X (.BoolOp .And (a :: b :: rest) pos) (tAnd tA tB') := by
  constructor
  intro wh pins s σ H Q I h
  refine isTrue_and (thn (ha pins s σ H _ I h) fun c s1 ⟨H1, I1, q1⟩ => ?_)
  cases c with
  | true => exact hb wh pins s1 σ H1 Q I1 q1
  | false => exact ⟨H1, I1, q1⟩
theorem pw_or (ha : PT X a tA) (hb : PW X (.BoolOp .Or (b :: rest) pos) tB') : PW X (.BoolOp .Or (a :: b :: rest) pos) (tOr tA tB') := by
  constructor
  intro wh pins s σ H Q I h
  refine isTrue_or (thn (ha pins s σ H _ I h) fun c s1 ⟨H1, I1, q1⟩ => ?_)
  cases c with
  | true => exact ⟨H1, I1, q1⟩
  | false => exact hb wh pins s1 σ H1 Q I1 q1
theorem pt_not (ha : PT X a tA) : PT X (.UnaryOp .Not a pos) (tNot tA) := by
  constructor
  intro pins s σ H Q I h
  exact isTrue_not (ha pins s σ H (fun c H1 => Q (!c) H1) I h)
def tAndV (ta tb : TE) : TE := fun σ H Q => ta σ H fun x H1 => ∃ c, x = .bl c ∧ if c = true then tb σ H1 Q else Q (.bl false) H1
def tNotV (ta : TE) : TE := fun σ H Q => ta σ H fun x H1 => ∃ c, x = .bl c ∧ Q (.bl (!c)) H1
theorem pe_one {op} {t : TE} (h : PE X a t) : PE X (.BoolOp op [a] pos) t := ⟨fun pins s σ H Q I hw => BoolOp_one (h pins s σ H Q I hw)⟩
theorem pe_and (ha : PE X a ta) (hb : PE X (.BoolOp .And (b :: rest) pos) tb) : PE X (.BoolOp .And (a :: b :: rest) pos) (tAndV ta tb) := by
  constructor
  intro pins s σ H Q I h
  refine BoolOp_and (thn (ha pins s σ H _ I h) fun v s1 ⟨x, H1, I1, r1, q1⟩ => ?_)
  obtain ⟨c, rfl, q1⟩ := q1
  cases r1
  refine wpAny_truthy_bool ?_
  cases c with
  | true => exact hb pins s1 σ H1 Q I1 q1
  | false => exact ⟨.bl false, H1, I1, rfl, q1⟩
theorem pe_not (ha : PE X a ta) : PE X (.UnaryOp .Not a pos) (tNotV ta) := by
  constructor
  intro pins s σ H Q I h
  refine UnaryOp_ (thn (ha pins s σ H _ I h) fun v s1 ⟨x, H1, I1, r1, q1⟩ => ?_)
  obtain ⟨c, rfl, q1⟩ := q1
  cases r1
  exact not_of (wpAny_truthy_bool ⟨.bl (!c), H1, I1, rfl, q1⟩)
end
end L2
namespace L2
open PySem PySem.Spec PyProof.Rows
def SqL (K : PySem.W.Frag) (H : Hp) (a : Addr) (xs : List V) : Prop :=
  Rd H a (.lst xs) ∨
    ∃ (o : Obj) (its : Array Value) (n : Nat), K.lookup a = some o ∧ o.cls = .type "list" ∧ o.dict = none ∧ o.data = .seq its n ∧ its.size ≤ sizeLine ∧ Vals xs its.toList
def SqT (K : PySem.W.Frag) (H : Hp) (a : Addr) (xs : List V) : Prop :=
  Rd H a (.tup xs) ∨
    ∃ (o : Obj) (its : Array Value) (n : Nat), K.lookup a = some o ∧ o.cls = .type "tuple" ∧ o.data = .seq its n ∧ its.size ≤ sizeLine ∧ Vals xs its.toList
def absV : Value → Option V
  | .none => some .non
  | .bool b => some (.bl b)
  | .int i _ => some (.int i)
  | .str x _ => some (.str x)
  | .bytes b _ => some (.byt b)
  | .float b _ => some (.flt b)
  | .ref a => some (.ref a)
  | .type n => some (.ty n)
  | _ => none
theorem RelV.abs {x : V} {u : Value} (r : RelV x u) : absV u = some x := by
  cases x with
  | non => cases r; rfl
  | bl _ => cases r; rfl
  | int _ => obtain ⟨t, rfl⟩ := r; rfl
  | str _ => obtain ⟨t, rfl⟩ := r; rfl
  | byt _ => obtain ⟨t, rfl⟩ := r; rfl
  | flt _ => obtain ⟨t, rfl⟩ := r; rfl
  | ref _ => cases r; rfl
  | ty _ => cases r; rfl
theorem RelV.inj {x y : V} {u : Value} (r : RelV x u) (q : RelV y u) : x = y := Option.some.inj (r.abs.symm.trans q.abs)
theorem Vals.inj : ∀ {xs ys : List V} {us : List Value}, Vals xs us → Vals ys us → xs = ys
  | _, _, _, .nil, .nil => rfl
  | _, _, _, .cons r t, .cons r' t' => by rw [r.inj r', Vals.inj t t']
section
variable {X : Cx} {pins : List (Addr × Obj)} {σ : St} {H : Hp} {s : Shared} {a : Addr} {xs ys : List V}
theorem SqL.of {K : PySem.W.Frag} (h : H a = some (.lst xs)) : SqL K H a xs := .inl (.inl h)
theorem SqT.of {K : PySem.W.Frag} (h : H a = some (.tup xs)) : SqT K H a xs := .inl (.inl h)
theorem Inv.list (I : Inv X pins σ H s) (h : SqL X.K H a xs) : ∃ its : List Value, Vals xs its ∧ PlainL s.heap a its.toArray ∧ xs.length ≤ sizeLine := by
  rcases h with h | ⟨o, its, n, hk, hc, hd, hs, hz, r⟩
  · obtain ⟨z, its, n, r, e⟩ := h.ok I.hok
    exact ⟨its, r, ⟨_, n, e, rfl, rfl, rfl⟩, z⟩
  · refine ⟨its.toList, r, ⟨o, n, I.kIn a o hk, hc, hd, by simpa using hs⟩, ?_⟩
    have e := r.length
    simp only [Array.length_toList] at e
    omega
theorem Inv.tuple (I : Inv X pins σ H s) (h : SqT X.K H a xs) : ∃ its : List Value, Vals xs its ∧ IsTup s.heap a its.toArray ∧ xs.length ≤ sizeLine := by
  rcases h with h | ⟨o, its, n, hk, hc, hs, hz, r⟩
  · obtain ⟨z, its, r, p⟩ := h.ok I.hok
    exact ⟨its, r, p, z⟩
  · refine ⟨its.toList, r, ⟨o, I.kIn a o hk, hc, n, by simpa using hs⟩, ?_⟩
    have e := r.length
    simp only [Array.length_toList] at e
    omega
theorem Inv.list_inj (I : Inv X pins σ H s) (h : SqL X.K H a xs) (h' : SqL X.K H a ys) : xs = ys := by
  obtain ⟨its, r, ⟨o, n, e, _, _, d⟩, _⟩ := I.list h
  obtain ⟨its', r', ⟨o', n', e', _, _, d'⟩, _⟩ := I.list h'
  rw [e] at e'; cases e'
  rw [d] at d'
  injection d' with d1 _
  have : its = its' := by simpa using congrArg Array.toList d1
  subst this
  exact r.inj r'
theorem Inv.tuple_inj (I : Inv X pins σ H s) (h : SqT X.K H a xs) (h' : SqT X.K H a ys) : xs = ys := by
  obtain ⟨its, r, ⟨o, e, _, n, d⟩, _⟩ := I.tuple h
  obtain ⟨its', r', ⟨o', e', _, n', d'⟩, _⟩ := I.tuple h'
  rw [e] at e'; cases e'
  rw [d] at d'
  injection d' with d1 _
  have : its = its' := by simpa using congrArg Array.toList d1
  subst this
  exact r.inj r'
end
abbrev Cx.wish (X : Cx) (E : Value → Shared → Prop) : Cx := { X with xe := E }
abbrev Cx.nox (X : Cx) : Cx := X.wish fun _ _ => False
theorem Cx.Ok.wish {X : Cx} (ok : X.Ok) (E : Value → Shared → Prop) : (X.wish E).Ok :=
  ⟨ok.mod, ok.kind, ok.glob, ok.blt, ok.above, ok.inj, ok.has, ok.cab, ok.hd, ok.frames, ok.stk, ok.exf, ok.bs, ok.bsz, ok.noex, ok.exfs, ok.funs, ok.frf⟩
theorem Cx.Ok.unwish {X : Cx} {E : Value → Shared → Prop} (ok : (X.wish E).Ok) : X.Ok :=
  ⟨ok.mod, ok.kind, ok.glob, ok.blt, ok.above, ok.inj, ok.has, ok.cab, ok.hd, ok.frames, ok.stk, ok.exf, ok.bs, ok.bsz, ok.noex, ok.exfs, ok.funs, ok.frf⟩
section
variable {X : Cx} {pins : List (Addr × Obj)} {σ : St} {H : Hp} {s : Shared} {E : Value → Shared → Prop}
theorem Inv.wish (I : Inv X pins σ H s) (E : Value → Shared → Prop) : Inv (X.wish E) pins σ H s := ⟨I.ok.wish E, I.os, I.bare, I.base, I.loc, I.cell, I.free, I.freeC, I.pin, I.hok, I.len⟩
theorem Inv.unwish (I : Inv (X.wish E) pins σ H s) : Inv X pins σ H s := ⟨I.ok.unwish, I.os, I.bare, I.base, I.loc, I.cell, I.free, I.freeC, I.pin, I.hok, I.len⟩
theorem SP.unwish {D : Ends} {f : Flow} {s' : Shared} (h : SP (X.wish E) pins D f s') : SP X pins D f s' := by
  cases f with
  | next => obtain ⟨σ', H', I, q⟩ := h; exact ⟨σ', H', I.unwish, q⟩
  | brk => obtain ⟨σ', H', I, q⟩ := h; exact ⟨σ', H', I.unwish, q⟩
  | cont => obtain ⟨σ', H', I, q⟩ := h; exact ⟨σ', H', I.unwish, q⟩
  | ret u => obtain ⟨v, σ', H', I, r, q⟩ := h; exact ⟨v, σ', H', I.unwish, r, q⟩
theorem PE.nox {e : Expr} {t : TE} (h : PE X.nox e t) : PE X e t := ⟨fun pins s σ H Q I hw =>
  wpAny_mono (h pins s σ H Q (I.wish _) hw) (fun _ _ ⟨v, H', I', r, q⟩ => ⟨v, H', I'.unwish, r, q⟩) fun _ _ z => False.elim z⟩
theorem PT.nox {e : Expr} {t : TT} (h : PT X.nox e t) : PT X e t := ⟨fun pins s σ H Q I hw =>
  wpAny_mono (h pins s σ H Q (I.wish _) hw) (fun _ _ ⟨H', I', q⟩ => ⟨H', I'.unwish, q⟩) fun _ _ z => False.elim z⟩
theorem PSs.nox {st : List Stmt} {t : TS} (h : PSs X.nox st t) : PSs X st t := ⟨fun pins s σ H D I hw =>
  wpAny_mono (h pins s σ H D (I.wish _) hw) (fun _ _ q => q.unwish) fun _ _ z => False.elim z⟩
end
section
variable {X : Cx} {st : Stmt} {rest : List Stmt} {t u : TS} {e : Expr} {te : TE} {pos : Pos}
def tNext : TS := fun D σ H => D.nx σ H
def tSeq (t u : TS) : TS := fun D σ H => t { D with nx := u D } σ H
theorem pss_nil : PSs X [] tNext := ⟨fun _ _ σ H _ I h => wpAny_execs_nil ⟨σ, H, I, h⟩⟩
theorem pss_cons (h1 : PS X st t) (h2 : PSs X rest u) : PSs X (st :: rest) (tSeq t u) := by
  constructor
  intro pins s σ H D I h
  refine wpAny_execs_cons (thn (h1 pins s σ H { D with nx := u D } I h) fun f s1 q => ?_)
  cases f with
  | next =>
    obtain ⟨σ', H', I', q⟩ := q
    exact h2 pins s1 σ' H' D I' q
  | ret v => exact q
  | brk => exact q
  | cont => exact q
theorem pss_one (h1 : PS X st t) : PSs X [st] t := by
  constructor
  intro pins s σ H D I h
  refine wpAny_execs_cons (thn (h1 pins s σ H D I h) fun f s1 q => ?_)
  cases f with
  | next => exact wpAny_execs_nil q
  | ret v => exact q
  | brk => exact q
  | cont => exact q
theorem Inv.quiet {pins : List (Addr × Obj)} {σ : St} {H : Hp} {s : Shared} (I : Inv X pins σ H s) : interactive X.env = false := by simp [interactive, I.ok.kind]
def tDrop (te : TE) : TS := fun D σ H => te σ H fun _ H1 => D.nx σ H1
theorem ps_expr (he : PE X e te) (hs : swapsWith e none pos.line X.env = pure false := by rfl) : PS X (.Expr e pos) (tDrop te) := by
  constructor
  intro pins s σ H D I h
  exact wpAny_Expr_any (thn (he pins s σ H _ I h) fun v s1 ⟨x, H1, I1, r1, q1⟩ => ⟨σ, H1, I1, q1⟩) I.quiet hs
def tRet (te : TE) : TS := fun D σ H => te σ H D.rt
theorem ps_ret (he : PE X e te) : PS X (.Return (some e) pos) (tRet te) := by
  constructor
  intro pins s σ H D I h
  exact wpAny_Return_some (thn (he pins s σ H _ I h) fun v s1 ⟨x, H1, I1, r1, q1⟩ => ⟨x, σ, H1, I1, r1, q1⟩)
def tIfS (c : TT) (t u : TS) : TS := fun D σ H => c σ H fun b H1 => if b = true then t D σ H1 else u D σ H1
theorem ps_if {c : Expr} {a b : List Stmt} {tc : TT} (hc : PT X c tc) (ha : PSs X a t) (hb : PSs X b u) : PS X (.If c a b pos) (tIfS tc t u) := by
  constructor
  intro pins s σ H D I h
  refine wpAny_If (thn (hc pins s σ H _ I h) fun d s1 ⟨H1, I1, q1⟩ => ?_)
  cases d with
  | true => exact ha pins s1 σ H1 D I1 q1
  | false => exact hb pins s1 σ H1 D I1 q1
def tNever : TS := fun _ _ _ => False
theorem ps_never : PS X st tNever := ⟨fun _ _ _ _ _ _ h => h.elim⟩
end
abbrev TG := V → St → Hp → (St → Hp → Prop) → Prop
abbrev TGs := List V → St → Hp → (St → Hp → Prop) → Prop
structure PG (X : Cx) (target : Expr) (t : TG) : Prop where
  run : ∀ (pins : List (Addr × Obj)) (s : Shared) (σ : St) (H : Hp) (v : V) (u : Value) (Q : St → Hp → Prop), Inv X pins σ H s → RelV v u → t v σ H Q →
    wpAny (model X.prog X.w) X.A (assign target X.env u) (fun _ s' => ∃ σ' H', Inv X pins σ' H' s' ∧ Q σ' H') X.xe s
instance {X : Cx} {target : Expr} {t : TG} : CoeFun (PG X target t) (fun _ => ∀ (pins : List (Addr × Obj)) (s : Shared) (σ : St) (H : Hp) (v : V) (u : Value) (Q : St → Hp → Prop), Inv X pins σ H s → RelV v u → t v σ H Q →
    wpAny (model X.prog X.w) X.A (assign target X.env u) (fun _ s' => ∃ σ' H', Inv X pins σ' H' s' ∧ Q σ' H') X.xe s) := ⟨PG.run⟩
structure PGs (X : Cx) (ts : List Expr) (t : TGs) : Prop where
  run : ∀ (pins : List (Addr × Obj)) (s : Shared) (σ : St) (H : Hp) (vs : List V) (us : List Value) (Q : St → Hp → Prop), Inv X pins σ H s → Vals vs us → t vs σ H Q →
    wpAny (model X.prog X.w) X.A (assignInOrder ((assignEach ts X.env).map (·.2)) us) (fun _ s' => ∃ σ' H', Inv X pins σ' H' s' ∧ Q σ' H') X.xe s
instance {X : Cx} {ts : List Expr} {t : TGs} : CoeFun (PGs X ts t) (fun _ => ∀ (pins : List (Addr × Obj)) (s : Shared) (σ : St) (H : Hp) (vs : List V) (us : List Value) (Q : St → Hp → Prop), Inv X pins σ H s → Vals vs us → t vs σ H Q →
    wpAny (model X.prog X.w) X.A (assignInOrder ((assignEach ts X.env).map (·.2)) us) (fun _ s' => ∃ σ' H', Inv X pins σ' H' s' ∧ Q σ' H') X.xe s) := ⟨PGs.run⟩
section
variable {X : Cx} {pos : Pos}
def gName (i : Nat) : TG := fun v σ H Q => Q (σ.set i (some v)) H
theorem pg_name {i : Nat} {x : Str} (hN : X.N.Nodup) (hi : X.N[i]? = some x) (hx : Loc X.env.scope x) (hf : X.fn x = true ∨ X.env.scope.names.lookup x = some .local := by first | exact .inl rfl | exact .inr rfl | assumption) : PG X (.Name x pos) (gName i) := by
  constructor
  intro pins s σ H v u Q I r h
  exact wpAny_assign_Name (store_ok I hN hi hx r (fun s' I' => ⟨_, H, I', h⟩) hf)
def gNil : TGs := fun vs σ H Q => vs = [] ∧ Q σ H
def gCons (t : TG) (u : TGs) : TGs := fun vs σ H Q => ∃ v r, vs = v :: r ∧ t v σ H fun σ' H' => u r σ' H' Q
theorem pgs_nil : PGs X [] gNil := by
  constructor
  intro pins s σ H vs us Q I r h
  obtain ⟨e, h⟩ := h
  subst e
  cases r
  exact assignInOrder_nil ⟨σ, H, I, h⟩
theorem pgs_cons {e : Expr} {es : List Expr} {t : TG} {u : TGs} (h1 : PG X e t) (h2 : PGs X es u)
    (hs : (assignEach (e :: es) X.env).map (·.2) = assign e X.env :: (assignEach es X.env).map (·.2) := by rfl) : PGs X (e :: es) (gCons t u) := by
  constructor
  intro pins s σ H vs us Q I r h
  obtain ⟨v, vr, e1, h⟩ := h
  subst e1
  cases r with
  | cons r rr =>
    rw [hs]
    refine assignInOrder_cons (thn (h1 pins s σ H _ _ _ I r h) fun _ s1 ⟨σ1, H1, I1, q1⟩ => ?_)
    exact h2 pins s1 σ1 H1 _ _ Q I1 rr q1
def gTup (K : PySem.W.Frag) (n : Nat) (t : TGs) : TG := fun v σ H Q => ∃ a xs, v = .ref a ∧ SqT K H a xs ∧ xs.length = n ∧ t xs σ H Q
theorem pg_tup {es : List Expr} {k : Nat} {t : TGs} {n : Nat} (hc : X.calm = true) (h : PGs X es t)
    (hn : (assignEach es X.env).length = n := by rfl) (hst : (assignEach es X.env).findIdx? (·.1) = none := by rfl) : PG X (.Tuple es k pos) (gTup X.K n t) := by
  constructor
  intro pins s σ H v u Q I r hw
  obtain ⟨a, xs, e1, hq, hl, hw⟩ := hw
  subst e1
  cases r
  obtain ⟨its, rv, ht, hz⟩ := I.tuple hq
  refine assign_Tuple_tuple (I.ok.hd hc) ht (by simp [hn, ← hl, rv.length]) hst fun h' hx => ?_
  have I1 : Inv X pins σ H { s with heap := h' } := I.kept (t' := s.toks) fun b o e => hx b o (Nat.ne_of_lt (Heap.lt_size e)) e
  exact h pins _ σ H xs _ Q I1 (by simpa using rv) hw
def tAsg (te : TE) (g : TG) : TS := fun D σ H => te σ H fun x H1 => g x σ H1 D.nx
theorem ps_asg {tg e : Expr} {te : TE} {g : TG} (he : PE X e te) (hg : PG X tg g) (hs : swapsWithSole [tg] e pos.line X.env = pure false := by rfl) (hw : swappedStores [tg] e X.env = pure none := by rfl)
    (h1 : (assignEach [tg] X.env).map (·.2) = [assign tg X.env] := by rfl) : PS X (.Assign [tg] e pos) (tAsg te g) := by
  constructor
  intro pins s σ H D I h
  refine wpAny_Assign_stores (thn (he pins s σ H _ I h) fun v s1 ⟨x, H1, I1, r1, q1⟩ => ?_) hs hw
  rw [h1]
  exact thn (hg pins s1 σ H1 x v _ I1 r1 q1) fun _ s2 q => q
theorem ps_set {i : Nat} {x : Str} {e : Expr} {te : TE} {pos' : Pos} (hN : X.N.Nodup) (hi : X.N[i]? = some x) (hx : Loc X.env.scope x) (he : PE X e te) (hs : swapsWith e (some (.Name x pos')) pos.line X.env = pure false := by rfl) (hf : X.fn x = true ∨ X.env.scope.names.lookup x = some .local := by first | exact .inl rfl | exact .inr rfl | assumption) :
    PS X (.Assign [.Name x pos'] e pos) (tAsg te (gName i)) := by
  constructor
  intro pins s σ H D I h
  refine wpAny_Assign_Name (thn (he pins s σ H _ I h) fun v s1 ⟨y, H1, I1, r1, q1⟩ => ?_) hs
  exact store_ok I1 hN hi hx r1 (fun s2 I2 => ⟨_, H1, I2, q1⟩) hf
def tPar (i j : Nat) (ta : TA) : TS := fun D σ H => ta σ H fun vs H1 => ∃ v w, vs = [v, w] ∧ D.nx ((σ.set i (some v)).set j (some w)) H1
theorem ps_par {i j : Nat} {x y : Str} {a b : Expr} {ta : TA} {px py pt : Pos} {kt k2 pt2} (hc : X.calm = true) (hN : X.N.Nodup) (hi : X.N[i]? = some x) (hj : X.N[j]? = some y) (hij : i ≠ j)
    (hx : X.env.scope.names.lookup x = some .local) (hy : X.env.scope.names.lookup y = some .local) (ha : PA X [a, b] ta)
    (hw : swappedStores [.Tuple [.Name x px, .Name y py] kt pt] (.Tuple [a, b] k2 pt2) X.env = pure (some [x, y]))
    (hs : swapsWithSole [.Tuple [.Name x px, .Name y py] kt pt] (.Tuple [a, b] k2 pt2) pos.line X.env = pure false := by rfl) :
    PS X (.Assign [.Tuple [.Name x px, .Name y py] kt pt] (.Tuple [a, b] k2 pt2) pos) (tPar i j ta) := by
  constructor
  intro pins s σ H D I h
  rw [exec_Assign_arm]
  refine wpAny_bind (wpAny_standAt ?_)
  rw [hs]
  refine wpAny_bind (wpAny_pure ?_)
  rw [if_neg (by decide)]
  refine wpAny_bind (Tuple_ (thn (ha _ pins s σ H _ I h) fun us s1 ⟨vs, H1, I1, r1, q1⟩ => ?_))
  obtain ⟨v, w, e1, q1⟩ := q1
  subst e1
  obtain ⟨u1, u2, rfl, rv, rw'⟩ : ∃ u1 u2, us = [u1, u2] ∧ RelV v u1 ∧ RelV w u2 := by
    cases r1 with
    | cons p q =>
      cases q with
      | cons p' q' =>
        cases q'
        exact ⟨_, _, rfl, p, p'⟩
  refine wpAny_newObj_type ?_ (by show 2 ≤ sizeLine; decide)
  have I2 : Inv X pins σ H1 { s1 with heap := s1.heap.push { cls := .type "tuple", data := .seq [u1, u2].toArray } } := I1.kept (t' := s1.toks) fun b o e => Heap.get?_push_of_some _ e
  rw [hw]
  refine wpAny_bind (wpAny_pure ?_)
  show wpAny (model X.prog X.w) X.A (do rule "assign.swapped-stores"; let items ← unpackItems (.ref s1.heap.objs.size) 2 none; assignInOrder [fun v => bindName X.env y v, fun v => bindName X.env x v] items.reverse; pure Flow.next) _ _ _
  refine wpAny_bind (wpAny_rule (wpAny_bind (unpackItems_tuple (items := #[u1, u2]) (I.ok.hd hc) (IsTup.new s1.heap _) fun h' hx' => ?_)))
  have I3 := I2.kept (h' := h') (t' := s1.toks) fun b o e => hx' b o (Nat.ne_of_lt (Heap.lt_size e)) e
  show wpAny _ _ (assignInOrder [fun v => bindName X.env y v, fun v => bindName X.env x v] [u2, u1] >>= fun _ => pure Flow.next) _ _ _
  refine wpAny_bind (assignInOrder_cons (wpAny_bindName (store_ok I3 hN hj (.inl hy) rw' (fun s2 I4 => ?_) (.inr hy))))
  refine assignInOrder_cons (wpAny_bindName (store_ok I4 hN hi (.inl hx) rv (fun s3 I5 => assignInOrder_nil (wpAny_pure ?_)) (.inr hx)))
  rw [List.set_comm _ _ (Ne.symm hij)] at I5
  exact ⟨_, H1, I5, q1⟩
end
section
variable {X : Cx} {pos : Pos}
end
structure It where
  go : Nat → Hp → Prop
  yld : Nat → Hp → V → Hp → Prop
  stop : Nat → Hp → Prop
def FpOk (X : Cx) (pins : List (Addr × Obj)) (H : Hp) (b : Addr) : Prop :=
  H b = none ∧ b ≠ X.env.locals ∧ b ∉ X.fs ∧ (b ∈ X.ex ∨ X.s_0.heap.objs.size ≤ b) ∧ (∀ x c, X.env.cells.lookup x = some c → c ≠ b) ∧ ∀ p ∈ X.pn ++ pins, p.1 ≠ b
theorem Inv.fpOk {X : Cx} {pins : List (Addr × Obj)} {σ : St} {H H' : Hp} {s : Shared} {b : Addr} (I : Inv X pins σ H s) (hb : s.heap.objs.size ≤ b) (hn : H' b = none) : FpOk X pins H' b := by
  refine ⟨hn, Nat.ne_of_gt (Nat.lt_of_lt_of_le I.lt hb), I.nofs hb, .inr (Nat.le_trans I.sz hb), fun x c e z => ?_, fun p hp z => ?_⟩
  · obtain ⟨v, q⟩ := I.cell x c e
    exact absurd (Nat.lt_of_lt_of_le q.lt (by rw [z]; exact hb)) (Nat.lt_irrefl _)
  · exact absurd (Nat.lt_of_lt_of_le (Heap.lt_size (I.pin p hp).1) (by rw [z]; exact hb)) (Nat.lt_irrefl _)
structure Turn (P : Program) (w : World) (K : PySem.W.Frag) (tg : Expr) (J : It) (fp : List Addr) (it : Addr) (tn : Nat → Heap → Prop) : Prop where
  mem : it ∈ fp
  obj : ∀ i h, tn i h → ∀ b ∈ fp, ∃ o, h.get? b = some o ∧ ∀ v, o.data ≠ .cell v
  keep : ∀ i h h', tn i h → (∀ b ∈ fp, ∀ o, h.get? b = some o → h'.get? b = some o) → tn i h'
  item : ∀ (X : Cx), X.prog = P → X.w = w → X.K = K → X.calm = true → ∀ (i : Nat) (pins : List (Addr × Obj)) (s : Shared) (σ : St) (H : Hp) (E : Value → Shared → Prop), Inv X pins σ H s → (∀ b ∈ fp, FpOk X pins H b) → tn i s.heap → J.go i H →
    wpAny (model P w) X.A (pyNext (.ref it)) (fun r s1 => ∃ u, r = some u ∧
      wpAny (model P w) X.A (letOwnedTupleGo tg (.ref it) u) (fun _ s2 => ∃ x H', Inv X pins σ H' s2 ∧ RelV x u ∧ J.yld i H x H' ∧ tn (i + 1) s2.heap ∧ ∀ b ∈ fp, H' b = none) E s1) E s
  done : ∀ (X : Cx), X.prog = P → X.w = w → X.K = K → X.calm = true → ∀ (i : Nat) (pins : List (Addr × Obj)) (s : Shared) (σ : St) (H : Hp) (E : Value → Shared → Prop), Inv X pins σ H s → (∀ b ∈ fp, FpOk X pins H b) → tn i s.heap → J.stop i H →
    wpAny (model P w) X.A (pyNext (.ref it)) (fun r s1 => r = none ∧ Inv X pins σ H s1) E s
  self : ∀ (A : Around) (i : Nat) (s : Shared) (Q : Value → Shared → Prop) (E : Value → Shared → Prop), tn i s.heap → Q (.ref it) s → wpAny (model P w) A (pyIter (.ref it)) Q E s
abbrev TI := St → Hp → (It → Hp → Prop) → Prop
def PIE (X : Cx) (pins : List (Addr × Obj)) (σ : St) (tg : Expr) (R : It → Hp → Prop) (itv : Value) (s2 : Shared) : Prop :=
  ∃ (it : Addr) (fp : List Addr) (tn : Nat → Heap → Prop) (J : It) (H' : Hp), itv = .ref it ∧ Inv X pins σ H' s2 ∧ Turn X.prog X.w X.K tg J fp it tn ∧ tn 0 s2.heap ∧ (∀ b ∈ fp, FpOk X pins H' b) ∧ R J H'
structure PI (X : Cx) (tg iter : Expr) (wi : TI) : Prop where
  run : ∀ (pins : List (Addr × Obj)) (s : Shared) (σ : St) (H : Hp) (R : It → Hp → Prop), Inv X pins σ H s → wi σ H R →
    wpAny (model X.prog X.w) X.A (eval iter X.env) (fun v s1 => wpAny (model X.prog X.w) X.A (pyIter v) (PIE X pins σ tg R) X.xe s1) X.xe s
instance {X : Cx} {tg iter : Expr} {wi : TI} : CoeFun (PI X tg iter wi) (fun _ => ∀ (pins : List (Addr × Obj)) (s : Shared) (σ : St) (H : Hp) (R : It → Hp → Prop), Inv X pins σ H s → wi σ H R →
    wpAny (model X.prog X.w) X.A (eval iter X.env) (fun v s1 => wpAny (model X.prog X.w) X.A (pyIter v) (PIE X pins σ tg R) X.xe s1) X.xe s) := ⟨PI.run⟩
theorem go_of {M : Model} {A : Around} {E : Value → Shared → Prop} {s : Shared} {tg : Expr} {it : Addr} {u : Value} {o : Obj} {n : String} {vs : Array Value} {Q : Unit → Shared → Prop} (ho : s.heap.get? it = some o) (hc : o.cls = .type n) (hd : o.data = .fields vs)
    (hn : ["enumerate", "zip", "dict_itemiterator", "dict_reverseitemiterator", "odict_iterator", "itertools.zip_longest", "itertools.pairwise"].contains n = false) (hQ : Q () s) : wpAny M A (letOwnedTupleGo tg (.ref it) u) Q E s := by
  unfold letOwnedTupleGo
  cases tg <;> first
    | exact wpAny_pure hQ
    | (cases u <;> first
        | exact wpAny_pure hQ
        | (refine wpAny_bind (wpAny_load ho ?_)
           rw [hc, hd]
           show wpAny M A (if (["enumerate", "zip", "dict_itemiterator", "dict_reverseitemiterator", "odict_iterator", "itertools.zip_longest", "itertools.pairwise"].contains n && vs[0]? == some (rawInt _)) = true then _ else _) Q E s
           rw [if_neg (by intro h; rw [hn, Bool.false_and] at h; cases h)]
           exact wpAny_pure hQ))
def Itl (K : PySem.W.Frag) (a : Addr) : It :=
  ⟨fun i H => ∃ xs x, SqL K H a xs ∧ xs[i]? = some x, fun i H x H' => H' = H ∧ ∀ xs, SqL K H a xs → xs[i]? = some x, fun i H => ∃ xs, SqL K H a xs ∧ xs.length ≤ i⟩
def Itt (K : PySem.W.Frag) (a : Addr) : It :=
  ⟨fun i H => ∃ xs x, SqT K H a xs ∧ xs[i]? = some x, fun i H x H' => H' = H ∧ ∀ xs, SqT K H a xs → xs[i]? = some x, fun i H => ∃ xs, SqT K H a xs ∧ xs.length ≤ i⟩
def Itr (lo : Int) (n : Nat) : It := ⟨fun i _ => i < n, fun i H x H' => H' = H ∧ x = .int (lo + i), fun i _ => n ≤ i⟩
theorem turn_list {P : Program} {w : World} {K : PySem.W.Frag} {tg : Expr} (a it : Addr) : Turn P w K tg (Itl K a) [it] it (fun i h => h.IsListIter it a i) where
  mem := by simp
  obj := fun i h st b hb => by
    have e : b = it := by simpa using hb
    subst e
    obtain ⟨o, e, c, d⟩ := st
    exact ⟨o, e, fun v z => by rw [d] at z; cases z⟩
  keep := fun i h h' st k => st.at fun o e => k it (by simp) o e
  item := by
    intro X hP hw hK hc i pins s σ H E I hf st hg
    subst hP hw hK
    obtain ⟨xs, x, hq, hx⟩ := hg
    obtain ⟨its, rv, p, hz⟩ := I.list hq
    obtain ⟨u, hu, ru⟩ := rv.get hx
    obtain ⟨f0, f1, f2, f3, f4, f5⟩ := hf it (by simp)
    refine wpAny_pyNext_list_item st p.isList (x := u) (by simpa using hu) fun h' st' sb => ?_
    have I1 : Inv X pins σ H { s with heap := h' } := I.turned (t' := s.toks) (fun b o hb e => (sb.2 b hb).trans e) f0 f1 f3 f4 f5
    obtain ⟨o, e, c, d⟩ := id st'
    exact ⟨u, rfl, go_of (s := { s with heap := h' }) e c d (by decide) ⟨x, H, I1, ru, ⟨rfl, fun ys hy => by rw [I.list_inj hy hq]; exact hx⟩, st', fun b hb => (hf b hb).1⟩⟩
  done := by
    intro X hP hw hK hc i pins s σ H E I hf st hg
    subst hP hw hK
    obtain ⟨xs, hq, hx⟩ := hg
    obtain ⟨its, rv, p, hz⟩ := I.list hq
    obtain ⟨f0, f1, f2, f3, f4, f5⟩ := hf it (by simp)
    have hl := rv.length
    exact wpAny_pyNext_list_end (I.ok.hd hc) st p.isList (by simp; omega) fun h' eb => ⟨rfl, I.turned (t' := s.toks) (fun b o hb e => eb b o hb e) f0 f1 f3 f4 f5⟩
  self := fun _ _ _ _ _ st h => wpAny_pyIter_listiter st h
theorem turn_tuple {P : Program} {w : World} {K : PySem.W.Frag} {tg : Expr} (a it : Addr) : Turn P w K tg (Itt K a) [it] it (fun i h => h.IsTupleIter it a i) where
  mem := by simp
  obj := fun i h st b hb => by
    have e : b = it := by simpa using hb
    subst e
    obtain ⟨o, e, c, d⟩ := st
    exact ⟨o, e, fun v z => by rw [d] at z; cases z⟩
  keep := fun i h h' st k => st.at fun o e => k it (by simp) o e
  item := by
    intro X hP hw hK hc i pins s σ H E I hf st hg
    subst hP hw hK
    obtain ⟨xs, x, hq, hx⟩ := hg
    obtain ⟨its, rv, p, hz⟩ := I.tuple hq
    obtain ⟨u, hu, ru⟩ := rv.get hx
    obtain ⟨f0, f1, f2, f3, f4, f5⟩ := hf it (by simp)
    refine wpAny_pyNext_tuple_item st (show s.heap.IsTuple a its.toArray from p) (x := u) (by simpa using hu) fun h' st' sb => ?_
    have I1 : Inv X pins σ H { s with heap := h' } := I.turned (t' := s.toks) (fun b o hb e => (sb.2 b hb).trans e) f0 f1 f3 f4 f5
    obtain ⟨o, e, c, d⟩ := id st'
    exact ⟨u, rfl, go_of (s := { s with heap := h' }) e c d (by decide) ⟨x, H, I1, ru, ⟨rfl, fun ys hy => by rw [I.tuple_inj hy hq]; exact hx⟩, st', fun b hb => (hf b hb).1⟩⟩
  done := by
    intro X hP hw hK hc i pins s σ H E I hf st hg
    subst hP hw hK
    obtain ⟨xs, hq, hx⟩ := hg
    obtain ⟨its, rv, p, hz⟩ := I.tuple hq
    obtain ⟨f0, f1, f2, f3, f4, f5⟩ := hf it (by simp)
    have hl := rv.length
    exact wpAny_pyNext_tuple_end (I.ok.hd hc) st (show s.heap.IsTuple a its.toArray from p) (by simp; omega) fun h' eb => ⟨rfl, I.turned (t' := s.toks) (fun b o hb e => eb b o hb e) f0 f1 f3 f4 f5⟩
  self := fun _ _ _ _ _ st h => wpAny_pyIter_tupleiter st h
theorem turn_range {P : Program} {w : World} {K : PySem.W.Frag} {tg : Expr} (it : Addr) (lo : Int) (n : Nat) : Turn P w K tg (Itr lo n) [it] it (fun i h => IsRangeIter h it (lo + (i : Nat) * 1) ((n : Int) - (i : Nat)) 1) where
  mem := by simp
  obj := fun i h st b hb => by
    have e : b = it := by simpa using hb
    subst e
    exact ⟨_, st, fun v z => by
      have z' : Data.fields _ = Data.cell v := z
      cases z'⟩
  keep := fun i h h' st k => k it (by simp) _ st
  item := by
    intro X hP hw hK hc i pins s σ H E I hf st hg
    subst hP hw hK
    obtain ⟨f0, f1, f2, f3, f4, f5⟩ := hf it (by simp)
    have W := Walks.range (prog := X.prog) (w := X.w) (I.ok.hd hc) it lo 1 n
    refine W.item i s _ _ hg st fun v h' tk hv st' kk => ?_
    obtain ⟨t, rfl⟩ := hv
    have I1 : Inv X pins σ H { s with heap := h', toks := tk } := I.turned (fun b o hb e => kk b o (by simpa using hb) e) f0 f1 f3 f4 f5
    refine ⟨_, rfl, go_of (s := { s with heap := h', toks := tk }) (n := "range_iterator") st' rfl rfl (by decide) ⟨.int (lo + i), H, I1, ⟨t, ?_⟩, ⟨rfl, rfl⟩, st', fun b hb => (hf b hb).1⟩⟩
    rw [Int.mul_one]
  done := by
    intro X hP hw hK hc i pins s σ H E I hf st hg
    subst hP hw hK
    obtain ⟨f0, f1, f2, f3, f4, f5⟩ := hf it (by simp)
    exact wpAny_pyNext_range_end (I.ok.hd hc) st (by have : n ≤ i := hg; omega) fun h' eb => ⟨rfl, I.turned (t' := s.toks) (fun b o hb e => eb b o hb e) f0 f1 f3 f4 f5⟩
  self := fun _ _ _ _ _ st h => wpAny_pyIter_rangeiter st h
end L2
namespace L2
open PySem PySem.Spec PyProof.Rows
section
variable {X : Cx} {tg : Expr}
def iList (K : PySem.W.Frag) (tl : TE) : TI := fun σ H R => tl σ H fun x H1 => ∃ a, x = .ref a ∧ (∃ xs, SqL K H1 a xs) ∧ R (Itl K a) H1
def iTup (K : PySem.W.Frag) (tl : TE) : TI := fun σ H R => tl σ H fun x H1 => ∃ a, x = .ref a ∧ (∃ xs, SqT K H1 a xs) ∧ R (Itt K a) H1
theorem pi_list {l : Expr} {tl : TE} (hl : PE X l tl) : PI X tg l (iList X.K tl) := by
  constructor
  intro pins s σ H R I h
  refine thn (hl pins s σ H _ I h) fun v s1 ⟨x, H1, I1, r1, q1⟩ => ?_
  obtain ⟨a, e, ⟨xs, hq⟩, q⟩ := q1
  subst e
  cases r1
  obtain ⟨its, rv, p, hz⟩ := I1.list hq
  refine wpAny_pyIter_list p.isList ?_
  refine ⟨s1.heap.objs.size, [s1.heap.objs.size], _, _, H1, rfl, I1.kept (t' := s1.toks) fun b o e => Heap.get?_push_of_some _ e, turn_list a _, ⟨_, Heap.get?_push_size _ rfl, rfl, rfl⟩, fun b hb => ?_, q⟩
  have e : b = s1.heap.objs.size := by simpa using hb
  subst e
  exact I1.fpOk (Nat.le_refl _) (I1.hok.fresh (Nat.le_refl _))
theorem pi_tup {l : Expr} {tl : TE} (hl : PE X l tl) : PI X tg l (iTup X.K tl) := by
  constructor
  intro pins s σ H R I h
  refine thn (hl pins s σ H _ I h) fun v s1 ⟨x, H1, I1, r1, q1⟩ => ?_
  obtain ⟨a, e, ⟨xs, hq⟩, q⟩ := q1
  subst e
  cases r1
  obtain ⟨its, rv, p, hz⟩ := I1.tuple hq
  refine wpAny_pyIter_tuple (show s1.heap.IsTuple a its.toArray from p) ?_
  refine ⟨s1.heap.objs.size, [s1.heap.objs.size], _, _, H1, rfl, I1.kept (t' := s1.toks) fun b o e => Heap.get?_push_of_some _ e, turn_tuple a _, ⟨_, Heap.get?_push_size _ rfl, rfl, rfl⟩, fun b hb => ?_, q⟩
  have e : b = s1.heap.objs.size := by simpa using hb
  subst e
  exact I1.fpOk (Nat.le_refl _) (I1.hok.fresh (Nat.le_refl _))
theorem range_it {pins : List (Addr × Obj)} {σ : St} {H : Hp} {s : Shared} {R : It → Hp → Prop} {E : Value → Shared → Prop} {lo hi : Int} {t u v : Tok} {tk : Nat} (I : Inv X pins σ H s) (h1 : -(2 ^ 62) ≤ lo) (h2 : lo < 2 ^ 62) (h3 : -(2 ^ 62) ≤ hi) (h4 : hi < 2 ^ 62)
    (q : R (Itr lo (hi - lo).toNat) H) : wpAny (model X.prog X.w) X.A (pyIter (.ref s.heap.objs.size)) (PIE X pins σ tg R) E { s with heap := s.heap.push { cls := .type "range", data := .fields #[.int lo t, .int hi u, .int 1 v] }, toks := tk } := by
  refine wpAny_pyIter_range (IsRange.new ..) (small_one h1 h2 h3 h4) ?_
  have I1 : Inv X pins σ H { s with heap := s.heap.push { cls := .type "range", data := .fields #[.int lo t, .int hi u, .int 1 v] }, toks := tk } := I.kept fun b o e => Heap.get?_push_of_some _ e
  refine ⟨(s.heap.push { cls := .type "range", data := .fields #[.int lo t, .int hi u, .int 1 v] }).objs.size, [(s.heap.push { cls := .type "range", data := .fields #[.int lo t, .int hi u, .int 1 v] }).objs.size], _, _, H, rfl,
    I1.kept (t' := tk) fun b o e => Heap.get?_push_of_some _ e, turn_range _ lo (hi - lo).toNat, ?_, fun b hb => ?_, q⟩
  · have e1 : lo + ((0 : Nat) : Int) * 1 = lo := by simp
    have e2 : (((hi - lo).toNat : Nat) : Int) - ((0 : Nat) : Int) = Builtin.Range.rangeSize lo hi 1 := by rw [rangeSize_one]; split <;> omega
    show IsRangeIter _ _ (lo + ((0 : Nat) : Int) * 1) ((((hi - lo).toNat : Nat) : Int) - ((0 : Nat) : Int)) 1
    rw [e1, e2]
    exact Heap.get?_push_size _ rfl
  · have e : b = (s.heap.push { cls := .type "range", data := .fields #[.int lo t, .int hi u, .int 1 v] }).objs.size := by simpa using hb
    subst e
    exact I1.fpOk (Nat.le_refl _) (I1.hok.fresh (Nat.le_refl _))
def iRng1 (ta : TA) : TI := fun σ H R => ta σ H fun vs H1 => ∃ j : Int, vs = [.int j] ∧ -(2 ^ 62) ≤ j ∧ j < 2 ^ 62 ∧ R (Itr 0 j.toNat) H1
theorem pi_range1 {a : Expr} {ta : TA} {p pos : Pos} (hg : Gl X "range") (hm : X.mg "range" = none) (ha : PA X [a] ta) (hs : starEach [a] X.env = [(false, eval a X.env)] := by rfl) : PI X tg (.Call (.Name "range" p) [a] [] pos) (iRng1 ta) := by
  constructor
  intro pins s σ H R I h
  refine Call_ (ld_blt I hg hm boot_range (PyProof.Rows.callWith_type1 (thn (ha pos pins s σ H _ I h) fun us s1 ⟨vs, H1, I1, r1, q1⟩ => ?_) hs rfl))
  obtain ⟨j, e, q1, q2, q⟩ := q1
  subst e
  cases r1 with
  | cons r rr =>
    cases rr
    obtain ⟨t, rfl⟩ := r
    exact call_range_1 (range_it I1 (by omega) (by omega) q1 q2 (by simpa using q))
def tFor (wi : TI) (g : TG) (tb : TS) : TS := fun D σ H => wi σ H fun J H1 => ∃ W : Nat → Nat → St → Hp → Prop, (∃ m, W 0 m σ H1) ∧ ∀ i m σ H, W i m σ H →
  (J.stop i H ∧ D.nx σ H) ∨ (J.go i H ∧ ∃ N : St → Hp → Prop, (∀ σ' H', N σ' H' → ∃ m', m' < m ∧ W (i + 1) m' σ' H') ∧ ∀ x H', J.yld i H x H' → g x σ H' fun σ2 H2 => tb { D with nx := N, ct := N, bk := D.nx } σ2 H2)
def pinsAt (fp : List Addr) (h : Heap) : List (Addr × Obj) := fp.filterMap fun b => (h.get? b).map fun o => (b, o)
theorem mem_pinsAt {fp : List Addr} {h : Heap} {b : Addr} {o : Obj} (hb : b ∈ fp) (e : h.get? b = some o) : (b, o) ∈ pinsAt fp h := List.mem_filterMap.mpr ⟨b, hb, by rw [e]; rfl⟩
theorem of_pinsAt {fp : List Addr} {h : Heap} {p : Addr × Obj} (hp : p ∈ pinsAt fp h) : p.1 ∈ fp ∧ h.get? p.1 = some p.2 := by
  obtain ⟨b, hb, e⟩ := List.mem_filterMap.mp hp
  cases q : h.get? b with
  | none => rw [q] at e; cases e
  | some o =>
    rw [q] at e
    have e' : (b, o) = p := Option.some.inj e
    subst e'
    exact ⟨hb, q⟩
theorem Inv.pinned {pins : List (Addr × Obj)} {σ : St} {H : Hp} {s : Shared} {fp : List Addr} (I : Inv X pins σ H s) (hf : ∀ b ∈ fp, FpOk X pins H b) (ho : ∀ b ∈ fp, ∃ o, s.heap.get? b = some o ∧ ∀ v, o.data ≠ .cell v) : Inv X (pins ++ pinsAt fp s.heap) σ H s :=
  I.pins_of fun p hp => (List.mem_append.mp hp).elim (fun z => I.pin p (List.mem_append_right _ z)) fun z => by
    obtain ⟨hb, e⟩ := of_pinsAt z
    obtain ⟨f0, f1, f2, _⟩ := hf p.1 hb
    obtain ⟨o, e', d⟩ := ho p.1 hb
    rw [e] at e'; cases e'
    exact ⟨e, f0, f1, f2, d⟩
theorem Inv.unpinned {pins pl : List (Addr × Obj)} {σ : St} {H : Hp} {s : Shared} (I : Inv X (pins ++ pl) σ H s) : Inv X pins σ H s := I.pins_of fun p hp => I.pin p (List.mem_append_right _ (List.mem_append_left _ hp))
theorem ps_for {iter : Expr} {body : List Stmt} {wi : TI} {g : TG} {tb : TS} {pos : Pos} (hp : PassesOwn (model X.prog X.w) X.A X.env X.xe) (hc : X.calm = true) (hi : PI X tg iter wi) (hg : PG X tg g) (hb : PSs X body tb)
    (hs : ∀ x, foldedSetIterable iter X.env x = pure x := by intro _; rfl) : PS X (.For tg iter body [] pos) (tFor wi g tb) := by
  constructor
  intro pins s σ H D I h
  refine wpAny_For (thn (hi pins s σ H _ I h) fun v s1 h1 => thn h1 fun itv s2 h2 => ?_) hs
  obtain ⟨it, fp, tn, J, H2, e, I2, T, st2, f2, W, ⟨m0, w0⟩, turn⟩ := h2
  subst e
  have stat : ∀ {H' : Hp}, (∀ b ∈ fp, H' b = none) → ∀ b ∈ fp, FpOk X pins H' b := fun hn b hb => ⟨hn b hb, (f2 b hb).2⟩
  refine codeAny_forLoop_any (fun n s' => ∃ i σ' H', Inv X pins σ' H' s' ∧ tn i s'.heap ∧ (∀ b ∈ fp, H' b = none) ∧ W i n σ' H') ?_ m0 ⟨0, σ, H2, I2, st2, fun b hb => (f2 b hb).1, w0⟩
  rintro n s3 ⟨i, σ3, H3, I3, st3, fr3, w3⟩
  rcases turn i n σ3 H3 w3 with ⟨stop, qn⟩ | ⟨go, N, hN, step⟩
  · refine wpAny_passesOwn hp (thn (T.done X rfl rfl rfl hc i pins s3 σ3 H3 X.xe I3 (stat fr3) st3 stop) fun r s4 ⟨hr, I4⟩ => ?_)
    subst hr
    exact wpAny_execs_nil ⟨σ3, H3, I4, qn⟩
  · refine wpAny_passesOwn hp (thn (T.item X rfl rfl rfl hc i pins s3 σ3 H3 X.xe I3 (stat fr3) st3 go) fun r s4 ⟨u, hr, h4⟩ => ?_)
    subst hr
    refine wpAny_passesOwn hp (thn h4 fun _ s5 ⟨x, H5, I5, r5, y5, st5, fr5⟩ => ?_)
    have I5' := I5.pinned (stat fr5) (T.obj _ _ st5)
    refine wpAny_passesOwn hp (thn (hg _ s5 σ3 H5 x u _ I5' r5 (step x H5 y5)) fun _ s6 ⟨σ6, H6, I6, q6⟩ => ?_)
    refine wpAny_passesOwn hp (thn (hb _ s6 σ6 H6 _ I6 q6) fun f s7 q7 => ?_)
    have again : ∀ {σ7 : St} {H7 : Hp}, Inv X (pins ++ pinsAt fp s5.heap) σ7 H7 s7 → N σ7 H7 → ∃ m, m < n ∧ ∃ i σ' H', Inv X pins σ' H' s7 ∧ tn i s7.heap ∧ (∀ b ∈ fp, H' b = none) ∧ W i m σ' H' := fun {σ7 H7} I7 n7 => by
      obtain ⟨m', hm, w7⟩ := hN σ7 H7 n7
      refine ⟨m', hm, i + 1, σ7, H7, I7.unpinned, T.keep _ _ _ st5 fun b hb o e => (I7.pin (b, o) (List.mem_append_right _ (List.mem_append_right _ (mem_pinsAt hb e)))).1, fun b hb => ?_, w7⟩
      obtain ⟨o, e, d⟩ := T.obj _ _ st5 b hb
      exact (I7.pin (b, o) (List.mem_append_right _ (List.mem_append_right _ (mem_pinsAt hb e)))).2.1
    cases f with
    | next => obtain ⟨σ7, H7, I7, n7⟩ := q7; exact again I7 n7
    | cont => obtain ⟨σ7, H7, I7, n7⟩ := q7; exact again I7 n7
    | brk => obtain ⟨σ7, H7, I7, q7⟩ := q7; exact ⟨σ7, H7, I7.unpinned, q7⟩
    | ret v => obtain ⟨x7, σ7, H7, I7, r7, q7⟩ := q7; exact ⟨x7, σ7, H7, I7.unpinned, r7, q7⟩
end
theorem for_range {lo : Int} {n : Nat} {g : TG} {tb : TS} {D : Ends} {σ : St} {H : Hp} (Pv : Nat → St → Hp → Prop) (h0 : Pv 0 σ H)
    (hs : ∀ i σ H, i < n → Pv i σ H → g (.int (lo + i)) σ H fun σ2 H2 => tb { D with nx := Pv (i + 1), ct := Pv (i + 1), bk := D.nx } σ2 H2) (hd : ∀ σ H, Pv n σ H → D.nx σ H) :
    ∃ W : Nat → Nat → St → Hp → Prop, (∃ m, W 0 m σ H) ∧ ∀ i m σ H, W i m σ H →
      ((Itr lo n).stop i H ∧ D.nx σ H) ∨ ((Itr lo n).go i H ∧ ∃ N : St → Hp → Prop, (∀ σ' H', N σ' H' → ∃ m', m' < m ∧ W (i + 1) m' σ' H') ∧ ∀ x H', (Itr lo n).yld i H x H' → g x σ H' fun σ2 H2 => tb { D with nx := N, ct := N, bk := D.nx } σ2 H2) := by
  refine ⟨fun i m σ H => m = n - i ∧ i ≤ n ∧ Pv i σ H, ⟨n, by simp, Nat.zero_le _, h0⟩, ?_⟩
  rintro i m σ H ⟨rfl, hi, p⟩
  by_cases hlt : i < n
  · refine .inr ⟨hlt, Pv (i + 1), fun σ' H' p' => ⟨n - (i + 1), by omega, rfl, hlt, p'⟩, fun x H' y => ?_⟩
    obtain ⟨e, y⟩ := y
    subst e y
    exact hs i σ _ hlt p
  · have e : i = n := by omega
    subst e
    exact .inl ⟨Nat.le_refl _, hd σ H p⟩
end L2
namespace L2
open PySem PySem.Spec PyProof.Rows
abbrev R2 := V → V → Hp → VK → Prop
def OpR (X : Cx) (f : Value → Value → Sem Value) (r : R2) : Prop :=
  ∀ (pins : List (Addr × Obj)) (s : Shared) (σ : St) (H : Hp) (x y : V) (v u : Value) (Q : VK), Inv X pins σ H s → RelV x v → RelV y u → r x y H Q →
    wpAny (model X.prog X.w) X.A (f v u) (EP X pins σ Q) X.xe s
def CallR (X : Cx) (f : Value) (r : List V → Hp → VK → Prop) : Prop :=
  ∀ (pins : List (Addr × Obj)) (s : Shared) (σ : St) (H : Hp) (xs : List V) (us : List Value) (Q : VK), Inv X pins σ H s → Vals xs us → r xs H Q →
    wpAny (model X.prog X.w) X.A (call f us) (EP X pins σ Q) X.xe s
def tOp (r : R2) (ta tb : TE) : TE := fun σ H Q => ta σ H fun x H1 => tb σ H1 fun y H2 => r x y H2 Q
def rI (C : Int → Int → Prop) (g : Int → Int → V) : R2 := fun x y H Q => ∃ i j, x = .int i ∧ y = .int j ∧ C i j ∧ Q (g i j) H
def rI0 (g : Int → Int → V) : R2 := fun x y H Q => ∃ i j, x = .int i ∧ y = .int j ∧ Q (g i j) H
section
variable {X : Cx} {a b c : Expr} {ta tb tc : TE} {pos : Pos}
theorem binT (ha : PE X a ta) (hb : PE X b tb) {pins : List (Addr × Obj)} {s : Shared} {σ : St} {H : Hp} {R : V → V → Hp → Prop} (I : Inv X pins σ H s)
    (h : ta σ H fun x H1 => tb σ H1 fun y H2 => R x y H2) {Q : Value → Shared → Prop} {f : Value → Value → Sem Value}
    (hf : ∀ v u s2 x y H2, Inv X pins σ H2 s2 → RelV x v → RelV y u → R x y H2 → wpAny (model X.prog X.w) X.A (f v u) Q X.xe s2) :
    wpAny (model X.prog X.w) X.A (eval a X.env) (fun v s₁ => wpAny (model X.prog X.w) X.A (eval b X.env) (fun u s₂ => wpAny (model X.prog X.w) X.A (f v u) Q X.xe s₂) X.xe s₁) X.xe s := by
  refine thn (ha pins s σ H _ I h) fun v s1 ⟨x, H1, I1, r1, q1⟩ => ?_
  refine thn (hb pins s1 σ H1 _ I1 q1) fun u s2 ⟨y, H2, I2, r2, q2⟩ => ?_
  exact hf v u s2 x y H2 I2 r1 r2 q2
theorem pe_op {op : Operator} {r : R2} (ho : OpR X (binaryOp op) r) (ha : PE X a ta) (hb : PE X b tb) : PE X (.BinOp a op b pos) (tOp r ta tb) := by
  constructor
  intro pins s σ H Q I h
  exact wpAny_BinOp (binT ha hb I h fun v u s2 x y H2 I2 rx ry q => ho pins s2 σ H2 x y v u Q I2 rx ry q)
theorem opI {f : Value → Value → Sem Value} {C : Int → Int → Prop} {g : Int → Int → Int}
    (rule : ∀ (i j : Int) (t u : Tok) (s : Shared) (Q : Value → Shared → Prop) (E : Value → Shared → Prop), C i j → Q (.int (g i j) s.toks) { s with toks := s.toks + 1 } → wpAny (model X.prog X.w) X.A (f (.int i t) (.int j u)) Q E s) :
    OpR X f (rI C fun i j => .int (g i j)) := by
  intro pins s σ H x y v u Q I rx ry h
  obtain ⟨i, j, rfl, rfl, hc, q⟩ := h
  obtain ⟨t, rfl⟩ := rx
  obtain ⟨t', rfl⟩ := ry
  exact rule i j t t' s _ _ hc ⟨.int (g i j), H, I.tok _, ⟨_, rfl⟩, q⟩
theorem opI0 {f : Value → Value → Sem Value} {g : Int → Int → Int}
    (rule : ∀ (i j : Int) (t u : Tok) (s : Shared) (Q : Value → Shared → Prop) (E : Value → Shared → Prop), Q (.int (g i j) s.toks) { s with toks := s.toks + 1 } → wpAny (model X.prog X.w) X.A (f (.int i t) (.int j u)) Q E s) :
    OpR X f (rI0 fun i j => .int (g i j)) := by
  intro pins s σ H x y v u Q I rx ry h
  obtain ⟨i, j, rfl, rfl, q⟩ := h
  obtain ⟨t, rfl⟩ := rx
  obtain ⟨t', rfl⟩ := ry
  exact rule i j t t' s _ _ ⟨.int (g i j), H, I.tok _, ⟨_, rfl⟩, q⟩
theorem opB0 {f : Value → Value → Sem Value} {g : Int → Int → Bool}
    (rule : ∀ (i j : Int) (t u : Tok) (s : Shared) (Q : Value → Shared → Prop) (E : Value → Shared → Prop), Q (.bool (g i j)) s → wpAny (model X.prog X.w) X.A (f (.int i t) (.int j u)) Q E s) :
    OpR X f (rI0 fun i j => .bl (g i j)) := by
  intro pins s σ H x y v u Q I rx ry h
  obtain ⟨i, j, rfl, rfl, q⟩ := h
  obtain ⟨t, rfl⟩ := rx
  obtain ⟨t', rfl⟩ := ry
  exact rule i j t t' s _ _ ⟨.bl (g i j), H, I, rfl, q⟩
def CDiv (i j : Int) : Prop := 0 < j ∧ j < 1073741824
def CPow (i j : Int) : Prop := 0 ≤ j ∧ j ≤ 1000000 ∧ i.natAbs < 2 ^ 64
def CMul (i j : Int) : Prop := (-(2 ^ 64) < i ∧ i < 2 ^ 64) ∨ (-(2 ^ 64) < j ∧ j < 2 ^ 64)
theorem CMul.ok {i j : Int} (h : CMul i j) : IntMulOk i j := by
  rcases h with ⟨h1, h2⟩ | ⟨h1, h2⟩
  · exact .of_left (intBits_le_64 h1 h2)
  · exact .of_right (intBits_le_64 h1 h2)
theorem op_add : OpR X (binaryOp .Add) (rI0 fun i j => .int (i + j)) := opI0 fun _ _ _ _ _ _ _ q => add_int q
theorem op_sub : OpR X (binaryOp .Sub) (rI0 fun i j => .int (i - j)) := opI0 fun _ _ _ _ _ _ _ q => sub_int q
theorem op_mul : OpR X (binaryOp .Mult) (rI CMul fun i j => .int (i * j)) := opI fun _ _ _ _ _ _ _ hc q => mul_int q hc.ok
theorem op_fdiv : OpR X (binaryOp .FloorDiv) (rI CDiv fun i j => .int (i / j)) := opI fun i j _ _ _ _ _ hc q => by
  have h1 : (0 : Int) < j := hc.1
  have h2 : j < 1073741824 := hc.2
  exact floordiv_int (by omega) (by rw [Int.fdiv_eq_ediv_of_nonneg i (by omega)]; exact q) (.inl (PyProof.noPylong_small (by omega)))
theorem op_mod : OpR X (binaryOp .Mod) (rI (fun _ j => 0 < j) fun i j => .int (i % j)) := opI fun i j _ _ _ _ _ hc q => by
  have h1 : (0 : Int) < j := hc
  exact mod_int' (by omega) (by rw [Int.fmod_eq_emod_of_nonneg i (by omega)]; exact q)
theorem op_pow : OpR X (binaryOp .Pow) (rI CPow fun i j => .int (i ^ j.toNat)) := opI fun _ _ _ _ _ _ _ hc q => pow_int_small hc.1 hc.2.1 hc.2.2 q
end
def scal : V → V → Bool
  | .non, .non => true | .non, .int _ => true | .int _, .non => true | .non, .bl _ => true | .bl _, .non => true | .non, .str _ => true | .str _, .non => true
  | .int _, .int _ => true | .bl _, .bl _ => true | .str _, .str _ => true | .byt _, .byt _ => true
  | .int _, .str _ => true | .str _, .int _ => true | .bl _, .str _ => true | .str _, .bl _ => true
  | _, _ => false
def rEq : R2 := fun x y H Q => scal x y = true ∧ Q (.bl (decide (x = y))) H
def rNe : R2 := fun x y H Q => scal x y = true ∧ Q (.bl (!decide (x = y))) H
theorem dec_int {i j : Int} : decide (V.int i = V.int j) = (i == j) := by
  rw [Bool.eq_iff_iff]
  simp
theorem dec_bl {i j : Bool} : decide (V.bl i = V.bl j) = (i == j) := by
  rw [Bool.eq_iff_iff]
  simp
theorem dec_str {i j : Str} : decide (V.str i = V.str j) = (i == j) := by
  rw [Bool.eq_iff_iff]
  simp
theorem dec_byt {i j : Array UInt8} : decide (V.byt i = V.byt j) = (i.toList == j.toList) := by
  rw [Bool.eq_iff_iff]
  cases i
  cases j
  simp
section
variable {X : Cx} {a b c : Expr} {ta tb tc : TE} {pos : Pos}
theorem fin_bl {pins : List (Addr × Obj)} {σ : St} {H : Hp} {s : Shared} {Q : VK} {k k' : Bool} (I : Inv X pins σ H s) (q : Q (.bl k) H) (e : k = k') : EP X pins σ Q (.bool k') s := by
  subst e
  exact ⟨.bl k, H, I, rfl, q⟩
theorem op_eq : OpR X (compareOp .Eq) rEq := by
  intro pins s σ H x y v u Q I rx ry h
  obtain ⟨hs, q⟩ := h
  cases x with
  | non =>
    cases rx
    cases y with
    | non => cases ry; exact PySem.EqNone.eq_none_none (fin_bl I q (by simp))
    | bl j => cases ry; exact PySem.EqNone.eq_none_bool (fin_bl I q (by simp))
    | int j => obtain ⟨t', rfl⟩ := ry; exact PySem.EqNone.eq_none_int (fin_bl I q (by simp))
    | str j => obtain ⟨t', rfl⟩ := ry; exact PySem.EqNone.eq_none_str (fin_bl I q (by simp))
    | _ => exact absurd (show false = true from hs) Bool.false_ne_true
  | bl i =>
    cases rx
    cases y with
    | non => cases ry; exact PySem.EqNone.eq_bool_none (fin_bl I q (by simp))
    | bl j => cases ry; exact eq_bool (fin_bl I q dec_bl)
    | str j => obtain ⟨t', rfl⟩ := ry; exact PySem.EqMixed.eq_bool_str (fin_bl I q (by simp))
    | _ => exact absurd (show false = true from hs) Bool.false_ne_true
  | int i =>
    obtain ⟨t, rfl⟩ := rx
    cases y with
    | non => cases ry; exact PySem.EqNone.eq_int_none (fin_bl I q (by simp))
    | int j => obtain ⟨t', rfl⟩ := ry; exact eq_int (fin_bl I q dec_int)
    | str j => obtain ⟨t', rfl⟩ := ry; exact PySem.EqMixed.eq_int_str (fin_bl I q (by simp))
    | _ => exact absurd (show false = true from hs) Bool.false_ne_true
  | str i =>
    obtain ⟨t, rfl⟩ := rx
    cases y with
    | non => cases ry; exact PySem.EqNone.eq_str_none (fin_bl I q (by simp))
    | bl j => cases ry; exact PySem.EqMixed.eq_str_bool (fin_bl I q (by simp))
    | int j => obtain ⟨t', rfl⟩ := ry; exact PySem.EqMixed.eq_str_int (fin_bl I q (by simp))
    | str j => obtain ⟨t', rfl⟩ := ry; exact eq_str (fin_bl I q dec_str)
    | _ => exact absurd (show false = true from hs) Bool.false_ne_true
  | byt i =>
    obtain ⟨t, rfl⟩ := rx
    cases y with
    | byt j => obtain ⟨t', rfl⟩ := ry; exact PySem.W.eq_bytes (fin_bl I q dec_byt)
    | _ => exact absurd (show false = true from hs) Bool.false_ne_true
  | _ => cases y <;> exact absurd (show false = true from hs) Bool.false_ne_true
theorem op_ne : OpR X (compareOp .NotEq) rNe := by
  intro pins s σ H x y v u Q I rx ry h
  obtain ⟨hs, q⟩ := h
  cases x with
  | non =>
    cases rx
    cases y with
    | non => cases ry; exact PySem.EqNone.ne_none_none (fin_bl I q (by simp))
    | bl j => cases ry; exact PySem.EqNone.ne_none_bool (fin_bl I q (by simp))
    | int j => obtain ⟨t', rfl⟩ := ry; exact PySem.EqNone.ne_none_int (fin_bl I q (by simp))
    | str j => obtain ⟨t', rfl⟩ := ry; exact PySem.EqNone.ne_none_str (fin_bl I q (by simp))
    | _ => exact absurd (show false = true from hs) Bool.false_ne_true
  | bl i =>
    cases rx
    cases y with
    | non => cases ry; exact PySem.EqNone.ne_bool_none (fin_bl I q (by simp))
    | bl j => cases ry; exact ne_bool (fin_bl I q (congrArg not dec_bl))
    | str j => obtain ⟨t', rfl⟩ := ry; exact PySem.EqMixed.ne_bool_str (fin_bl I q (by simp))
    | _ => exact absurd (show false = true from hs) Bool.false_ne_true
  | int i =>
    obtain ⟨t, rfl⟩ := rx
    cases y with
    | non => cases ry; exact PySem.EqNone.ne_int_none (fin_bl I q (by simp))
    | int j => obtain ⟨t', rfl⟩ := ry; exact ne_int (fin_bl I q (congrArg not dec_int))
    | str j => obtain ⟨t', rfl⟩ := ry; exact PySem.EqMixed.ne_int_str (fin_bl I q (by simp))
    | _ => exact absurd (show false = true from hs) Bool.false_ne_true
  | str i =>
    obtain ⟨t, rfl⟩ := rx
    cases y with
    | non => cases ry; exact PySem.EqNone.ne_str_none (fin_bl I q (by simp))
    | bl j => cases ry; exact PySem.EqMixed.ne_str_bool (fin_bl I q (by simp))
    | int j => obtain ⟨t', rfl⟩ := ry; exact PySem.EqMixed.ne_str_int (fin_bl I q (by simp))
    | str j => obtain ⟨t', rfl⟩ := ry; exact ne_str (fin_bl I q (congrArg not dec_str))
    | _ => exact absurd (show false = true from hs) Bool.false_ne_true
  | byt i =>
    obtain ⟨t, rfl⟩ := rx
    cases y with
    | byt j => obtain ⟨t', rfl⟩ := ry; exact PySem.W.ne_bytes (fin_bl I q (congrArg not dec_byt))
    | _ => exact absurd (show false = true from hs) Bool.false_ne_true
  | _ => cases y <;> exact absurd (show false = true from hs) Bool.false_ne_true
theorem op_lt : OpR X (compareOp .Lt) (rI0 fun i j => .bl (decide (i < j))) := opB0 fun _ _ _ _ _ _ _ q => lt_int q
theorem op_le : OpR X (compareOp .LtE) (rI0 fun i j => .bl (decide (i ≤ j))) := opB0 fun _ _ _ _ _ _ _ q => le_int q
theorem op_gt : OpR X (compareOp .Gt) (rI0 fun i j => .bl (decide (j < i))) := opB0 fun _ _ _ _ _ _ _ q => gt_int q
theorem op_ge : OpR X (compareOp .GtE) (rI0 fun i j => .bl (decide (j ≤ i))) := opB0 fun _ _ _ _ _ _ _ q => ge_int q
theorem op_lt_str : OpR X (compareOp .Lt) (fun x y H Q => ∃ i j, x = .str i ∧ y = .str j ∧ Q (.bl (decide (i.cps.toList < j.cps.toList))) H) := by
  intro pins s σ H x y v u Q I rx ry h
  obtain ⟨i, j, rfl, rfl, q⟩ := h
  obtain ⟨t, rfl⟩ := rx
  obtain ⟨t', rfl⟩ := ry
  exact lt_str (fin_bl I q rfl)
theorem OpR.or {f : Value → Value → Sem Value} {r r' : R2} (h : OpR X f r) (h' : OpR X f r') : OpR X f (fun x y H Q => r x y H Q ∨ r' x y H Q) := by
  intro pins s σ H x y v u Q I rx ry q
  rcases q with q | q
  · exact h pins s σ H x y v u Q I rx ry q
  · exact h' pins s σ H x y v u Q I rx ry q
theorem nomark (b : Expr) {op : CmpOp} (h : op ≠ .In := by decide) (h2 : op ≠ .NotIn := by decide) : behindInMarks op b = false := by
  have e1 : (op == CmpOp.In) = false := by cases op <;> first | rfl | exact absurd rfl h
  have e2 : (op == CmpOp.NotIn) = false := by cases op <;> first | rfl | exact absurd rfl h2
  cases b <;> simp [behindInMarks, e1, e2]
theorem pe_cmpR {op : CmpOp} {r : R2} (ho : OpR X (compareOp op) r) (ha : PE X a ta) (hb : PE X b tb) (hm : behindInMarks op b = false) : PE X (.Compare a [op] [b] pos) (tOp r ta tb) := by
  constructor
  intro pins s σ H Q I h
  exact wpAny_Compare1 (binT ha hb I h fun v u s2 x y H2 I2 rx ry q => ho pins s2 σ H2 x y v u Q I2 rx ry q) hm
def tTest (t : TE) : TT := fun σ H Q => t σ H fun x H' => ∃ k, x = .bl k ∧ Q k H'
theorem pt_cmpR {op : CmpOp} {r : R2} (ho : OpR X (compareOp op) r) (ha : PE X a ta) (hb : PE X b tb) (hm : behindInMarks op b = false) : PT X (.Compare a [op] [b] pos) (tTest (tOp r ta tb)) := by
  constructor
  intro pins s σ H Q I h
  refine wpAny_isTrue_Compare1 (thn (ha pins s σ H _ I h) fun v s1 ⟨x, H1, I1, r1, q1⟩ => thn (hb pins s1 σ H1 _ I1 q1) fun u s2 ⟨y, H2, I2, r2, q2⟩ =>
    thn (ho pins s2 σ H2 x y v u _ I2 r1 r2 q2) fun c s3 ⟨z, H3, I3, r3, k, e, q3⟩ => ?_) hm
  subst e
  cases r3
  exact wpAny_truthy_bool ⟨H3, I3, q3⟩
def tChain (r r' : R2) (ta tb tc : TE) : TE := fun σ H Q => ta σ H fun x H1 => tb σ H1 fun y H2 => r x y H2 fun z H3 => ∃ k, z = .bl k ∧
  (if k = true then tc σ H3 fun w' H4 => r' y w' H4 Q else Q (.bl false) H3)
theorem pe_chain {op op' : CmpOp} {r r' : R2} (ho : OpR X (compareOp op) r) (ho' : OpR X (compareOp op') r') (ha : PE X a ta) (hb : PE X b tb) (hc : PE X c tc)
    (hm : lastMarks [op, op'] [b, c] = false := by with_unfolding_all rfl) : PE X (.Compare a [op, op'] [b, c] pos) (tChain r r' ta tb tc) := by
  constructor
  intro pins s σ H Q I h
  refine Compare_chain (thn (ha pins s σ H _ I h) fun v s1 ⟨x, H1, I1, r1, q1⟩ => chain_link (thn (hb pins s1 σ H1 _ I1 q1) fun u s2 ⟨y, H2, I2, r2, q2⟩ =>
    thn (ho pins s2 σ H2 x y v u _ I2 r1 r2 q2) fun d s3 ⟨z, H3, I3, r3, k, e, q3⟩ => ?_)) hm
  subst e
  cases r3
  refine wpAny_truthy_bool ?_
  cases k with
  | false => exact ite_ff ⟨.bl false, H3, I3, rfl, q3⟩
  | true => exact ite_tt (chain_last (thn (hc pins s3 σ H3 _ I3 q3) fun w' s4 ⟨z', H4, I4, r4, q4⟩ => ho' pins s4 σ H4 y z' u w' Q I4 r2 r4 q4))
theorem line63 : (sizeLine : Nat) < 2 ^ 63 := by rw [sizeLine_eq]; decide
theorem op_add_str : OpR X (binaryOp .Add) (fun x y H Q => ∃ i j, x = .str i ∧ y = .str j ∧ i.length + j.length ≤ sizeLine ∧ Q (.str (i ++ j)) H) := by
  intro pins s σ H x y v u Q I rx ry h
  obtain ⟨i, j, rfl, rfl, hz, q⟩ := h
  obtain ⟨t, rfl⟩ := rx
  obtain ⟨t', rfl⟩ := ry
  exact add_str (fun t' tk => ⟨.str (i ++ j), H, I.tok _, ⟨_, rfl⟩, q⟩) hz
theorem vals1 {x : V} {us : List Value} (r : Vals [x] us) : ∃ u, us = [u] ∧ RelV x u := by
  cases r with
  | cons r1 r2 => cases r2; exact ⟨_, rfl, r1⟩
theorem vals2 {x y : V} {us : List Value} (r : Vals [x, y] us) : ∃ u w', us = [u, w'] ∧ RelV x u ∧ RelV y w' := by
  cases r with
  | cons r1 r2 =>
    cases r2 with
    | cons r3 r4 => cases r4; exact ⟨_, _, rfl, r1, r3⟩
theorem call_abs : CallR X (.builtin "abs") (fun xs H Q => ∃ i, xs = [.int i] ∧ Q (.int (if i < 0 then -i else i)) H) := by
  intro pins s σ H xs us Q I r h
  obtain ⟨i, rfl, q⟩ := h
  obtain ⟨u, rfl, t, rfl⟩ := vals1 r
  exact call_abs_int fun u tk => ⟨.int (if i < 0 then -i else i), H, I.tok _, ⟨_, rfl⟩, q⟩
end
end L2
namespace L2
open PySem PySem.Spec PyProof.Rows
structure ObjM (h : Heap) (x dx C : Addr) (mA : Str → Option Value) : Prop where
  obj : h.get? x = some (PySem.W.instObj C dx)
  ns : h.Ns1 dx mA
  ne : dx ≠ x
theorem lookIn_ns {h : Heap} {dx : Addr} {mA : Str → Option Value} (n : h.Ns1 dx mA) : ∃ od, h.get? dx = some od ∧ ∀ name, PySem.W.lookIn name od = some (mA name) := by
  obtain ⟨o, es, ep, ho, hd, hk, _, hm⟩ := n
  refine ⟨o, ho, fun name => ?_⟩
  have e := hm name
  unfold nsFind findBy at e
  rw [← Array.find?_toList] at e
  unfold PySem.W.lookIn
  rw [hd]
  dsimp only
  split
  · rename_i y q
    rw [q] at e
    exact congrArg some e
  · rename_i q
    rw [q] at e
    have a : es.toList.any (·.refKey) = false := by
      rw [List.any_eq_false]
      intro y hy
      obtain ⟨z, t, hkey⟩ := hk y (Array.mem_toList_iff.mp hy)
      simp [DictEntry.refKey, hkey]
    have a' : ¬ es.toList.any (·.refKey) = true := by rw [a]; exact Bool.false_ne_true
    rw [if_neg a']
    exact congrArg some e
theorem ObjM.look {h : Heap} {x dx C : Addr} {mA : Str → Option Value} (I : ObjM h x dx C mA) : ∃ od, PySem.W.InstAt h x (PySem.W.instObj C dx) C (some od) ∧ ∀ name, PySem.W.lookIn name od = some (mA name) :=
  let ⟨od, ho, hl⟩ := lookIn_ns I.ns
  ⟨od, ⟨I.obj, rfl, rfl, ho⟩, hl⟩
section
variable {prog : Program} {w : World} {A : Around} {E : Value → Shared → Prop} {s : Shared} {K : PySem.W.Frag} {x dx C f : Addr} {mA : Str → Option Value} {name : Str} {v : Value}
theorem get_map {expr : Bool} {Q : Value → Shared → Prop} (X : K.In s.heap) (I : ObjM s.heap x dx C mA) (hg : PySem.W.plainGet K C name = true) (hh : PySem.W.hasDictIn K C = true)
    (ha : PySem.W.findIn K (.ref C) name = some none) (hv : mA name = some v) (hv' : PySem.W.handedIn v = true) (h : Q v { s with toks := s.toks + 1 }) :
    wpAny (model prog w) A (getAttr (.ref x) name expr) Q E s := by
  obtain ⟨od, J, hl⟩ := I.look
  exact PySem.W.get_value X J (PySem.W.plainGet_of hg).1 (PySem.W.findObj_own hh ha rfl (by rw [hl, hv])) hv' h
theorem set_map {ns : List Str} {Q : Unit → Shared → Prop} (X : K.In s.heap) (I : ObjM s.heap x dx C mA)
    (hs : PySem.W.findIn K (.ref C) "__setattr__" = some (some (.builtin "object.__setattr__"))) (hp : PySem.W.plainOver K C = true) (ht : PySem.W.takerIn K C name = some none) (hh : PySem.W.hasDictIn K C = true)
    (hw : PySem.Within mA ns) (hsz : ns.length ≤ sizeLine)
    (h : ∀ h', ObjM h' x dx C (fun y => if y = name then some v else mA y) → Heap.SameBut dx s.heap h' → Q () { s with heap := h', toks := s.toks + 2 }) :
    wpAny (model prog w) A (setAttr (.ref x) name v) Q E s := by
  obtain ⟨od, J, hl⟩ := I.look
  refine PySem.W.set_plain X J hs (PySem.W.osa_open (s := { s with toks := s.toks + 1 }) (r := none) X J hp ht fun b => ?_)
  obtain ⟨cd, hc, hd'⟩ := PySem.W.any_some hh
  have hx : s.heap.get? x = some ⟨.ref C, some dx, .plain, #[]⟩ := I.obj
  refine wpAny_bind (wpAny_pure (wpAny_bind (wpAny_bind (wpAny_loadPart hx (wpAny_bind (PySem.W.Looks.here (s := { s with toks := s.toks + 1 }) (PySem.W.looks_clsIn X hc) ?_))))))
  rw [hd']
  refine wpAny_pure (a := some dx) (wpAny_bind (wpAny_pure (wpAny_bind ?_)))
  refine wpAny_nsSet1 (s := { s with toks := s.toks + 1 }) I.ns fun h' hn2 hs2 => ?_
  obtain ⟨oD, esD, epD, hoD, hdD, hcD⟩ := hn2.count (PySem.Within.cons name v hw)
  refine wpAny_bind (wpAny_lookBehind hoD (by rw [hdD]; exact pastItsLine_dict (Nat.le_trans hcD (by rw [List.length_cons]; omega))) ?_)
  exact wpAny_pure (h _ ⟨(hs2.2 _ (Ne.symm I.ne)).trans I.obj, hn2, I.ne⟩ hs2)
theorem make_map {R : Result → Shared → Prop} {vs : List Value} {kw : List (Str × Value)} (X : K.In s.heap) (hm : PySem.W.makesIn K C = true)
    (hi : PySem.W.findIn K (.ref C) "__init__" = some (some (.ref f))) (hf : PySem.W.typeIn K (.ref f) = some (.type "function"))
    (h : codeAny (model prog w) (A.under (.builtin "type.__call__" ⟨.ref C :: vs, kw⟩)) (.call (.ref f) ⟨.ref (s.heap.objs.size + 1) :: vs, kw⟩) (PySem.W.InitBack (s.heap.objs.size + 1) R)
      { s with heap := (s.heap.push PySem.W.emptyDict).push (PySem.W.instObj C s.heap.objs.size) }) :
    codeAny (model prog w) A (.call (.ref C) ⟨vs, kw⟩) R s := by
  obtain ⟨hh, g, d, t, os⟩ := s
  exact PySem.W.make_core (PySem.W.makes_of X hm) (PySem.W.looks_findIn X hi) (fun self => PySem.W.bind_fn X self hf) (.inl rfl) h
end
def putF (f : Str) (v : V) : List (Str × V) → List (Str × V)
  | [] => [(f, v)]
  | (g, x) :: r => if g = f then (g, v) :: r else (g, x) :: putF f v r
theorem lookup_putF (f g : Str) (v : V) : ∀ fs : List (Str × V), (putF f v fs).lookup g = if g = f then some v else fs.lookup g
  | [] => by
    show List.lookup g [(f, v)] = _
    by_cases h : g = f
    · have hb : (g == f) = true := beq_iff_eq.mpr h
      simp only [List.lookup, hb, if_pos h]
    · have hb : (g == f) = false := beq_eq_false_iff_ne.mpr h
      simp only [List.lookup, hb, if_neg h]
  | (k, x) :: r => by
    have ih := lookup_putF f g v r
    rw [show putF f v ((k, x) :: r) = (if k = f then (k, v) :: r else (k, x) :: putF f v r) from rfl]
    by_cases hk : k = f
    · rw [if_pos hk]
      by_cases h : g = k
      · have hb : (g == k) = true := beq_iff_eq.mpr h
        simp only [List.lookup, hb, if_pos (h.trans hk)]
      · have hb : (g == k) = false := beq_eq_false_iff_ne.mpr h
        simp only [List.lookup, hb, if_neg (fun e : g = f => h (e.trans hk.symm))]
    · rw [if_neg hk]
      by_cases h : g = k
      · have hb : (g == k) = true := beq_iff_eq.mpr h
        simp only [List.lookup, hb, if_neg (fun e : g = f => hk (h.symm.trans e))]
      · have hb : (g == k) = false := beq_eq_false_iff_ne.mpr h
        simp only [List.lookup, hb]
        exact ih
theorem keys_putF (f : Str) (v : V) : ∀ fs : List (Str × V), f ∈ (putF f v fs).map (·.1) ∧ ∀ g, g ∈ fs.map (·.1) → g ∈ (putF f v fs).map (·.1)
  | [] => ⟨by simp [putF], fun g h => by simp at h⟩
  | (k, x) :: r => by
    obtain ⟨i1, i2⟩ := keys_putF f v r
    rw [show putF f v ((k, x) :: r) = (if k = f then (k, v) :: r else (k, x) :: putF f v r) from rfl]
    by_cases hk : k = f
    · rw [if_pos hk]
      subst hk
      exact ⟨by simp, fun g h => by simpa using h⟩
    · rw [if_neg hk]
      refine ⟨?_, fun g h => ?_⟩
      · rw [List.map_cons]
        exact List.mem_cons_of_mem _ i1
      · rw [List.map_cons] at h ⊢
        rcases List.mem_cons.mp h with e | e
        · exact List.mem_cons.mpr (.inl e)
        · exact List.mem_cons_of_mem _ (i2 g e)
theorem length_putF (f : Str) (v : V) : ∀ fs : List (Str × V), (putF f v fs).length ≤ fs.length + 1
  | [] => by simp [putF]
  | (k, x) :: r => by
    have ih := length_putF f v r
    rw [show putF f v ((k, x) :: r) = (if k = f then (k, v) :: r else (k, x) :: putF f v r) from rfl]
    by_cases hk : k = f
    · rw [if_pos hk, List.length_cons, List.length_cons]; omega
    · rw [if_neg hk, List.length_cons, List.length_cons]; omega
theorem RelO.some_of {v : V} {o : Option Value} (r : RelO (some v) o) : ∃ u, o = some u ∧ RelV v u := by
  cases o with
  | none => exact (show False from r).elim
  | some u => exact ⟨u, rfl, r⟩
theorem handed_of {v : V} {u : Value} (r : RelV v u) : PySem.W.handedIn u = true := by
  cases v with
  | non => cases (show u = Value.none from r); rfl
  | bl b => cases (show u = Value.bool b from r); rfl
  | int i => obtain ⟨t, e⟩ := (show ∃ t, u = Value.int i t from r); cases e; rfl
  | str x => obtain ⟨t, e⟩ := (show ∃ t, u = Value.str x t from r); cases e; rfl
  | byt b => obtain ⟨t, e⟩ := (show ∃ t, u = Value.bytes b t from r); cases e; rfl
  | flt b => obtain ⟨t, e⟩ := (show ∃ t, u = Value.float b t from r); cases e; rfl
  | ref a => cases (show u = Value.ref a from r); rfl
  | ty n => cases (show u = Value.type n from r); rfl
section
variable {P : Program} {w : World} {H H' : Hp} {h h' : Heap} {a C dx : Addr} {fs fs' : List (Str × V)}
theorem ins_get (hok : HOk P w H h) (e : H a = some (.ins C dx fs)) : ∃ mA, ObjM h a dx C mA ∧ (∀ f, RelO (fs.lookup f) (mA f)) ∧ PySem.Within mA (fs.map (·.1)) ∧ fs.length ≤ 1000 ∧ H dx = some (.own a) := by
  obtain ⟨d, z, ne, ob, mA, n, r, q⟩ := (show ObjOk P w H h a (.ins C dx fs) from hok a _ e)
  exact ⟨mA, ⟨ob, n, ne⟩, r, q, z, d⟩
end
structure Cls (K : PySem.W.Frag) (C : Addr) : Prop where
  pg : PySem.W.plainGet K C Str.empty = true
  hd : PySem.W.hasDictIn K C = true
  po : PySem.W.plainOver K C = true
  sa : PySem.W.findIn K (.ref C) "__setattr__" = some (some (.builtin "object.__setattr__"))
theorem Cls.get {K : PySem.W.Frag} {C : Addr} (c : Cls K C) (f : Str) : PySem.W.plainGet K C f = true := c.pg
def NoAttr (K : PySem.W.Frag) (C : Addr) (f : Str) : Prop := PySem.W.findIn K (.ref C) f = some none
theorem NoAttr.taker {K : PySem.W.Frag} {C : Addr} {f : Str} (n : NoAttr K C f) : PySem.W.takerIn K C f = some none := by
  unfold PySem.W.takerIn
  rw [show PySem.W.findIn K (.ref C) f = some none from n]
  rfl
structure Con (K : PySem.W.Frag) (C : Addr) (f : Str) (v : V) (u : Value) : Prop where
  at_ : PySem.W.findIn K (.ref C) f = some (some u)
  rel : RelV v u
  get : PySem.W.specialIn K u "__get__" = some none
  cp : PySem.W.copiedNames.contains f = false
structure Meth (K : PySem.W.Frag) (C : Addr) (m : Str) (f : Addr) : Prop where
  at_ : PySem.W.findIn K (.ref C) m = some (some (.ref f))
  fn : PySem.W.isFn K (.ref f) = true
  kp : PySem.W.keepIn K (.ref f) = true
section
variable {X : Cx} {pins : List (Addr × Obj)} {σ : St} {H : Hp} {s : Shared} {a C dx : Addr} {fs : List (Str × V)} {f : Str} {v : V} {A : Around} {E : Value → Shared → Prop}
theorem getattr_ok {b : Bool} {Q : Value → Shared → Prop} (I : Inv X pins σ H s) (e : H a = some (.ins C dx fs)) (c : Cls X.K C) (n : NoAttr X.K C f) (l : fs.lookup f = some v)
    (h : ∀ u s', Inv X pins σ H s' → RelV v u → Q u s') : wpAny (model X.prog X.w) A (getAttr (.ref a) f b) Q E s := by
  obtain ⟨mA, O, r, _, _, _⟩ := ins_get I.hok e
  obtain ⟨u, hu, ru⟩ := RelO.some_of (v := v) (o := mA f) (by rw [← l]; exact r f)
  exact get_map I.kIn O (c.get f) c.hd n hu (handed_of ru) (h u _ (I.tok _) ru)
theorem setattr_ok {y : V} {u : Value} {Q : Unit → Shared → Prop} (I : Inv X pins σ H s) (e : H a = some (.ins C dx fs)) (c : Cls X.K C) (n : NoAttr X.K C f) (hl : fs.length < 1000) (ry : RelV y u)
    (h : ∀ s', Inv X pins σ (upd H a (.ins C dx (putF f y fs))) s' → Q () s') : wpAny (model X.prog X.w) A (setAttr (.ref a) f u) Q E s := by
  obtain ⟨mA, O, r, wi, _, ho⟩ := ins_get I.hok e
  have hz : (fs.map (·.1)).length ≤ sizeLine := by rw [List.length_map, sizeLine_eq]; omega
  refine set_map I.kIn O c.sa c.po n.taker c.hd wi hz fun h' O' sb => h _ ?_
  have hd : ∃ o, h'.get? dx = some o := let ⟨o, _, _, e', _⟩ := O'.ns; ⟨o, e'⟩
  refine I.write (x := a) (e := dx) (by rw [e]; exact True.intro) (.inr ho) (fun b q hb z => (sb.2 b hb).trans z) hd ?_
  refine ⟨by rw [upd_ne O.ne]; exact ho, ?_, O.ne, O'.obj, _, O'.ns, fun g => ?_, fun g hg => ?_⟩
  · have := length_putF f y fs; omega
  · show RelO ((putF f y fs).lookup g) (if g = f then some u else mA g)
    rw [lookup_putF]
    by_cases q : g = f
    · rw [if_pos q, if_pos q]; exact ry
    · rw [if_neg q, if_neg q]; exact r g
  · by_cases q : g = f
    · rw [q]; exact (keys_putF f y fs).1
    · refine (keys_putF f y fs).2 g (wi g fun z => hg ?_)
      show (if g = f then some u else mA g) = none
      rw [if_neg q]; exact z
theorem Inv.made (I : Inv X pins σ H s) : Inv X pins σ (upd (upd H s.heap.objs.size (.own (s.heap.objs.size + 1))) (s.heap.objs.size + 1) (.ins C s.heap.objs.size []))
    { s with heap := (s.heap.push PySem.W.emptyDict).push (PySem.W.instObj C s.heap.objs.size) } := by
  have e1 : (s.heap.push PySem.W.emptyDict).get? s.heap.objs.size = some PySem.W.emptyDict := Heap.get?_push_size s.heap rfl
  have e2 : ((s.heap.push PySem.W.emptyDict).push (PySem.W.instObj C s.heap.objs.size)).get? (s.heap.objs.size + 1) = some (PySem.W.instObj C s.heap.objs.size) := by
    have := Heap.get?_push_size (s.heap.push PySem.W.emptyDict) (o := PySem.W.instObj C s.heap.objs.size) rfl
    rwa [Heap.size_push] at this
  have e3 : (s.heap.push PySem.W.emptyDict).Ns s.heap.objs.size (fun _ => none) := ⟨PySem.W.emptyDict, #[], _, e1, rfl, (fun e he => absurd he (by simp)), fun _ => rfl⟩
  have I1 := I.laid (a := s.heap.objs.size) (o := .own (s.heap.objs.size + 1)) (h' := s.heap.push PySem.W.emptyDict) (t' := s.toks) (fun b u q => Heap.get?_push_of_some _ q) (Nat.le_refl _) ⟨_, e1⟩
  refine I1.laid (a := s.heap.objs.size + 1) (o := .ins C s.heap.objs.size []) (t' := s.toks) (fun b u q => Heap.get?_push_of_some _ q) (Nat.le_of_eq (Heap.size_push _ _)) ?_
  have ne : s.heap.objs.size ≠ s.heap.objs.size + 1 := Nat.ne_of_lt (Nat.lt_succ_self _)
  refine ⟨by rw [upd_ne ne, upd_same], Nat.zero_le _, ne, e2, fun _ => none, (Heap.Ns1.of_empty e3).at fun o q => Heap.get?_push_of_some _ q, fun _ => True.intro, fun y hy => absurd rfl hy⟩
theorem attr_of {prog : Program} {w : World} {env : Env} {e : Expr} {f : Str} {pos : Pos} {s : Shared} {Q : Value → Shared → Prop} (hb : attributeBase e f env (eval e env) = eval e env)
    (h : wpAny (model prog w) A (eval e env) (fun o s₁ => wpAny (model prog w) A (getAttr o f true) Q E s₁) E s) : wpAny (model prog w) A (eval (.Attribute e f pos) env) Q E s :=
  Attribute_any_ h (by rw [arm_eval_Attribute, hb])
end
def tFld (K : PySem.W.Frag) (ta : TE) (f : Str) : TE := fun σ H Q => ta σ H fun x H1 => ∃ a C dx fs v, x = .ref a ∧ H1 a = some (.ins C dx fs) ∧ Cls K C ∧ NoAttr K C f ∧ fs.lookup f = some v ∧ Q v H1
def sFld (K : PySem.W.Frag) (ta tv : TE) (f : Str) : TS := fun D σ H => tv σ H fun y H1 => ta σ H1 fun x H2 => ∃ a C dx fs, x = .ref a ∧ H2 a = some (.ins C dx fs) ∧ Cls K C ∧ NoAttr K C f ∧ fs.length < 1000 ∧
  D.nx σ (upd H2 a (.ins C dx (putF f y fs)))
section
variable {X : Cx} {o e value : Expr} {f : Str} {pos pos' tpos : Pos} {ta tv : TE}
theorem pe_fld (he : PE X e ta) (hb : attributeBase e f X.env (eval e X.env) = eval e X.env) : PE X (.Attribute e f pos) (tFld X.K ta f) := by
  constructor
  intro pins s σ H Q I h
  refine attr_of hb (thn (he pins s σ H _ I h) fun u s1 ⟨x, H1, I1, rx, a, C, dx, fs, v, ex, ea, c, n, l, q⟩ => ?_)
  subst ex
  obtain rfl : u = Value.ref a := rx
  exact getattr_ok I1 ea c n l fun u' s2 I2 ru => ⟨v, H1, I2, ru, q⟩
theorem ps_fld (ha : PE X o ta) (hv : PE X value tv) (hs : swapsWith value (some (.Attribute o f pos')) pos.line X.env = pure false) : PS X (.Assign [.Attribute o f pos'] value pos) (sFld X.K ta tv f) := by
  constructor
  intro pins s σ H D I h
  refine plainObj_wpAny_Assign_Attribute (thn (hv pins s σ H _ I h) fun u s1 ⟨y, H1, I1, ry, q⟩ => thn (ha pins s1 σ H1 _ I1 q) fun ov s2 ⟨x, H2, I2, rx, a, C, dx, fs, ex, ea, c, n, l, q2⟩ => ?_) hs
  subst ex
  obtain rfl : ov = Value.ref a := rx
  exact setattr_ok I2 ea c n l ry fun s3 I3 => ⟨σ, _, I3, q2⟩
end
section
variable {X : Cx} {pins : List (Addr × Obj)} {σ : St} {H : Hp} {s : Shared} {A : Around} {E : Value → Shared → Prop} {Q : Value → Shared → Prop} {c : Value} {b : Bool}
inductive TyOf (K : PySem.W.Frag) (H : Hp) : V → Value → Prop where
  | non : TyOf K H .non (.type "NoneType")
  | bl (x : Bool) : TyOf K H (.bl x) (.type "bool")
  | int (i : Int) : TyOf K H (.int i) (.type "int")
  | str (x : Str) : TyOf K H (.str x) (.type "str")
  | flt (x : UInt64) : TyOf K H (.flt x) (.type "float")
  | lst {a : Addr} {xs : List V} (e : H a = some (.lst xs)) : TyOf K H (.ref a) (.type "list")
  | frz {a : Addr} {o : Obj} {xs : List V} (e : H a = some (.frz o (.lst xs))) : TyOf K H (.ref a) (.type "list")
  | tup {a : Addr} {xs : List V} (e : H a = some (.tup xs)) : TyOf K H (.ref a) (.type "tuple")
  | dK {a : Addr} {kvs : List (Key × V)} (e : H a = some (.dK kvs)) : TyOf K H (.ref a) (.type "dict")
  | dT {a : Addr} {kvs : List (List Key × V)} (e : H a = some (.dT kvs)) : TyOf K H (.ref a) (.type "dict")
  | ins {a C dx : Addr} {fs : List (Str × V)} (e : H a = some (.ins C dx fs)) (cl : Cls K C) (ha : PySem.W.findIn K (.ref C) "__class__" = some (some (.builtin "object.__class__")))
      (hn : PySem.W.specialIn K (.builtin "object.__class__") "__get__" = some (some (.builtin "getset_descriptor.__get__"))) (htk : PySem.W.takesIn K (.builtin "object.__class__") = some true)
      (hm : PySem.W.mroIn K C (.type "object") = some true) : TyOf K H (.ref a) (.ref C)
theorem isinst_ok {x : V} {u t : Value} (I : Inv X pins σ H s) (rx : RelV x u) (ty : TyOf X.K H x t) (e : PySem.W.kitOne X.K t c = some b) (h : ∀ tk, Q (.bool b) { s with toks := tk }) :
    wpAny (model X.prog X.w) A (call (.builtin "isinstance") [u, c]) Q E s := by
  cases ty with
  | non => cases (show u = Value.none from rx); exact PySem.W.kia_one PySem.W.kitx_none I.kIn True.intro e (fun z => nomatch z) h
  | bl y => cases (show u = Value.bool y from rx); exact PySem.W.kia_one PySem.W.kitx_bool I.kIn True.intro e (fun z => nomatch z) h
  | int i => obtain ⟨t, q⟩ := (show ∃ t, u = Value.int i t from rx); cases q; exact PySem.W.kia_one PySem.W.kitx_int I.kIn True.intro e (fun z => nomatch z) h
  | str y => obtain ⟨t, q⟩ := (show ∃ t, u = Value.str y t from rx); cases q; exact PySem.W.kia_one PySem.W.kitx_str I.kIn True.intro e (fun z => nomatch z) h
  | flt y => obtain ⟨t, q⟩ := (show ∃ t, u = Value.float y t from rx); cases q; exact PySem.W.kia_one PySem.W.kitx_float I.kIn True.intro e (fun z => nomatch z) h
  | @lst a xs ea =>
    cases (show u = Value.ref a from rx)
    obtain ⟨_, _, n, _, h1⟩ := (show ObjOk X.prog X.w H s.heap a (.lst xs) from I.hok a _ ea)
    exact PySem.W.kia_one PySem.W.kitx_list I.kIn ⟨_, h1, rfl⟩ e (fun z => nomatch z) h
  | @frz a ob xs ea =>
    cases (show u = Value.ref a from rx)
    obtain ⟨_, _, _, n, _, h1⟩ := (show ObjOk X.prog X.w H s.heap a (.frz ob (.lst xs)) from I.hok a _ ea)
    exact PySem.W.kia_one PySem.W.kitx_list I.kIn ⟨_, h1, rfl⟩ e (fun z => nomatch z) h
  | @tup a xs ea =>
    cases (show u = Value.ref a from rx)
    obtain ⟨_, _, _, p⟩ := (show ObjOk X.prog X.w H s.heap a (.tup xs) from I.hok a _ ea)
    obtain ⟨o, h1, h2, _⟩ := p
    exact PySem.W.kia_one PySem.W.kitx_tuple I.kIn ⟨o, h1, h2⟩ e (fun z => nomatch z) h
  | @dK a kvs ea =>
    cases (show u = Value.ref a from rx)
    obtain ⟨_, _, vs, _, p⟩ := (show ObjOk X.prog X.w H s.heap a (.dK kvs) from I.hok a _ ea)
    obtain ⟨o, es, ep, h1, h2, _⟩ := p
    exact PySem.W.kia_one PySem.W.kitx_dict I.kIn ⟨o, h1, h2.1⟩ e (fun z => nomatch z) h
  | @dT a kvs ea =>
    cases (show u = Value.ref a from rx)
    obtain ⟨_, _, xs, _, o, es, ep, h1, h2, _⟩ := (show ObjOk X.prog X.w H s.heap a (.dT kvs) from I.hok a _ ea)
    exact PySem.W.kia_one PySem.W.kitx_dict I.kIn ⟨o, h1, h2.1⟩ e (fun z => nomatch z) h
  | @ins a C dx fs ea cl ha hn htk hm =>
    cases (show u = Value.ref a from rx)
    obtain ⟨mA, O, _⟩ := ins_get I.hok ea
    obtain ⟨od, J, _⟩ := O.look
    exact PySem.W.kia_one (PySem.W.kitx_own (cl.get _) cl.hd ha hn htk hm) I.kIn J e (fun z => nomatch z) h
end
end L2
namespace L2
open PySem PySem.Spec PyProof.Rows
structure Room (k : Nat) (A : Around) : Prop where
  hd : A.handled = none
  dp : A.depth + 3 * k + 5 < recursionLimit
  un : A.units + 16 * k + 200 < cLine
  gd : A.guards = some []
theorem Room.mono {j k : Nat} {A : Around} (r : Room k A) (h : j ≤ k) : Room j A := ⟨r.hd, by have := r.dp; omega, by have := r.un; omega, r.gd⟩
theorem Room.deeper {k : Nat} {A : Around} (r : Room (k + 1) A) (env : Env) : Room k (A.deeper env) :=
  ⟨r.hd, by have := r.dp; show A.depth + 1 + 3 * k + 5 < _; omega, by have := r.un; show A.units + 3 + 16 * k + 200 < _; omega, r.gd⟩
theorem Room.in1 {k : Nat} {A : Around} (r : Room (k + 1) A) : Room k A.in1 :=
  ⟨r.hd, by have := r.dp; show A.depth + 3 * k + 5 < _; omega, by have := r.un; show A.units + 1 + 16 * k + 200 < _; omega, r.gd⟩
theorem make_depth {A : Around} {C : Addr} {us : List Value} {kw : List (Str × Value)} : (A.under (.builtin "type.__call__" ⟨.ref C :: us, kw⟩)).depth = A.depth + 1 := by
  first | rfl | simp [Around.under, Code.weight, Code.isCreation, Code.isGuard, Code.isCaller, Code.frames, Code.isFrame, guardIds]
theorem make_units {A : Around} {C : Addr} {us : List Value} {kw : List (Str × Value)} : (A.under (.builtin "type.__call__" ⟨.ref C :: us, kw⟩)).units = A.units + 1 := by
  first | rfl | simp [Around.under, Code.cUnits, Code.frames, Code.isFrame]
theorem make_guards {A : Around} {C : Addr} {us : List Value} {kw : List (Str × Value)} : (A.under (.builtin "type.__call__" ⟨.ref C :: us, kw⟩)).guards = A.guards := by
  cases h : A.guards <;> simp [Around.under, pushGuards, Code.guards, Code.isGuard, guardIds, h]
theorem Room.make {k : Nat} {A : Around} (r : Room (k + 1) A) (C : Addr) (us : List Value) (kw : List (Str × Value)) : Room k (A.under (.builtin "type.__call__" ⟨.ref C :: us, kw⟩)) :=
  ⟨r.hd, by have := r.dp; rw [make_depth]; omega, by have := r.un; rw [make_units]; omega, by rw [make_guards]; exact r.gd⟩
theorem Room.depth {k : Nat} {A : Around} (r : Room k A) : A.depth < recursionLimit := by have := r.dp; omega
theorem Room.units {k : Nat} {A : Around} (r : Room k A) : A.units + 64 < cLine := by have := r.un; omega
def tNil : TA := fun _ H Q => Q [] H
def tCons (ta : TE) (tr : TA) : TA := fun σ H Q => ta σ H fun x H1 => tr σ H1 fun xs H2 => Q (x :: xs) H2
section
variable {X : Cx} {e : Expr} {es : List Expr} {te : TE} {t : TA} {pos : Pos}
theorem pa_nil : PA X [] tNil := ⟨fun _ _ _ _ H Q I h => Calls.spliced_nil ⟨[], H, I, .nil, h⟩⟩
theorem pa_cons (ha : PE X e te) (hr : PA X es t) (hs : starEach (e :: es) X.env = (false, eval e X.env) :: starEach es X.env := by rfl) : PA X (e :: es) (tCons te t) := by
  constructor
  intro pos pins s σ H Q I h
  rw [hs]
  show wpAny _ _ (spliced ((false, eval e X.env) :: backTo pos (starEach es X.env))) _ _ s
  refine Calls.spliced_cons (thn (ha pins s σ H _ I h) fun u s1 ⟨x, H1, I1, r1, q1⟩ => ?_)
  exact thn (hr pos pins s1 σ H1 _ I1 q1) fun us s2 ⟨xs, H2, I2, r2, q2⟩ => ⟨x :: xs, H2, I2, .cons r1 r2, q2⟩
def tTup (t : TA) : TE := fun σ H Q => t σ H fun xs H1 => xs.length ≤ sizeLine ∧ ∀ p, H1 p = none → Q (.ref p) (upd H1 p (.tup xs))
def tLst (t : TA) : TE := fun σ H Q => t σ H fun xs H1 => xs.length ≤ sizeLine ∧ ∀ p, H1 p = none → Q (.ref p) (upd H1 p (.lst xs))
theorem pe_tup {x1} (h : PA X es t) : PE X (.Tuple es x1 pos) (tTup t) := by
  constructor
  intro pins s σ H Q I hq
  refine wpAny_Tuple_spliced (thn (h pos pins s σ H _ I hq) fun us s1 ⟨xs, H1, I1, r, z, q⟩ => ⟨by rw [← r.length]; exact z, ?_⟩)
  have hf : H1 s1.heap.objs.size = none := I1.hok.fresh (Nat.le_refl _)
  refine ⟨.ref s1.heap.objs.size, upd H1 s1.heap.objs.size (.tup xs), I1.laid (t' := s1.toks) (fun b u e => Heap.get?_push_of_some _ e) (Nat.le_refl _) ?_, rfl, q _ hf⟩
  exact ⟨z, us, r, ⟨_, Heap.get?_push_size _ rfl, rfl, _, rfl⟩⟩
theorem pe_lst (h : PA X es t) : PE X (.List es pos) (tLst t) := by
  constructor
  intro pins s σ H Q I hq
  refine wpAny_List_spliced (thn (h pos pins s σ H _ I hq) fun us s1 ⟨xs, H1, I1, r, z, q⟩ => ⟨by rw [← r.length]; exact z, ?_⟩)
  have hf : H1 s1.heap.objs.size = none := I1.hok.fresh (Nat.le_refl _)
  refine ⟨.ref s1.heap.objs.size, upd H1 s1.heap.objs.size (.lst xs), I1.laid (t' := s1.toks) (fun b u e => Heap.get?_push_of_some _ e) (Nat.le_refl _) ?_, rfl, q _ hf⟩
  exact ⟨z, us, 0, r, Heap.get?_push_size _ rfl⟩
end
abbrev Sp := List V → Hp → VK → XK → Prop
abbrev CXT := List Env → Hp → Shared → XK → Value → Shared → Prop
structure Env0 (P : Program) (w : World) (K : PySem.W.Frag) (mg : Str → Option Value) (base : Heap) (A : Around) (outer : List Env) (s : Shared) (H : Hp) : Prop where
  frames : A.frames = some outer
  mod : Mod K mg base
  bs : ∀ b o, base.get? b = some o → s.heap.get? b = some o ∧ H b = none
  bsz : base.objs.size ≤ s.heap.objs.size
  funs : s.heap.FunFrames base outer
  frf : ∀ b ∈ frs outer, H b = none
  hok : HOk P w H s.heap
  bare : AllBare s.gens
def CE (outer : List Env) (P : Program) (w : World) (H : Hp) (s : Shared) (Q : VK) (u : Value) (s' : Shared) : Prop :=
  ∃ v H', s'.os = s.os ∧ AllBare s'.gens ∧ Un (frs outer) [] H H' s.heap s'.heap ∧ HOk P w H' s'.heap ∧ RelV v u ∧ Q v H'
def CR (CX : CXT) (outer : List Env) (P : Program) (w : World) (H : Hp) (s : Shared) (Q : VK) (E : XK) (r : Result) (s' : Shared) : Prop :=
  match r with
  | .ok (.ret u) => CE outer P w H s Q u s'
  | .ok _ => False
  | .error e => CX outer H s E e s'
structure FnOk (P : Program) (w : World) (K : PySem.W.Frag) (mg : Str → Option Value) (base : Heap) (CX : CXT) (k : Nat) (f : Addr) (fd : FuncData) (ps : List Str) (sp : Sp) : Prop where
  len : ∀ vs H Q E, sp vs H Q E → vs.length = ps.length
  run : ∀ (A : Around) (outer : List Env) (s : Shared) (H : Hp) (args : Args) (us : List Value) (vs : List V) (Q : VK) (E : XK), Room k A → Env0 P w K mg base A outer s H → BindsTo s fd args (ps.zip us) → Vals vs us → sp vs H Q E →
    codeAny (model P w) A (.call (.ref f) args) (CR CX outer P w H s Q E) s
theorem FnOk.mono {P : Program} {w : World} {K : PySem.W.Frag} {mg : Str → Option Value} {base : Heap} {CX : CXT} {j k : Nat} {f : Addr} {fd : FuncData} {ps : List Str} {sp : Sp} (F : FnOk P w K mg base CX j f fd ps sp) (h : j ≤ k) :
    FnOk P w K mg base CX k f fd ps sp := ⟨F.len, fun A outer s H args us vs Q E hr => F.run A outer s H args us vs Q E (hr.mono h)⟩
theorem FnOk.imp {P : Program} {w : World} {K : PySem.W.Frag} {mg : Str → Option Value} {base : Heap} {CX : CXT} {k : Nat} {f : Addr} {fd : FuncData} {ps : List Str} {sp sp' : Sp} (F : FnOk P w K mg base CX k f fd ps sp)
    (h : ∀ vs H Q E, sp' vs H Q E → sp vs H Q E) : FnOk P w K mg base CX k f fd ps sp' :=
  ⟨fun vs H Q E q => F.len vs H Q E (h _ _ _ _ q), fun A outer s H args us vs Q E hr he hb hv hs => F.run A outer s H args us vs Q E hr he hb hv (h _ _ _ _ hs)⟩
theorem Env0.make {P : Program} {w : World} {K : PySem.W.Frag} {mg : Str → Option Value} {base : Heap} {A : Around} {outer : List Env} {s : Shared} {H : Hp} (e : Env0 P w K mg base A outer s H) (C : Addr) (us : List Value) (kw : List (Str × Value)) :
    Env0 P w K mg base (A.under (.builtin "type.__call__" ⟨.ref C :: us, kw⟩)) outer s H := ⟨by first | exact e.frames | (simpa [Around.under, Code.envs, Code.isFrame, pushEnvs] using e.frames), e.mod, e.bs, e.bsz, e.funs, e.frf, e.hok, e.bare⟩
theorem Env0.in1 {P : Program} {w : World} {K : PySem.W.Frag} {mg : Str → Option Value} {base : Heap} {A : Around} {outer : List Env} {s : Shared} {H : Hp} (e : Env0 P w K mg base A outer s H) :
    Env0 P w K mg base A.in1 outer s H := ⟨e.frames, e.mod, e.bs, e.bsz, e.funs, e.frf, e.hok, e.bare⟩
section
variable {X : Cx} {pins : List (Addr × Obj)} {σ : St} {H : Hp} {s s' : Shared}
theorem Inv.env0 (I : Inv X pins σ H s) : Env0 X.prog X.w X.K X.mg X.base X.A X.stack s H :=
  ⟨I.ok.frames, I.ok.mod, I.bs, Nat.le_trans I.ok.bsz I.sz, I.stack, I.stkFree, I.hok, I.bare⟩
theorem Inv.after {Q : VK} {u : Value} (I : Inv X pins σ H s) (h : CE X.stack X.prog X.w H s Q u s') : EP X pins σ Q u s' := by
  obtain ⟨v, H', os, bare, un, hok, r, q⟩ := h
  obtain ⟨hh, g, d, t, os'⟩ := s'
  obtain rfl : os' = s.os := os
  exact ⟨v, H', I.call (h' := hh) (g' := g) (d' := d) (t' := t) (ch := []) un hok bare (fun b z => absurd z (by simp)), r, q⟩
end
def tCall (sp : Sp) (dvs : List V) (E : XK) (t : TA) : TE := fun σ H Q => t σ H fun vs H1 => sp (vs ++ dvs) H1 Q E
def tMake (C : Addr) (sp : Sp) (dvs : List V) (E : XK) (t : TA) : TE := fun σ H Q => t σ H fun vs H1 => ∀ x dx, H1 x = none → H1 dx = none → dx ≠ x →
  sp (.ref x :: (vs ++ dvs)) (upd (upd H1 dx (.own x)) x (.ins C dx [])) (fun v H2 => v = .non ∧ Q (.ref x) H2) E
def Binds (K : PySem.W.Frag) (fd : FuncData) (ps : List Str) (ds : List Value) : Prop :=
  ∀ (s : Shared) (us : List Value), K.In s.heap → (us ++ ds).length = ps.length → BindsTo s fd ⟨us, []⟩ (ps.zip (us ++ ds))
theorem Binds.all {K : PySem.W.Frag} {fd : FuncData} {ps : List Str} (h : ∀ us : List Value, us.length = ps.length → bindArgs fd ⟨us, []⟩ = pure (ps.zip us)) : Binds K fd ps [] := fun s us _ hl => by
  rw [List.append_nil] at hl ⊢
  exact .of_eq (h us hl)
def Passes (CX : CXT) (X : Cx) (E : XK) : Prop := ∀ (pins : List (Addr × Obj)) (σ : St) (H : Hp) (s : Shared) (e : Value) (s' : Shared), Inv X pins σ H s → CX X.stack H s E e s' → X.xe e s'
section
variable {X : Cx} {CX : CXT} {k : Nat} {f C : Addr} {fd : FuncData} {ps : List Str} {sp : Sp} {dvs : List V} {ds : List Value} {E : XK} {x m : Str} {p pos apos : Pos} {e o : Expr} {es : List Expr} {ta : TE} {t : TA}
theorem run_fn {pins : List (Addr × Obj)} {σ : St} {H : Hp} {s : Shared} {Q : VK} {us : List Value} {vs : List V} (F : FnOk X.prog X.w X.K X.mg X.base CX k f fd ps sp) (hr : Room k X.A) (hb : Binds X.K fd ps ds) (hd : Vals dvs ds) (hx : Passes CX X E)
    (I : Inv X pins σ H s) (r : Vals vs us) (h : sp (vs ++ dvs) H Q E) : wpAny (model X.prog X.w) X.A (call (.ref f) us) (EP X pins σ Q) X.xe s := by
  have r2 : Vals (vs ++ dvs) (us ++ ds) := r.append hd
  have hl : (us ++ ds).length = ps.length := by rw [← r2.length]; exact F.len _ _ _ _ h
  refine wpAny_call (codeAny_mono (F.run X.A X.stack s H ⟨us, []⟩ (us ++ ds) (vs ++ dvs) Q E hr I.env0 (hb s us I.kIn hl) r2 h) fun r s' hq => ?_)
  cases r with
  | error e => exact hx pins σ H s e s' I hq
  | ok fl =>
    cases fl with
    | ret u => exact I.after hq
    | next => exact False.elim hq
    | brk => exact False.elim hq
    | cont => exact False.elim hq
theorem pe_call (F : FnOk X.prog X.w X.K X.mg X.base CX k f fd ps sp) (hr : Room k X.A) (hg : Gl X x) (hm : X.mg x = some (.ref f)) (hk : PySem.W.keepIn X.K (.ref f) = true) (hb : Binds X.K fd ps ds) (hd : Vals dvs ds) (hx : Passes CX X E)
    (ha : PA X (e :: es) t) (hdb : (x == ("__debug__" : Str)) = false := by decide) (he : starEach (e :: es) X.env = (false, eval e X.env) :: starEach es X.env := by rfl) (hpl : (backTo pos (starEach es X.env)).any (·.1) = false := by rfl) :
    PE X (.Call (.Name x p) (e :: es) [] pos) (tCall sp dvs E t) := by
  constructor
  intro pins s σ H Q I h
  refine wpAny_Call_Name_kw (ld_glob I hg hm ?_ hdb)
  refine PySem.W.callWith_K (h₀ := X.base) I.ok.mod.kin hk (thn (ha pos pins s σ H _ I h) fun us s1 ⟨vs, H1, I1, r, q⟩ => ⟨I1.kIn, ?_⟩) he hpl
  exact run_fn F hr hb hd hx I1 r q
structure Mk (K : PySem.W.Frag) (C f : Addr) : Prop where
  makes : PySem.W.makesIn K C = true
  init : PySem.W.findIn K (.ref C) "__init__" = some (some (.ref f))
  fn : PySem.W.isFn K (.ref f) = true
  kp : PySem.W.keepIn K (.ref C) = true
theorem run_make {pins : List (Addr × Obj)} {σ : St} {H : Hp} {s : Shared} {Q : VK} {us : List Value} {vs : List V} (M : Mk X.K C f) (F : FnOk X.prog X.w X.K X.mg X.base CX k f fd ps sp) (hr : Room (k + 1) X.A) (hb : Binds X.K fd ps ds) (hd : Vals dvs ds)
    (hx : Passes CX X E) (I : Inv X pins σ H s) (r : Vals vs us)
    (h : ∀ x dx, H x = none → H dx = none → dx ≠ x → sp (.ref x :: (vs ++ dvs)) (upd (upd H dx (.own x)) x (.ins C dx [])) (fun v H2 => v = .non ∧ Q (.ref x) H2) E) :
    wpAny (model X.prog X.w) X.A (call (.ref C) us) (EP X pins σ Q) X.xe s := by
  have hq := h (s.heap.objs.size + 1) s.heap.objs.size (I.hok.fresh (Nat.le_succ _)) (I.hok.fresh (Nat.le_refl _)) (Nat.ne_of_lt (Nat.lt_succ_self _))
  have I2 := Inv.made (C := C) I
  have r2 : Vals (V.ref (s.heap.objs.size + 1) :: (vs ++ dvs)) (Value.ref (s.heap.objs.size + 1) :: (us ++ ds)) := .cons rfl (r.append hd)
  have hl : (Value.ref (s.heap.objs.size + 1) :: us ++ ds).length = ps.length := by
    have e := r2.length
    rw [F.len _ _ _ _ hq] at e
    exact e.symm
  refine wpAny_call (make_map (f := f) I.kIn M.makes M.init (beq_iff_eq.mp M.fn) (codeAny_mono (F.run _ X.stack _ _ ⟨Value.ref (s.heap.objs.size + 1) :: us, []⟩ (Value.ref (s.heap.objs.size + 1) :: (us ++ ds)) _ _ E (hr.make C us [])
    (I2.env0.make C us []) (hb _ (Value.ref (s.heap.objs.size + 1) :: us) I2.kIn hl) r2 hq) fun r s' hq' => ?_))
  cases r with
  | error e => exact hx pins σ _ _ e s' I2 hq'
  | ok fl =>
    cases fl with
    | ret u =>
      obtain ⟨v, H', I3, rv, ev, q3⟩ := I2.after hq'
      subst ev
      exact ⟨rv, ⟨V.ref (s.heap.objs.size + 1), H', I3, rfl, q3⟩⟩
    | next => exact False.elim hq'
    | brk => exact False.elim hq'
    | cont => exact False.elim hq'
theorem pe_make (M : Mk X.K C f) (F : FnOk X.prog X.w X.K X.mg X.base CX k f fd ps sp) (hr : Room (k + 1) X.A) (hg : Gl X x) (hm : X.mg x = some (.ref C)) (hb : Binds X.K fd ps ds) (hd : Vals dvs ds) (hx : Passes CX X E)
    (ha : PA X (e :: es) t) (hdb : (x == ("__debug__" : Str)) = false := by decide) (he : starEach (e :: es) X.env = (false, eval e X.env) :: starEach es X.env := by rfl) (hpl : (backTo pos (starEach es X.env)).any (·.1) = false := by rfl) :
    PE X (.Call (.Name x p) (e :: es) [] pos) (tMake C sp dvs E t) := by
  constructor
  intro pins s σ H Q I h
  refine wpAny_Call_Name_kw (ld_glob I hg hm ?_ hdb)
  refine PySem.W.callWith_K (h₀ := X.base) I.ok.mod.kin M.kp (thn (ha pos pins s σ H _ I h) fun us s1 ⟨vs, H1, I1, r, q⟩ => ⟨I1.kIn, ?_⟩) he hpl
  exact run_make M F hr hb hd hx I1 r q
end
structure PK (X : Cx) (kws : List Keyword) (t : TA) : Prop where
  run : ∀ (pos : Pos) (pins : List (Addr × Obj)) (s : Shared) (σ : St) (H : Hp) (Q : List V → Hp → Prop), Inv X pins σ H s → t σ H Q → wpAny (model X.prog X.w) X.A (evalAll ((backToKw pos (keywordEach kws X.env)).map (·.2))) (AP X pins σ Q) X.xe s
instance {X : Cx} {kws : List Keyword} {t : TA} : CoeFun (PK X kws t) (fun _ => ∀ (pos : Pos) (pins : List (Addr × Obj)) (s : Shared) (σ : St) (H : Hp) (Q : List V → Hp → Prop), Inv X pins σ H s → t σ H Q → wpAny (model X.prog X.w) X.A (evalAll ((backToKw pos (keywordEach kws X.env)).map (·.2))) (AP X pins σ Q) X.xe s) := ⟨PK.run⟩
section
variable {X : Cx} {CX : CXT} {k : Nat} {f C : Addr} {fd : FuncData} {ps ks : List Str} {sp : Sp} {E : XK} {x m : Str} {p pos apos kpos : Pos} {e o : Expr} {es : List Expr} {kws : List Keyword} {te ta : TE} {t tk : TA} {nm : Option Str}
theorem pk_nil : PK X [] tNil := ⟨fun _ _ _ _ H Q I h => wpAny_evalAll_nil ⟨[], H, I, .nil, h⟩⟩
theorem pk_cons (ha : PE X e te) (hr : PK X kws t) : PK X (⟨nm, e, kpos⟩ :: kws) (tCons te t) := by
  constructor
  intro pos pins s σ H Q I h
  show wpAny _ _ (evalAll ((do let v ← eval e X.env; standAt pos; pure v) :: (backToKw pos (keywordEach kws X.env)).map (·.2))) _ _ s
  refine wpAny_evalAll_cons (wpAny_bind (thn (ha pins s σ H _ I h) fun u s1 ⟨x, H1, I1, r1, q1⟩ => wpAny_bind (wpAny_standAt (wpAny_pure ?_))))
  exact thn (hr pos pins s1 σ H1 _ I1 q1) fun us s2 ⟨xs, H2, I2, r2, q2⟩ => ⟨x :: xs, H2, I2, .cons r1 r2, q2⟩
structure KBinds (K : PySem.W.Frag) (fd : FuncData) (ps ks : List Str) (g : List Value → List Value → List Value) (gV : List V → List V → List V) : Prop where
  to : ∀ (s : Shared) (us ws : List Value), K.In s.heap → (g us ws).length = ps.length → BindsTo s fd ⟨us, ks.zip ws⟩ (ps.zip (g us ws))
  rel : ∀ {vs : List V} {us : List Value} {zs : List V} {ws : List Value}, Vals vs us → Vals zs ws → Vals (gV vs zs) (g us ws)
variable {g : List Value → List Value → List Value} {gV : List V → List V → List V}
end
structure FnScope (N P : List Str) (sc : Scope) : Prop where
  kind : sc.kind = .function
  co : sc.isCoroutine = false
  gen : sc.isGenerator = false
  nd : N.Nodup
  pre : N.take P.length = P
  par : ∀ x ∈ P, sc.names.lookup x = some .local ∨ sc.names.lookup x = some .cell
  nofree : ∀ y ∈ sc.names, y.2 ≠ .free
theorem bindL_out {kindOf : Str → Option NameKind} {x : Str} : ∀ {binds : List (Str × Value)} {m : Str → Option Value}, (∀ v, (x, v) ∉ binds) → bindL kindOf binds m x = m x
  | [], _, _ => rfl
  | (n, v) :: r, m, h => by
    unfold bindL
    rw [bindL_out fun w hw => h w (List.mem_cons_of_mem _ hw)]
    split
    · have : x ≠ n := by rintro rfl; exact h v List.mem_cons_self
      simp [this]
    · rfl
theorem bindC_out {kindOf : Str → Option NameKind} {x : Str} : ∀ {binds : List (Str × Value)} {m : Str → Option Value}, (∀ v, (x, v) ∉ binds) → bindC kindOf binds m x = m x
  | [], _, _ => rfl
  | (n, v) :: r, m, h => by
    unfold bindC
    rw [bindC_out fun w hw => h w (List.mem_cons_of_mem _ hw)]
    split
    · rfl
    · have : x ≠ n := by rintro rfl; exact h v List.mem_cons_self
      simp [this]
theorem bindL_get {kindOf : Str → Option NameKind} {x : Str} {v : Value} : ∀ {P : List Str} {vs : List Value} {i : Nat} {m : Str → Option Value}, P.Nodup → P[i]? = some x → vs[i]? = some v → kindOf x = some .local →
    bindL kindOf (P.zip vs) m x = some v
  | [], _, _, _, _, h, _, _ => by simp at h
  | _ :: _, [], _, _, _, _, h, _ => by simp at h
  | p :: P, w :: vs, 0, m, nd, h1, h2, hk => by
    simp at h1 h2; subst h1; subst h2
    show bindL kindOf ((p, w) :: P.zip vs) m p = _
    unfold bindL
    rw [bindL_out fun v hv => (List.nodup_cons.mp nd).1 (List.of_mem_zip hv).1, if_pos hk]
    simp
  | p :: P, w :: vs, i + 1, m, nd, h1, h2, hk => by
    show bindL kindOf ((p, w) :: P.zip vs) m x = _
    unfold bindL
    exact bindL_get (i := i) (List.nodup_cons.mp nd).2 (by simpa using h1) (by simpa using h2) hk
theorem bindC_get {kindOf : Str → Option NameKind} {x : Str} {v : Value} : ∀ {P : List Str} {vs : List Value} {i : Nat} {m : Str → Option Value}, P.Nodup → P[i]? = some x → vs[i]? = some v → kindOf x ≠ some .local →
    bindC kindOf (P.zip vs) m x = some v
  | [], _, _, _, _, h, _, _ => by simp at h
  | _ :: _, [], _, _, _, _, h, _ => by simp at h
  | p :: P, w :: vs, 0, m, nd, h1, h2, hk => by
    simp at h1 h2; subst h1; subst h2
    show bindC kindOf ((p, w) :: P.zip vs) m p = _
    unfold bindC
    rw [bindC_out fun v hv => (List.nodup_cons.mp nd).1 (List.of_mem_zip hv).1, if_neg hk]
    simp
  | p :: P, w :: vs, i + 1, m, nd, h1, h2, hk => by
    show bindC kindOf ((p, w) :: P.zip vs) m x = _
    unfold bindC
    exact bindC_get (i := i) (List.nodup_cons.mp nd).2 (by simpa using h1) (by simpa using h2) hk
def start (N : List Str) (vs : List V) : St := vs.map some ++ List.replicate (N.length - vs.length) none
def cxOf (CX : CXT) (P : Program) (w : World) (K : PySem.W.Frag) (mg : Str → Option Value) (base : Heap) (N : List Str) (qual : Str) (scope : Scope) (f : Addr) (cd : Value) (A : Around) (outer : List Env) (s : Shared) (H : Hp) (E : XK) : Cx where
  prog := P
  w := w
  K := K
  mg := mg
  base := base
  A := A.deeper (envOfC qual scope s.heap.objs.size f cd)
  N := N
  s_0 := s
  H_0 := H
  env := envOfC qual scope s.heap.objs.size f cd
  outer := outer
  stack := envOfC qual scope s.heap.objs.size f cd :: outer
  ex := []
  calm := true
  fn := fun _ => true
  pn := []
  xe := fun e s' => wpAny (model P w) (A.deeper (envOfC qual scope s.heap.objs.size f cd)) (leaving (envOfC qual scope s.heap.objs.size f cd) e) (fun _ s'' => CX outer H s E e s'') (fun e' s'' => CX outer H s E e' s'') s'
theorem cell_has {sc : Scope} {n : Nat} {x : Str} (h : sc.names.lookup x = some .cell) : ∃ c, (cellsFrom n sc.names []).lookup x = some c := by
  have q := PySem.W.cellsFrom_some sc.names n [] (.inl h)
  exact Option.isSome_iff_exists.mp q
theorem inv_start {CX : CXT} {P : Program} {w : World} {K : PySem.W.Frag} {mg : Str → Option Value} {base : Heap} {N ps : List Str} {qual : Str} {scope : Scope} {f : Addr} {cd : Value} {A : Around} {outer : List Env} {s s1 : Shared} {H : Hp} {E : XK} {us : List Value} {vs : List V}
    (S : FnScope N ps scope) (hd : A.handled = none) (e0 : Env0 P w K mg base A outer s H) (hl : vs.length = ps.length) (r : Vals vs us)
    (x : InCallC s s.heap.objs.size (bindL (envOfC qual scope s.heap.objs.size f cd).kindOf (ps.zip us) fun _ => none) (cellsFrom (s.heap.objs.size + 1) scope.names []) (bindC (envOfC qual scope s.heap.objs.size f cd).kindOf (ps.zip us) fun _ => none) s1) :
    Inv (cxOf CX P w K mg base N qual scope f cd A outer s H E) [] (start N vs) H s1 := by
  have hpl : ps.length ≤ N.length := by have := congrArg List.length S.pre; rw [List.length_take] at this; omega
  obtain ⟨h1, tk, rfl, hk⟩ := x.done
  have noA : ∀ b : Addr, b ∉ (cxOf CX P w K mg base N qual scope f cd A outer s H E).ex := fun b z => absurd (show b ∈ ([] : List Addr) from z) (by simp)
  refine ⟨⟨e0.mod, S.kind, rfl, rfl, Nat.le_refl _, fun y z c h1 h2 => ?_, fun y hy => ?_, fun y c _ h => ?_, fun _ => hd, Around.frames_deeper e0.frames, .inr ⟨rfl, rfl⟩, fun b z => absurd z (noA b), e0.bs, e0.bsz, fun b _ _ => noA b, fun b z => absurd z (noA b), e0.funs, e0.frf⟩,
    rfl, e0.bare, Un.kept hk, ⟨_, x.toInCall.ns, fun i y v h1 h2 h3 => ?_⟩, fun y c h => ⟨_, x.cell y c h⟩, e0.hok.fresh (Nat.le_refl _), fun y c h => ?_, fun p hp => absurd (show p ∈ ([] : List (Addr × Obj)) from hp) (by simp), e0.hok.kept hk, ?_⟩
  · exact name_of_addr x.apart (PySem.mem_of_lookup h1) (PySem.mem_of_lookup h2)
  · have hy : scope.names.lookup y = some .cell ∨ scope.names.lookup y = some .free := hy
    rcases hy with hy | hy
    · exact cell_has hy
    · exact absurd rfl (S.nofree _ (PySem.mem_of_lookup hy))
  · exact Nat.le_of_lt (x.above y c (PySem.mem_of_lookup h))
  · have hi : i < vs.length := by
      unfold start at h2
      by_cases hi : i < vs.length
      · exact hi
      · rw [List.getElem?_append_right (by simpa using hi)] at h2
        rw [List.getElem?_replicate] at h2
        split at h2 <;> cases h2
    have ha : vs[i]? = some v := by
      unfold start at h2
      rw [List.getElem?_append_left (by simpa using hi), List.getElem?_map] at h2
      cases e : vs[i]? with
      | none => rw [e] at h2; cases h2
      | some a => rw [e] at h2; cases h2; rfl
    obtain ⟨u, hu, rv⟩ := r.get ha
    have hp : ps[i]? = some y := by
      rw [← S.pre, List.getElem?_take_of_lt (by omega)]; exact h1
    have ndP : ps.Nodup := by rw [← S.pre]; exact S.nd.sublist (List.take_sublist _ _)
    refine ⟨u, rv, ?_⟩
    rcases S.par y (List.mem_of_getElem? hp) with k | k
    · exact .inl ⟨k, bindL_get ndP hp hu k⟩
    · obtain ⟨c, e⟩ := cell_has (n := s.heap.objs.size + 1) k
      refine .inr ⟨.inl k, c, e, ?_⟩
      have q := x.cell y c e
      rw [bindC_get ndP hp hu (by show scope.names.lookup y ≠ _; rw [k]; decide)] at q
      exact q
  · exact e0.hok.fresh (Nat.le_of_lt (x.above y c (PySem.mem_of_lookup h)))
  · unfold start
    show _ = N.length
    rw [List.length_append, List.length_map, List.length_replicate]
    omega
theorem fn_of {CX : CXT} {P : Program} {w : World} {K : PySem.W.Frag} {mg : Str → Option Value} {base : Heap} {k : Nat} {f : Addr} {name qual : Str} {params : Arguments} {body : List Stmt} {scope : Scope} {dV kV doc pm cdv ct oc : Value} {an od : Option Addr}
    {osl : Array (Option Value)} {N ps : List Str} {sp : Sp} (lk : K.lookup f = some ⟨oc, od, .func (PySem.W.fnOf name qual params body scope dV kV doc pm an cdv ct), osl⟩) (hcd : PySem.W.codeIn K cdv qual = true) (S : FnScope N ps scope)
    (len : ∀ vs H Q E, sp vs H Q E → vs.length = ps.length)
    (hbody : ∀ (A : Around) (outer : List Env) (s : Shared) (H : Hp) (vs : List V) (Q : VK) (E : XK), Room k (A.deeper (envOfC qual scope s.heap.objs.size f cdv)) → sp vs H Q E →
      ∃ t, PSs (cxOf CX P w K mg base N qual scope f cdv A outer s H E) body t ∧ t { nx := fun _ H' => Q .non H', rt := Q } (start N vs) H) :
    FnOk P w K mg base CX (k + 1) f (PySem.W.fnOf name qual params body scope dV kV doc pm an cdv ct) ps sp := by
  refine ⟨len, fun A outer s H args us vs Q E hr e0 hb r hsp => ?_⟩
  have hl := len _ _ _ _ hsp
  have KX : K.In s.heap := e0.mod.kin.keeps fun b o e => (e0.bs b o e).1
  have lim : s.heap.NoLimit := e0.mod.nolimit.keeps fun b o e => (e0.bs b o e).1
  have hkind : ∀ y ∈ ps.zip us, scope.names.lookup y.1 = some .local ∨ (scope.names.lookup y.1 = some .cell ∧ ((cellsFrom (s.heap.objs.size + 1) scope.names []).lookup y.1).isSome = true) := fun ⟨n, v⟩ hy => by
    rcases S.par n (List.of_mem_zip hy).1 with q | q
    · exact .inl q
    · exact .inr ⟨q, PySem.W.cellsFrom_some _ _ _ (.inl q)⟩
  refine codeAny_call_function hr.depth (KX _ _ lk) rfl S.co S.gen rfl (PySem.W.codeRec_of KX hcd) (hb _ _ _ _ ?_)
  refine wpAny_newFunctionEnv_cells S.kind hkind fun env he s1 x => ?_
  subst he
  refine ⟨lim.keeps x.toInCall.keep, codeAny_func ?_⟩
  obtain ⟨t, ht, hq⟩ := hbody A outer s H vs Q E (hr.deeper _) hsp
  have I : Inv (cxOf CX P w K mg base N qual scope f cdv A outer s H E) [] (start N vs) H s1 := inv_start S hr.hd e0 hl r x
  refine wpAny_mono (ht [] s1 (start N vs) H _ I hq) (fun fl s' hs => ?_) fun e s' hs => hs
  have fin : ∀ {σ' : St} {H' : Hp} {v : V} {u : Value}, Inv (cxOf CX P w K mg base N qual scope f cdv A outer s H E) [] σ' H' s' → RelV v u → Q v H' → CE outer P w H s Q u s' :=
    fun {σ' H' v u} J rv q => ⟨v, H', J.os, J.bare, J.base, J.hok, rv, q⟩
  cases fl with
  | ret u =>
    obtain ⟨v, σ', H', J, rv, q⟩ := hs
    exact fin J rv q
  | next =>
    obtain ⟨σ', H', J, q⟩ := hs
    exact fin (v := V.non) (u := Value.none) J rfl q
  | brk =>
    obtain ⟨_, _, _, q⟩ := hs
    exact False.elim q
  | cont =>
    obtain ⟨_, _, _, q⟩ := hs
    exact False.elim q
end L2
namespace L2
open PySem PySem.Spec PyProof.Rows
section
variable {X : Cx} {x : Str} {p pos : Pos} {e : Expr} {es : List Expr} {t : TA} {id T : String} {r : List V → Hp → VK → Prop}
def tCB (r : List V → Hp → VK → Prop) (t : TA) : TE := fun σ H Q => t σ H fun vs H1 => r vs H1 Q
theorem pe_callB (hc : CallR X (.builtin id) r) (hg : Gl X x) (hm : X.mg x = none) (hv : bootBuiltins x = some (.builtin id)) (ha : PA X (e :: es) t) (hn : x ≠ "__name__" := by decide) (hdb : (x == ("__debug__" : Str)) = false := by decide)
    (he : starEach (e :: es) X.env = (false, eval e X.env) :: starEach es X.env := by rfl) (hpl : (backTo pos (starEach es X.env)).any (·.1) = false := by rfl) : PE X (.Call (.Name x p) (e :: es) [] pos) (tCB r t) := by
  constructor
  intro pins s σ H Q I h
  refine wpAny_Call_Name_kw (ld_blt I hg hm hv ?_ hn hdb)
  exact PyProof.Rows.callWith_builtin1 (thn (ha pos pins s σ H _ I h) fun us s1 ⟨vs, H1, I1, r1, q1⟩ => hc pins s1 σ H1 vs us Q I1 r1 q1) he hpl
theorem pe_callTy (hc : CallR X (.type T) r) (hg : Gl X x) (hm : X.mg x = none) (hv : bootBuiltins x = some (.type T)) (ha : PA X (e :: es) t) (hn : x ≠ "__name__" := by decide) (hdb : (x == ("__debug__" : Str)) = false := by decide)
    (he : starEach (e :: es) X.env = (false, eval e X.env) :: starEach es X.env := by rfl) (hpl : (backTo pos (starEach es X.env)).any (·.1) = false := by rfl) : PE X (.Call (.Name x p) (e :: es) [] pos) (tCB r t) := by
  constructor
  intro pins s σ H Q I h
  refine wpAny_Call_Name_kw (ld_blt I hg hm hv ?_ hn hdb)
  exact PyProof.Rows.callWith_type1 (thn (ha pos pins s σ H _ I h) fun us s1 ⟨vs, H1, I1, r1, q1⟩ => hc pins s1 σ H1 vs us Q I1 r1 q1) he hpl
end
end L2
namespace HT
open PySem PyProof.Rows
section
open PySem.SeqAt
open PySem.AutoSeq1 (wpAny_loadPart')
open PySem.MeetsSeq PySem.MeetsSeq2 PySem.MeetsSeq3
end
section
variable {prog : Program} {w : World} {A : Around} {E : Value → Shared → Prop} {s : Shared}
theorem cat_tup {t b : Addr} {vs ws : List Value} {Q : Value → Shared → Prop} (ht : IsTup s.heap t vs.toArray) (hb : IsTup s.heap b ws.toArray) (hv : vs ≠ [])
    (h1 : ws = [] → Q (.ref t) s) (h2 : ws ≠ [] → Q (.ref s.heap.objs.size) { s with heap := s.heap.push { cls := .type "tuple", data := .seq (vs ++ ws).toArray } })
    (hsz : vs.length + ws.length ≤ sizeLine) : wpAny (model prog w) A (binaryOp .Add (.ref t) (.ref b)) Q E s := by
  obtain ⟨⟨cls, dd, data, sl⟩, ho, hc, n, hd⟩ := id ht
  obtain ⟨⟨cls2, dd2, data2, sl2⟩, ho2, hc2, n2, hd2⟩ := id hb
  simp only at hc hd hc2 hd2
  subst hc hd hc2 hd2
  have e : vs.toArray ++ ws.toArray = (vs ++ ws).toArray := by simp
  by_cases hw : ws = []
  · exact concat_meets ⟨_, ho, rfl⟩ ⟨_, ho2, rfl⟩ noFill_tuple_add seq_tuple_add PySem.F.slot_tuple_add PySem.F.entry_tuple_add (PySem.F.args_tuple_add_2 _ _)
      (tuple_addW1 t b vs.toArray ws.toArray n n2 dd dd2 sl sl2 (by simpa using hv) (by simp [hw])) ⟨ho, ho2, h1 hw⟩
  · refine concat_meets ⟨_, ho, rfl⟩ ⟨_, ho2, rfl⟩ noFill_tuple_add seq_tuple_add PySem.F.slot_tuple_add PySem.F.entry_tuple_add (PySem.F.args_tuple_add_2 _ _)
      (tuple_addW2 t b vs.toArray ws.toArray n n2 dd dd2 sl sl2 (by simpa using hv) (by simpa using hw) (by rw [List.size_toArray, List.size_toArray]; exact hsz)) ⟨ho, ho2, ?_⟩
    rw [e]
    exact h2 hw
def sIx (n d : Nat) : Option Int → Nat
  | none => d
  | some v => if v < 0 then (v + (n : Int)).toNat else min v.toNat n
theorem sIx_none (n d : Nat) : sIx n d none = d := rfl
theorem sIx_nat (n d k : Nat) : sIx n d (some (k : Int)) = min k n := by
  show (if (k : Int) < 0 then ((k : Int) + (n : Int)).toNat else min (k : Int).toNat n) = min k n
  rw [if_neg (by omega), Int.toNat_natCast]
theorem sIx_le (n d : Nat) (hd : d ≤ n) (o : Option Int) : sIx n d o ≤ n := by
  cases o with
  | none => exact hd
  | some v =>
    show (if v < 0 then (v + (n : Int)).toNat else min v.toNat n) ≤ n
    by_cases hv : v < 0
    · rw [if_pos hv]; omega
    · rw [if_neg hv]; exact Nat.min_le_right _ _
theorem clip_eq (v : Int) (n d : Nat) : (if v < 0 then max (v + (n : Int)) 0 else min v (n : Int)) = ((sIx n d (some v) : Nat) : Int) := by
  show (if v < 0 then max (v + (n : Int)) 0 else min v (n : Int)) = (((if v < 0 then (v + (n : Int)).toNat else min v.toNat n) : Nat) : Int)
  by_cases hv : v < 0
  · simp only [if_pos hv]; omega
  · simp only [if_neg hv]; omega
theorem adjust_gen (lo hi : Option Int) (n : Nat) : Builtin.Slice.sliceAdjust lo hi 1 (n : Int) = (((sIx n 0 lo : Nat) : Int), ((sIx n n hi : Nat) : Int)) := by
  have h1 : ¬ ((1 : Int) < 0) := by omega
  unfold Builtin.Slice.sliceAdjust
  simp only [h1, if_false]
  refine Prod.ext ?_ ?_
  · cases lo with
    | none => rfl
    | some v => exact clip_eq v n 0
  · cases hi with
    | none => rfl
    | some v => exact clip_eq v n n
theorem places_gen (i j : Nat) : Builtin.Slice.slicePlaces (i : Int) (j : Int) 1 = j - i := by
  unfold Builtin.Slice.slicePlaces
  have h1 : (1 : Int) > 0 := by omega
  simp only [h1, if_true, Int.ediv_one]
  split <;> omega
theorem slicePart_ {v : Value} {o : Option Int} {Q : Option Int → Shared → Prop} (p : IsPart v o) (h : Q o s) : wpAny (model prog w) A (Builtin.Slice.slicePartIndex v) Q E s := by
  cases p with
  | none => exact slicePart_none h
  | int i t => exact slicePart_int h
theorem sliceApplied_gen {sl : Addr} {vl vu : Value} {lo hi : Option Int} {n : Nat} {Q : Int × Int × Nat → Shared → Prop} (hs : s.heap.IsSliceOf sl vl vu .none) (pl : IsPart vl lo) (pu : IsPart vu hi)
    (h : Q (((sIx n 0 lo : Nat) : Int), 1, sIx n n hi - sIx n 0 lo) s) : wpAny (model prog w) A (Builtin.Slice.sliceApplied (.ref sl) (pure (n : Int))) Q E s := by
  obtain ⟨os, hos, hcs, hds⟩ := id hs
  unfold Builtin.Slice.sliceApplied Builtin.Slice.sliceFields
  refine wpAny_bind (wpAny_bind (wpAny_field hos hds (x := vl) rfl (wpAny_bind (wpAny_field hos hds (x := vu) rfl (wpAny_bind (wpAny_field hos hds (x := .none) rfl (wpAny_pure ?_)))))))
  refine wpAny_bind (slicePart_none ?_)
  show wpAny _ _ (if ((1 : Int) == 0) = true then _ else _) _ _ s
  rw [if_neg (by decide)]
  refine wpAny_bind (slicePart_ pl (wpAny_bind (slicePart_ pu (wpAny_bind (wpAny_pure ?_)))))
  show wpAny _ _ (match Builtin.Slice.sliceAdjust lo hi 1 (n : Int) with | (lo, hi) => pure (lo, (1 : Int), Builtin.Slice.slicePlaces lo hi 1)) _ _ s
  rw [adjust_gen lo hi n]
  show wpAny _ _ (pure (((sIx n 0 lo : Nat) : Int), (1 : Int), Builtin.Slice.slicePlaces ((sIx n 0 lo : Nat) : Int) ((sIx n n hi : Nat) : Int) 1)) _ _ s
  rw [places_gen]
  exact wpAny_pure h
theorem pick_gen (xs : Array Value) (i k : Nat) : ((List.range k).filterMap fun (m : Nat) => xs[((i : Int) + (m : Int) * 1).toNat]?).toArray = ((xs.toList.drop i).take k).toArray := by
  have e : (fun (m : Nat) => xs[((i : Int) + (m : Int) * 1).toNat]?) = fun m => xs[i + m]? := by
    funext m
    have : ((i : Int) + (m : Int) * 1).toNat = i + m := by omega
    rw [this]
  rw [e]
  have := pick_run xs i k
  rw [List.filterMap_map] at this
  have e2 : ((fun x => xs[x]?) ∘ fun x => i + x) = fun m => xs[i + m]? := rfl
  rw [e2] at this
  rw [this]
theorem getItem_tuple_cut {t sl : Addr} {items : Array Value} {vl vu : Value} {lo hi : Option Int} {Q : Value → Shared → Prop} (ht : IsTup s.heap t items) (hs : s.heap.IsSliceOf sl vl vu .none) (pl : IsPart vl lo) (pu : IsPart vu hi)
    (hw : ¬ (sIx items.size 0 lo = 0 ∧ sIx items.size items.size hi = items.size))
    (h : Q (.ref s.heap.objs.size) { s with heap := s.heap.push { cls := .type "tuple", data := .seq ((items.toList.drop (sIx items.size 0 lo)).take (sIx items.size items.size hi - sIx items.size 0 lo)).toArray } })
    (hsz : items.size ≤ sizeLine) : wpAny (model prog w) A (getItem (.ref t) (.ref sl)) Q E s := by
  have htake : sizeOk (.seq ((items.toList.drop (sIx items.size 0 lo)).take (sIx items.size items.size hi - sIx items.size 0 lo)).toArray) := by
    show ((items.toList.drop (sIx items.size 0 lo)).take (sIx items.size items.size hi - sIx items.size 0 lo)).toArray.size ≤ sizeLine
    rw [List.size_toArray, List.length_take, List.length_drop, Array.length_toList]
    omega
  have hj : sIx items.size items.size hi ≤ items.size := sIx_le _ _ (Nat.le_refl _) hi
  obtain ⟨os, hos, hcs, hds⟩ := id hs
  have hTs : s.TypeIs (.ref sl) "slice" := ⟨os, hos, hcs⟩
  unfold getItem
  try with_reducible refine wpAny_holding ?_
  first | refine wpAny_bind (wpAny_pure ?_) | skip
  refine wpAny_bind (wpAny_sequenceKey ht.typeIs (by decide) ?_)
  refine wpAny_bind (wpAny_callSpecial?_slot (name := Str.ofString "__getitem__") ht.typeIs PyProof.Rows.slot_tuple_getitem
    (wpAny_call_entry PyProof.Rows.slot_tuple_getitem ht.typeIs entry_tuple_getitem ?_ (args_tuple_getitem _ _)))
  show wpAny _ _ (Builtin.Tuple.tupleItemsOf (.ref t) >>= _) _ _ s
  refine wpAny_bind (tupleItemsOf_ ht ?_)
  refine wpAny_bind (wpAny_typeOf hTs ?_)
  rw [if_pos (by decide)]
  refine wpAny_bind (sliceApplied_gen hs pl pu ?_)
  have hno : ¬ ((((sIx items.size 0 lo : Nat) : Int) == 0 && (1 : Int) == 1 && (sIx items.size items.size hi - sIx items.size 0 lo) == items.size) = true) := by
    intro q
    rw [Bool.and_eq_true, Bool.and_eq_true] at q
    have q1 : ((sIx items.size 0 lo : Nat) : Int) = 0 := eq_of_beq q.1.1
    have q2 : sIx items.size items.size hi - sIx items.size 0 lo = items.size := eq_of_beq q.2
    exact hw ⟨by omega, by omega⟩
  show wpAny _ _ (if (((sIx items.size 0 lo : Nat) : Int) == 0 && (1 : Int) == 1 && (sIx items.size items.size hi - sIx items.size 0 lo) == items.size) = true then _ else _) _ _ s
  rw [if_neg hno, pick_gen]
  first
    | exact wpAny_bind (m := Builtin.Tuple.tupleExact _) (wpAny_newObj_type (wpAny_pure ⟨_, rfl, wpAny_pure h⟩) htake)
    | exact wpAny_bind (m := Builtin.Tuple.tupleExact _) (wpAny_newObj_type (wpAny_bind (wpAny_pure (wpAny_pure ⟨_, rfl, wpAny_pure h⟩))) htake)
    | exact wpAny_bind (wpAny_bind (m := Builtin.Tuple.tupleExact _) (wpAny_newObj_type (wpAny_pure (wpAny_pure ⟨_, rfl, wpAny_pure h⟩)) htake))
    | exact wpAny_bind (wpAny_bind (m := Builtin.Tuple.tupleExact _) (wpAny_newObj_type (wpAny_pure ⟨_, rfl, wpAny_pure h⟩) htake))
end
end HT
namespace L2
open PySem PySem.Spec PyProof.Rows
abbrev TO := St → Hp → (Option Int → Hp → Prop) → Prop
structure PO (X : Cx) (e : Option Expr) (t : TO) : Prop where
  run : ∀ (pins : List (Addr × Obj)) (s : Shared) (σ : St) (H : Hp) (Q : Option Int → Hp → Prop), Inv X pins σ H s → t σ H Q →
    wpAny (model X.prog X.w) X.A (evalPart e X.env) (fun u s' => ∃ o H', Inv X pins σ H' s' ∧ IsPart u o ∧ Q o H') X.xe s
instance {X : Cx} {e : Option Expr} {t : TO} : CoeFun (PO X e t) (fun _ => ∀ (pins : List (Addr × Obj)) (s : Shared) (σ : St) (H : Hp) (Q : Option Int → Hp → Prop), Inv X pins σ H s → t σ H Q →
    wpAny (model X.prog X.w) X.A (evalPart e X.env) (fun u s' => ∃ o H', Inv X pins σ H' s' ∧ IsPart u o ∧ Q o H') X.xe s) := ⟨PO.run⟩
def tNoPart : TO := fun _ H Q => Q none H
def tPart (t : TE) : TO := fun σ H Q => t σ H fun x H1 => ∃ i, x = .int i ∧ Q (some i) H1
section
variable {X : Cx} {e : Expr} {te : TE} {lo hi : Option Expr} {tl th : TO} {pos p2 : Pos}
theorem po_none : PO X none tNoPart := by
  constructor
  intro pins s σ H Q I h
  rw [evalPart_none]
  exact wpAny_pure ⟨none, H, I, .none, h⟩
theorem po_some (h : PE X e te) : PO X (some e) (tPart te) := by
  constructor
  intro pins s σ H Q I hw
  rw [evalPart_some]
  refine thn (h pins s σ H _ I hw) fun u s1 ⟨x, H1, I1, r1, q1⟩ => ?_
  obtain ⟨i, rfl, q⟩ := q1
  obtain ⟨t, rfl⟩ := r1
  exact ⟨some i, H1, I1, .int i t, q⟩
def SlR (X : Cx) (r : V → Option Int → Option Int → Hp → VK → Prop) : Prop :=
  ∀ (pins : List (Addr × Obj)) (s : Shared) (σ : St) (H : Hp) (x : V) (v vl vu : Value) (lo hi : Option Int) (sl : Addr) (Q : VK), Inv X pins σ H s → RelV x v → s.heap.IsSliceOf sl vl vu .none → IsPart vl lo → IsPart vu hi → r x lo hi H Q →
    ∃ T id, typeLookup (.type T) "__getitem__" = pure (some (.builtin id)) ∧ s.TypeIs v T ∧ wpAny (model X.prog X.w) X.A (getItem v (.ref sl)) (EP X pins σ Q) X.xe s
theorem SlR.or {r r' : V → Option Int → Option Int → Hp → VK → Prop} (h : SlR X r) (h' : SlR X r') : SlR X (fun x lo hi H Q => r x lo hi H Q ∨ r' x lo hi H Q) := by
  intro pins s σ H x v vl vu lo hi sl Q I rx hs pl pu q
  rcases q with q | q
  · exact h pins s σ H x v vl vu lo hi sl Q I rx hs pl pu q
  · exact h' pins s σ H x v vl vu lo hi sl Q I rx hs pl pu q
def tSl (r : V → Option Int → Option Int → Hp → VK → Prop) (te : TE) (tl th : TO) : TE := fun σ H Q => te σ H fun x H1 => tl σ H1 fun l H2 => th σ H2 fun u H3 => r x l u H3 Q
theorem pe_slice {r : V → Option Int → Option Int → Hp → VK → Prop} (hr : SlR X r) (he : PE X e te) (hl : PO X lo tl) (hu : PO X hi th) : PE X (.Subscript e (.Slice lo hi none p2) pos) (tSl r te tl th) := by
  constructor
  intro pins s σ H Q I h
  refine Subscript_ (thn (he pins s σ H _ I h) fun v s1 ⟨x, H1, I1, r1, q1⟩ => ?_)
  refine wpAny_Slice (thn (hl pins s1 σ H1 _ I1 q1) fun vl s2 ⟨l, H2, I2, pl, q2⟩ => thn (hu pins s2 σ H2 _ I2 q2) fun vu s3 ⟨u, H3, I3, pu, q3⟩ => ?_)
  rw [evalPart_none]
  refine wpAny_pure ?_
  have I4 : Inv X pins σ H3 { s3 with heap := s3.heap.push { cls := .type "slice", data := .fields #[vl, vu, .none] } } := I3.kept (t' := s3.toks) fun b ob q => Heap.get?_push_of_some _ q
  obtain ⟨T, id, hT, ht, hg⟩ := hr pins { s3 with heap := s3.heap.push { cls := .type "slice", data := .fields #[vl, vu, .none] } } σ H3 x v vl vu l u s3.heap.objs.size Q I4 r1 (Heap.IsSliceOf.new ..) pl pu q3
  show wpAny (model X.prog X.w) X.A (subscriptTail e (.Slice lo hi none p2) v (.ref s3.heap.objs.size)) (EP X pins σ Q) X.xe { s3 with heap := s3.heap.push { cls := .type "slice", data := .fields #[vl, vu, .none] } }
  exact tail_any (ops := [.ref s3.heap.objs.size, v]) ht hT hg (by with_unfolding_all rfl)
def cutV (xs : List V) (lo hi : Option Int) : List V := (xs.drop (HT.sIx xs.length 0 lo)).take (HT.sIx xs.length xs.length hi - HT.sIx xs.length 0 lo)
theorem cutV_length (xs : List V) (lo hi : Option Int) : (cutV xs lo hi).length ≤ xs.length := by
  unfold cutV
  rw [List.length_take, List.length_drop]
  omega
def rSlT (K : PySem.W.Frag) : V → Option Int → Option Int → Hp → VK → Prop := fun x lo hi H Q => ∃ a xs, x = .ref a ∧ SqT K H a xs ∧
  ¬ (HT.sIx xs.length 0 lo = 0 ∧ HT.sIx xs.length xs.length hi = xs.length) ∧ ∀ p, H p = none → Q (.ref p) (upd H p (.tup (cutV xs lo hi)))
theorem sl_tup : SlR X (rSlT X.K) := by
  intro pins s σ H x v vl vu lo hi sl Q I rx hs pl pu h
  obtain ⟨a, xs, rfl, hx, hw, q⟩ := h
  cases rx
  obtain ⟨its, r, ht, hz⟩ := I.tuple hx
  have hlen : its.toArray.size = xs.length := by rw [List.size_toArray]; exact r.length.symm
  refine ⟨"tuple", _, PyProof.Rows.slot_tuple_getitem.lookup, ht.typeIs, ?_⟩
  refine HT.getItem_tuple_cut ht hs pl pu (by rw [hlen]; exact hw) ?_ (by rw [hlen]; exact hz)
  rw [hlen]
  refine ⟨.ref s.heap.objs.size, _, I.laid (t' := s.toks) (o := .tup (cutV xs lo hi)) (fun b ob q => Heap.get?_push_of_some _ q) (Nat.le_refl _) ?_, rfl, q _ (I.hok.fresh (Nat.le_refl _))⟩
  exact ⟨Nat.le_trans (cutV_length xs lo hi) hz, _, (r.drop (HT.sIx xs.length 0 lo)).take (HT.sIx xs.length xs.length hi - HT.sIx xs.length 0 lo), IsTup.new _ _⟩
def rCatT (K : PySem.W.Frag) : R2 := fun x y H Q => ∃ a b xs ys, x = .ref a ∧ y = .ref b ∧ SqT K H a xs ∧ SqT K H b ys ∧ xs ≠ [] ∧ xs.length + ys.length ≤ sizeLine ∧
  (ys = [] → Q (.ref a) H) ∧ (ys ≠ [] → ∀ p, H p = none → Q (.ref p) (upd H p (.tup (xs ++ ys))))
theorem Vals.nil_iff {xs : List V} {us : List Value} (r : Vals xs us) : us = [] ↔ xs = [] := by
  cases r with
  | nil => simp
  | cons _ _ => simp
theorem op_catT : OpR X (binaryOp .Add) (rCatT X.K) := by
  intro pins s σ H x y v u Q I rx ry h
  obtain ⟨a, b, xs, ys, rfl, rfl, ha, hb, hx, hz, q1, q2⟩ := h
  cases rx
  cases ry
  obtain ⟨its, r1, p1, _⟩ := I.tuple ha
  obtain ⟨its2, r2, p2, _⟩ := I.tuple hb
  refine HT.cat_tup p1 p2 (fun z => hx (r1.nil_iff.mp z)) (fun z => ⟨.ref a, H, I, rfl, q1 (r2.nil_iff.mp z)⟩) (fun z => ?_) (by rw [← r1.length, ← r2.length]; exact hz)
  refine ⟨.ref s.heap.objs.size, _, I.laid (t' := s.toks) (o := .tup (xs ++ ys)) (fun b ob q => Heap.get?_push_of_some _ q) (Nat.le_refl _) ?_, rfl, q2 (fun w => z (r2.nil_iff.mpr w)) _ (I.hok.fresh (Nat.le_refl _))⟩
  exact ⟨by rw [List.length_append]; exact hz, _, r1.append r2, IsTup.new _ _⟩
end
end L2
namespace L2
open PySem PySem.Spec PyProof.Rows
def ixN (n : Nat) (i : Int) : Option Nat := if 0 ≤ i then (if i < n then some i.toNat else none) else if -(n : Int) ≤ i then some (i + n).toNat else none
def atI {α : Type} (xs : List α) (i : Int) : Option α := (ixN xs.length i).bind fun j => xs[j]?
theorem ixN_seq {n : Nat} {i : Int} {j : Nat} (h : ixN n i = some j) : seqIndex? i n = some j ∧ j < n ∧ -(n : Int) ≤ i ∧ i < n := by
  unfold ixN at h
  by_cases h0 : 0 ≤ i
  · rw [if_pos h0] at h
    by_cases h1 : i < n
    · rw [if_pos h1] at h
      have e : i.toNat = j := Option.some.inj h
      exact ⟨by rw [seqIndex_of h0 h1, e], by omega, by omega, h1⟩
    · rw [if_neg h1] at h; cases h
  · rw [if_neg h0] at h
    by_cases h1 : -(n : Int) ≤ i
    · rw [if_pos h1] at h
      have e : (i + n).toNat = j := Option.some.inj h
      exact ⟨by rw [seqIndex_neg (by omega) h1, e], by omega, h1, by omega⟩
    · rw [if_neg h1] at h; cases h
theorem atI_get {α : Type} {xs : List α} {i : Int} {v : α} (h : atI xs i = some v) : ∃ j, seqIndex? i xs.length = some j ∧ xs[j]? = some v ∧ j < xs.length ∧ -(xs.length : Int) ≤ i ∧ i < xs.length := by
  unfold atI at h
  cases e : ixN xs.length i with
  | none => rw [e] at h; cases h
  | some j =>
    rw [e] at h
    obtain ⟨h1, h2, h3, h4⟩ := ixN_seq e
    exact ⟨j, h1, h, h2, h3, h4⟩
theorem atI_nat {α : Type} {xs : List α} {j : Nat} {v : α} (h : xs[j]? = some v) : atI xs (j : Int) = some v := by
  have hj : j < xs.length := (List.getElem?_eq_some_iff.mp h).1
  have e : ixN xs.length (j : Int) = some j := by
    unfold ixN
    rw [if_pos (by omega), if_pos (by omega)]; simp
  unfold atI; rw [e]; exact h
def PlainIx (b : Expr) : Prop := ∀ o i, subscripted b false o i = operate [o, i] (getItem o i)
def IxR (X : Cx) (r : R2) : Prop :=
  ∀ (value slice : Expr) (pins : List (Addr × Obj)) (s : Shared) (σ : St) (H : Hp) (x y : V) (v u : Value) (Q : VK), Inv X pins σ H s → RelV x v → RelV y u → r x y H Q →
    subscripted slice false v u = operate [v, u] (getItem v u) → wpAny (model X.prog X.w) X.A (subscriptTail value slice v u) (EP X pins σ Q) X.xe s
def MtR (X : Cx) (id : String) (r : V → List V → Hp → VK → Prop) : Prop :=
  ∀ (pins : List (Addr × Obj)) (s : Shared) (σ : St) (H : Hp) (x : V) (xs : List V) (v : Value) (us : List Value) (Q : VK), Inv X pins σ H s → RelV x v → Vals xs us → r x xs H Q →
    wpAny (model X.prog X.w) X.A (call (.builtin id) (v :: us)) (EP X pins σ Q) X.xe s
section
variable {X : Cx} {a b : Expr} {ta tb : TE} {pos : Pos}
theorem IxR.or {r r' : R2} (h : IxR X r) (h' : IxR X r') : IxR X (fun x y H Q => r x y H Q ∨ r' x y H Q) := by
  intro value slice pins s σ H x y v u Q I rx ry q hs
  rcases q with q | q
  · exact h value slice pins s σ H x y v u Q I rx ry q hs
  · exact h' value slice pins s σ H x y v u Q I rx ry q hs
theorem MtR.or {id : String} {r r' : V → List V → Hp → VK → Prop} (h : MtR X id r) (h' : MtR X id r') : MtR X id (fun x xs H Q => r x xs H Q ∨ r' x xs H Q) := by
  intro pins s σ H x xs v us Q I rx rs q
  rcases q with q | q
  · exact h pins s σ H x xs v us Q I rx rs q
  · exact h' pins s σ H x xs v us Q I rx rs q
theorem pe_ix {r : R2} (hr : IxR X r) (ha : PE X a ta) (hb : PE X b tb) (hs : PlainIx b) : PE X (.Subscript a b pos) (tOp r ta tb) := by
  constructor
  intro pins s σ H Q I h
  exact Subscript_ (binT ha hb I h fun v u s2 x y H2 I2 rx ry q => hr a b pins s2 σ H2 x y v u Q I2 rx ry q (hs _ _))
def rIxL (K : PySem.W.Frag) : R2 := fun x y H Q => ∃ p xs i v, x = .ref p ∧ y = .int i ∧ SqL K H p xs ∧ atI xs i = some v ∧ Q v H
def rIxT (K : PySem.W.Frag) : R2 := fun x y H Q => ∃ p xs i v, x = .ref p ∧ y = .int i ∧ SqT K H p xs ∧ atI xs i = some v ∧ Q v H
def rIxS : R2 := fun x y H Q => ∃ z i c, x = .str z ∧ y = .int i ∧ z.length ≤ sizeLine ∧ atI z.cps.toList i = some c ∧ Q (.str ⟨#[c]⟩) H
theorem ix_list : IxR X (rIxL X.K) := by
  intro value slice pins s σ H x y v u Q I rx ry h hs
  obtain ⟨p, xs, i, z, rfl, rfl, hq, he, q⟩ := h
  cases rx
  obtain ⟨t, rfl⟩ := ry
  obtain ⟨its, r, pl, hz⟩ := I.list hq
  obtain ⟨j, h1, h2, h3, h4, h5⟩ := atI_get he
  obtain ⟨w, ew, rw'⟩ := r.get h2
  have hl := r.length
  have hn := line63
  have fin : EP X pins σ Q w s := ⟨z, H, I, rw', q⟩
  by_cases h0 : 0 ≤ i
  · have hj : i.toNat = j := by
      rw [seqIndex_of h0 h5] at h1
      exact Option.some.inj h1
    exact item_listR pl.isList h0 (by omega) (by rw [hj]; simpa using ew) fin hs
  · have hj : (i + (its.toArray.size : Int)).toNat = j := by
      rw [seqIndex_neg (by omega) h4] at h1
      rw [List.size_toArray, ← hl]
      exact Option.some.inj h1
    exact subscriptTail_builtinR (x := w) pl.isList.typeIs slot_list_getitem.lookup
      (wpAny_getItem_list_neg (Q := fun r s' => r = w ∧ EP X pins σ Q r s') pl.isList (by omega) (by rw [List.size_toArray] <;> omega) (by omega) (by rw [hj]; simpa using ew) ⟨rfl, fin⟩) hs
theorem ix_tup : IxR X (rIxT X.K) := by
  intro value slice pins s σ H x y v u Q I rx ry h hs
  obtain ⟨p, xs, i, z, rfl, rfl, hq, he, q⟩ := h
  cases rx
  obtain ⟨t, rfl⟩ := ry
  obtain ⟨its, r, pl, hz⟩ := I.tuple hq
  obtain ⟨j, h1, h2, h3, h4, h5⟩ := atI_get he
  obtain ⟨w, ew, rw'⟩ := r.get h2
  have hl := r.length
  have hn := line63
  have fin : EP X pins σ Q w s := ⟨z, H, I, rw', q⟩
  exact subscriptTail_builtinR (x := w) pl.typeIs slot_tuple_getitem.lookup
    (getItem_tuple (j := j) (Q := fun r s' => r = w ∧ EP X pins σ Q r s') pl (by omega) (by omega) (by rw [List.size_toArray, ← hl]; exact h1) (by simpa using ew) ⟨rfl, fin⟩) hs
theorem ix_str : IxR X rIxS := by
  intro value slice pins s σ H x y v u Q I rx ry h hs
  obtain ⟨z, i, c, rfl, rfl, hz, he, q⟩ := h
  obtain ⟨t, rfl⟩ := rx
  obtain ⟨t', rfl⟩ := ry
  obtain ⟨j, h1, h2, h3, h4, h5⟩ := atI_get he
  have hl : z.cps.toList.length = z.length := by simp [Str.length]
  rw [hl] at h1 h4 h5
  have hn := line63
  exact tail_any (typeIs_str s z t) slot_str_getitem.lookup (getItem_str (c := c) (by
    have e1 : decide (i < -(2 ^ 63 : Int)) = false := decide_eq_false (by omega)
    have e2 : decide (i ≥ 2 ^ 63) = false := decide_eq_false (by omega)
    rw [e1, e2, Bool.or_false]) (by rw [h1]; simpa using h2) ⟨.str ⟨#[c]⟩, H, I.tok _, ⟨_, rfl⟩, q⟩) hs
theorem Inv.lst {pins : List (Addr × Obj)} {σ : St} {H : Hp} {s : Shared} {p : Addr} {xs : List V} (I : Inv X pins σ H s) (h : H p = some (.lst xs)) :
    ∃ (its : List Value) (n : Nat), Vals xs its ∧ s.heap.get? p = some { cls := .type "list", data := .seq its.toArray n } ∧ xs.length ≤ sizeLine := by
  obtain ⟨z, its, n, r, e⟩ := I.hok p _ h
  exact ⟨its, n, r, e, z⟩
theorem slice_bounds (lo hi : Option Int) (n : Nat) : (sliceBounds lo hi none n).1 = ((HT.sIx n 0 lo : Nat) : Int) ∧ (sliceBounds lo hi none n).2.1 = ((HT.sIx n n hi : Nat) : Int) ∧ (sliceBounds lo hi none n).2.2 = 1 := by
  refine ⟨?_, ?_, rfl⟩
  · cases lo with
    | none => simp [sliceBounds, HT.sIx]
    | some i =>
      simp only [sliceBounds, HT.sIx, Option.getD_none, show (1 : Int) > 0 by decide, if_true]
      by_cases h : i < 0
      · simp only [h, if_true] <;> omega
      · simp only [h, if_false] <;> omega
  · cases hi with
    | none => simp [sliceBounds, HT.sIx]
    | some i =>
      simp only [sliceBounds, HT.sIx, Option.getD_none, show (1 : Int) > 0 by decide, if_true]
      by_cases h : i < 0
      · simp only [h, if_true] <;> omega
      · simp only [h, if_false] <;> omega
theorem slicePick_cut (its : List Value) (lo hi : Option Int) : slicePick its.toArray lo hi none = ((its.drop (HT.sIx its.length 0 lo)).take (HT.sIx its.length its.length hi - HT.sIx its.length 0 lo)).toArray := by
  obtain ⟨h1, h2, h3⟩ := slice_bounds lo hi its.toArray.size
  unfold slicePick
  rw [h1, h2, h3]
  simp only [sliceRange_one, pick_run, List.size_toArray] <;> rfl
def rSlL (K : PySem.W.Frag) : V → Option Int → Option Int → Hp → VK → Prop := fun x lo hi H Q => ∃ a xs, x = .ref a ∧ SqL K H a xs ∧ ∀ p, H p = none → Q (.ref p) (upd H p (.lst (cutV xs lo hi)))
theorem sl_list : SlR X (rSlL X.K) := by
  intro pins s σ H x v vl vu lo hi sl Q I rx hs pl pu h
  obtain ⟨a, xs, rfl, hx, q⟩ := h
  cases rx
  obtain ⟨its, r, ht, hz⟩ := I.list hx
  have hlen := r.length
  refine ⟨"list", _, slot_list_getitem.lookup, ht.isList.typeIs, ?_⟩
  refine wpAny_getItem_list_slice ht.isList hs pl pu .none (by simp) ?_ (by rw [List.size_toArray] <;> omega)
  rw [slicePick_cut, ← hlen]
  refine ⟨.ref s.heap.objs.size, _, I.laid (t' := s.toks) (o := .lst (cutV xs lo hi)) (fun b ob q => Heap.get?_push_of_some _ q) (Nat.le_refl _) ?_, rfl, q _ (I.hok.fresh (Nat.le_refl _))⟩
  exact ⟨Nat.le_trans (cutV_length xs lo hi) hz, _, 0, (r.drop (HT.sIx xs.length 0 lo)).take (HT.sIx xs.length xs.length hi - HT.sIx xs.length 0 lo), Heap.get?_push_size _ rfl⟩
theorem call_len_seq : CallR X (.builtin "len") (fun xs H Q => ∃ p ys, xs = [.ref p] ∧ (SqL X.K H p ys ∨ SqT X.K H p ys) ∧ Q (.int ys.length) H) := by
  intro pins s σ H xs us Q I r h
  obtain ⟨p, ys, rfl, hq, q⟩ := h
  obtain ⟨u, rfl, rx⟩ := vals1 r
  cases rx
  have hn := line63
  rcases hq with hq | hq
  · obtain ⟨its, r', pl, hz⟩ := I.list hq
    have hlen := r'.length
    exact Calls.call_len_list pl.isList (by simp only [List.size_toArray] <;> omega) ⟨.int ys.length, H, I.tok _, ⟨s.toks + 1, by rw [List.size_toArray, hlen]⟩, q⟩
  · obtain ⟨its, r', pl, hz⟩ := I.tuple hq
    have hlen := r'.length
    exact len_tuple pl (by simp only [List.size_toArray] <;> omega) ⟨.int ys.length, H, I.tok _, ⟨s.toks + 1, by rw [List.size_toArray, hlen]⟩, q⟩
theorem call_len_str : CallR X (.builtin "len") (fun xs H Q => ∃ z, xs = [.str z] ∧ z.length ≤ sizeLine ∧ Q (.int z.length) H) := by
  intro pins s σ H xs us Q I r h
  obtain ⟨z, rfl, hz, q⟩ := h
  obtain ⟨u, rfl, t, rfl⟩ := vals1 r
  have hn := line63
  exact len_str (by omega) ⟨.int z.length, H, I.tok _, ⟨_, rfl⟩, q⟩
theorem CallR.or {f : Value} {r r' : List V → Hp → VK → Prop} (h : CallR X f r) (h' : CallR X f r') : CallR X f (fun xs H Q => r xs H Q ∨ r' xs H Q) := by
  intro pins s σ H xs us Q I rs q
  rcases q with q | q
  · exact h pins s σ H xs us Q I rs q
  · exact h' pins s σ H xs us Q I rs q
theorem call_list_of : CallR X (.type "list") (fun xs H Q => ∃ p ys, xs = [.ref p] ∧ (SqL X.K H p ys ∨ SqT X.K H p ys) ∧ ∀ l, H l = none → Q (.ref l) (upd H l (.lst ys))) := by
  intro pins s σ H xs us Q I r h
  obtain ⟨p, ys, rfl, hq, q⟩ := h
  obtain ⟨u, rfl, rx⟩ := vals1 r
  cases rx
  have fin : ∀ (its : List Value), Vals ys its → ys.length ≤ sizeLine → ∀ (h' : Heap) (c' : Nat), (∀ b o', s.heap.get? b = some o' → h'.get? b = some o') →
      h'.get? s.heap.objs.size = some { cls := .type "list", dict := none, data := .seq its.toArray c', slots := #[] } → EP X pins σ Q (.ref s.heap.objs.size) { s with heap := h' } := fun its r' hz h' c' kp e =>
    ⟨.ref s.heap.objs.size, _, I.laid (t' := s.toks) kp (Nat.le_refl _) (show ObjOk X.prog X.w _ h' _ (.lst ys) from ⟨hz, its, c', r', e⟩), rfl, q _ (I.hok.fresh (Nat.le_refl _))⟩
  rcases hq with hq | hq
  · obtain ⟨its, r', pl, hz⟩ := I.list hq
    have hlen := r'.length
    obtain ⟨o, ho, hc, n, hd⟩ := pl.isList
    exact call_list_seq p (.inl rfl) ho hc hd (fun h' c' kp e => fin its r' hz h' c' kp e) (by simp only [List.size_toArray] <;> omega)
  · obtain ⟨its, r', pl, hz⟩ := I.tuple hq
    have hlen := r'.length
    obtain ⟨o, ho, hc, n, hd⟩ := pl
    exact call_list_seq p (.inr rfl) ho hc hd (fun h' c' kp e => fin its r' hz h' c' kp e) (by simp only [List.size_toArray] <;> omega)
theorem call_tuple_of : CallR X (.type "tuple") (fun xs H Q => ∃ p ys, xs = [.ref p] ∧ ((SqL X.K H p ys ∧ ∀ l, H l = none → Q (.ref l) (upd H l (.tup ys))) ∨ (SqT X.K H p ys ∧ Q (.ref p) H))) := by
  intro pins s σ H xs us Q I r h
  obtain ⟨p, ys, rfl, h⟩ := h
  obtain ⟨u, rfl, rx⟩ := vals1 r
  cases rx
  rcases h with ⟨hq, q⟩ | ⟨hq, q⟩
  · obtain ⟨its, r', pl, hz⟩ := I.list hq
    have hlen := r'.length
    refine call_tuple_list pl.isList (fun h' kp => ?_) (by simp only [List.size_toArray] <;> omega)
    have I1 : Inv X pins σ H { s with heap := h' } := I.kept (t' := s.toks) kp
    have I2 : Inv X pins σ (upd H h'.objs.size (.tup ys)) { s with heap := h'.push { cls := .type "tuple", data := .seq its.toArray } } :=
      I1.laid (t' := s.toks) (fun b o e => Heap.get?_push_of_some _ e) (Nat.le_refl _) (show ObjOk X.prog X.w _ _ _ (.tup ys) from ⟨hz, its, r', IsTup.new _ _⟩)
    exact ⟨.ref h'.objs.size, _, I2, rfl, q _ (I1.hok.fresh (Nat.le_refl _))⟩
  · obtain ⟨its, r', pl, hz⟩ := I.tuple hq
    exact call_tuple_same pl ⟨.ref p, H, I, rfl, q⟩
def tyV (K : PySem.W.Frag) (T : String) (x : V) (H : Hp) : Prop := match x with
  | .str _ => T = "str"
  | .int _ => T = "int"
  | .ref p => (T = "list" ∧ ∃ xs, SqL K H p xs) ∨ (T = "tuple" ∧ ∃ o, K.lookup p = some o ∧ o.cls = .type "tuple" ∧ o.dict = none) ∨
      (T = "dict" ∧ ((∃ kvs, H p = some (.dK kvs)) ∨ ∃ kvs, H p = some (.dT kvs))) ∨ (T = "set" ∧ ∃ S n, H p = some (.set S n))
  | _ => False
theorem tyV_is {pins : List (Addr × Obj)} {σ : St} {H : Hp} {s : Shared} {T : String} {x : V} {v : Value} (I : Inv X pins σ H s) (r : RelV x v) (ty : tyV X.K T x H) :
    s.TypeIs v T ∧ ∀ a, v = .ref a → ∃ ob, s.heap.get? a = some ob ∧ ob.dict = none := by
  cases x with
  | str z =>
    obtain ⟨t, rfl⟩ := r
    cases (show T = "str" from ty)
    exact ⟨typeIs_str s z t, fun _ e => nomatch e⟩
  | int i =>
    obtain ⟨t, rfl⟩ := r
    cases (show T = "int" from ty)
    exact ⟨typeIs_int s i t, fun _ e => nomatch e⟩
  | ref p =>
    cases r
    rcases ty with ⟨rfl, xs, hq⟩ | ⟨rfl, o, hk, hc, hd⟩ | ⟨rfl, hk⟩ | ⟨rfl, S, n, hk⟩
    · obtain ⟨its, _, pl, _⟩ := I.list hq
      refine ⟨pl.isList.typeIs, fun a e => ?_⟩
      cases e
      obtain ⟨o, n, e, c, hd, _⟩ := pl
      exact ⟨o, e, hd⟩
    · refine ⟨⟨o, I.kIn p o hk, hc⟩, fun a e => ?_⟩
      cases e
      exact ⟨o, I.kIn _ o hk, hd⟩
    · have z : ∃ o, s.heap.get? p = some o ∧ o.ExactDict := by
        rcases hk with ⟨kvs, hk⟩ | ⟨kvs, hk⟩
        · obtain ⟨_, _, _, _, o, _, _, e, ex, _⟩ := I.hok p _ hk
          exact ⟨o, e, ex⟩
        · obtain ⟨_, _, _, _, o, _, _, e, ex, _⟩ := I.hok p _ hk
          exact ⟨o, e, ex⟩
      obtain ⟨o, e, ex⟩ := z
      refine ⟨⟨o, e, ex.1⟩, fun a e2 => ?_⟩
      cases e2
      exact ⟨o, e, ex.2.1⟩
    · obtain ⟨o, _, _, _, e, ex, _⟩ := I.hok p _ hk
      refine ⟨⟨o, e, ex.1⟩, fun a e2 => ?_⟩
      cases e2
      exact ⟨o, e, ex.2.1⟩
  | _ => exact False.elim ty
def tBM (K : PySem.W.Frag) (T : String) (r : V → List V → Hp → VK → Prop) (to : TE) (t : TA) : TE := fun σ H Q => to σ H fun x H1 => tyV K T x H1 ∧ t σ H1 fun xs H2 => r x xs H2 Q
variable {o e : Expr} {es : List Expr} {to : TE} {t : TA} {name : Str} {apos cpos : Pos} {T id : String} {r : V → List V → Hp → VK → Prop}
theorem pe_bm (pa : PlainAttrs T) (slot : Slot T name id) (hty : typeOf (.builtin id) = pure (.type "method_descriptor")) (hm : MtR X id r) (ho : PE X o to) (ha : PA X (e :: es) t)
    (hbase : attributeBase o name X.env (eval o X.env) = eval o X.env := by rfl)
    (hfew : ((backTo cpos (starEach (e :: es) X.env)).all (fun x => !x.1) && (backToKw cpos (keywordEach [] X.env)).all (fun x => x.1.isSome)
      && decide ((e :: es).length + ([] : List Keyword).length + (if ([] : List Keyword).isEmpty then 0 else 1) < 30)) = true := by rfl)
    (hline : (apos.endLine == cpos.line) = true := by rfl) (hs : starEach (e :: es) X.env = (false, eval e X.env) :: starEach es X.env := by rfl) (hplain : (backTo cpos (starEach es X.env)).any (·.1) = false := by rfl) :
    PE X (.Call (.Attribute o name apos) (e :: es) [] cpos) (tBM X.K T r to t) := by
  constructor
  intro pins s σ H Q I h
  refine wpAny_Call_method_late hbase hfew hline rfl (thn (ho pins s σ H _ I h) fun v s1 ⟨x, H1, I1, r1, ty, q1⟩ => ?_)
  obtain ⟨h1, h2⟩ := tyV_is I1 r1 ty
  refine ⟨T, id, pa, slot, hty, h1, h2, ?_⟩
  have hA := ha cpos pins s1 σ H1 _ I1 q1
  rw [hs] at hA ⊢
  refine Calls.callWith_builtin (by show (false || (backTo cpos (starEach es X.env)).any (·.1)) = false; rw [hplain] <;> rfl) (Calls.evalArgs_plain ?_)
  exact thn hA fun us s2 ⟨vs, H2, I2, r2, q2⟩ => hm pins s2 σ H2 x vs v us Q I2 r1 r2 q2
end
end L2
namespace L2
open PySem PySem.Spec PyProof.Rows
def MtM (X : Cx) (id : String) (r : V → List V → Hp → VK → Prop) : Prop :=
  ∀ (pins : List (Addr × Obj)) (s : Shared) (σ : St) (H : Hp) (x : V) (xs : List V) (v : Value) (us : List Value) (Q : VK), Inv X pins σ H s → RelV x v → Vals xs us → r x xs H Q →
    wpAny (model X.prog X.w) X.A (call (.builtin id) (v :: us)) (EP X pins σ Q) X.xe s
theorem Vals.one : ∀ {x : V} {us : List Value}, Vals [x] us → ∃ u, us = [u] ∧ RelV x u
  | _, _, .cons r .nil => ⟨_, rfl, r⟩
theorem Vals.zero : ∀ {us : List Value}, Vals [] us → us = []
  | _, .nil => rfl
theorem Vals.reverse {xs : List V} {us : List Value} (h : Vals xs us) : Vals xs.reverse us.reverse := by
  induction h with
  | nil => exact .nil
  | cons r t ih => rw [List.reverse_cons, List.reverse_cons]; exact Vals.append ih (.cons r .nil)
theorem Vals.rep {xs : List V} {us : List Value} (h : Vals xs us) : ∀ k : Nat, Vals (List.replicate k xs).flatten (List.replicate k us).flatten
  | 0 => .nil
  | k + 1 => by
    rw [List.replicate_succ, List.replicate_succ, List.flatten_cons, List.flatten_cons]
    exact Vals.append h (Vals.rep h k)
section
variable {X : Cx} {pins : List (Addr × Obj)} {σ : St} {H : Hp} {s : Shared} {l b : Addr} {xs ys zs : List V}
theorem Inv.lset {its its' : List Value} {n : Nat} {f : Array Value → Array Value} {t' : Nat} (I : Inv X pins σ H s) (hH : H l = some (.lst xs))
    (e : s.heap.get? l = some { cls := .type "list", data := .seq its.toArray n }) (hf : f its.toArray = its'.toArray) (hv : Vals ys its') (hz : ys.length ≤ sizeLine) :
    Inv X pins σ (upd H l (.lst ys)) { s with heap := s.heap.update l (Obj.mapSeq f), toks := t' } := by
  have q := PySem.IsL.update e f
  rw [hf] at q
  refine I.write (x := l) (e := l) (by rw [hH]; exact trivial) (.inl rfl) (fun b' u hb hu => (Heap.get?_update_other s.heap (Obj.mapSeq f) (Ne.symm hb)).trans hu) ⟨_, q⟩ ?_
  exact ⟨hz, its', _, hv, q⟩
theorem Inv.fresh (I : Inv X pins σ H s) : H s.heap.objs.size = none := I.hok.fresh (Nat.le_refl _)
theorem Inv.lstM (I : Inv X pins σ H s) (hH : H l = some (.lst xs)) : xs.length ≤ sizeLine ∧ ∃ (its : List Value) (n : Nat), Vals xs its ∧ xs.length = its.length ∧ s.heap.get? l = some { cls := .type "list", data := .seq its.toArray n } := by
  obtain ⟨z, its, n, r, e⟩ := I.hok l _ hH
  exact ⟨z, its, n, r, r.length, e⟩
end
section
variable {X : Cx}
def rAppend : V → List V → Hp → VK → Prop := fun x vs H Q => ∃ l xs y, x = .ref l ∧ vs = [y] ∧ H l = some (.lst xs) ∧ xs.length < sizeLine ∧ Q .non (upd H l (.lst (xs ++ [y])))
theorem mt_append : MtM X "list.append" rAppend := by
  intro pins s σ H x vs v us Q I rx rv h
  obtain ⟨l, xs, y, rfl, rfl, hH, hz, q⟩ := h
  cases rx
  obtain ⟨u, rfl, ru⟩ := rv.one
  obtain ⟨z, its, n, r, hl, e⟩ := I.lstM hH
  refine call_meets F.slot_list_append ⟨_, e, rfl⟩ F.entry_list_append (F.args_list_append_2 _ _) (PySem.list_append l its.toArray n u (by rw [List.size_toArray]; omega)) ⟨e, ?_⟩
  refine ⟨.non, _, I.lset (its' := its ++ [u]) hH e (by simp) (r.append (.cons ru .nil)) ?_, rfl, q⟩
  rw [List.length_append, List.length_singleton]
  omega
end
section
variable {prog : Program} {w : World} {A : Around} {E : Value → Shared → Prop} {s : Shared}
end
section
variable {X : Cx}
end
end L2
namespace L2
open PySem PySem.Spec PyProof.Rows
theorem Vals.strs : ∀ {xs : List Str} {us : List Value}, Vals (xs.map V.str) us → StrsAre us xs
  | [], us, h => by
    rw [List.map_nil] at h
    cases h
    exact StrsAre.nil
  | x :: xs, us, h => by
    rw [List.map_cons] at h
    cases h with
    | cons r t =>
      obtain ⟨k, rfl⟩ := r
      exact StrsAre.cons x k (Vals.strs t)
theorem vals_of_strs : ∀ {us : List Value} {xs : List Str}, StrsAre us xs → Vals (xs.map V.str) us
  | _, _, .nil => by rw [List.map_nil]; exact Paired.nil
  | _, _, .cons x t h => by rw [List.map_cons]; exact Paired.cons (show RelV (V.str x) (Value.str x t) from ⟨t, rfl⟩) (vals_of_strs h)
theorem Vals.bls : ∀ {bs : List Bool} {us : List Value}, Vals (bs.map V.bl) us → us = bs.map Value.bool
  | [], us, h => by
    rw [List.map_nil] at h
    cases h
    rfl
  | b :: bs, us, h => by
    rw [List.map_cons] at h
    cases h with
    | cons r t =>
      cases r
      rw [Vals.bls t, List.map_cons]
theorem Vals.ref1 {a : Addr} {us : List Value} (r : Vals [V.ref a] us) : us = [Value.ref a] := by
  cases r with
  | cons r t =>
    cases t
    cases r
    rfl
section
variable {prog : Program} {w : World} {A : Around} {E : Value → Shared → Prop} {s : Shared} {l : Addr} {its : List Value} {ns : List Int} {Q : Value → Shared → Prop}
end
section
variable {X : Cx}
def rSortedS (K : PySem.W.Frag) : List V → Hp → VK → Prop := fun vs H Q => ∃ (a : Addr) (xs : List Str), vs = [V.ref a] ∧ SqL K H a (xs.map V.str) ∧ xs.length < 64 ∧
  ∀ (ys : List Str) (p : Addr), ys.Perm xs → sortedS ys = true → H p = none → Q (.ref p) (upd H p (.lst (ys.map V.str)))
theorem small64 {n : Nat} (h : n < 64) : n ≤ sizeLine := by rw [sizeLine_eq]; omega
theorem cr_sortedS : CallR X (.builtin "sorted") (rSortedS X.K) := by
  intro pins s σ H vs us Q I r h
  obtain ⟨a, xs, rfl, hs, h64, q⟩ := h
  obtain ⟨its, rv, hl, _⟩ := I.list hs
  rw [Vals.ref1 r]
  have hlen0 := rv.length
  rw [List.length_map] at hlen0
  refine PyProof.Rows.sorted_strs hl.isList rv.strs (by rw [← hlen0]; exact h64) fun out ys h1 h2 h3 => ?_
  obtain ⟨ep, he'⟩ := PyProof.Rows.sortedAll_at s.heap its out
  have hlen : (ys.map V.str).length ≤ sizeLine := by rw [List.length_map, h2.length_eq]; exact small64 h64
  exact ⟨.ref _, upd H (s.heap.objs.size + 1) (.lst (ys.map V.str)), I.laid (t' := s.toks) (fun _ _ => PyProof.Rows.sortedAll_old) (Nat.le_succ _) ⟨hlen, out.toList, ep, vals_of_strs h1, he'⟩, rfl, q ys _ h2 h3 (I.hok.fresh (Nat.le_succ _))⟩
end
section
variable {X : Cx}
end
section
variable {X : Cx}
end
theorem iter_any {prog : Program} {w : World} {A : Around} {E : Value → Shared → Prop} {s : Shared} {l : Addr} {items : Array Value} {Q : Value → Shared → Prop} (hl : s.heap.IsList l items)
    (h : ∀ s₂ : Shared, s₂ = { s with heap := s.heap.push { cls := .type "list_iterator", data := .fields #[.ref l, .int 0 0] } } →
      (s₂.heap.IsListIter s.heap.objs.size l 0 ∧ s₂.heap.IsList l items) → l ≠ s.heap.objs.size → Q (.ref s.heap.objs.size) s₂) : wpAny (model prog w) A (pyIter (.ref l)) Q E s := by
  have hlt : l < s.heap.objs.size := by obtain ⟨_, e, _⟩ := hl; exact Heap.lt_size e
  exact wpAny_pyIter_list hl (h _ rfl ⟨⟨_, Heap.get?_push_size _ rfl, rfl, rfl⟩, hl.push _⟩ (Nat.ne_of_lt hlt))
theorem truth_bools {prog : Program} {w : World} {A : Around} {bs : List Bool} {its : List Value} (e : its = bs.map Value.bool) :
    TruthOf prog w A (fun i v => its.toArray[i]? = some v) (fun i => bs.getD i false) := fun i v s Q E hv hq => by
  have hv' : its[i]? = some v := by simpa using hv
  rw [e, List.getElem?_map] at hv'
  obtain ⟨b, hb, rfl⟩ := Option.map_eq_some_iff.mp hv'
  have hg : bs.getD i false = b := by rw [List.getD_eq_getElem?_getD, hb] <;> rfl
  have hq' : Q (bs.getD i false) s := hq
  rw [hg] at hq'
  exact wpAny_truthy_bool hq'
theorem all_range : ∀ bs : List Bool, (List.range bs.length).all (fun i => bs.getD i false) = bs.all id
  | [] => rfl
  | b :: bs => by
    rw [List.length_cons, List.range_succ_eq_map, List.all_cons, List.all_map, List.all_cons, ← all_range bs]
    all_goals rfl
section
variable {X : Cx}
def rAll (K : PySem.W.Frag) : List V → Hp → VK → Prop := fun vs H Q => ∃ (a : Addr) (bs : List Bool), vs = [V.ref a] ∧ SqL K H a (bs.map V.bl) ∧ Q (.bl (bs.all id)) H
theorem cr_all (hc : X.calm = true) : CallR X (.builtin "all") (rAll X.K) := by
  intro pins s σ H vs us Q I r h
  obtain ⟨a, bs, rfl, hs, q⟩ := h
  obtain ⟨its, rv, hl, _⟩ := I.list hs
  rw [Vals.ref1 r]
  have hb := rv.bls
  refine call_all_walk (iter_any hl.isList fun s₂ e2 st hne => ?_)
  subst e2
  refine ⟨_, _, _, _, _, _, _, rfl, Walks.list (A := X.A.in1) (I.ok.hd hc) _ a hne its.toArray, st, truth_bools hb, fun h' tk hk => ?_⟩
  refine ⟨.bl _, H, I.kept fun b o eo => hk b o (fun hmem => ?_) (Heap.get?_push_of_some _ eo), ?_, q⟩
  · rcases List.mem_cons.mp hmem with e1 | hmem
    · exact absurd (e1 ▸ Heap.lt_size eo) (Nat.lt_irrefl _)
    · cases hmem
  · show Value.bool _ = Value.bool _
    rw [← all_range, hb, List.size_toArray, List.length_map]
end
mutual
inductive Dp (K : PySem.W.Frag) (H : Hp) : V → PyData → Prop
  | non : Dp K H .non .none
  | bl (b : Bool) : Dp K H (.bl b) (.bool b)
  | int (i : Int) : Dp K H (.int i) (.int i)
  | str (x : Str) : Dp K H (.str x) (.str x)
  | lst {a : Addr} {xs : List V} {ds : List PyData} : SqL K H a xs → DpAll K H xs ds → Dp K H (.ref a) (.list ds)
  | tup {a : Addr} {xs : List V} {ds : List PyData} : SqT K H a xs → DpAll K H xs ds → Dp K H (.ref a) (.tuple ds)
inductive DpAll (K : PySem.W.Frag) (H : Hp) : List V → List PyData → Prop
  | nil : DpAll K H [] []
  | cons {v : V} {vs : List V} {d : PyData} {ds : List PyData} : Dp K H v d → DpAll K H vs ds → DpAll K H (v :: vs) (d :: ds)
end
section
variable {X : Cx} {pins : List (Addr × Obj)} {σ : St} {H : Hp} {s : Shared}
mutual
theorem Dp.reads (I : Inv X pins σ H s) : ∀ (d : PyData) (v : V) (u : Value), Dp X.K H v d → RelV v u → ∃ as, Reads s.heap u d as
  | .none, _, _, h, r => by
    cases h
    cases r
    exact ⟨_, Reads.none⟩
  | .bool b, _, _, h, r => by
    cases h
    cases r
    exact ⟨_, Reads.bool b⟩
  | .int i, _, _, h, r => by
    cases h
    obtain ⟨t, rfl⟩ := r
    exact ⟨_, Reads.int i t⟩
  | .str x, _, _, h, r => by
    cases h
    obtain ⟨t, rfl⟩ := r
    exact ⟨_, Reads.str x t⟩
  | .list ds, _, _, h, r => by
    cases h with
    | lst hs ha =>
      cases r
      obtain ⟨its, rv, ⟨o, n, ho, hc, _, hd⟩, _⟩ := I.list hs
      obtain ⟨as, hr⟩ := Dp.readsAll I ds _ its ha rv
      exact ⟨_, Reads.list ho hc hd hr⟩
  | .tuple ds, _, _, h, r => by
    cases h with
    | tup hs ha =>
      cases r
      obtain ⟨its, rv, ⟨o, ho, hc, n, hd⟩, _⟩ := I.tuple hs
      obtain ⟨as, hr⟩ := Dp.readsAll I ds _ its ha rv
      exact ⟨_, Reads.tuple ho hc hd hr⟩
  | .dict _, _, _, h, _ => by cases h
theorem Dp.readsAll (I : Inv X pins σ H s) : ∀ (ds : List PyData) (vs : List V) (us : List Value), DpAll X.K H vs ds → Vals vs us → ∃ as, ReadsAll s.heap us ds as
  | [], _, _, h, r => by
    cases h
    cases r
    exact ⟨_, ReadsAll.nil⟩
  | d :: ds, _, _, h, r => by
    cases h with
    | cons h1 h2 =>
      cases r with
      | cons r1 r2 =>
        obtain ⟨as, q1⟩ := Dp.reads I d _ _ h1 r1
        obtain ⟨bs, q2⟩ := Dp.readsAll I ds _ _ h2 r2
        exact ⟨_, ReadsAll.cons q1 q2⟩
end
end
section
variable {X : Cx}
def rEqD (K : PySem.W.Frag) : R2 := fun x y H Q => ∃ d e, Dp K H x d ∧ Dp K H y e ∧ SeqAt.shaped d = true ∧ SeqAt.shaped e = true ∧ Q (.bl (PyData.eqv d e)) H
def rNeD (K : PySem.W.Frag) : R2 := fun x y H Q => ∃ d e, Dp K H x d ∧ Dp K H y e ∧ SeqAt.shaped d = true ∧ SeqAt.shaped e = true ∧ Q (.bl (!PyData.eqv d e)) H
theorem op_eqD (hu : X.A.units + 64 < cLine) : OpR X (compareOp .Eq) (rEqD X.K) := by
  intro pins s σ H x y v u Q I rx ry h
  obtain ⟨d, e, hd, he, sd, se, q⟩ := h
  obtain ⟨as, r1⟩ := Dp.reads I d x v hd rx
  obtain ⟨bs, r2⟩ := Dp.reads I e y u he ry
  exact SeqAt.compareEq_shaped r1 r2 sd se hu ⟨.bl _, H, I, rfl, q⟩
theorem op_neD (hu : X.A.units + 64 < cLine) : OpR X (compareOp .NotEq) (rNeD X.K) := by
  intro pins s σ H x y v u Q I rx ry h
  obtain ⟨d, e, hd, he, sd, se, q⟩ := h
  obtain ⟨as, r1⟩ := Dp.reads I d x v hd rx
  obtain ⟨bs, r2⟩ := Dp.reads I e y u he ry
  exact SeqAt.compareNe_shaped r1 r2 sd se hu ⟨.bl _, H, I, rfl, q⟩
end
end L2
namespace L2
open PySem PySem.Spec PyProof.Rows
abbrev CellAt (h : Heap) (c : Addr) (v : Option Value) : Prop := h.IsCell c v
def relS (scope sc : Scope) : Scope :=
  { scope with names := scope.names.map fun (n, k) => if (k == .free && sc.kind == .function && sc.names.lookup n == some .cell) then (n, .cell) else (n, k) }
def cloFrom (cells : List (Str × Addr)) : List (Str × NameKind) → List (Str × Addr) → List (Str × Addr)
  | [], acc => acc
  | (n, k) :: r, acc => if k == .free then cloFrom cells r ((n, (cells.lookup n).getD 0) :: acc) else cloFrom cells r acc
theorem closure_loop (env : Env) (f : Str × NameKind → List (Str × Addr) → Sem (ForInStep (List (Str × Addr))))
    (hf : ∀ n k c, f (n, k) c = if k == .free then (do let a ← cellOf env n; pure (.yield ((n, a) :: c))) else pure (.yield c)) :
    ∀ (names : List (Str × NameKind)) (acc : List (Str × Addr)), (∀ y ∈ names, y.2 = .free → ∃ c, env.cells.lookup y.1 = some c) → forIn names acc f = pure (cloFrom env.cells names acc)
  | [], acc, _ => by rw [List.forIn_nil]; rfl
  | (n, k) :: r, acc, h => by
    rw [List.forIn_cons, hf]
    have ih := fun acc => closure_loop env f hf r acc fun y hy => h y (List.mem_cons_of_mem _ hy)
    unfold cloFrom
    by_cases hk : (k == NameKind.free) = true
    · rw [if_pos hk, if_pos hk]
      obtain ⟨c, hc⟩ := h (n, k) List.mem_cons_self (by simpa using hk)
      have e : cellOf env n = pure c := by unfold cellOf; rw [hc]
      rw [e]
      have e2 : (env.cells.lookup n).getD 0 = c := by rw [hc]; rfl
      rw [e2]
      exact ih _
    · rw [if_neg hk, if_neg hk]
      exact ih _
theorem closure_ok {scope : Scope} {env : Env} (h : ∀ y ∈ scope.names, y.2 = .free → ∃ c, env.cells.lookup y.1 = some c) : closureFor scope env = pure (cloFrom env.cells scope.names []) := by
  simp only [closureFor]
  rw [closure_loop env _ (fun n k c => rfl) scope.names [] h]
  rfl
theorem mem_lookup {α : Type} : ∀ {l : List (Str × α)} {n : Str} {c : α}, (n, c) ∈ l → ∃ c', l.lookup n = some c'
  | (k, v) :: r, n, c, h => by
    rw [List.lookup_cons]
    cases hb : n == k with
    | true => exact ⟨_, rfl⟩
    | false =>
      rcases List.mem_cons.mp h with e | h
      · cases e; simp at hb
      · exact mem_lookup h
theorem cloFrom_mem {cells : List (Str × Addr)} : ∀ {names : List (Str × NameKind)} {acc : List (Str × Addr)} {n : Str} {c : Addr}, (n, c) ∈ cloFrom cells names acc → (n, c) ∈ acc ∨ ((n, .free) ∈ names ∧ c = (cells.lookup n).getD 0)
  | [], _, _, _, h => .inl h
  | (m, k) :: r, acc, n, c, h => by
    unfold cloFrom at h
    split at h
    · rename_i hk
      have hk : k = .free := by simpa using hk
      rcases cloFrom_mem h with h | ⟨h1, h2⟩
      · rcases List.mem_cons.mp h with e | h
        · cases e; exact .inr ⟨hk ▸ List.mem_cons_self, rfl⟩
        · exact .inl h
      · exact .inr ⟨List.mem_cons_of_mem _ h1, h2⟩
    · rcases cloFrom_mem h with h | ⟨h1, h2⟩
      · exact .inl h
      · exact .inr ⟨List.mem_cons_of_mem _ h1, h2⟩
theorem cloFrom_acc {cells : List (Str × Addr)} : ∀ {names : List (Str × NameKind)} {acc : List (Str × Addr)} {p : Str × Addr}, p ∈ acc → p ∈ cloFrom cells names acc
  | [], _, _, h => h
  | (m, k) :: r, acc, p, h => by
    unfold cloFrom
    split
    · exact cloFrom_acc (List.mem_cons_of_mem _ h)
    · exact cloFrom_acc h
theorem cloFrom_has {cells : List (Str × Addr)} : ∀ {names : List (Str × NameKind)} {acc : List (Str × Addr)} {n : Str}, (n, .free) ∈ names → (n, (cells.lookup n).getD 0) ∈ cloFrom cells names acc
  | (m, k) :: r, acc, n, h => by
    unfold cloFrom
    rcases List.mem_cons.mp h with e | h
    · cases e
      exact cloFrom_acc List.mem_cons_self
    · split
      · exact cloFrom_has h
      · exact cloFrom_has h
theorem cells_mem : ∀ {names : List (Str × NameKind)} {h : Heap} {acc : List (Str × Addr)} {x : Str} {c : Addr}, (x, c) ∈ cellsFrom h.objs.size names acc →
    (x, c) ∈ acc ∨ ((x, .cell) ∈ names ∧ h.objs.size ≤ c ∧ CellAt (pushCells h names) c none)
  | [], _, _, _, _, h => .inl h
  | (n, k) :: r, h, acc, x, c, hm => by
    unfold cellsFrom at hm
    unfold pushCells
    split at hm
    · rename_i hk
      rw [if_pos hk]
      have hk : k = .cell := by simpa using hk
      rw [← Heap.size_push h { cls := .type "cell", data := .cell none }] at hm
      rcases cells_mem hm with hm | ⟨h1, h2, h3⟩
      · rcases List.mem_cons.mp hm with e | hm
        · cases e
          exact .inr ⟨hk ▸ List.mem_cons_self, Nat.le_refl _, _, pushCells_keeps r _ _ _ (Heap.get?_push_size _ rfl), rfl⟩
        · exact .inl hm
      · rw [Heap.size_push] at h2
        exact .inr ⟨List.mem_cons_of_mem _ h1, Nat.le_of_succ_le h2, h3⟩
    · rename_i hk
      rw [if_neg hk]
      rcases cells_mem hm with hm | ⟨h1, h2, h3⟩
      · exact .inl hm
      · exact .inr ⟨List.mem_cons_of_mem _ h1, h2, h3⟩
theorem cells_acc : ∀ {names : List (Str × NameKind)} {n : Nat} {acc : List (Str × Addr)} {p : Str × Addr}, p ∈ acc → p ∈ cellsFrom n names acc
  | [], _, _, _, h => h
  | (m, k) :: r, n, acc, p, h => by
    unfold cellsFrom
    split
    · exact cells_acc (List.mem_cons_of_mem _ h)
    · exact cells_acc h
theorem cells_has : ∀ {names : List (Str × NameKind)} {n : Nat} {acc : List (Str × Addr)} {x : Str}, (x, .cell) ∈ names → ∃ c, (x, c) ∈ cellsFrom n names acc
  | (m, k) :: r, n, acc, x, h => by
    unfold cellsFrom
    rcases List.mem_cons.mp h with e | h
    · cases e
      exact ⟨n, cells_acc List.mem_cons_self⟩
    · split
      · exact cells_has h
      · exact cells_has h
theorem cells_inj : ∀ {names : List (Str × NameKind)} {h : Heap} {acc : List (Str × Addr)} {x y : Str} {c : Addr}, (∀ p ∈ acc, p.2 < h.objs.size) → (∀ x y c, (x, c) ∈ acc → (y, c) ∈ acc → x = y) →
    (x, c) ∈ cellsFrom h.objs.size names acc → (y, c) ∈ cellsFrom h.objs.size names acc → x = y
  | [], _, _, _, _, _, _, hi, h1, h2 => hi _ _ _ h1 h2
  | (n, k) :: r, h, acc, x, y, c, hl, hi, h1, h2 => by
    unfold cellsFrom at h1 h2
    split at h1
    · rename_i hk
      rw [if_pos hk] at h2
      rw [← Heap.size_push h { cls := .type "cell", data := .cell none }] at h1 h2
      refine cells_inj (h := h.push _) (fun p hp => ?_) (fun x y c a b => ?_) h1 h2
      · rw [Heap.size_push]
        rcases List.mem_cons.mp hp with rfl | hp
        · exact Nat.lt_succ_self _
        · exact Nat.lt_succ_of_lt (hl p hp)
      · rcases List.mem_cons.mp a with e | a <;> rcases List.mem_cons.mp b with e' | b
        · cases e; cases e'; rfl
        · cases e; exact absurd (hl _ b) (Nat.lt_irrefl _)
        · cases e'; exact absurd (hl _ a) (Nat.lt_irrefl _)
        · exact hi _ _ _ a b
    · rename_i hk
      rw [if_neg hk] at h2
      exact cells_inj hl hi h1 h2
theorem newEnv_comp {M : Model} {A : Around} {E : Value → Shared → Prop} {s : Shared} {scope : Scope} {globals : Addr} {closure : List (Str × Addr)} {qual : Str} {func : Option Addr} {code : Value} {around : Env} {builtins : Addr} {Q : Env → Shared → Prop}
    (h : Q (newEnv scope s.heap.objs.size globals (cellsFrom (s.heap.objs.size + 1) scope.names closure) qual func code (some around) builtins)
      { s with heap := pushCells (s.heap.push { cls := .type "dict", data := .dict #[] }) scope.names }) :
    wpAny M A (newFunctionEnv scope globals closure [] qual func code (some around) builtins) Q E s := by
  simp only [newFunctionEnv, Option.isSome_some, if_true]
  refine wpAny_bind (wpAny_alloc ?_)
  refine wpAny_bind (wpAny_layCells _ (fun n k c => rfl) scope.names closure _ _ ?_)
  rw [show ({ s with heap := s.heap.push { cls := .type "dict", data := .dict #[] } } : Shared).heap.objs.size = s.heap.objs.size + 1 from Heap.size_push ..]
  rw [List.forIn_nil]
  exact wpAny_bind (wpAny_pure (wpAny_pure h))
theorem lookup_relS {sc : Scope} : ∀ {names : List (Str × NameKind)} {x : Str} {k : NameKind},
    (names.map fun (n, k) => if (k == NameKind.free && sc.kind == .function && sc.names.lookup n == some .cell) then (n, NameKind.cell) else (n, k)).lookup x = some k →
    ∃ k', names.lookup x = some k' ∧ (k = k' ∨ (k' = .free ∧ k = .cell))
  | [], _, _, h => by simp at h
  | (n, k₀) :: r, x, k, h => by
    have ih := @lookup_relS sc r x k
    have h' : List.lookup x ((if (k₀ == NameKind.free && sc.kind == .function && sc.names.lookup n == some .cell) = true then (n, NameKind.cell) else (n, k₀)) :: (r.map _)) = some k := h
    cases hx : x == n with
    | true =>
      simp only [List.lookup_cons, hx]
      by_cases hc : (k₀ == NameKind.free && sc.kind == .function && sc.names.lookup n == some .cell) = true
      · rw [if_pos hc] at h'
        simp only [List.lookup_cons, hx] at h'
        cases h'
        simp only [Bool.and_eq_true, beq_iff_eq] at hc
        exact ⟨k₀, rfl, .inr ⟨hc.1.1, rfl⟩⟩
      · rw [if_neg hc] at h'
        simp only [List.lookup_cons, hx] at h'
        cases h'
        exact ⟨_, rfl, .inl rfl⟩
    | false =>
      simp only [List.lookup_cons, hx]
      by_cases hc : (k₀ == NameKind.free && sc.kind == .function && sc.names.lookup n == some .cell) = true
      · rw [if_pos hc] at h'
        simp only [List.lookup_cons, hx] at h'
        exact ih h'
      · rw [if_neg hc] at h'
        simp only [List.lookup_cons, hx] at h'
        exact ih h'
structure BlkOk (N : List Str) (sc scope : Scope) (own : List (Str × Nat)) : Prop where
  kind : scope.kind = .function
  uniq : ∀ y ∈ scope.names, scope.names.lookup y.1 = some y.2
  ix : ∀ p ∈ own, N[p.2]? = some p.1
  free : ∀ y ∈ scope.names, y.2 = .free → sc.names.lookup y.1 = some .cell ∨ sc.names.lookup y.1 = some .free
  own : ∀ y ∈ scope.names, y.2 = .local ∨ y.2 = .cell → y.1 ∈ own.map (·.1) ∨ y.1 ∉ N
def wipe (σ : St) : List Nat → St
  | [] => σ
  | v :: vs => (wipe σ vs).set v none
theorem wipe_length (σ : St) : ∀ vs : List Nat, (wipe σ vs).length = σ.length
  | [] => rfl
  | v :: vs => by unfold wipe; rw [List.length_set, wipe_length σ vs]
theorem wipe_some {σ : St} {i : Nat} {x : V} : ∀ {vs : List Nat}, (wipe σ vs)[i]? = some (some x) → σ[i]? = some (some x) ∧ i ∉ vs
  | [], h => ⟨h, by simp⟩
  | v :: vs, h => by
    unfold wipe at h
    by_cases hi : v = i
    · subst hi
      by_cases hv : v < (wipe σ vs).length
      · rw [List.getElem?_set_self hv] at h; cases h
      · rw [List.getElem?_eq_none (by simpa using hv)] at h; cases h
    · rw [List.getElem?_set_ne hi] at h
      obtain ⟨h1, h2⟩ := wipe_some h
      exact ⟨h1, by simp only [List.mem_cons, not_or]; exact ⟨fun e => hi e.symm, h2⟩⟩
abbrev Cx.blk (X : Cx) (s : Shared) (H : Hp) (scope : Scope) (cenv : Env) (fp : List Addr) : Cx := { X with s_0 := s, H_0 := H, env := cenv, outer := X.stack, ex := fp, fn := fun x => scope.names.lookup x == some .cell, pn := [], xe := fun _ _ => False }
section
variable {X : Cx} {pins : List (Addr × Obj)} {σ : St} {H : Hp} {s : Shared}
theorem block_start {scope : Scope} {own : List (Str × Nat)} {fp : List Addr} (I : Inv X pins σ H s) (ok : BlkOk X.N X.env.scope scope own) (hN : X.N.Nodup) (hfp : ∀ b ∈ fp, FpOk X pins H b ∧ b < s.heap.objs.size) :
    Inv (X.blk s H scope (compEnvC scope (cellsFrom (s.heap.objs.size + 1) scope.names (cloFrom X.env.cells scope.names [])) s.heap.objs.size X.env) fp) [] (wipe σ (own.map (·.2))) H { s with heap := pushCells (s.heap.push { cls := .type "dict", data := .dict #[] }) scope.names } := by
  have hfree : ∀ y ∈ scope.names, y.2 = .free → ∃ c, X.env.cells.lookup y.1 = some c := fun y hy e => by
    rcases ok.free y hy e with k | k
    · exact I.ok.has _ (.inl k)
    · exact I.ok.has _ (.inr k)
  generalize hcenv : compEnvC scope (cellsFrom (s.heap.objs.size + 1) scope.names (cloFrom X.env.cells scope.names [])) s.heap.objs.size X.env = cenv
  have kp : ∀ b o, s.heap.get? b = some o → (pushCells (s.heap.push { cls := .type "dict", data := .dict #[] }) scope.names).get? b = some o := fun b o e => pushCells_keeps _ _ _ _ (Heap.get?_push_of_some _ e)
  have hL : cenv.locals = s.heap.objs.size := by rw [← hcenv]; rfl
  have hcl : cenv.cells = cellsFrom (s.heap.objs.size + 1) scope.names (cloFrom X.env.cells scope.names []) := by rw [← hcenv]; rfl
  have hsc : cenv.scope = relS scope X.env.scope := by rw [← hcenv]; rfl
  rw [← Heap.size_push s.heap { cls := .type "dict", data := .dict #[] }] at hcl
  have cm : ∀ {y c}, (y, c) ∈ cloFrom X.env.cells scope.names [] → X.env.cells.lookup y = some c ∧ c < s.heap.objs.size := fun {y c} hm => by
    rcases cloFrom_mem hm with hm | ⟨h1, rfl⟩
    · cases hm
    · obtain ⟨c, hc⟩ := hfree _ h1 rfl
      rw [hc]
      obtain ⟨w, z⟩ := I.cell _ _ hc
      exact ⟨rfl, z.lt⟩
  have mem : ∀ {y c}, cenv.cells.lookup y = some c → (X.env.cells.lookup y = some c ∧ c < s.heap.objs.size) ∨ (s.heap.objs.size + 1 ≤ c ∧ CellAt (pushCells (s.heap.push { cls := .type "dict", data := .dict #[] }) scope.names) c none) := fun {y c} e => by
    rw [hcl] at e
    rcases cells_mem (PySem.mem_of_lookup e) with hm | ⟨_, h2, h3⟩
    · exact .inl (cm hm)
    · rw [Heap.size_push] at h2; exact .inr ⟨h2, h3⟩
  have look : ∀ {y}, scope.names.lookup y = some .free → ∃ c, cenv.cells.lookup y = some c ∧ X.env.cells.lookup y = some c := fun {y} hl => by
    have hy : (y, NameKind.free) ∈ scope.names := PySem.mem_of_lookup hl
    obtain ⟨c', e'⟩ := mem_lookup (cells_acc (names := scope.names) (n := (s.heap.push { cls := .type "dict", data := .dict #[] }).objs.size) (cloFrom_has (cells := X.env.cells) (acc := []) hy))
    rw [← hcl] at e'
    refine ⟨c', e', ?_⟩
    rw [hcl] at e'
    rcases cells_mem (PySem.mem_of_lookup e') with hm | ⟨h1, _, _⟩
    · exact (cm hm).1
    · have := ok.uniq _ h1
      rw [hl] at this; cases this
  have okB : (X.blk s H scope cenv fp).Ok := by
    refine ⟨I.ok.mod, by show cenv.scope.kind = _; rw [hsc]; exact ok.kind, by show cenv.globals = _; rw [← hcenv]; exact I.ok.glob, by show cenv.builtins = _; rw [← hcenv]; exact I.ok.blt, by show s.heap.objs.size ≤ cenv.locals; rw [hL]; exact Nat.le_refl _,
      fun y z c e1 e2 => ?_, fun y hy => ?_, fun y c z e => ?_, I.ok.hd, I.ok.frames, .inl rfl, fun b hb => ⟨?_, fun y c e z => ?_⟩, I.bs, Nat.le_trans I.ok.bsz I.sz, fun b o e hb => ?_, fun b hb z => ?_, I.stack, I.stkFree⟩
    · have e1 : cenv.cells.lookup y = some c := e1
      have e2 : cenv.cells.lookup z = some c := e2
      rw [hcl] at e1 e2
      refine cells_inj (fun p hp => ?_) (fun y z c a b => I.ok.inj y z c (cm a).1 (cm b).1) (PySem.mem_of_lookup e1) (PySem.mem_of_lookup e2)
      rw [Heap.size_push]
      exact Nat.lt_succ_of_lt (cm (y := p.1) (c := p.2) hp).2
    · show ∃ c, cenv.cells.lookup y = some c
      have key : ∀ k, cenv.kindOf y = some k → (k = .cell ∨ k = .free) → ∃ c, cenv.cells.lookup y = some c := fun k hk hk' => by
        unfold Env.kindOf at hk
        rw [hsc] at hk
        obtain ⟨k', e, r⟩ := lookup_relS hk
        have : k' = .cell ∨ k' = .free := by
          rcases r with rfl | ⟨rfl, _⟩
          · exact hk'
          · exact .inr rfl
        rcases this with rfl | rfl
        · obtain ⟨c, hm⟩ := cells_has (n := (s.heap.push { cls := .type "dict", data := .dict #[] }).objs.size) (acc := cloFrom X.env.cells scope.names []) (PySem.mem_of_lookup e)
          obtain ⟨c', e'⟩ := mem_lookup hm
          exact ⟨c', by rw [hcl]; exact e'⟩
        · obtain ⟨c, h1, _⟩ := look e
          exact ⟨c, h1⟩
      rcases hy with hy | hy
      · exact key _ hy (.inl rfl)
      · exact key _ hy (.inr rfl)
    · have z : (scope.names.lookup y == some NameKind.cell) = true := z
      have z : scope.names.lookup y = some .cell := by simpa using z
      have e : cenv.cells.lookup y = some c := e
      rw [hcl] at e
      rcases cells_mem (PySem.mem_of_lookup e) with hm | ⟨_, h2, _⟩
      · rcases cloFrom_mem hm with hm | ⟨h1, _⟩
        · cases hm
        · have q := ok.uniq _ h1
          rw [z] at q; cases q
      · rw [Heap.size_push] at h2
        exact Nat.le_of_succ_le h2
    · show b ≠ cenv.locals
      rw [hL]; exact Nat.ne_of_lt (hfp b hb).2
    · have e : cenv.cells.lookup y = some c := e
      rcases mem e with ⟨h1, _⟩ | ⟨h1, _⟩
      · exact (hfp b hb).1.2.2.2.2.1 y c h1 z
      · have h2 : s.heap.objs.size + 1 ≤ b := by rw [← z]; exact h1
        exact absurd (Nat.lt_of_lt_of_le (hfp b hb).2 (Nat.le_of_succ_le h2)) (Nat.lt_irrefl _)
    · rcases (hfp b hb).1.2.2.2.1 with z | z
      · exact I.ok.noex b o e z
      · exact absurd (Nat.lt_of_lt_of_le (Heap.lt_size e) (Nat.le_trans I.ok.bsz z)) (Nat.lt_irrefl _)
    · rcases List.mem_cons.mp (I.stkSub b z) with z | z
      · exact (hfp b hb).1.2.1 z
      · exact (hfp b hb).1.2.2.1 z
  refine ⟨okB, rfl, I.bare, Un.kept kp, ⟨fun _ => none, ?_, fun i y av e1 e2 e3 => ?_⟩, fun y c e => ?_, ?_, fun y c e => ?_, fun p hp => ?_, I.hok.kept kp, by rw [wipe_length]; exact I.len⟩
  · show Heap.Ns _ cenv.locals _
    rw [hL]
    exact Heap.Ns.keeps (Heap.Ns.new ..) fun b o e => pushCells_keeps _ _ _ _ e
  · obtain ⟨e2, hne⟩ := wipe_some e2
    have hfr : scope.names.lookup y = some .free ∧ (cenv.kindOf y = some .cell ∨ cenv.kindOf y = some .free) := by
      have key : ∀ k, cenv.scope.names.lookup y = some k → k = .local ∨ k = .cell ∨ k = .free → scope.names.lookup y = some .free ∧ (cenv.kindOf y = some .cell ∨ cenv.kindOf y = some .free) := fun k hk hk' => by
        have hk0 := hk
        rw [hsc] at hk
        obtain ⟨k', e, r⟩ := lookup_relS hk
        have no : ¬ (k' = .local ∨ k' = .cell) := fun hh => by
          rcases ok.own _ (PySem.mem_of_lookup e) hh with e' | e'
          · obtain ⟨p, hp, hpy⟩ := List.mem_map.mp e'
            have e3 := ok.ix p hp
            have : p.1 = y := hpy
            rw [this] at e3
            exact hne (List.mem_map.mpr ⟨p, hp, nodup_ix hN e3 e1⟩)
          · exact e' (List.mem_of_getElem? e1)
        rcases r with rfl | ⟨rfl, rfl⟩
        · rcases hk' with rfl | rfl | rfl
          · exact absurd (.inl rfl) no
          · exact absurd (.inr rfl) no
          · exact ⟨e, .inr hk0⟩
        · exact ⟨e, .inl hk0⟩
      have e3 : Vis cenv.scope y := e3
      rcases e3 with e3 | e3 | e3
      · exact key _ e3 (.inl rfl)
      · exact key _ e3 (.inr (.inl rfl))
      · exact key _ e3 (.inr (.inr rfl))
    obtain ⟨m, hn, hl⟩ := I.loc
    have hvis : Vis X.env.scope y := (ok.free _ (PySem.mem_of_lookup hfr.1) rfl).elim (fun k => .inr (.inl k)) (fun k => .inr (.inr k))
    obtain ⟨w, r, q⟩ := hl i y av e1 e2 hvis
    refine ⟨w, r, .inr ⟨hfr.2, ?_⟩⟩
    obtain ⟨c, h1, h2⟩ := look hfr.1
    rcases q with ⟨k, _⟩ | ⟨_, c', e', z⟩
    · have k : X.env.scope.names.lookup y = some .local := k
      rcases ok.free _ (PySem.mem_of_lookup hfr.1) rfl with k' | k' <;> rw [show X.env.scope.names.lookup y = _ from k'] at k <;> cases k
    · rw [h2] at e'; cases e'
      exact ⟨c, h1, z.keeps kp⟩
  · have e : cenv.cells.lookup y = some c := e
    rcases mem e with ⟨h1, _⟩ | ⟨_, z⟩
    · obtain ⟨w, z⟩ := I.cell y c h1
      exact ⟨w, z.keeps kp⟩
    · exact ⟨_, z⟩
  · show H cenv.locals = none
    rw [hL]; exact I.hok.fresh (Nat.le_refl _)
  · have e : cenv.cells.lookup y = some c := e
    rcases mem e with ⟨h1, _⟩ | ⟨h1, _⟩
    · exact I.freeC y c h1
    · exact I.hok.fresh (Nat.le_of_succ_le h1)
  · exact absurd (show p ∈ ([] : List (Addr × Obj)) ++ [] from hp) (by simp)
theorem app_ok {E : Value → Shared → Prop} {D : Addr} {xs : List V} {y : V} {v : Value} {Q : Value → Shared → Prop} (I : Inv X pins σ H s) (hD : H D = some (.lst xs)) (hz : xs.length < sizeLine) (r : RelV y v)
    (h : ∀ s', Inv X pins σ (upd H D (.lst (xs ++ [y]))) s' → Q .none s') : wpAny (model X.prog X.w) X.A (call (.builtin "list.append") [.ref D, v]) Q E s := by
  obtain ⟨hz', its, n, ri, e⟩ := I.hok D _ hD
  have hl := ri.length
  refine append_at (hsz := by rw [List.size_toArray]; omega) e fun h' sb ho' => ?_
  refine h { s with heap := h' } (I.write (t' := s.toks) (by rw [hD]; trivial) (.inl rfl) (fun b u hb q => (sb.2 b hb).trans q) ⟨_, ho'⟩ ⟨by rw [List.length_append]; exact hz, its ++ [v], n + 1, ri.append (.cons r .nil), ?_⟩)
  rw [ho']
  simp
structure PTs (X : Cx) (ifs : List Expr) (t : TT) : Prop where
  run : ∀ (pins : List (Addr × Obj)) (s : Shared) (σ : St) (H : Hp) (Q : Bool → Hp → Prop), Inv X pins σ H s → t σ H Q →
    wpAny (model X.prog X.w) X.A (forIn ifs true fun c r => if r = true then do let ok ← isTrue c X.env (eval c X.env); pure (ForInStep.yield ok) else pure (ForInStep.yield r)) (TP X pins σ Q) X.xe s
instance {X : Cx} {ifs : List Expr} {t : TT} : CoeFun (PTs X ifs t) (fun _ => ∀ (pins : List (Addr × Obj)) (s : Shared) (σ : St) (H : Hp) (Q : Bool → Hp → Prop), Inv X pins σ H s → t σ H Q →
    wpAny (model X.prog X.w) X.A (forIn ifs true fun c r => if r = true then do let ok ← isTrue c X.env (eval c X.env); pure (ForInStep.yield ok) else pure (ForInStep.yield r)) (TP X pins σ Q) X.xe s) := ⟨PTs.run⟩
def tYes : TT := fun _ H Q => Q true H
theorem pts_nil : PTs X [] tYes := ⟨fun _ _ _ H _ I h => wpAny_tests_nil ⟨H, I, h⟩⟩
theorem pts_one {c : Expr} {t : TT} (h : PT X c t) : PTs X [c] t := ⟨fun pins s σ H Q I hw => wpAny_tests_one (h pins s σ H Q I hw)⟩
end
theorem thnF {α : Type} {t : Sem α} {Q Q' : α → Shared → Prop} {M : Model} {A : Around} {E : Value → Shared → Prop} {s : Shared} (h : wpAny M A t Q (fun _ _ => False) s) (hQ : ∀ a s, Q a s → Q' a s) : wpAny M A t Q' E s := wpAny_mono h hQ fun _ _ z => False.elim z
theorem compLoop_any {prog : Program} {w : World} {A : Around} {R : Result → Shared → Prop} {s : Shared} {elt target iter : Expr} {ifs : List Expr} {scope : Scope} {pos : Pos} {it acc : Value} {env : Env} (I : Nat → Shared → Prop)
    (turn : ∀ n s, I n s → wpAny (model prog w) A (pyNext it) (fun r s₁ => match r with
      | none => R (.ok .next) s₁
      | some v => wpAny (model prog w) A (letOwnedTupleGo target it v) (fun _ s₁' => wpAny (model prog w) A (assign target env v) (fun _ s₂ =>
          wpAny (model prog w) A (forIn ifs true fun c r => if r = true then do let ok ← isTrue c env (eval c env); pure (ForInStep.yield ok) else pure (ForInStep.yield r)) (fun ok s₃ =>
            if ok = true then wpAny (model prog w) A (eval elt env) (fun x s₄ =>
              wpAny (model prog w) A (call (.builtin "list.append") [acc, x]) (fun _ s₅ => ∃ m, m < n ∧ I m s₅) (notedBy (model prog w) A env fun e s' => R (.error e) s') s₄) (notedBy (model prog w) A env fun e s' => R (.error e) s') s₃
            else ∃ m, m < n ∧ I m s₃) (notedBy (model prog w) A env fun e s' => R (.error e) s') s₂) (notedBy (model prog w) A env fun e s' => R (.error e) s') s₁') (notedBy (model prog w) A env fun e s' => R (.error e) s') s₁) (notedBy (model prog w) A env fun e s' => R (.error e) s') s)
    (n : Nat) (h : I n s) :
    codeAny (model prog w) A (.compLoop (.ListComp elt [⟨target, iter, ifs, 0⟩] scope pos) 0 it acc env) R s := by
  refine codeAny_loop rfl I (fun n s hI => ?_) n h
  show wpAny _ A ((compTurn (.ListComp elt [⟨target, iter, ifs, 0⟩] scope pos) 0 it acc env).onRaise (fun x => do noteFrame x env; theTreesLotGoes x)) _ _ s
  refine wpAny_noted ?_
  rw [compTurn_list]
  refine wpAny_bind (wpAny_standAt (wpAny_bind (wpAny_mono (turn n s hI) (fun r s₁ h₁ => ?_) fun _ _ h' => h')))
  cases r with
  | none => exact wpAny_pure h₁
  | some v =>
    refine wpAny_bind (wpAny_mono h₁ (fun _ s₁' h₁' => ?_) fun _ _ h' => h')
    refine wpAny_bind (wpAny_mono h₁' (fun _ s₂ h₂ => wpAny_bind (wpAny_mono h₂ (fun ok s₃ h₃ => ?_) fun _ _ h' => h')) fun _ _ h' => h')
    cases ok with
    | false => exact wpAny_pure ⟨rfl, h₃⟩
    | true =>
      exact wpAny_bind (wpAny_bind (wpAny_mono h₃ (fun x s₄ h₄ => wpAny_bind (wpAny_mono h₄ (fun _ s₅ h₅ => wpAny_pure (wpAny_pure ⟨rfl, h₅⟩)) fun _ _ h' => h')) fun _ _ h' => h'))
section
variable {X : Cx}
def tLc (wi : TI) (g : TG) (tt : TT) (te : TE) (vs : List Nat) : TE := fun σ H Q => wi σ H fun J H1 => ∀ D, H1 D = none → ∃ W : Nat → Nat → Hp → Prop, (∃ m, W 0 m (upd H1 D (.lst []))) ∧ ∀ i m H, W i m H →
  (J.stop i H ∧ Q (.ref D) H) ∨ (J.go i H ∧ ∃ Nx : Hp → Prop, (∀ H', Nx H' → ∃ m', m' < m ∧ W (i + 1) m' H') ∧ ∀ x H', J.yld i H x H' → g x (wipe σ vs) H' fun σ2 H2 => wipe σ2 vs = wipe σ vs ∧ tt σ2 H2 fun b H3 =>
    if b = true then te σ2 H3 fun y H4 => ∃ acc, H4 D = some (.lst acc) ∧ acc.length < sizeLine ∧ Nx (upd H4 D (.lst (acc ++ [y]))) else Nx H3)
theorem lc_core {pins : List (Addr × Obj)} {s : Shared} {σ : St} {H : Hp} {Q : VK} {elt tg iter : Expr} {ifs : List Expr} {scope : Scope} {own : List (Str × Nat)} {pos pos' : Pos} {wi : TI} {g : TG} {tt : TT} {te : TE} {use : Option (Value → Sem Unit)} {Qf : Value → Shared → Prop}
    (hc : X.calm = true) (hN : X.N.Nodup) (I : Inv X pins σ H s) (hi : PI X tg iter wi) (ok : BlkOk X.N X.env.scope scope own)
    (hg : ∀ (s : Shared) (H : Hp) (C : Addr) (cl : List (Str × Addr)) (fp : List Addr), PG (X.blk s H scope (compEnvC scope cl C X.env) fp) tg g) (ht : ∀ (s : Shared) (H : Hp) (C : Addr) (cl : List (Str × Addr)) (fp : List Addr), PTs (X.blk s H scope (compEnvC scope cl C X.env) fp) ifs tt)
    (he : ∀ (s : Shared) (H : Hp) (C : Addr) (cl : List (Str × Addr)) (fp : List Addr), PE (X.blk s H scope (compEnvC scope cl C X.env) fp) elt te) (hs : ∀ x, foldedSetIterable iter X.env x = pure x)
    (h : tLc wi g tt te (own.map (·.2)) σ H Q)
    (hRR : ∀ D C s' m H', Inv X pins σ H' s' → Q (.ref D) H' → s'.heap.Ns C m → FpOk X pins H' C → compPost (model X.prog X.w) X.A X.xe use Qf (.ref D) C (.ok .next) s') :
    wpAny (model X.prog X.w) X.A (comprehension (.ListComp elt [⟨tg, iter, ifs, 0⟩] scope pos) scope X.env pos' (newList []) false (eval iter X.env) use) Qf X.xe s := by
  have hfree : ∀ y ∈ scope.names, y.2 = .free → ∃ c, X.env.cells.lookup y.1 = some c := fun y hy e => by
    rcases ok.free y hy e with k | k
    · exact I.ok.has _ (.inl k)
    · exact I.ok.has _ (.inr k)
  refine wpAny_comprehension_free (use := use) rfl hs (closure_ok hfree) ok.kind (fun y hy e => by rw [ok.uniq y hy, e])
    (thn (hi pins s σ H _ I h) fun xv s1 hx => thn hx fun itv s2 h2 => ?_)
  obtain ⟨it, fp, tn, J, H2, e, I2, T, st2, f2, q⟩ := h2
  subst e
  refine wpAny_newObj_type (newEnv_comp ?_) (by show 0 ≤ sizeLine; decide)
  generalize hD : s2.heap.objs.size = D
  have hDn : H2 D = none := I2.hok.fresh (Nat.le_of_eq hD)
  obtain ⟨W, ⟨m0, w0⟩, turn⟩ := q D hDn
  generalize hs3 : ({ s2 with heap := s2.heap.push { cls := .type "list", data := .seq ([] : List Value).toArray } } : Shared) = s3
  have I3 : Inv X pins σ (upd H2 D (.lst [])) s3 := by
    rw [← hs3]
    refine I2.laid (t' := s2.toks) (fun b o e => Heap.get?_push_of_some _ e) (Nat.le_of_eq hD) ⟨Nat.zero_le _, [], 0, .nil, ?_⟩
    rw [← hD]
    exact Heap.get?_push_size _ rfl
  have h3 : s3.heap = s2.heap.push { cls := .type "list", data := .seq ([] : List Value).toArray } := by rw [← hs3]
  have sz : ∀ b ∈ fp, b < s2.heap.objs.size := fun b hb => by
    obtain ⟨o, e, _⟩ := T.obj _ _ st2 b hb
    exact Heap.lt_size e
  have f3 : ∀ b ∈ fp, FpOk X pins (upd H2 D (.lst [])) b ∧ b < s3.heap.objs.size := fun b hb => by
    have hlt := sz b hb
    refine ⟨⟨?_, (f2 b hb).2⟩, by rw [h3, Heap.size_push]; exact Nat.lt_succ_of_lt hlt⟩
    rw [upd_ne (by rw [← hD]; exact Nat.ne_of_lt hlt)]
    exact (f2 b hb).1
  have st3 : tn 0 s3.heap := T.keep _ _ _ st2 fun b _ o e => by rw [h3]; exact Heap.get?_push_of_some _ e
  have I4 := block_start I3 ok hN f3
  have pg := hg s3 (upd H2 D (.lst [])) s3.heap.objs.size (cellsFrom (s3.heap.objs.size + 1) scope.names (cloFrom X.env.cells scope.names [])) fp
  have pt := ht s3 (upd H2 D (.lst [])) s3.heap.objs.size (cellsFrom (s3.heap.objs.size + 1) scope.names (cloFrom X.env.cells scope.names [])) fp
  have pe := he s3 (upd H2 D (.lst [])) s3.heap.objs.size (cellsFrom (s3.heap.objs.size + 1) scope.names (cloFrom X.env.cells scope.names [])) fp
  show codeAny _ _ (.compStart (.ListComp elt [⟨tg, iter, ifs, 0⟩] scope pos) 0 (.ref it) (.ref D) (compEnvC scope (cellsFrom (s3.heap.objs.size + 1) scope.names (cloFrom X.env.cells scope.names [])) s3.heap.objs.size X.env)) (compPost (model X.prog X.w) X.A X.xe use Qf (.ref D) s3.heap.objs.size) { s3 with heap := pushCells (s3.heap.push { cls := .type "dict", data := .dict #[] }) scope.names }
  have nfp : ∀ b ∈ fp, (upd H2 D (.lst [])) b = none := fun b hb => (f3 b hb).1.1
  generalize hce : compEnvC scope (cellsFrom (s3.heap.objs.size + 1) scope.names (cloFrom X.env.cells scope.names [])) s3.heap.objs.size X.env = ce at I4 pg pt pe ⊢
  have cL : ce.locals = s3.heap.objs.size := by subst hce; rfl
  generalize hH3 : upd H2 D (.lst []) = H3 at I3 I4 pg pt pe w0 nfp f3
  generalize hs4 : ({ s3 with heap := pushCells (s3.heap.push { cls := .type "dict", data := .dict #[] }) scope.names } : Shared) = s4 at I4 ⊢
  have st4 : tn 0 s4.heap := T.keep _ _ _ st3 fun b _ o e => by rw [← hs4]; exact pushCells_keeps _ _ _ _ (Heap.get?_push_of_some _ e)
  have stat : ∀ {σ' : St} {H' : Hp} {s' : Shared}, Inv (X.blk s3 H3 scope ce fp) [] σ' H' s' → (∀ b ∈ fp, H' b = none) → ∀ b ∈ fp, FpOk (X.blk s3 H3 scope ce fp) [] H' b := fun {σ' H' s'} I' hn b hb =>
    ⟨hn b hb, (I'.ok.exf b hb).1, I'.ok.exfs b hb, .inl hb, fun x c e => (I'.ok.exf b hb).2 x c e, fun p hp => absurd (show p ∈ ([] : List (Addr × Obj)) ++ [] from hp) (by simp)⟩
  have loop : codeAny (model X.prog X.w) X.A (.compLoop (.ListComp elt [⟨tg, iter, ifs, 0⟩] scope pos) 0 (.ref it) (.ref D) ce) (compPost (model X.prog X.w) X.A X.xe use Qf (.ref D) s3.heap.objs.size) s4 := by
    refine compLoop_any (fun n s' => ∃ i H', Inv (X.blk s3 H3 scope ce fp) [] (wipe σ (own.map (·.2))) H' s' ∧ tn i s'.heap ∧ (∀ b ∈ fp, H' b = none) ∧ W i n H') ?_ m0 ⟨0, H3, I4, st4, nfp, w0⟩
    rintro n s5 ⟨i, H5, I5, st5, n5, w5⟩
    rcases turn i n H5 w5 with ⟨stop, qq⟩ | ⟨go, Nx, hNx, step⟩
    · have td := T.done (X.blk s3 H3 scope ce fp) rfl rfl rfl hc i [] s5 _ H5 (fun _ _ => False) I5 (stat I5 n5) st5 stop
      refine thnF td fun r s6 ⟨hr, I6⟩ => ?_
      subst hr
      have I7 : Inv X pins σ H5 s6 := I3.call' (ch := fp) I6.os I6.base I6.hok I6.bare fun b hb => ⟨(f3 b hb).1.2.2.2.1, (f3 b hb).1.2.1, (f3 b hb).1.2.2.2.2.1, (f3 b hb).1.2.2.2.2.2⟩
      have nC : H5 s3.heap.objs.size = none := by
        have z : H5 ce.locals = none := I6.free
        rw [cL] at z
        exact z
      obtain ⟨m, hn, _⟩ := I6.loc
      have hn : s6.heap.Ns ce.locals m := hn
      rw [cL] at hn
      exact hRR D s3.heap.objs.size s6 m H5 I7 qq hn (I3.fpOk (Nat.le_refl _) nC)
    · have ti := T.item (X.blk s3 H3 scope ce fp) rfl rfl rfl hc i [] s5 _ H5 (fun _ _ => False) I5 (stat I5 n5) st5 go
      refine thnF ti fun r s6 ⟨u, hr, h6⟩ => ?_
      subst hr
      refine thnF h6 fun _ s7 ⟨x, H7, I7, r7, y7, st7, n7⟩ => ?_
      have I7' := I7.pinned (stat I7 n7) (T.obj _ _ st7)
      refine thnF (pg _ s7 _ H7 x u _ I7' r7 (step x H7 y7)) fun _ s8 ⟨σ8, H8, I8, hw8, q8⟩ => ?_
      refine thnF (pt _ s8 σ8 H8 _ I8 q8) fun b s9 ⟨H9, I9, q9⟩ => ?_
      have fin : ∀ {s' : Shared} {H' : Hp}, Inv (X.blk s3 H3 scope ce fp) ([] ++ pinsAt fp s7.heap) σ8 H' s' → Nx H' → ∃ m, m < n ∧ ∃ i H', Inv (X.blk s3 H3 scope ce fp) [] (wipe σ (own.map (·.2))) H' s' ∧ tn i s'.heap ∧ (∀ b ∈ fp, H' b = none) ∧ W i m H' := fun {s' H'} I' nx => by
        obtain ⟨m', hm, w'⟩ := hNx H' nx
        have pin' : ∀ b ∈ fp, ∀ o, s7.heap.get? b = some o → s'.heap.get? b = some o ∧ H' b = none := fun b hb o e =>
          let z := I'.pin (b, o) (List.mem_append_right _ (List.mem_append_right _ (mem_pinsAt hb e)))
          ⟨z.1, z.2.1⟩
        have hl : (wipe σ (own.map (·.2))).length = σ8.length := by rw [← hw8, wipe_length]
        refine ⟨m', hm, i + 1, H', (I'.unpinned (pins := [])).weak hl (fun j v e => ?_), T.keep _ _ _ st7 fun b hb o e => (pin' b hb o e).1, fun b hb => ?_, w'⟩
        · rw [← hw8] at e
          exact (wipe_some e).1
        · obtain ⟨o, e, _⟩ := T.obj _ _ st7 b hb
          exact (pin' b hb o e).2
      cases b with
      | false =>
        simp only [Bool.false_eq_true, if_false] at q9 ⊢
        exact fin I9 q9
      | true =>
        simp only [if_true] at q9 ⊢
        refine thnF (pe _ s9 σ8 H9 _ I9 q9) fun z s10 ⟨yv, H10, I10, r10, acc, hD10, hz10, nx⟩ => ?_
        exact app_ok (X := X.blk s3 H3 scope ce fp) I10 hD10 hz10 r10 fun s11 I11 => fin I11 nx
  exact codeAny_compStart_list loop (T.self X.A 0 _ _ _ st4 loop)
theorem pe_lc {elt tg iter : Expr} {ifs : List Expr} {scope : Scope} {own : List (Str × Nat)} {pos : Pos} {wi : TI} {g : TG} {tt : TT} {te : TE} (hc : X.calm = true) (hN : X.N.Nodup) (hi : PI X tg iter wi) (ok : BlkOk X.N X.env.scope scope own)
    (hg : ∀ (s : Shared) (H : Hp) (C : Addr) (cl : List (Str × Addr)) (fp : List Addr), PG (X.blk s H scope (compEnvC scope cl C X.env) fp) tg g) (ht : ∀ (s : Shared) (H : Hp) (C : Addr) (cl : List (Str × Addr)) (fp : List Addr), PTs (X.blk s H scope (compEnvC scope cl C X.env) fp) ifs tt)
    (he : ∀ (s : Shared) (H : Hp) (C : Addr) (cl : List (Str × Addr)) (fp : List Addr), PE (X.blk s H scope (compEnvC scope cl C X.env) fp) elt te) (hs : ∀ x, foldedSetIterable iter X.env x = pure x := by intro _; rfl) :
    PE X (.ListComp elt [⟨tg, iter, ifs, 0⟩] scope pos) (tLc wi g tt te (own.map (·.2))) := by
  constructor
  intro pins s σ H Q I h
  rw [eval_ListComp]
  refine lc_core hc hN I hi ok hg ht he hs h fun D C s' m H' I' q hn f => ⟨m, hn, fun h'' sb => ?_⟩
  obtain ⟨f0, f1, f2, f3, f4, f5⟩ := f
  exact ⟨.ref D, H', I'.turned (t' := s'.toks) (fun b o hb e => (sb.2 b hb).trans e) f0 f1 f3 f4 f5, rfl, q⟩
theorem ps_setLc {i : Nat} {y : Str} {py : Pos} {elt tg iter : Expr} {ifs : List Expr} {scope : Scope} {own : List (Str × Nat)} {pos spos : Pos} {wi : TI} {g : TG} {tt : TT} {te : TE} (hc : X.calm = true) (hN : X.N.Nodup) (hy : X.N[i]? = some y) (hyl : X.env.scope.names.lookup y = some .local)
    (hsw : swapsWith (.ListComp elt [⟨tg, iter, ifs, 0⟩] scope pos) (some (.Name y py)) spos.line X.env = pure true) (hi : PI X tg iter wi) (ok : BlkOk X.N X.env.scope scope own)
    (hg : ∀ (s : Shared) (H : Hp) (C : Addr) (cl : List (Str × Addr)) (fp : List Addr), PG (X.blk s H scope (compEnvC scope cl C X.env) fp) tg g) (ht : ∀ (s : Shared) (H : Hp) (C : Addr) (cl : List (Str × Addr)) (fp : List Addr), PTs (X.blk s H scope (compEnvC scope cl C X.env) fp) ifs tt)
    (he : ∀ (s : Shared) (H : Hp) (C : Addr) (cl : List (Str × Addr)) (fp : List Addr), PE (X.blk s H scope (compEnvC scope cl C X.env) fp) elt te) (hs : ∀ x, foldedSetIterable iter X.env x = pure x := by intro _; rfl) :
    PS X (.Assign [.Name y py] (.ListComp elt [⟨tg, iter, ifs, 0⟩] scope pos) spos) (tAsg (tLc wi g tt te (own.map (·.2))) (gName i)) := by
  constructor
  intro pins s σ H D I h
  rw [exec_Assign_Name_used _ _ _ _ hsw]
  refine wpAny_bind (wpAny_standAt (wpAny_bind ?_))
  show wpAny _ X.A (do let _ ← comprehension (.ListComp elt [⟨tg, iter, ifs, 0⟩] scope pos) scope X.env (firstIterPos [⟨tg, iter, ifs, 0⟩] pos) (newList []) false (eval iter X.env) (some (assign (.Name y py) X.env))) _ _ s
  have h : tLc wi g tt te (own.map (·.2)) σ H (fun x H1 => gName i x σ H1 D.nx) := h
  refine wpAny_bind (thn (lc_core (Qf := fun _ s' => SP X pins D .next s') hc hN I hi ok hg ht he hs h fun L C s' m H' I' q hn f => ?_) fun _ s' hq => wpAny_pure (wpAny_pure hq))
  show wpAny _ _ (assign (.Name y py) X.env (.ref L)) _ _ _
  refine wpAny_assign_Name (store_ok2 (v := V.ref L) I' hN hy (.inl hyl) rfl (fun s2 I2 ⟨a, sb, ha⟩ => ?_) (.inr hyl))
  obtain ⟨f0, f1, f2, f3, f4, f5⟩ := f
  have haC : C ≠ a := by
    rcases ha with z | z
    · rw [z]; exact f1
    · exact fun e => f4 y a z e.symm
  refine ⟨m, hn.sameBut sb haC, fun h3 sb3 => ?_⟩
  exact ⟨_, H', I2.turned (t' := s2.toks) (fun b o hb e => (sb3.2 b hb).trans e) f0 f1 f3 f4 f5, q⟩
theorem sw_true {elt : Expr} {gs : List Comprehension} {scope : Scope} {pos py : Pos} {y : Str} {l : Nat} {env : Env} (hk : env.scope.kind = .function) (hy : env.scope.names.lookup y = some .local) (hl : (py.line == pos.line) = true)
    (ha : (scope.names.any fun (n, k) => n == y && (k == .local || k == .cell)) = false) : swapsWith (.ListComp elt gs scope pos) (some (.Name y py)) l env = pure true := by
  have ky : env.kindOf y = some .local := hy
  have hb : env.blockKind = .function := by unfold Env.blockKind; rw [hk]; rfl
  unfold swapsWith
  simp only [hb, ky, ha, Expr.pos, hl]
  rfl
end
theorem lc_list {K : PySem.W.Frag} {a : Addr} {xs : List V} {g : TG} {tt : TT} {te : TE} {vs : List Nat} {σ : St} {H1 : Hp} {D : Addr} {Qd : Hp → Prop} (Pv : Nat → Hp → Prop) (h0 : Pv 0 (upd H1 D (.lst []))) (hl : ∀ i H, i ≤ xs.length → Pv i H → SqL K H a xs)
    (hs : ∀ i x H, xs[i]? = some x → Pv i H → g x (wipe σ vs) H fun σ2 H2 => wipe σ2 vs = wipe σ vs ∧ tt σ2 H2 fun b H3 =>
      if b = true then te σ2 H3 fun y H4 => ∃ acc, H4 D = some (.lst acc) ∧ acc.length < sizeLine ∧ Pv (i + 1) (upd H4 D (.lst (acc ++ [y]))) else Pv (i + 1) H3) (hd : ∀ H, Pv xs.length H → Qd H) :
    ∃ W : Nat → Nat → Hp → Prop, (∃ m, W 0 m (upd H1 D (.lst []))) ∧ ∀ i m H, W i m H →
      ((Itl K a).stop i H ∧ Qd H) ∨ ((Itl K a).go i H ∧ ∃ Nx : Hp → Prop, (∀ H', Nx H' → ∃ m', m' < m ∧ W (i + 1) m' H') ∧ ∀ x H', (Itl K a).yld i H x H' → g x (wipe σ vs) H' fun σ2 H2 => wipe σ2 vs = wipe σ vs ∧ tt σ2 H2 fun b H3 =>
        if b = true then te σ2 H3 fun y H4 => ∃ acc, H4 D = some (.lst acc) ∧ acc.length < sizeLine ∧ Nx (upd H4 D (.lst (acc ++ [y]))) else Nx H3) := by
  refine ⟨fun i m H => m = xs.length - i ∧ i ≤ xs.length ∧ Pv i H, ⟨xs.length, by simp, Nat.zero_le _, h0⟩, ?_⟩
  rintro i m H ⟨rfl, hi, p⟩
  have q := hl i H hi p
  by_cases hlt : i < xs.length
  · refine .inr ⟨⟨xs, xs[i], q, by simp [hlt]⟩, Pv (i + 1), fun H' p' => ⟨xs.length - (i + 1), by omega, rfl, hlt, p'⟩, fun x H' y => ?_⟩
    obtain ⟨e, y⟩ := y
    subst e
    exact hs i x _ (y xs q) p
  · have e : i = xs.length := by omega
    subst e
    exact .inl ⟨⟨xs, q, Nat.le_refl _⟩, hd H p⟩
def blkC (N : List Str) (sc scope : Scope) (own : List (Str × Nat)) : Bool :=
  (match scope.kind with | .function => true | _ => false) && (scope.names.all fun y => decide (scope.names.lookup y.1 = some y.2)) && (own.all fun p => decide (N[p.2]? = some p.1)) &&
    (scope.names.all fun y => match y.2 with
      | .free => (match sc.names.lookup y.1 with | some .cell => true | some .free => true | _ => false)
      | .local => decide (y.1 ∈ own.map (·.1)) || decide (y.1 ∉ N)
      | .cell => decide (y.1 ∈ own.map (·.1)) || decide (y.1 ∉ N)
      | _ => true)
theorem blkOk_by {N : List Str} {sc scope : Scope} {own : List (Str × Nat)} (h : blkC N sc scope own = true) : BlkOk N sc scope own := by
  unfold blkC at h
  simp only [Bool.and_eq_true, List.all_eq_true, decide_eq_true_eq] at h
  obtain ⟨⟨⟨h1, h2⟩, h3⟩, h4⟩ := h
  refine ⟨?_, h2, h3, fun y hy e => ?_, fun y hy e => ?_⟩
  · split at h1
    · assumption
    · cases h1
  · have q := h4 y hy
    simp only [e] at q
    split at q <;> first | exact .inl (by assumption) | exact .inr (by assumption) | cases q
  · have q := h4 y hy
    rcases e with e | e <;> (simp only [e, Bool.or_eq_true, decide_eq_true_eq] at q; exact q)
end L2
namespace L2
open PySem PySem.Spec PyProof.Rows
section
variable {prog : Program} {w : World} {A : Around} {R : Result → Shared → Prop} {s : Shared} {elt t0 i0 t1 i1 : Expr} {ifs0 ifs1 : List Expr} {scope : Scope} {pos : Pos} {it acc : Value} {env : Env}
end
section
variable {X : Cx}
end
end L2
namespace L2
open PySem PySem.Spec PyProof.Rows
section
variable {κ : Type} [DecidableEq κ]
def valV (kvs : List (κ × V)) (k : κ) : Option V := (kvs.find? fun kv => decide (kv.1 = k)).map (·.2)
def putK (kvs : List (κ × V)) (k : κ) (v : V) : List (κ × V) :=
  if (kvs.any fun kv => decide (kv.1 = k)) = true then kvs.map (fun kv => if kv.1 = k then (kv.1, v) else kv) else kvs ++ [(k, v)]
def dropK (kvs : List (κ × V)) (k : κ) : List (κ × V) := kvs.filter fun kv => decide (kv.1 ≠ k)
theorem valV_pos {p : κ × V} {r : List (κ × V)} {k : κ} (e : p.1 = k) : valV (p :: r) k = some p.2 := by simp [valV, List.find?_cons, e]
theorem valV_neg {p : κ × V} {r : List (κ × V)} {k : κ} (e : ¬ p.1 = k) : valV (p :: r) k = valV r k := by simp [valV, List.find?_cons, e]
theorem valV_any (k : κ) : ∀ kvs : List (κ × V), (kvs.any fun kv => decide (kv.1 = k)) = (valV kvs k).isSome
  | [] => rfl
  | p :: r => by
    rw [List.any_cons]
    by_cases e : p.1 = k
    · simp only [valV_pos e, decide_eq_true e, Bool.true_or, Option.isSome_some]
    · rw [valV_neg e, decide_eq_false e, Bool.false_or]; exact valV_any k r
theorem length_putK (kvs : List (κ × V)) (k : κ) (v : V) : (putK kvs k v).length ≤ kvs.length + 1 := by
  unfold putK
  split
  · rw [List.length_map]; omega
  · rw [List.length_append, List.length_cons, List.length_nil]; omega
theorem putK_new {kvs : List (κ × V)} {k : κ} (v : V) (h : valV kvs k = none) : putK kvs k v = kvs ++ [(k, v)] := by
  unfold putK
  rw [valV_any, h]
  exact if_neg (by decide)
theorem RelO.isSome_eq {o : Option V} {u : Option Value} (r : RelO o u) : o.isSome = u.isSome := by
  cases o with
  | none => cases u with
    | none => rfl
    | some _ => exact (show False from r).elim
  | some _ => cases u with
    | none => exact (show False from r).elim
    | some _ => rfl
theorem RelO.getD {o : Option V} {u : Option Value} {d : V} {d' : Value} (r : RelO o u) (rd : RelV d d') : RelV (o.getD d) (u.getD d') := by
  cases o with
  | none => cases u with
    | none => exact rd
    | some _ => exact (show False from r).elim
  | some _ => cases u with
    | none => exact (show False from r).elim
    | some _ => exact r
theorem KV.val {kvs : List (κ × V)} {vs : List (κ × Value)} (r : KV kvs vs) (k : κ) : RelO (valV kvs k) (valueAt vs k) := by
  unfold KV at r
  induction r with
  | nil => exact True.intro
  | @cons p q ps qs h t ih =>
    obtain ⟨h1, h2⟩ := h
    by_cases e : p.1 = k
    · have e' : q.1 = k := h1.symm.trans e
      have b : valueAt (q :: qs) k = some q.2 := by simp [valueAt, List.find?_cons, e']
      rw [valV_pos e, b]; exact h2
    · have e' : ¬ q.1 = k := fun z => e (h1.trans z)
      have b : valueAt (q :: qs) k = valueAt qs k := by simp [valueAt, List.find?_cons, e']
      rw [valV_neg e, b]; exact ih
theorem KV.any {kvs : List (κ × V)} {vs : List (κ × Value)} (r : KV kvs vs) (k : κ) : (kvs.any fun kv => decide (kv.1 = k)) = vs.any fun kv => decide (kv.1 = k) := by
  unfold KV at r
  induction r with
  | nil => rfl
  | cons h t ih => rw [List.any_cons, List.any_cons, ih, h.1]
theorem KV.repl {kvs : List (κ × V)} {vs : List (κ × Value)} (r : KV kvs vs) (k : κ) {y : V} {u : Value} (ry : RelV y u) :
    KV (kvs.map fun kv => if kv.1 = k then (kv.1, y) else kv) (vs.map fun kv => if kv.1 = k then (kv.1, u) else kv) := by
  unfold KV at r ⊢
  induction r with
  | nil => exact .nil
  | @cons p q ps qs h t ih =>
    rw [List.map_cons, List.map_cons]
    refine .cons ?_ ih
    obtain ⟨h1, h2⟩ := h
    by_cases e : p.1 = k
    · rw [if_pos e, if_pos (h1.symm.trans e)]; exact ⟨h1, ry⟩
    · rw [if_neg e, if_neg (fun z => e (h1.trans z))]; exact ⟨h1, h2⟩
theorem KV.put {kvs : List (κ × V)} {vs : List (κ × Value)} (r : KV kvs vs) (k : κ) {y : V} {u : Value} (ry : RelV y u) : KV (putK kvs k y) (stored vs k u) := by
  unfold putK stored
  rw [r.any k]
  by_cases e : (vs.any fun kv => decide (kv.1 = k)) = true
  · rw [if_pos e, if_pos e]; exact r.repl k ry
  · rw [if_neg e, if_neg e]; exact Paired.snoc r ⟨rfl, ry⟩
theorem KV.drop {kvs : List (κ × V)} {vs : List (κ × Value)} (r : KV kvs vs) (k : κ) : KV (dropK kvs k) (without vs k) := by
  unfold KV at r ⊢
  unfold dropK without
  induction r with
  | nil => exact .nil
  | @cons p q ps qs h t ih =>
    obtain ⟨h1, h2⟩ := h
    rw [List.filter_cons, List.filter_cons]
    by_cases e : p.1 = k
    · have a : ¬ decide (p.1 ≠ k) = true := by simp [e]
      have b : ¬ decide (q.1 ≠ k) = true := by simp [h1.symm.trans e]
      rw [if_neg a, if_neg b]; exact ih
    · have e' : ¬ q.1 = k := fun z => e (h1.trans z)
      have a : decide (p.1 ≠ k) = true := by simp [e]
      have b : decide (q.1 ≠ k) = true := by simp [e']
      rw [if_pos a, if_pos b]; exact .cons ⟨h1, h2⟩ ih
theorem KV.keys {kvs : List (κ × V)} {vs : List (κ × Value)} (r : KV kvs vs) : kvs.map (·.1) = vs.map (·.1) := by
  unfold KV at r
  induction r with
  | nil => rfl
  | cons h t ih => rw [List.map_cons, List.map_cons, ih, h.1]
theorem KV.length {kvs : List (κ × V)} {vs : List (κ × Value)} (r : KV kvs vs) : kvs.length = vs.length := Paired.length r
end
theorem kV_is {P : Program} {w : World} {k : Key} {u : Value} (r : RelV (kV k) u) : (mixKind P w).is k u = true := by
  cases k with
  | inl i => obtain ⟨t, e⟩ := (show ∃ t, u = Value.int i t from r); subst e; exact mixKind_int P w i t
  | inr x => obtain ⟨t, e⟩ := (show ∃ t, u = Value.str x t from r); subst e; exact mixKind_str P w x t
theorem items_are {P : Program} {w : World} : ∀ {ks : List Key} {us : List Value}, Vals (ks.map kV) us → ItemsAre (mixKind P w) ks us
  | [], _, r => by rw [List.map_nil] at r; cases r; exact .nil
  | k :: ks, _, r => by
    rw [List.map_cons] at r
    cases r with
    | cons h t => exact .cons (kV_is h) (items_are t)
abbrev KT (H : Hp) : List (List Key × V) → List (List Key × Addr × Value) → Prop := Paired fun p q => p.1 = q.1 ∧ H q.2.1 = some (.tup (p.1.map kV)) ∧ RelV p.2 q.2.2
theorem KT.val {H : Hp} {kvs : List (List Key × V)} {xs : List (List Key × Addr × Value)} (r : KT H kvs xs) (k : List Key) : RelO (valV kvs k) ((atKey xs k).map (·.2)) := by
  induction r with
  | nil => exact True.intro
  | @cons p q ps qs h t ih =>
    obtain ⟨h1, _, h2⟩ := h
    by_cases e : p.1 = k
    · have e' : q.1 = k := h1.symm.trans e
      have b : atKey (q :: qs) k = some q.2 := by simp [atKey, List.find?_cons, e']
      rw [valV_pos e, b]; exact h2
    · have e' : ¬ q.1 = k := fun z => e (h1.trans z)
      have b : atKey (q :: qs) k = atKey qs k := by simp [atKey, List.find?_cons, e']
      rw [valV_neg e, b]; exact ih
theorem KT.repl {H : Hp} {kvs : List (List Key × V)} {xs : List (List Key × Addr × Value)} (r : KT H kvs xs) (k : List Key) {y : V} {u : Value} (ry : RelV y u) :
    KT H (kvs.map fun kv => if kv.1 = k then (kv.1, y) else kv) (xs.map (putAt k u)) := by
  induction r with
  | nil => exact .nil
  | @cons p q ps qs h t ih =>
    rw [List.map_cons, List.map_cons]
    refine .cons ?_ ih
    obtain ⟨h1, h2, h3⟩ := h
    unfold putAt
    by_cases e : p.1 = k
    · rw [if_pos e, if_pos (h1.symm.trans e)]; exact ⟨h1, h2, ry⟩
    · rw [if_neg e, if_neg (fun z => e (h1.trans z))]; exact ⟨h1, h2, h3⟩
theorem KT.put {H : Hp} {kvs : List (List Key × V)} {xs : List (List Key × Addr × Value)} (r : KT H kvs xs) (k : List Key) {b : Addr} {y : V} {u : Value} (hb : H b = some (.tup (k.map kV))) (ry : RelV y u) :
    KT H (putK kvs k y) (storedH xs k b u) := by
  have e : (kvs.any fun kv => decide (kv.1 = k)) = (atKey xs k).isSome := by
    rw [valV_any, (r.val k).isSome_eq, Option.isSome_map]
  unfold putK storedH
  rw [e]
  by_cases q : (atKey xs k).isSome = true
  · rw [if_pos q, if_pos q]; exact r.repl k ry
  · rw [if_neg q, if_neg q]; exact Paired.snoc r ⟨rfl, hb, ry⟩
theorem KT.keeps {H H' : Hp} {kvs : List (List Key × V)} {xs : List (List Key × Addr × Value)} (r : KT H kvs xs) (ht : ∀ b ys, H b = some (.tup ys) → H' b = some (.tup ys)) : KT H' kvs xs :=
  Paired.mapP r fun _ _ z => ⟨z.1, ht _ _ z.2.1, z.2.2⟩
section
variable {P : Program} {w : World} {H : Hp} {h : Heap} {a : Addr}
theorem rd_of {u : HO} (ok : HOk P w H h) (e : Rd H a u) : ObjOk P w H h a u := e.ok ok
theorem dk_rd {kvs : List (Key × V)} (ok : HOk P w H h) (e : Rd H a (.dK kvs)) : kvs.length ≤ sizeLine ∧ (a == sysModules) = false ∧ ∃ vs, KV kvs vs ∧ h.DictOf (mixKind P w) a vs :=
  show ObjOk P w H h a (.dK kvs) from rd_of ok e
theorem dk_of {kvs : List (Key × V)} (ok : HOk P w H h) (e : H a = some (.dK kvs)) : kvs.length ≤ sizeLine ∧ (a == sysModules) = false ∧ ∃ vs, KV kvs vs ∧ h.DictOf (mixKind P w) a vs := dk_rd ok (.inl e)
theorem key_of {ks : List Key} (ok : HOk P w H h) (e : H a = some (.tup (ks.map kV))) : (tupleKind (mixKind P w)).is h ks a := by
  obtain ⟨_, its, r, o, h1, h2, n, h3⟩ := (show ObjOk P w H h a (.tup (ks.map kV)) from ok a _ e)
  exact ⟨o, its.toArray, n, h1, h2, h3, by simpa using items_are r⟩
theorem dt_rd {kvs : List (List Key × V)} (ok : HOk P w H h) (e : Rd H a (.dT kvs)) : kvs.length ≤ sizeLine ∧ (a == sysModules) = false ∧
    ∃ xs, KT H kvs xs ∧ h.DictOfH (tupleKind (mixKind P w)) a xs := by
  obtain ⟨z, y, xs, r, o, es, ep, h1, h2, h3, h4, h5⟩ := (show ObjOk P w H h a (.dT kvs) from rd_of ok e)
  refine ⟨z, y, xs, r, o, es, ep, h1, h2, h3, h4, fun x hx => ?_, h5⟩
  have all : ∀ {l : List (List Key × V)} {m : List (List Key × Addr × Value)}, KT H l m → ∀ x ∈ m, (tupleKind (mixKind P w)).is h x.1 x.2.1 := by
    intro l m q
    induction q with
    | nil => intro x hx; exact nomatch hx
    | @cons p q ps qs hq t ih =>
      intro x hx
      rcases List.mem_cons.mp hx with e | hx
      · subst e
        exact key_of ok (by rw [← hq.1]; exact hq.2.1)
      · exact ih x hx
  exact all r x hx
theorem dt_of {kvs : List (List Key × V)} (ok : HOk P w H h) (e : H a = some (.dT kvs)) : kvs.length ≤ sizeLine ∧ (a == sysModules) = false ∧
    ∃ xs, KT H kvs xs ∧ h.DictOfH (tupleKind (mixKind P w)) a xs := dt_rd ok (.inl e)
end
def DGet (H : Hp) (a : Addr) (y : V) (r : Option V) : Prop :=
  (∃ kvs k, Rd H a (.dK kvs) ∧ y = kV k ∧ r = valV kvs k) ∨ ∃ kvs k b, Rd H a (.dT kvs) ∧ y = .ref b ∧ H b = some (.tup (k.map kV)) ∧ r = valV kvs k
def DPut (H : Hp) (a : Addr) (y v : V) (H' : Hp) : Prop :=
  (∃ kvs k, H a = some (.dK kvs) ∧ y = kV k ∧ kvs.length < sizeLine ∧ H' = upd H a (.dK (putK kvs k v))) ∨
  ∃ kvs k b, H a = some (.dT kvs) ∧ y = .ref b ∧ H b = some (.tup (k.map kV)) ∧ kvs.length < sizeLine ∧ H' = upd H a (.dT (putK kvs k v))
theorem DGet.k {H : Hp} {a : Addr} {kvs : List (Key × V)} {k : Key} (e : H a = some (.dK kvs)) : DGet H a (kV k) (valV kvs k) := .inl ⟨kvs, k, .inl e, rfl, rfl⟩
theorem DGet.t {H : Hp} {a b : Addr} {kvs : List (List Key × V)} {k : List Key} (e : H a = some (.dT kvs)) (eb : H b = some (.tup (k.map kV))) : DGet H a (.ref b) (valV kvs k) := .inr ⟨kvs, k, b, .inl e, rfl, eb, rfl⟩
theorem DPut.k {H : Hp} {a : Addr} {kvs : List (Key × V)} {k : Key} {v : V} (e : H a = some (.dK kvs)) (hl : kvs.length < sizeLine) : DPut H a (kV k) v (upd H a (.dK (putK kvs k v))) := .inl ⟨kvs, k, e, rfl, hl, rfl⟩
theorem DPut.t {H : Hp} {a b : Addr} {kvs : List (List Key × V)} {k : List Key} {v : V} (e : H a = some (.dT kvs)) (eb : H b = some (.tup (k.map kV))) (hl : kvs.length < sizeLine) :
    DPut H a (.ref b) v (upd H a (.dT (putK kvs k v))) := .inr ⟨kvs, k, b, e, rfl, eb, hl, rfl⟩
section
variable {X : Cx} {pins : List (Addr × Obj)} {σ : St} {H : Hp} {s : Shared} {a : Addr} {y v : V} {u r : Value} {o : Option V} {A : Around} {E : Value → Shared → Prop}
theorem Inv.big (I : Inv X pins σ H s) : sysModules < s.heap.objs.size := by
  have h : mainGlobals < s.heap.objs.size := (I.mod.glob.keeps I.bk).lt
  exact Nat.lt_trans (by decide) h
theorem d_getItem {Q : Value → Shared → Prop} (hu : A.units + 1 < cLine) (I : Inv X pins σ H s) (g : DGet H a y (some v)) (ry : RelV y u) (h : ∀ w' s', Inv X pins σ H s' → RelV v w' → Q w' s') :
    wpAny (model X.prog X.w) A (getItem (.ref a) u) Q E s := by
  rcases g with ⟨kvs, k, e, ey, l⟩ | ⟨kvs, k, b, e, ey, eb, l⟩
  · subst ey
    obtain ⟨z, hd, vs, rel, dd⟩ := dk_rd I.hok e
    obtain ⟨w', hw, rw'⟩ := RelO.some_of (v := v) (o := valueAt vs k) (by rw [l]; exact rel.val k)
    exact wpAny_getItem_of (kV_is ry) dd.mapOf hw (h w' _ (I.tok _) rw')
  · subst ey
    cases (show u = Value.ref b from ry)
    obtain ⟨z, hd, xs, rel, dd⟩ := dt_rd I.hok e
    obtain ⟨w', hw, rw'⟩ := RelO.some_of (v := v) (o := (atKey xs k).map (·.2)) (by rw [l]; exact rel.val k)
    obtain ⟨p, hp, hp2⟩ := Option.map_eq_some_iff.mp hw
    refine wpAny_getItem_heap (tupleKind_room_in1 hu) (key_of I.hok eb) dd hp ?_
    rw [hp2]
    exact h w' _ (I.tok _) rw'
theorem d_write {h' : Heap} {t' : Nat} {ob : HO} (I : Inv X pins σ H s) (mu : Mut (H a)) (hs : Heap.SameBut a s.heap h') (he : ∃ q, h'.get? a = some q) (new : ObjOk X.prog X.w (upd H a ob) h' a ob) :
    Inv X pins σ (upd H a ob) { s with heap := h', toks := t' } :=
  I.write (x := a) (e := a) mu (.inl rfl) (fun b q hb z => (hs.2 b hb).trans z) he new
theorem dk_new {P : Program} {w : World} {H' : Hp} {h' : Heap} {kvs : List (Key × V)} {vs : List (Key × Value)} (z : kvs.length ≤ sizeLine) (hd : (a == sysModules) = false) (rel : KV kvs vs) (dd : h'.DictOf (mixKind P w) a vs) :
    ObjOk P w H' h' a (.dK kvs) := ⟨z, hd, vs, rel, dd⟩
theorem d_setItem {H' : Hp} {Q : Unit → Shared → Prop} (hu : A.units + 1 < cLine) (I : Inv X pins σ H s) (g : DPut H a y v H') (ry : RelV y u) (rv : RelV v r) (h : ∀ s', Inv X pins σ H' s' → Q () s') :
    wpAny (model X.prog X.w) A (setItem (.ref a) u r) Q E s := by
  rcases g with ⟨kvs, k, e, ey, l, eH⟩ | ⟨kvs, k, b, e, ey, eb, l, eH⟩
  · subst ey eH
    obtain ⟨z, hd, vs, rel, dd⟩ := dk_of I.hok e
    have hz : vs.length ≤ sizeLine := by rw [← rel.length]; exact z
    have hl : (putK kvs k v).length ≤ sizeLine := by have := length_putK kvs k v; omega
    refine wpAny_setItem_pairs (hsz := hz) (kV_is ry) dd fun h' dd' hs => h _ ?_
    have he : ∃ q, h'.get? a = some q := let ⟨q, _, _, hq, _⟩ := dd'; ⟨q, hq⟩
    exact d_write I (by rw [e]; exact True.intro) hs he (dk_new hl hd (rel.put k rv) dd')
  · subst ey eH
    cases (show u = Value.ref b from ry)
    obtain ⟨z, hd, xs, rel, dd⟩ := dt_of I.hok e
    have hz : xs.length ≤ sizeLine := by rw [← Paired.length rel]; exact z
    have hl : (putK kvs k v).length ≤ sizeLine := by have := length_putK kvs k v; omega
    refine wpAny_setItem_heap (hsz := hz) (tupleKind_room_in1 hu) (key_of I.hok eb) dd fun h' dd' hs => h _ ?_
    obtain ⟨q, es, ep, hq, h2, h3, h4, _, h5⟩ := dd'
    refine d_write I (by rw [e]; exact True.intro) hs ⟨q, hq⟩ ⟨hl, hd, _, (rel.put k eb rv).keeps fun c ys ec => ?_, q, es, ep, hq, h2, h3, h4, h5⟩
    rw [upd_ne (ne_of ec e (fun z => nomatch z))]
    exact ec
end
section
variable {X : Cx} {pins : List (Addr × Obj)} {σ : St} {H : Hp} {s : Shared} {a : Addr} {kvs : List (Key × V)} {k : Key} {u : Value} {A : Around} {E : Value → Shared → Prop}
end
def NoSl (i : Expr) : Prop := ∀ ov iv, subscripted i false ov iv = operate [ov, iv] (getItem ov iv)
theorem subD_of {prog : Program} {w : World} {A : Around} {E : Value → Shared → Prop} {s : Shared} {env : Env} {value slice : Expr} {pos : Pos} {T id : String} {Q : Value → Shared → Prop}
    (hl : typeLookup (.type T) "__getitem__" = pure (some (.builtin id))) (hs : NoSl slice)
    (h : wpAny (model prog w) A (eval value env) (fun o s₁ => wpAny (model prog w) A (eval slice env) (fun i s₂ => s₂.TypeIs o T ∧ wpAny (model prog w) A (getItem o i) Q E s₂) E s₁) E s) :
    wpAny (model prog w) A (eval (.Subscript value slice pos) env) Q E s := by
  refine Subscript_ (wpAny_mono h (fun o s₁ h₁ => wpAny_mono h₁ (fun i s₂ h₂ => ?_) fun _ _ x => x) fun _ _ x => x)
  obtain ⟨hT, h₂⟩ := h₂
  unfold subscriptTail
  refine wpAny_bind ?_
  rw [getitemInPython_of_ne hT.not_modules]
  refine wpAny_bind (wpAny_specialOf hT hl ?_)
  have fin : wpAny (model prog w) A (subscripted slice false o i) (fun r s₃ => wpAny (model prog w) A (letTemporaryGo value o r >>= fun _ => pure r) Q E s₃) E s₂ := by
    rw [hs o i]
    exact wpAny_operating (wpAny_mono h₂ (fun r s₃ h₃ => wpAny_bind (wpAny_letTemporaryGo (wpAny_pure h₃))) fun _ _ x => x)
  first
    | exact wpAny_pure (wpAny_bind fin)
    | exact wpAny_bind (wpAny_pure (wpAny_bind fin))
    | exact wpAny_bind fin
theorem dict_typeIs {X : Cx} {pins : List (Addr × Obj)} {σ : St} {H : Hp} {s : Shared} {a : Addr} {y : V} {o : Option V} (I : Inv X pins σ H s) (g : DGet H a y o) : s.TypeIs (.ref a) "dict" := by
  rcases g with ⟨kvs, k, e, _, _⟩ | ⟨kvs, k, b, e, _, _, _⟩
  · obtain ⟨_, _, vs, _, dd⟩ := dk_rd I.hok e
    exact dd.typeIs
  · obtain ⟨_, _, xs, _, dd⟩ := dt_rd I.hok e
    exact dd.typeIs
def tDGet (td ty : TE) : TE := fun σ H Q => td σ H fun x H1 => ty σ H1 fun y H2 => ∃ a v, x = .ref a ∧ DGet H2 a y (some v) ∧ Q v H2
def sDPut (td ty tv : TE) : TS := fun D σ H => tv σ H fun v H1 => td σ H1 fun x H2 => ty σ H2 fun y H3 => ∃ a H4, x = .ref a ∧ DPut H3 a y v H4 ∧ D.nx σ H4
section
variable {X : Cx} {o i e value : Expr} {pos pos' tpos : Pos} {td ty tv : TE}
theorem pe_dget (hu : X.A.units + 1 < cLine) (ho : PE X o td) (hi : PE X i ty) (hs : NoSl i) : PE X (.Subscript o i pos) (tDGet td ty) := by
  constructor
  intro pins s σ H Q I h
  refine subD_of PySem.F.slot_dict_getitem.lookup hs (thn (ho pins s σ H _ I h) fun u s1 ⟨x, H1, I1, rx, q1⟩ => thn (hi pins s1 σ H1 _ I1 q1) fun iv s2 ⟨y, H2, I2, ry, a, v, ex, g, q2⟩ => ?_)
  subst ex
  obtain rfl : u = Value.ref a := rx
  exact ⟨dict_typeIs I2 g, d_getItem hu I2 g ry fun w' s3 I3 rw' => ⟨v, H2, I3, rw', q2⟩⟩
theorem ps_dput (hu : X.A.units + 1 < cLine) (ho : PE X o td) (hi : PE X i ty) (hv : PE X value tv) (hs : swapsWith value (some (.Subscript o i pos')) pos.line X.env = pure false) :
    PS X (.Assign [.Subscript o i pos'] value pos) (sDPut td ty tv) := by
  constructor
  intro pins s σ H D I h
  refine wpAny_Assign_Subscript (thn (hv pins s σ H _ I h) fun r s1 ⟨v, H1, I1, rv, q1⟩ => thn (ho pins s1 σ H1 _ I1 q1) fun u s2 ⟨x, H2, I2, rx, q2⟩ => thn (hi pins s2 σ H2 _ I2 q2) fun iv s3 ⟨y, H3, I3, ry, a, H4, ex, g, q3⟩ => ?_) hs
  subst ex
  obtain rfl : u = Value.ref a := rx
  exact d_setItem hu I3 g ry rv fun s4 I4 => ⟨σ, H4, I4, q3⟩
end
theorem dk_empty {P : Program} {w : World} {H : Hp} (h : Heap) (hb : sysModules < h.objs.size) : ObjOk P w H (h.push { cls := .type "dict", data := .dict #[] }) h.objs.size (.dK []) :=
  ⟨Nat.zero_le _, beq_eq_false_iff_ne.mpr (Ne.symm (Nat.ne_of_lt hb)), [], .nil, Heap.DictOf.new h⟩
section
variable {X : Cx} {pos : Pos}
end
def tPairs : List (TE × TE) → St → Hp → (List (V × V) → Hp → Prop) → Prop
  | [], _, H, Q => Q [] H
  | (tk, tv) :: r, σ, H, Q => tk σ H fun x H1 => tv σ H1 fun y H2 => tPairs r σ H2 fun ps H3 => Q ((x, y) :: ps) H3
abbrev VV : List (V × V) → List (Value × Value) → Prop := Paired fun p q => RelV p.1 q.1 ∧ RelV p.2 q.2
def PPs (X : Cx) (pos : Pos) (keys : List (Option Expr)) (values : List Expr) (trs : List (TE × TE)) : Prop :=
  ∀ (pins : List (Addr × Obj)) (s : Shared) (σ : St) (H : Hp) (Q : List (V × V) → Hp → Prop), Inv X pins σ H s → tPairs trs σ H Q →
    wpAny (model X.prog X.w) X.A (evalPairs (pairTrees keys values X.env pos)) (fun vs s' => ∃ ps H', Inv X pins σ H' s' ∧ VV ps vs ∧ Q ps H') X.xe s
theorem pps_nil {X : Cx} {pos : Pos} : PPs X pos [] [] [] := fun pins s σ H Q I h => pairTrees_nil_walk ⟨[], H, I, .nil, h⟩
theorem pps_cons {X : Cx} {pos : Pos} {k v : Expr} {ks : List (Option Expr)} {vs : List Expr} {tk tv : TE} {trs : List (TE × TE)} (hk : PE X k tk) (hv : PE X v tv) (hr : PPs X pos ks vs trs) :
    PPs X pos (some k :: ks) (v :: vs) ((tk, tv) :: trs) := fun pins s σ H Q I h =>
  pairTrees_cons_walk (thn (hk pins s σ H _ I h) fun u s1 ⟨x, H1, I1, rx, q1⟩ => thn (hv pins s1 σ H1 _ I1 q1) fun w2 s2 ⟨y, H2, I2, ry, q2⟩ =>
    thn (hr pins s2 σ H2 _ I2 q2) fun ws s3 ⟨ps, H3, I3, rel, q3⟩ => ⟨(x, y) :: ps, H3, I3, .cons ⟨rx, ry⟩ rel, q3⟩)
def mergeK (kvs more : List (Key × V)) : List (Key × V) := more.foldl (fun acc kv => putK acc kv.1 kv.2) kvs
theorem KV.merge : ∀ {more : List (Key × V)} {rs : List (Key × Value)} {kvs : List (Key × V)} {vs : List (Key × Value)}, KV more rs → KV kvs vs → KV (mergeK kvs more) (merged vs rs) := by
  intro more rs kvs vs r
  unfold KV at r
  induction r generalizing kvs vs with
  | nil => intro q; exact q
  | @cons p q ps qs h t ih =>
    intro r0
    have e : KV (putK kvs p.1 p.2) (stored vs q.1 q.2) := by
      have := r0.put p.1 h.2
      rw [← h.1]; exact this
    exact ih e
theorem length_mergeK : ∀ (more kvs : List (Key × V)), (mergeK kvs more).length ≤ kvs.length + more.length
  | [], kvs => by show kvs.length ≤ kvs.length + 0; omega
  | p :: r, kvs => by
    have h1 := length_mergeK r (putK kvs p.1 p.2)
    have h2 := length_putK kvs p.1 p.2
    show (mergeK (putK kvs p.1 p.2) r).length ≤ _
    rw [List.length_cons]; omega
theorem carries_of {P : Program} {w : World} : ∀ {kvs : List (Key × V)} {ws : List (Value × Value)}, VV (kvs.map fun kv => (kV kv.1, kv.2)) ws → ∃ rs, Carries (mixKind P w) ws rs ∧ KV kvs rs
  | [], _, r => by rw [List.map_nil] at r; cases r; exact ⟨[], True.intro, .nil⟩
  | p :: kvs, _, r => by
    rw [List.map_cons] at r
    cases r with
    | @cons a b as bs h t =>
      obtain ⟨rs, c, q⟩ := carries_of (P := P) (w := w) t
      obtain ⟨b1, b2⟩ := b
      exact ⟨(p.1, b2) :: rs, ⟨kV_is h.1, rfl, c⟩, .cons ⟨rfl, h.2⟩ q⟩
def tDisp (trs : List (TE × TE)) : TE := fun σ H Q => ∀ p, H p = none → tPairs trs σ (upd H p (.dK [])) fun ps H2 => H2 p = some (.dK []) ∧ ∃ kvs : List (Key × V), ps = kvs.map (fun kv => (kV kv.1, kv.2)) ∧ kvs.length ≤ 15 ∧ Q (.ref p) (upd H2 p (.dK (mergeK [] kvs)))
theorem pe_disp {X : Cx} {pos : Pos} {keys : List (Option Expr)} {values : List Expr} {trs : List (TE × TE)} (h : PPs X pos keys values trs) (hall : keys.all (·.isSome) = true) (hl : keys.length = values.length) (h0 : keys ≠ [])
    (h15 : keys.length ≤ 15) : PE X (.Dict keys values pos) (tDisp trs) := by
  constructor
  intro pins s σ H Q I q
  have hn := I.hok.fresh (Nat.le_refl s.heap.objs.size)
  have I1 := I.laid (a := s.heap.objs.size) (o := .dK []) (h' := s.heap.push { cls := .type "dict", data := .dict #[] }) (t' := s.toks) (fun _ _ q => Heap.get?_push_of_some _ q) (Nat.le_refl _) (dk_empty s.heap I.big)
  refine wpAny_Dict_walk (knd := mixKind X.prog X.w) hall hl h0 h15 (thn (h pins _ σ _ _ I1 (q _ hn)) fun ws s2 ⟨ps, H2, I2, rel, e, kvs, ep, lk, q2⟩ => ?_)
  subst ep
  obtain ⟨rs, c, rk⟩ := carries_of (P := X.prog) (w := X.w) rel
  obtain ⟨z, hd, vs0, r0, dd⟩ := dk_of I2.hok e
  cases r0
  refine ⟨rs, c, dd, fun h' dd' hs => ⟨.ref s.heap.objs.size, _, ?_, rfl, q2⟩⟩
  have hz : (mergeK [] kvs).length ≤ sizeLine := by
    have h1 := length_mergeK kvs []
    rw [List.length_nil] at h1
    rw [sizeLine_eq]; omega
  have he : ∃ q, h'.get? s.heap.objs.size = some q := let ⟨q, _, _, hq, _⟩ := dd'; ⟨q, hq⟩
  exact d_write I2 (by rw [e]; exact True.intro) hs he (dk_new hz hd (rk.merge .nil) dd')
structure M1 (X : Cx) (o : Expr) (m : Str) (apos : Pos) (e : Expr) (cpos : Pos) : Prop where
  base : attributeBase o m X.env (eval o X.env) = eval o X.env
  few : ((backTo cpos (starEach [e] X.env)).all (fun x => !x.1) && (backToKw cpos (keywordEach [] X.env)).all (fun x => x.1.isSome)
    && decide (([e] : List Expr).length + ([] : List Keyword).length + (if ([] : List Keyword).isEmpty then 0 else 1) < 30)) = true
  line : (apos.endLine == cpos.line) = true
  trees : backTo cpos (starEach [e] X.env) = [(false, eval e X.env)]
structure M2 (X : Cx) (o : Expr) (m : Str) (apos : Pos) (e f : Expr) (cpos : Pos) : Prop where
  base : attributeBase o m X.env (eval o X.env) = eval o X.env
  few : ((backTo cpos (starEach [e, f] X.env)).all (fun x => !x.1) && (backToKw cpos (keywordEach [] X.env)).all (fun x => x.1.isSome)
    && decide (([e, f] : List Expr).length + ([] : List Keyword).length + (if ([] : List Keyword).isEmpty then 0 else 1) < 30)) = true
  line : (apos.endLine == cpos.line) = true
  trees : backTo cpos (starEach [e, f] X.env) = [(false, eval e X.env), (false, eval f X.env)]
section
variable {X : Cx} {pins : List (Addr × Obj)} {σ : St} {H : Hp} {s : Shared} {a : Addr} {y d : V} {u r : Value} {o : Option V} {A : Around} {E : Value → Shared → Prop}
end
section
variable {X : Cx} {o e f : Expr} {apos cpos : Pos} {td ty tx : TE}
end
section
variable {X : Cx} {pins : List (Addr × Obj)} {σ : St} {H : Hp} {s : Shared} {a : Addr} {kvs : List (Key × V)} {A : Around} {E : Value → Shared → Prop}
end
section
variable {X : Cx} {pins : List (Addr × Obj)} {σ : St} {H : Hp} {s : Shared} {a : Addr} {y : V} {u : Value} {A : Around} {E : Value → Shared → Prop}
end
end L2
namespace L2
open PySem PySem.Spec PyProof.Rows
section
variable {prog : Program} {w : World} {A : Around} {E : Value → Shared → Prop}
end
section
variable {X : Cx}
end
end L2
namespace L2
open PySem PySem.Spec PyProof.Rows
section
variable {X : Cx} {pins : List (Addr × Obj)} {σ : St} {H : Hp} {s : Shared} {h' : Heap}
theorem Inv.turnedL {t' : Nat} {ch : List Addr} (I : Inv X pins σ H s) (k : ∀ b o, b ∉ ch → s.heap.get? b = some o → h'.get? b = some o) (hf : ∀ b ∈ ch, FpOk X pins H b) : Inv X pins σ H { s with heap := h', toks := t' } := by
  have nit : ∀ b u, H b = some u → b ∉ ch := fun b u e z => by
    have q := (hf b z).1
    rw [q] at e; cases e
  refine I.step (g' := s.gens) (d' := s.drawn) (ch := ch) (fun b hb => ⟨(hf b hb).2.2.2.1, (hf b hb).2.1, (hf b hb).2.2.2.2.1, (hf b hb).2.2.2.2.2⟩) (fun b o _ _ hc e _ => k b o hc e) (fun b o _ _ hc e _ => ⟨o.slots, k b o hc e⟩)
    (fun _ _ _ _ n => n) (fun b o hc e => ⟨o, k b o hc e⟩) (fun _ _ e => e) (fun _ _ _ e => e) (fun b ps e => ⟨#[], by rw [e]; simp⟩) (fun m hm => ?_) (fun b u e => ?_) I.bare
  · obtain ⟨o, es, ep, ho, r⟩ := hm
    exact ⟨o, es, ep, k _ o (fun z => (hf _ z).2.1 rfl) ho, r⟩
  · refine (I.hok b u e).stay (fun c v hc q => k c v ?_ q) (fun _ q => q) fun _ _ q => q
    rcases hc with z | z
    · rw [z]; exact nit b u e
    · exact nit c _ z
theorem Inv.turnedNew {t' : Nat} {ch : List Addr} {T : Addr} {ob : HO} (I : Inv X pins σ H s) (k : ∀ b o, b ∉ ch → s.heap.get? b = some o → h'.get? b = some o) (hf : ∀ b ∈ ch, FpOk X pins H b) (hT : s.heap.objs.size ≤ T)
    (new : ObjOk X.prog X.w (upd H T ob) h' T ob) : Inv X pins σ (upd H T ob) { s with heap := h', toks := t' } := by
  have hn : H T = none := I.hok.fresh hT
  have nit : ∀ b u, H b = some u → b ∉ ch := fun b u e z => by
    have q := (hf b z).1
    rw [q] at e; cases e
  refine I.step (g' := s.gens) (d' := s.drawn) (ch := ch) (fun b hb => ⟨(hf b hb).2.2.2.1, (hf b hb).2.1, (hf b hb).2.2.2.2.1, (hf b hb).2.2.2.2.2⟩) (fun b o _ _ hc e _ => k b o hc e) (fun b o _ _ hc e _ => ⟨o.slots, k b o hc e⟩)
    (fun b o _ e n => ?_) (fun b o hc e => ⟨o, k b o hc e⟩) (fun b xs e => ?_) (fun b o u e => ?_) (fun b ps e => ⟨#[], ?_⟩) (fun m hm => ?_) (fun b u e => ?_) I.bare
  · rw [upd_ne (Nat.ne_of_lt (Nat.lt_of_lt_of_le (Heap.lt_size e) hT))]; exact n
  · rw [upd_ne (ne_of_none e hn)]; exact e
  · rw [upd_ne (ne_of_none e hn)]; exact e
  · rw [upd_ne (ne_of_none e hn), e]; simp
  · obtain ⟨o, es, ep, ho, r⟩ := hm
    exact ⟨o, es, ep, k _ o (fun z => (hf _ z).2.1 rfl) ho, r⟩
  · by_cases hb : b = T
    · subst hb
      rw [upd_same] at e
      cases e
      exact new
    · rw [upd_ne hb] at e
      refine (I.hok b u e).stay (fun c v hc q => k c v ?_ q) (fun c q => by rw [upd_ne (ne_of_none q hn)]; exact q) fun c xs q => by rw [upd_ne (ne_of_none q hn)]; exact q
      rcases hc with z | z
      · rw [z]; exact nit b u e
      · exact nit c _ z
end
section
variable {X : Cx}
theorem pi_one {tg : Expr} {pins : List (Addr × Obj)} {σ : St} {H : Hp} {s : Shared} {R : It → Hp → Prop} {J : It} {tn : Nat → Heap → Prop} {tk : Nat} (I : Inv X pins σ H s) (o : Obj)
    (T : Turn X.prog X.w X.K tg J [s.heap.objs.size] s.heap.objs.size tn) (st : tn 0 (s.heap.push o)) (q : R J H) : PIE X pins σ tg R (.ref s.heap.objs.size) { s with heap := s.heap.push o, toks := tk } := by
  refine ⟨s.heap.objs.size, [s.heap.objs.size], tn, J, H, rfl, I.kept fun b ob e => Heap.get?_push_of_some _ e, T, st, fun b hb => ?_, q⟩
  have e : b = s.heap.objs.size := by simpa using hb
  subst e
  exact I.fpOk (Nat.le_refl _) (I.hok.fresh (Nat.le_refl _))
end
section
variable {X : Cx} {tg : Expr}
end
section
variable {X : Cx} {tg : Expr}
end
def Its (x : Str) : It := ⟨fun i _ => i < x.cps.size, fun i H v H' => H' = H ∧ ∃ c, x.cps[i]? = some c ∧ v = .str ⟨#[c]⟩, fun i _ => x.cps.size ≤ i⟩
theorem turn_str {P : Program} {w : World} {K : PySem.W.Frag} {tg : Expr} (it : Addr) (x : Str) (t : Tok) (ty : String) (hty : ty = "str_ascii_iterator" ∨ ty = "str_iterator") :
    Turn P w K tg (Its x) [it] it (fun i h => h.IsStrIter it ty x t i) where
  mem := by simp
  obj := fun i h st b hb => by
    have e : b = it := by simpa using hb
    subst e
    obtain ⟨o, e, c, d⟩ := st
    exact ⟨o, e, fun v z => by rw [d] at z; cases z⟩
  keep := fun i h h' st k => let ⟨o, ho, r⟩ := st; ⟨o, k it (by simp) o ho, r⟩
  item := by
    intro X hP hw hK hc i pins s σ H E I hf st hg
    subst hP hw hK
    obtain ⟨f0, f1, f2, f3, f4, f5⟩ := hf it (by simp)
    have W : Walks X.prog X.w X.A it [it] [it] x.cps.size (SignAt x) (fun i h => h.IsStrIter it ty x t i) := by
      rcases hty with e | e
      · rw [e]; exact Walks.strAscii (I.ok.hd hc) it x t
      · rw [e]; exact Walks.strWide (I.ok.hd hc) it x t
    have hno : ["enumerate", "zip", "dict_itemiterator", "dict_reverseitemiterator", "odict_iterator", "itertools.zip_longest", "itertools.pairwise"].contains ty = false := by
      rcases hty with e | e
      · rw [e]; decide
      · rw [e]; decide
    refine W.item i s _ _ hg st fun v h' tk hv st' kk => ?_
    obtain ⟨c, u, hcx, rfl⟩ := hv
    have I1 : Inv X pins σ H { s with heap := h', toks := tk } := I.turned (fun b o hb e => kk b o (by simpa using hb) e) f0 f1 f3 f4 f5
    obtain ⟨oi, e, cc, dd⟩ := id st'
    exact ⟨_, rfl, go_of (s := { s with heap := h', toks := tk }) e cc dd hno ⟨.str ⟨#[c]⟩, H, I1, ⟨u, rfl⟩, ⟨rfl, c, hcx, rfl⟩, st', fun b hb => (hf b hb).1⟩⟩
  done := by
    intro X hP hw hK hc i pins s σ H E I hf st hg
    subst hP hw hK
    obtain ⟨f0, f1, f2, f3, f4, f5⟩ := hf it (by simp)
    have hx : x.cps[i]? = none := Array.getElem?_eq_none hg
    rcases hty with e | e
    · rw [e] at st
      exact wpAny_pyNext_ascii_end (I.ok.hd hc) st hx fun h' eb => ⟨rfl, I.turned (t' := s.toks) (fun b o hb e => eb b o hb e) f0 f1 f3 f4 f5⟩
    · rw [e] at st
      exact wpAny_pyNext_wide_end (I.ok.hd hc) st hx fun h' eb => ⟨rfl, I.turned (t' := s.toks) (fun b o hb e => eb b o hb e) f0 f1 f3 f4 f5⟩
  self := fun A i s Q E st h => by
    rcases hty with e | e
    · rw [e] at st; exact wpAny_pyIter_striter_ascii st h
    · rw [e] at st; exact wpAny_pyIter_striter_wide st h
def iStr (te : TE) : TI := fun σ H R => te σ H fun v H1 => ∃ x, v = .str x ∧ R (Its x) H1
theorem pi_str {X : Cx} {tg e : Expr} {te : TE} (he : PE X e te) : PI X tg e (iStr te) := by
  constructor
  intro pins s σ H R I h
  refine thn (he pins s σ H _ I h) fun v s1 ⟨y, H1, I1, r1, x, ex, q⟩ => ?_
  subst ex
  obtain ⟨t, rfl⟩ := r1
  cases ha : x.cps.all (· < 128)
  · exact wpAny_pyIter_wide ha (pi_one (tk := s1.toks) I1 _ (turn_str _ x t "str_iterator" (.inr rfl)) ⟨_, Heap.get?_push_size _ rfl, rfl, rfl⟩ q)
  · exact wpAny_pyIter_ascii ha (pi_one (tk := s1.toks) I1 _ (turn_str _ x t "str_ascii_iterator" (.inl rfl)) ⟨_, Heap.get?_push_size _ rfl, rfl, rfl⟩ q)
section
variable {prog : Program} {w : World} {A : Around} {E : Value → Shared → Prop} {s : Shared}
end
section
variable {X : Cx} {pins : List (Addr × Obj)} {σ : St} {H : Hp} {s : Shared} {d : Addr} {o : Obj}
end
section
variable {P : Program} {w : World} {K : PySem.W.Frag} {tg : Expr} {d : Addr} {o : Obj} {es : Array DictEntry} {ep : Nat}
end
section
variable {X : Cx} {tg e : Expr} {td : TE} {apos cpos : Pos}
end
theorem boot_zip5 : bootBuiltins "zip" = some (.type "zip") := by decide +kernel
end L2
section 
namespace Bits
open PySem PyProof.Rows
end Bits
end 
section 
namespace TL
open PySem PySem.Builtin PySem.Builtin.Str PySem.StrLaws
abbrev tl (x : Str) : List Nat := x.cps.toList
theorem ext_tl {x y : Str} (h : tl x = tl y) : x = y := Str.ext' (Array.toList_inj.mp h)
theorem tl_append (x y : Str) : tl (x ++ y) = tl x ++ tl y := by
  show (x ++ y).cps.toList = _
  rw [Str.cps_append, Array.toList_append]
def pre (S l : List Nat) : Bool := l.take S.length == S
def par (S : List Nat) : List Nat → List Nat → Option (List Nat × List Nat)
  | _, [] => none
  | acc, c :: r => if pre S (c :: r) = true then some (acc, (c :: r).drop S.length) else par S (acc ++ [c]) r
def joinL (S : List Nat) : List (List Nat) → List Nat
  | [] => []
  | [p] => p
  | p :: q :: r => p ++ (S ++ joinL S (q :: r))
theorem tl_join (y : Str) : ∀ parts : List Str, tl (Str.join y parts) = joinL (tl y) (parts.map tl)
  | [] => rfl
  | [_] => rfl
  | x :: z :: r => by
    show tl (x ++ y ++ Str.join y (z :: r)) = tl x ++ (tl y ++ joinL (tl y) ((z :: r).map tl))
    rw [tl_append, tl_append, tl_join y (z :: r), List.append_assoc]
theorem join_eq (y : Str) (parts : List Str) : Txt.join y parts = Str.join y parts := glued_eq_join y parts
end TL
end 
namespace L2
open PySem PySem.Spec PyProof.Rows
theorem strs_of_vals : ∀ {ys : List Str} {us : List Value}, Vals (ys.map V.str) us → StrsAre us ys
  | [], _, .nil => .nil
  | y :: ys, _, .cons r t => by
    obtain ⟨k, rfl⟩ := r
    exact .cons y k (strs_of_vals t)
section
variable {X : Cx} {pins : List (Addr × Obj)} {σ : St} {H : Hp} {s : Shared} {Q : VK}
end
section
variable {X : Cx}
theorem mt_join : MtR X "str.join" (fun x xs H Q => ∃ a p, ∃ ys : List Str, x = .str a ∧ xs = [.ref p] ∧ (SqL X.K H p (ys.map V.str) ∨ SqT X.K H p (ys.map V.str)) ∧
    (ys.map (·.length)).sum + ys.length * a.length ≤ 16777216 ∧ Q (.str (Txt.join a ys)) H) := by
  intro pins s σ H x xs v us Q I rx rs h
  obtain ⟨a, p, ys, rfl, rfl, hp, hz, h⟩ := h
  obtain ⟨t, rfl⟩ := rx
  cases rs with
  | cons r1 rs =>
    cases rs
    cases r1
    rcases hp with hp | hp
    · obtain ⟨its, r, ⟨o, n, ho, hc, _, hd⟩, _⟩ := I.list hp
      exact PyProof.Rows.join_list (items := its.toArray) ⟨o, ho, hc, n, hd⟩ (by rw [List.toList_toArray]; exact strs_of_vals r) hz fun t' k => ⟨.str _, H, I.tok k, ⟨t', rfl⟩, h⟩
    · obtain ⟨its, r, ht, _⟩ := I.tuple hp
      exact PyProof.Rows.join_tuple (items := its.toArray) ht (by rw [List.toList_toArray]; exact strs_of_vals r) hz fun t' k => ⟨.str _, H, I.tok k, ⟨t', rfl⟩, h⟩
end
section
variable {X : Cx} {o e : Expr} {to te : TE}
def tM1 (r : V → List V → Hp → VK → Prop) (to te : TE) : TE := fun σ H Q => to σ H fun x H1 => (∃ a, x = .str a) ∧ te σ H1 fun y H2 => r x [y] H2 Q
theorem pe_m1 {id : String} {name : Str} {apos pos : Pos} {r : V → List V → Hp → VK → Prop} (slot : Slot "str" name id) (ty : typeOf (.builtin id) = pure (.type "method_descriptor")) (rule : MtR X id r) (ho : PE X o to) (he : PE X e te)
    (hs : starEach [e] X.env = [(false, eval e X.env)] := by rfl) (hbase : attributeBase o name X.env (eval o X.env) = eval o X.env := by rfl) (hline : (apos.endLine == pos.line) = true := by rfl) :
    PE X (.Call (.Attribute o name apos) [e] [] pos) (tM1 r to te) := by
  constructor
  intro pins s σ H Q I h
  refine PySem.Call_method1 hbase hs hline (thn (ho pins s σ H _ I h) fun v s1 ⟨x, H1, I1, r1, q1⟩ => ?_)
  obtain ⟨⟨a, rfl⟩, q1⟩ := q1
  obtain ⟨t, rfl⟩ := _root_.id r1
  refine ⟨"str", _, F.plainAttrs_str, slot, ty, typeIs_str _ _ _, (fun _ e => nomatch e), Calls.callWith_builtin rfl (Calls.evalArgs_plain (Calls.spliced_cons ?_))⟩
  exact thn (he pins s1 σ H1 _ I1 q1) fun u s2 ⟨y, H2, I2, r2, q2⟩ => Calls.spliced_nil (rule pins s2 σ H2 _ [y] _ [u] Q I2 r1 (.cons r2 .nil) q2)
theorem pe_join {apos pos : Pos} (ho : PE X o to) (he : PE X e te) (hs : starEach [e] X.env = [(false, eval e X.env)] := by rfl) (hbase : attributeBase o "join" X.env (eval o X.env) = eval o X.env := by rfl) (hline : (apos.endLine == pos.line) = true := by rfl) :
    PE X (.Call (.Attribute o "join" apos) [e] [] pos) (tM1 (fun x xs H Q => ∃ a p, ∃ ys : List Str, x = .str a ∧ xs = [.ref p] ∧ (SqL X.K H p (ys.map V.str) ∨ SqT X.K H p (ys.map V.str)) ∧
      (ys.map (·.length)).sum + ys.length * a.length ≤ 16777216 ∧ Q (.str (Txt.join a ys)) H) to te) :=
  pe_m1 F.slot_str_join F.type_str_join mt_join ho he hs hbase hline
end
end L2
namespace L2
open PySem PySem.Spec PyProof.Rows
section
variable {X : Cx}
theorem op_in_sign : OpR X (compareOp .In) (fun x y H Q => ∃ (c : Nat) (z : Str), x = .str ⟨#[c]⟩ ∧ y = .str z ∧ Q (.bl (decide (c ∈ z.cps.toList))) H) := by
  intro pins s σ H x y v u Q I rx ry h
  obtain ⟨c, z, rfl, rfl, q⟩ := h
  obtain ⟨t, rfl⟩ := rx
  obtain ⟨t', rfl⟩ := ry
  exact PyProof.Rows.in_str (fin_bl I q (PySem.StrLaws.found_one z c).symm)
end
theorem IsPart.raw {v : Value} {o : Option Int} (p : IsPart v o) : ∃ l : Option (Int × Tok), v = partValue l ∧ l.map (·.1) = o := by
  cases p with
  | none => exact ⟨none, rfl, rfl⟩
  | int i t => exact ⟨some (i, t), rfl, rfl⟩
def clipS (n d : Nat) : Option Int → Int
  | none => (d : Int)
  | some i => max 0 (min (if i < 0 then i + (n : Int) else i) (n : Int))
theorem clipS_eq (n d : Nat) (o : Option Int) : clipS n d o = ((HT.sIx n d o : Nat) : Int) := by
  cases o with
  | none => rfl
  | some v =>
    show max (0 : Int) (min (if v < 0 then v + (n : Int) else v) (n : Int)) = (((if v < 0 then (v + (n : Int)).toNat else min v.toNat n) : Nat) : Int)
    by_cases hv : v < 0
    · simp only [if_pos hv]
      omega
    · simp only [if_neg hv]
      omega
theorem sidx_clip (a b : Option Int) (n : Nat) : Builtin.Str.strSliceIndices a b 1 n = sliceRange (clipS n 0 a) (clipS n n b) 1 := by
  have h1 : ((1 : Int) > 0) = True := by simp
  cases a <;> cases b <;> first
    | rfl
    | (simp only [Builtin.Str.strSliceIndices, clipS, h1, if_true]; rfl)
    | simp [Builtin.Str.strSliceIndices, clipS]
theorem sidx (a b : Option Int) (n : Nat) : Builtin.Str.strSliceIndices a b 1 n = (List.range (HT.sIx n n b - HT.sIx n 0 a)).map (fun k => HT.sIx n 0 a + k) := by
  rw [sidx_clip, clipS_eq, clipS_eq]
  generalize HT.sIx n 0 a = p
  generalize HT.sIx n n b = q
  simp only [sliceRange, show ((1 : Int) > 0) = True from by simp, if_true]
  by_cases hlt : (p : Int) < q
  · have e3 : (((q : Int) - p + 1 - 1) / 1).toNat = q - p := by first | omega | (simp; done) | (simp; omega)
    simp only [hlt, if_true, e3]
    refine List.map_congr_left fun k _ => ?_
    omega
  · have : q - p = 0 := by omega
    simp [hlt, this]
def cutS (z : Str) (lo hi : Option Int) : Str :=
  ⟨((z.cps.toList.drop (HT.sIx z.length 0 lo)).take (HT.sIx z.length z.length hi - HT.sIx z.length 0 lo)).toArray⟩
theorem sliceText_cut (z : Str) (lo hi : Option Int) : PySem.StrLaws.sliceText z lo hi = cutS z lo hi := by
  have h1 : HT.sIx z.length 0 lo ≤ z.length := HT.sIx_le _ _ (Nat.zero_le _) _
  have h2 : HT.sIx z.length z.length hi ≤ z.length := HT.sIx_le _ _ (Nat.le_refl _) _
  have hp : HT.sIx z.length 0 lo ≤ max (HT.sIx z.length 0 lo) (HT.sIx z.length z.length hi) := Nat.le_max_left _ _
  have hq : max (HT.sIx z.length 0 lo) (HT.sIx z.length z.length hi) ≤ z.length := Nat.max_le.mpr ⟨h1, h2⟩
  have hd : max (HT.sIx z.length 0 lo) (HT.sIx z.length z.length hi) - HT.sIx z.length 0 lo = HT.sIx z.length z.length hi - HT.sIx z.length 0 lo := by omega
  have e : Builtin.Str.strSliceIndices lo hi 1 z.length =
      Builtin.Str.strSliceIndices (some ((HT.sIx z.length 0 lo : Nat) : Int)) (some ((max (HT.sIx z.length 0 lo) (HT.sIx z.length z.length hi) : Nat) : Int)) 1 z.length := by
    rw [PySem.StrLaws.strSliceIndices_plain hp hq, hd, sidx]
  have e2 : PySem.StrLaws.sliceText z lo hi =
      PySem.StrLaws.sliceText z (some ((HT.sIx z.length 0 lo : Nat) : Int)) (some ((max (HT.sIx z.length 0 lo) (HT.sIx z.length z.length hi) : Nat) : Int)) := by
    unfold PySem.StrLaws.sliceText
    rw [e]
  rw [e2, PySem.StrLaws.sliceText_nat z hp hq, hd]
  rfl
theorem cutS_length (z : Str) (lo hi : Option Int) : (cutS z lo hi).length ≤ z.length := by
  show (((z.cps.toList.drop (HT.sIx z.length 0 lo)).take (HT.sIx z.length z.length hi - HT.sIx z.length 0 lo)).toArray).size ≤ z.cps.size
  rw [List.size_toArray, List.length_take, List.length_drop, Array.length_toList]
  omega
def rSlS : V → Option Int → Option Int → Hp → VK → Prop := fun x lo hi H Q => ∃ z, x = .str z ∧ z.length ≤ sizeLine ∧ Q (.str (cutS z lo hi)) H
theorem sl_str {X : Cx} : SlR X rSlS := by
  intro pins s σ H x v vl vu lo hi sl Q I rx hs pl pu h
  obtain ⟨z, rfl, hz, q⟩ := h
  obtain ⟨t, rfl⟩ := rx
  obtain ⟨os, hos, hcs, hds⟩ := hs
  obtain ⟨l, rfl, rfl⟩ := IsPart.raw pl
  obtain ⟨u, rfl, rfl⟩ := IsPart.raw pu
  refine ⟨"str", _, F.slot_str_getitem.lookup, typeIs_str _ _ _, ?_⟩
  refine wpAny_getItem_str_slice (l := l) (u := u) (st := none) ⟨os, hos, hcs, hds⟩ rfl ?_
  have hl : (PySem.StrLaws.sliceText z (l.map (·.1)) (u.map (·.1))).length ≤ sizeLine := by
    rw [sliceText_cut]
    exact Nat.le_trans (cutS_length z _ _) hz
  rw [← sliceText_cut] at q
  unfold PySem.StrLaws.sliceText at q hl
  show Made.post (if ((1 : Int) == 1 && (Builtin.Str.strSliceIndices (l.map (·.1)) (u.map (·.1)) 1 z.length).length == z.length) = true then Made.val (.str z t)
    else Made.str ⟨((Builtin.Str.strSliceIndices (l.map (·.1)) (u.map (·.1)) 1 z.length).filterMap (z.cps[·]?)).toArray⟩) (EP X pins σ Q) s
  by_cases c : ((1 : Int) == 1 && (Builtin.Str.strSliceIndices (l.map (·.1)) (u.map (·.1)) 1 z.length).length == z.length) = true
  · rw [if_pos c] at q ⊢
    exact ⟨.str z, H, I, ⟨t, rfl⟩, q⟩
  · rw [if_neg c] at q hl ⊢
    exact ⟨hl, .str _, H, I.tok _, ⟨_, rfl⟩, q⟩
end L2
namespace Att
open PySem PySem.W PySem.Calls PyProof.Rows
theorem ints_of_wellAll {P : Params} {h : Heap} : ∀ (ns : List Int) (vs : List Value), WellAll P h vs (ns.map WData.int) → IntsAre vs ns := by
  intro ns
  induction ns with
  | nil =>
    intro vs w
    rw [List.map_nil] at w
    cases w
    exact .nil
  | cons n ns ih =>
    intro vs w
    rw [List.map_cons] at w
    cases w with
    | cons a b =>
      cases a
      exact .cons _ _ (ih _ b)
theorem script_of {l : OpenLaw} {n : Nat} (hn : l.most = some n) {P : Params} {h : Heap} {args : List WData} {vals : List Value}
    (hpre : l.row.toRowW.claim.pre args = true) (hwl : WellAll P h vals args) :
    ∃ a vs ns, vals = [Value.ref a] ∧ args = [WData.list (ns.map WData.int)] ∧ h.get? a = some { cls := .type "list", data := .seq vs.toArray } ∧ IntsAre vs ns ∧ ns.length ≤ n := by
  have hsh : WShape.hasAll [] args [.list .int] = true := (pre_splitW hpre).1
  have hc : l.pre.holds [] { args := args } = true := (pre_splitW hpre).2
  obtain ⟨d, r, rfl, h1, h2⟩ := hasAllW_cons hsh
  obtain rfl := hasAllW_nil h2
  obtain ⟨xs, rfl, h3⟩ := hasW_list h1
  obtain ⟨ns, rfl⟩ := items_int h3
  have hlen : ns.length ≤ n := by
    unfold OpenLaw.pre at hc
    have h4 : (WTm.not (.lt (.lit (.int (n : Int))) (.len (.arg 0)))).holds [] { args := [.list (ns.map .int)] } = true := by
      have h4 := (holds_andW hc).1
      rw [hn] at h4
      exact h4
    have h5 := condW_of h4 (w_not (w_lt w_lit (w_len_list (w_arg rfl))))
    rw [List.length_map] at h5
    refine Nat.le_of_not_lt fun q => ?_
    have q' : (n : Int) < ((ns.length : Nat) : Int) := by omega
    first
      | (rw [decide_eq_true q'] at h5; exact absurd h5 (by decide))
      | (simp at h5; omega)
  cases hwl with
  | cons w1 w2 =>
    cases w2
    cases w1 with
    | list ho hall => exact ⟨_, _, ns, rfl, rfl, ho, ints_of_wellAll ns _ hall, hlen⟩
theorem post_true (l : OpenLaw) (args : List WData) : l.row.toRowW.claim.post args (.bool true) args = true :=
  postW_of (r := l.row.toRowW) (X := (true == true))
    (show WShape.has [] (.bool true) .bool = true by first | rfl | decide | simp [WShape.has, WShape.arms, WShape.armsAll])
    (show (WTm.eq .res (.lit (.bool true))).value [] { args := args, res := some (.bool true), after := args } = some (.bool (true == true)) from w_eq_bool (w_res rfl) w_lit) rfl
theorem attach_call {l : OpenLaw} {n : Nat} {q : Program} {loose : List Str} {XP : (Str → Option Value) → Heap → Prop} {YP : World → Heap → Prop} {d : DefRec}
    (hn : l.most = some n) (hdf : d.params.defaults = [])
    (call : ∀ (w : World) (s₀ s₁ : Shared) (mg mb : Str → Option Value) (fa : Addr) (o : Obj) (pm cd doc : Value) (a : Addr) (vs : List Value) (ns : List Int),
      Ground q loose [] XP w s₀ mg mb s₁.heap → YP w s₁.heap →
      s₁.heap.get? fa = some o → o.data = .func (docDef d.name d.params d.body d.scope pm cd doc) → s₁.heap.CodeRec cd d.name → mg d.name = some (.ref fa) →
      s₁.heap.get? a = some { cls := .type "list", data := .seq vs.toArray } → IntsAre vs ns → ns.length ≤ n → s₁.gens = #[] →
      codeAny (model l.prog w) callerA (.call (.ref fa) ⟨[.ref a], []⟩) (fun r s' => r = .ok (.ret (.bool true)) ∧ OldK s₁.heap s'.heap ∧ s'.os = s₁.os ∧ AllBare s'.gens) s₁) :
    WalkO q loose XP YP l.row.toRowW d [] (fun f vs => PySem.call f vs) := by
  intro w s₀ s₁ mg mb G Y fa o pm cd doc dV kV ho hd hcd hD hmg hg args vals as hpre hlay hrd hwl hlo
  obtain rfl : dV = .none := Dflts.none hD hdf
  obtain rfl : kV = .none := Dflts.noKw hD
  obtain ⟨a, vs, ns, rfl, rfl, hobj, hints, hlen⟩ := script_of hn hpre hwl
  refine enter_call (codeAny_mono (call w s₀ s₁ mg mb fa o pm cd doc a vs ns G Y ho (fd_plain hd) hcd hmg hobj hints hlen hg) fun r s' hq => ?_)
  obtain ⟨rfl, h2, h3, h4⟩ := hq
  exact ⟨.inl ⟨.bool true, .bool true, [], rfl, fun _ => rfl, .bool true, post_true l _, fun _ => ⟨List.Pairwise.nil, fun _ hm => (nomatch hm)⟩⟩, h2, h3, h4⟩
section
variable {prog : Program} {w : World} {A : Around} {E : Value → Shared → Prop} {s : Shared} {K : Frag}
end
end Att
namespace L2
open PySem PySem.Spec PyProof.Rows
theorem vals_ints : ∀ {vs : List Value} {ns : List Int}, IntsAre vs ns → Vals (ns.map V.int) vs
  | _, _, .nil => .nil
  | _, _, .cons n t h => .cons ⟨t, rfl⟩ (vals_ints h)
def Only (H : Hp) : Prop := ∀ b, H b = none ∨ ∃ o xs, H b = some (.frz o (.lst xs))
theorem law_call {P : Program} {w : World} {K : PySem.W.Frag} {mg mb : Str → Option Value} {CX : CXT} {k : Nat} {fa a : Addr} {fd : FuncData} {x : Str} {sp : Sp} {s₁ : Shared} {vs : List Value} {ns : List Int}
    (KX : K.In s₁.heap) (hns : s₁.heap.Ns mainGlobals mg) (hb : s₁.heap.Ns builtinsNs mb) (hbb : ∀ x : Str, x ≠ "__name__" → mb x = bootBuiltins x) (hlim : s₁.heap.NoLimit) (hg : s₁.gens = #[])
    (ha : s₁.heap.get? a = some { cls := .type "list", data := .seq vs.toArray }) (hi : IntsAre vs ns) (hl : ns.length ≤ sizeLine) (hr : Room k callerA)
    (F : ∀ base : Heap, K.In base → base.Ns mainGlobals mg → FnOk P w K mg base CX k fa fd [x] sp) (hbind : ∀ (s : Shared) (u : Value), BindsTo s fd ⟨[u], []⟩ [(x, u)])
    (hsp : ∀ H : Hp, Only H → SqL K H a (ns.map V.int) → sp [.ref a] H (fun v _ => v = .bl true) fun _ _ _ => False)
    (hCX : ∀ H e s', CX [] H s₁ (fun _ _ _ => False) e s' → False) :
    codeAny (model P w) callerA (.call (.ref fa) ⟨[.ref a], []⟩) (fun r s' => r = .ok (.ret (.bool true)) ∧ OldK s₁.heap s'.heap ∧ s'.os = s₁.os ∧ AllBare s'.gens) s₁ := by
  have rv := vals_ints hi
  have lenV := hi.length
  have core : ∀ H : Hp, Only H → SqL K H a (ns.map V.int) → HOk P w H s₁.heap → (∀ b, H b ≠ none → b = a) → (H a ≠ none → K.lookup a = none) →
      codeAny (model P w) callerA (.call (.ref fa) ⟨[.ref a], []⟩) (fun r s' => r = .ok (.ret (.bool true)) ∧ OldK s₁.heap s'.heap ∧ s'.os = s₁.os ∧ AllBare s'.gens) s₁ := by
    intro H hO hS hok hA hK
    have base_of : ∀ {b : Addr} {o : Obj}, s₁.heap.get? b = some o → H b = none → (hidT s₁.heap H).get? b = some o := fun e n => hidT_get e n
    have noA : ∀ {b : Addr} {o : Obj} {es : Array DictEntry} {ep : Nat}, s₁.heap.get? b = some o → o.data = .dict es ep → H b = none := fun {b o es ep} e d => by
      cases q : H b with
      | none => rfl
      | some u =>
        have e' : b = a := hA b (by rw [q]; simp)
        subst e'
        rw [ha] at e; cases e
        have d' : Data.seq vs.toArray _ = Data.dict es ep := d
        cases d'
    have nsK : ∀ {b : Addr} {m : Str → Option Value}, s₁.heap.Ns b m → (hidT s₁.heap H).Ns b m := fun {b m} ⟨o, es, ep, e, d, r⟩ => ⟨o, es, ep, base_of e (noA e d), d, r⟩
    have hKb : K.In (hidT s₁.heap H) := fun b o e => base_of (KX b o e) (by
      cases q : H b with
      | none => rfl
      | some u =>
        have e' : b = a := hA b (by rw [q]; simp)
        subst e'
        rw [hK (by rw [q]; simp)] at e; cases e)
    have hM : Mod K mg (hidT s₁.heap H) := ⟨hKb, nsK hns, ⟨mb, nsK hb, hbb⟩, let ⟨mc, h1, h2⟩ := hlim; ⟨mc, nsK h1, h2⟩⟩
    have e0 : Env0 P w K mg (hidT s₁.heap H) callerA [] s₁ H := ⟨rfl, hM, fun b o e => of_hidT e, Nat.le_of_eq (hidT_size _ _), trivial, fun b hb => absurd (show b ∈ ([] : List Addr) from hb) (by simp), hok, .of_eq hg⟩
    refine codeAny_mono ((F _ hKb (nsK hns)).run callerA [] s₁ H ⟨[.ref a], []⟩ [.ref a] [.ref a] _ _ hr e0 (hbind s₁ (.ref a)) (.cons rfl .nil) (hsp H hO hS)) fun r s' h => ?_
    cases r with
    | error e => exact (hCX H e s' h).elim
    | ok fl =>
      cases fl with
      | next => exact False.elim h
      | brk => exact False.elim h
      | cont => exact False.elim h
      | ret u =>
        obtain ⟨v, H', os, bare, un, hok', r', q⟩ := h
        have q' : v = .bl true := q
        subst q'
        obtain rfl : u = Value.bool true := r'
        refine ⟨rfl, OldK.of_keep fun b o e => ?_, os, bare⟩
        cases q : H b with
        | none => exact un.keep b o e q (by intro z; exact absurd (show b ∈ ([] : List Addr) from z) (by simp)) (by simp)
        | some u =>
          rcases hO b with z | ⟨ob, xs, z⟩
          · rw [q] at z; cases z
          · have z2 := un.frzs b ob _ z
            obtain ⟨e1, _⟩ := hok b _ z
            obtain ⟨e2, _⟩ := hok' b _ z2
            rw [e] at e1; cases e1
            exact e2
  cases hk : K.lookup a with
  | some o =>
    have e := KX a o hk
    rw [ha] at e
    cases e
    refine core (fun _ => none) (fun _ => .inl rfl) (.inr ⟨_, vs.toArray, _, hk, rfl, rfl, rfl, by rw [List.size_toArray, lenV]; exact hl, by simpa using rv⟩) (fun b u z => by have z' : (none : Option HO) = some u := z; cases z') (fun b z => absurd rfl z) fun z => absurd rfl z
  | none =>
    refine core (fun b => if b = a then some (.frz { cls := .type "list", data := .seq vs.toArray } (.lst (ns.map V.int))) else none) (fun b => ?_) (.inl (.inr ⟨{ cls := .type "list", data := .seq vs.toArray }, if_pos rfl⟩)) (fun b u z => ?_) (fun b z => ?_) fun _ => hk
    · by_cases hb : b = a
      · exact .inr ⟨_, _, if_pos hb⟩
      · exact .inl (if_neg hb)
    · by_cases hb : b = a
      · have z' := (if_pos hb).symm.trans z
        cases z'
        subst hb
        exact ⟨ha, by rw [List.length_map]; exact hl, vs, _, rv, ha⟩
      · have z' := (if_neg hb).symm.trans z
        cases z'
    · by_cases hb : b = a
      · exact hb
      · exact absurd (if_neg hb) z
end L2
namespace L2
open PySem PySem.Spec PyProof.Rows
theorem walk_of {l : PySem.W.OpenLaw} {n k : Nat} {q : Program} {loose : List Str} {XP : (Str → Option Value) → Heap → Prop} {YP : World → Heap → Prop} {d : DefRec} {K : Params → PySem.W.Frag} {CX : World → CXT} {sp : World → Sp} {x : Str}
    (hn : l.most = some n) (hn2 : n ≤ sizeLine) (hdf : d.params.defaults = []) (hr : Room k callerA)
    (hY : ∀ (w : World) (h : Heap), YP w h → (K w.params).In h)
    (F : ∀ (w : World) (mg : Str → Option Value) (fa : Addr) (h : Heap), (K w.params).In h → h.Ns mainGlobals mg → mg d.name = some (.ref fa) →
      ∃ fd : FuncData, (∀ (s : Shared) (u : Value), BindsTo s fd ⟨[u], []⟩ [(x, u)]) ∧
        ∀ base : Heap, (K w.params).In base → base.Ns mainGlobals mg → FnOk l.prog w (K w.params) mg base (CX w) k fa fd [x] (sp w))
    (hsp : ∀ (w : World) (H : Hp) (a : Addr) (ns : List Int), ns.length ≤ n → Only H → SqL (K w.params) H a (ns.map V.int) → sp w [.ref a] H (fun v _ => v = .bl true) fun _ _ _ => False)
    (hCX : ∀ (w : World) (H : Hp) (s : Shared) (e : Value) (s' : Shared), CX w [] H s (fun _ _ _ => False) e s' → False) :
    PySem.W.WalkO q loose XP YP l.row.toRowW d [] (fun f vs => PySem.call f vs) := by
  refine Att.attach_call hn hdf fun w s₀ s₁ mg mb fa o pm cd doc a vs ns G Y ho hd hcd hmg hobj hints hlen hg => ?_
  have KX := hY w _ Y
  obtain ⟨fd, hb, hF⟩ := F w mg fa _ KX G.T.g hmg
  exact law_call KX G.T.g G.T.b G.T.builtins G.T.nolimit hg hobj hints (Nat.le_trans hlen hn2) hr hF hb (fun H hO hS => hsp w H a ns hlen hO hS) fun H e s' => hCX w H s₁ e s'
end L2
namespace L2
open PySem PySem.Spec PyProof.Rows
def inClass (s : Stmt) (j : Nat) : Stmt := match s with
  | .ClassDef _ _ _ body _ _ _ _ _ _ _ => body.getD j (.Pass ⟨0, 0, 0, 0⟩)
  | _ => .Pass ⟨0, 0, 0, 0⟩
def defArgs (s : Stmt) : Arguments := match s with
  | .FunctionDef _ a _ _ _ _ _ _ _ _ => a
  | _ => { posonlyargs := [], args := [], vararg := none, kwonlyargs := [], kw_defaults := [], kwarg := none, defaults := [] }
def defBody (s : Stmt) : List Stmt := match s with
  | .FunctionDef _ _ b _ _ _ _ _ _ _ => b
  | _ => []
def defScope (s : Stmt) : Scope := match s with
  | .FunctionDef _ _ _ _ _ _ sc _ _ _ => sc
  | _ => { kind := .function, names := [], isGenerator := false, isCoroutine := false }
abbrev CX0 : CXT := fun _ _ _ _ _ _ => False
abbrev E0 : XK := fun _ _ _ => False
theorem pass0 {X : Cx} : Passes CX0 X E0 := fun _ _ _ _ _ _ _ h => h.elim
structure Fun (K : PySem.W.Frag) (x qual : Str) (st : Stmt) (f : Addr) (fd : FuncData) : Prop where
  ex : ∃ (oc : Value) (od : Option Addr) (kV doc pm : Value) (an : Option Addr) (cdv ct : Value) (osl : Array (Option Value)),
    fd = PySem.W.fnOf x qual (defArgs st) (defBody st) (defScope st) .none kV doc pm an cdv ct ∧ K.lookup f = some ⟨oc, od, .func fd, osl⟩ ∧ PySem.W.codeIn K cdv qual = true
  kp : PySem.W.keepIn K (.ref f) = true
section
variable {P : Program} {w : World} {K : PySem.W.Frag} {mg : Str → Option Value} {base : Heap}
theorem Fun.ok {x qual : Str} {st : Stmt} {f : Addr} {fd : FuncData} {N ps : List Str} {k : Nat} {sp : Sp} (F : Fun K x qual st f fd) (S : FnScope N ps (defScope st)) (len : ∀ vs H Q E, sp vs H Q E → vs.length = ps.length)
    (hbody : ∀ (cdv : Value) (A : Around) (outer : List Env) (s : Shared) (H : Hp) (vs : List V) (Q : VK) (E : XK), Room k (A.deeper (envOfC qual (defScope st) s.heap.objs.size f cdv)) → sp vs H Q E →
      ∃ t, PSs (cxOf CX0 P w K mg base N qual (defScope st) f cdv A outer s H E).nox (defBody st) t ∧ t { nx := fun _ H' => Q .non H', rt := Q } (start N vs) H) : FnOk P w K mg base CX0 (k + 1) f fd ps sp := by
  obtain ⟨oc, od, kV, doc, pm, an, cdv, ct, osl, rfl, lk, hcd⟩ := F.ex
  refine fn_of lk hcd S len fun A outer s H vs Q E hr hsp => ?_
  obtain ⟨t, h, q⟩ := hbody cdv A outer s H vs Q E hr hsp
  exact ⟨t, h.nox, q⟩
theorem Fun.binds {x qual : Str} {st : Stmt} {f : Addr} {fd : FuncData} {ps : List Str} (F : Fun K x qual st f fd)
    (h : ∀ (kV doc pm : Value) (an : Option Addr) (cdv ct : Value) (us : List Value), us.length = ps.length → bindArgs (PySem.W.fnOf x qual (defArgs st) (defBody st) (defScope st) .none kV doc pm an cdv ct) ⟨us, []⟩ = pure (ps.zip us)) : Binds K fd ps [] := by
  obtain ⟨oc, od, kV, doc, pm, an, cdv, ct, osl, rfl, lk, hcd⟩ := F.ex
  exact .all (h kV doc pm an cdv ct)
theorem fun_mk {x qual : Str} {st : Stmt} {f : Addr} {oc : Value} {od an : Option Addr} {osl : Array (Option Value)} {kV doc pm cdv ct : Value} (l : K.lookup f = some ⟨oc, od, .func (PySem.W.fnOf x qual (defArgs st) (defBody st) (defScope st) .none kV doc pm an cdv ct), osl⟩)
    (c : PySem.W.codeIn K cdv qual = true) (k : PySem.W.keepIn K (.ref f) = true) : Fun K x qual st f (PySem.W.fnOf x qual (defArgs st) (defBody st) (defScope st) .none kV doc pm an cdv ct) := ⟨⟨oc, od, kV, doc, pm, an, cdv, ct, osl, rfl, l, c⟩, k⟩
end
theorem hu_of {A : Around} {k : Nat} (hr : Room k A) : A.units + 1 < cLine := Nat.lt_of_le_of_lt (Nat.add_le_add_left (by decide : 1 ≤ 64) _) hr.units
section
variable {X : Cx}
theorem pv (i : Nat) {x : Str} {pos : Pos} (hN : X.N[i]? = some x := by rfl) (hv : Vis X.env.scope x := by first | exact Or.inl rfl | exact Or.inr (Or.inl rfl) | exact Or.inr (Or.inr rfl)) (hd : (x == ("__debug__" : Str)) = false := by decide)
    (hcd : (x == ("__classdict__" : Str)) = false := by decide) : PE X (.Name x pos) (tVar i) := pe_var hN hv hd hcd
end
theorem ite2 {c A B : Prop} [Decidable c] (h1 : c → A) (h2 : ¬ c → B) : if c then A else B := by
  by_cases h : c
  · rw [if_pos h]
    exact h1 h
  · rw [if_neg h]
    exact h2 h
def Same (H H' : Hp) : Prop := ∀ b o, H b = some o → H' b = some o
theorem Same.refl (H : Hp) : Same H H := fun _ _ h => h
theorem Same.trans {H H1 H2 : Hp} (a : Same H H1) (b : Same H1 H2) : Same H H2 := fun c o h => b c o (a c o h)
theorem Same.free {H H' : Hp} (e : Same H H') {l : Addr} (h : H' l = Option.none) : H l = Option.none := by
  cases q : H l with
  | none => rfl
  | some o =>
    rw [e l o q] at h
    cases h
theorem Same.seq {K : PySem.W.Frag} {H H' : Hp} {a : Addr} {xs : List V} (e : Same H H') (h : SqL K H a xs) : SqL K H' a xs := by
  rcases h with (h | ⟨o, h⟩) | h
  · exact .inl (.inl (e _ _ h))
  · exact .inl (.inr ⟨o, e _ _ h⟩)
  · exact .inr h
section
variable {κ : Type} [DecidableEq κ]
end
theorem Same.made {H H1 : Hp} {x dx C : Addr} (nx : H x = Option.none) (nd : H dx = Option.none) (k : ∀ b o, (upd (upd H dx (.own x)) x (.ins C dx [])) b = some o → b ≠ x → H1 b = some o) : Same H H1 := fun b o e =>
  k b o (by rw [upd_ne (ne_of_none e nx), upd_ne (ne_of_none e nd)]; exact e) (ne_of_none e nx)
end L2
set_option Elab.async false
set_option linter.all false
set_option maxRecDepth 100000
namespace L2
open PySem PySem.Spec PyProof.Rows
section
variable {X : Cx} {e : Expr} {te : TE} {pos p2 p3 p4 : Pos} {kk : Nat}
theorem call_isi_str : CallR X (.builtin "isinstance") (fun xs H Q => ∃ x, xs = [.str x, .ty "str"] ∧ Q (.bl true) H) := by
  intro pins s σ H xs us Q I r h
  obtain ⟨x, rfl, q⟩ := h
  obtain ⟨u, w', rfl, ⟨t, rfl⟩, r2⟩ := vals2 r
  obtain rfl : w' = Value.type "str" := r2
  exact PySem.IsiPair.str_str ⟨.bl true, H, I, rfl, q⟩
end
end L2
set_option Elab.async false
set_option linter.all false
set_option maxRecDepth 100000
namespace L2
open PySem PySem.Spec PyProof.Rows
def Kp (f : Addr) (H H' : Hp) : Prop := ∀ b o, H b = some o → b ≠ f → H' b = some o
theorem Kp.refl (f : Addr) (H : Hp) : Kp f H H := fun _ _ h _ => h
theorem Kp.trans {f : Addr} {H H1 H2 : Hp} (a : Kp f H H1) (b : Kp f H1 H2) : Kp f H H2 := fun c o h n => b c o (a c o h n) n
theorem Kp.new {f : Addr} {H : Hp} {p : Addr} {o : HO} (h : H p = none) : Kp f H (upd H p o) := fun b u e _ => by
  rw [upd_ne (ne_of_none e h)]; exact e
theorem Kp.own {f : Addr} {H : Hp} {o : HO} : Kp f H (upd H f o) := fun b u e n => by rw [upd_ne n]; exact e
theorem Kp.of_same {f : Addr} {H H' : Hp} (h : Same H H') : Kp f H H' := fun b o e _ => h b o e
theorem Same.new {H : Hp} {p : Addr} {o : HO} (h : H p = none) : Same H (upd H p o) := fun b u e => by
  rw [upd_ne (ne_of_none e h)]; exact e
abbrev feedKV (c : Addr) (a l : Int) : List (Key × V) := [(.inr "cells", .ref c), (.inr "at", .int a), (.inr "left", .int l)]
def Feed (H : Hp) (f : Addr) (ns : List Int) (n : Nat) : Prop :=
  ∃ (c : Addr) (a l : Int), H f = some (.dK (feedKV c a l)) ∧ H c = some (.lst (ns.map V.int)) ∧ 0 ≤ a ∧ a ≤ n ∧ 0 ≤ l
theorem Feed.mono {H : Hp} {f : Addr} {ns : List Int} {n m : Nat} (h : Feed H f ns n) (hm : n ≤ m) : Feed H f ns m := by
  obtain ⟨c, a, l, h1, h2, h3, h4, h5⟩ := h
  exact ⟨c, a, l, h1, h2, h3, by omega, h5⟩
theorem Feed.same {H H' : Hp} {f : Addr} {ns : List Int} {n : Nat} (h : Feed H f ns n) (s : Same H H') : Feed H' f ns n := by
  obtain ⟨c, a, l, h1, h2, h3, h4, h5⟩ := h
  exact ⟨c, a, l, s _ _ h1, s _ _ h2, h3, h4, h5⟩
theorem Feed.some {H : Hp} {f : Addr} {ns : List Int} {n : Nat} (h : Feed H f ns n) : ∃ o, H f = some o := by
  obtain ⟨c, a, l, h1, _⟩ := h
  exact ⟨_, h1⟩
abbrev kC : Key := Sum.inr (Str.ofString "cells")
abbrev kA : Key := Sum.inr (Str.ofString "at")
abbrev kL : Key := Sum.inr (Str.ofString "left")
theorem kne2 : ¬ kC = kA := by decide +kernel
theorem kne3 : ¬ kC = kL := by decide +kernel
theorem kne4 : ¬ kA = kL := by decide +kernel
theorem kne5 : ¬ kL = kA := by decide +kernel
theorem feed_cells {H : Hp} {f c : Addr} {a l : Int} (h : H f = some (.dK (feedKV c a l))) : DGet H f (.str "cells") (some (.ref c)) := by
  have e : valV (feedKV c a l) (Sum.inr "cells" : Key) = some (.ref c) := valV_pos rfl
  rw [← e]; exact DGet.k (k := Sum.inr "cells") h
theorem feed_at {H : Hp} {f c : Addr} {a l : Int} (h : H f = some (.dK (feedKV c a l))) : DGet H f (.str "at") (some (.int a)) := by
  have e : valV (feedKV c a l) (Sum.inr "at" : Key) = some (.int a) := (valV_neg kne2).trans (valV_pos rfl)
  rw [← e]; exact DGet.k (k := Sum.inr "at") h
theorem feed_left {H : Hp} {f c : Addr} {a l : Int} (h : H f = some (.dK (feedKV c a l))) : DGet H f (.str "left") (some (.int l)) := by
  have e : valV (feedKV c a l) (Sum.inr "left" : Key) = some (.int l) := (valV_neg kne3).trans ((valV_neg kne4).trans (valV_pos rfl))
  rw [← e]; exact DGet.k (k := Sum.inr "left") h
theorem put_at (c : Addr) (a l b : Int) : putK (feedKV c a l) (Sum.inr "at" : Key) (.int b) = feedKV c b l := by
  have e : ((feedKV c a l).any fun kv => decide (kv.1 = kA)) = true := by rw [valV_any, (valV_neg kne2).trans (valV_pos rfl)]; rfl
  unfold putK
  rw [if_pos e]
  simp only [List.map_cons, List.map_nil, if_neg kne2, if_neg kne5, if_true]
theorem put_left (c : Addr) (a l b : Int) : putK (feedKV c a l) (Sum.inr "left" : Key) (.int b) = feedKV c a b := by
  have e : ((feedKV c a l).any fun kv => decide (kv.1 = kL)) = true := by rw [valV_any, (valV_neg kne3).trans ((valV_neg kne4).trans (valV_pos rfl))]; rfl
  unfold putK
  rw [if_pos e]
  simp only [List.map_cons, List.map_nil, if_neg kne3, if_neg kne4, if_true]
theorem feed_put_at {H : Hp} {f c : Addr} {a l : Int} (b : Int) (h : H f = some (.dK (feedKV c a l))) : DPut H f (.str "at") (.int b) (upd H f (.dK (feedKV c b l))) := by
  rw [← put_at c a l b]; exact DPut.k (k := Sum.inr "at") h (by show 3 < sizeLine; decide)
theorem feed_put_left {H : Hp} {f c : Addr} {a l : Int} (b : Int) (h : H f = some (.dK (feedKV c a l))) : DPut H f (.str "left") (.int b) (upd H f (.dK (feedKV c a b))) := by
  rw [← put_left c a l b]; exact DPut.k (k := Sum.inr "left") h (by show 3 < sizeLine; decide)
end L2
namespace L2
open PySem PySem.Spec PyProof.Rows
end L2
namespace L2
end L2
set_option Elab.async false
set_option linter.all false
set_option maxRecDepth 100000
namespace L2
open PySem PySem.Spec PyProof.Rows
structure XBase (B newId initId : String) (bm : List Value) : Prop where
  new : ∃ Bn inN bmN, ExcBaseFacts Bn newId inN bmN ∧ bm.contains (.type Bn) = true
  mroIs : mroOf (.type B) = pure bm
  hasBase : bm.contains (.type "BaseException") = true
  noAttr : bm.contains (.type "AttributeError") = false
  noName : bm.contains (.type "NameError") = false
  full : newId = B ++ ".__new__" → ExcBaseFacts B newId initId bm
theorem XBase.of {B newId initId : String} {bm : List Value} (F : ExcBaseFacts B newId initId bm) : XBase B newId initId bm := ⟨⟨B, initId, bm, F, F.hasB⟩, F.mroIs, F.hasBase, F.noAttr, F.noName, fun _ => F⟩
section
variable {prog : Program} {w : World} {A : Around} {R : Result → Shared → Prop} {h : Heap} {g : Array GenState} {d : Drawn} {t : Nat} {os : OsState}
variable {nm q : Str} {C N f : Addr} {bs bm : List Value} {hdct : Bool} {sn : List Str} {sub : List Value} {ab : Bool} {col : Option Bool} {dd : Option Addr} {k0 k1 k2 k3 k5 : Option Value} {B Bn newId initId inN : String} {bmN : List Value}
end
def Fly (h : Heap) (e C : Addr) (dx tb : Option Addr) : Prop := ∃ oe vs, h.get? e = some oe ∧ oe.cls = .ref C ∧ oe.dict = dx ∧ oe.data = .fields vs ∧ vs.size = 6 ∧
  match tb with
  | none => vs[1]? = some .none
  | some T => vs[1]? = some (.ref T) ∧ T ≠ e ∧ ∃ oT ts, h.get? T = some oT ∧ oT.data = .fields ts ∧ ts[3]? = some .none
structure Passed (fs : List Addr) (e : Addr) (tb : Option Addr) (h h' : Heap) : Prop where
  keep : ∀ b o, b ≠ e → some b ≠ tb → b ∉ fs → h.get? b = some o → h'.get? b = some o
  slot : ∀ b o, b ≠ e → some b ≠ tb → h.get? b = some o → ∃ sl, h'.get? b = some { o with slots := sl }
  there : ∀ b o, h.get? b = some o → ∃ o', h'.get? b = some o'
section
variable {M : Model} {A : Around} {E : Value → Shared → Prop} {s : Shared} {base : Heap} {env : Env} {outer : List Env} {L e C : Addr} {dx : Option Addr}
theorem Passed.trans {fs : List Addr} {tb : Option Addr} {T : Addr} {h h1 h2 : Heap} (a : Passed fs e tb h h1) (b : Passed fs e none h1 h2) : Passed fs e tb h h2 :=
  ⟨fun c o n1 n2 n3 q => b.keep c o n1 (fun z => nomatch z) n3 (a.keep c o n1 n2 n3 q), fun c o n1 n2 q => by
    obtain ⟨sl, q1⟩ := a.slot c o n1 n2 q
    obtain ⟨sl', q2⟩ := b.slot c _ n1 (fun z => nomatch z) q1
    exact ⟨sl', q2⟩, fun c o q => by
    obtain ⟨o1, q1⟩ := a.there c o q
    exact b.there c o1 q1⟩
end
end L2
set_option Elab.async false
set_option linter.all false
set_option maxRecDepth 100000
namespace L2
open PySem PySem.Spec PyProof.Rows
def XN (e C : Addr) (d : Option Addr) : HO := .ext fun h => Fly h e C d none
def XL (e C : Addr) (d : Option Addr) : HO := .ext fun h => ∃ oe vs, h.get? e = some oe ∧ oe.cls = .ref C ∧ oe.dict = d ∧ oe.data = .fields vs
theorem fly_at {h h' : Heap} {e C : Addr} {d : Option Addr} (y : Fly h e C d none) (k : ∀ o, h.get? e = some o → h'.get? e = some o) : Fly h' e C d none := by
  obtain ⟨oe, vs, he, r⟩ := y
  exact ⟨oe, vs, k _ he, r⟩
theorem XN.ok {P : Program} {w : World} {H : Hp} {h : Heap} {e C : Addr} {d : Option Addr} (y : Fly h e C d none) : ObjOk P w H h e (XN e C d) :=
  ⟨y, by obtain ⟨oe, _, he, _⟩ := y; exact ⟨oe, he⟩, fun h1 h2 y1 k => fly_at y1 k⟩
theorem XL.ok {P : Program} {w : World} {H : Hp} {h : Heap} {e C : Addr} {d tb : Option Addr} (y : Fly h e C d tb) : ObjOk P w H h e (XL e C d) := by
  obtain ⟨oe, vs, he, hc, hd, hdt, _⟩ := y
  exact ⟨⟨oe, vs, he, hc, hd, hdt⟩, ⟨oe, he⟩, fun h1 h2 y1 k => by
    obtain ⟨o1, v1, q1, r⟩ := y1
    exact ⟨o1, v1, k _ q1, r⟩⟩
structure XC (K : PySem.W.Frag) (C N : Addr) (B newId initId : String) (bm : List Value) : Prop where
  base : XBase B newId initId bm
  cls : ∃ nm q bs sn sub ab col dd k0 k1 k2 k3 k5, K.lookup C = some (excClassObj nm q C N bs bm true sn sub ab col dd k0 k1 k2 k3 k5 newId) ∧ PySem.W.nsOkIn K N = true ∧
    PySem.W.nsIn K N "__setattr__" = some none ∧ PySem.W.nsIn K N "__getattribute__" = some none ∧ PySem.W.nsIn K N "__getattr__" = some none ∧ PySem.W.nsIn K N "__class__" = some none
  kp : PySem.W.keepIn K (.ref C) = true
structure XCls (K : PySem.W.Frag) (C N : Addr) (B newId initId : String) (bm : List Value) (f : Addr) : Prop where
  base : XBase B newId initId bm
  store : StoreFacts B bm "object.__setattr__" "object"
  cls : ∃ nm q bs sn sub ab col dd k0 k1 k2 k3 k5, K.lookup C = some (excClassObj nm q C N bs bm true sn sub ab col dd k0 k1 k2 k3 k5 newId) ∧ PySem.W.nsOkIn K N = true ∧
    PySem.W.nsIn K N "__setattr__" = some none ∧ PySem.W.nsIn K N "__getattribute__" = some none ∧ PySem.W.nsIn K N "__getattr__" = some none ∧ PySem.W.nsIn K N "__class__" = some none
  init : PySem.W.findIn K (.ref C) "__init__" = some (some (.ref f))
  fn : PySem.W.isFn K (.ref f) = true
  kp : PySem.W.keepIn K (.ref C) = true
structure XNo (K : PySem.W.Frag) (N : Addr) (B : String) (a : Str) : Prop where
  own : PySem.W.nsIn K N a = some none
  up : typeLookup (.type B) a = pure none
section
variable {prog : Program} {w : World} {A : Around} {E : Value → Shared → Prop} {hh : Heap} {g : Array GenState} {dr : Drawn} {t : Nat} {os : OsState}
variable {nm q : Str} {C N e : Addr} {bs bm : List Value} {sn : List Str} {sub : List Value} {ab : Bool} {col : Option Bool} {dd : Option Addr} {k0 k1 k2 k3 k5 : Option Value} {B newId sa owner : String} {mN : Str → Option Value} {a : Str} {u : Value} {oe : Obj} {vs : Array Value}
open Builtin Builtin.ObjectAttr in
end
section
variable {X : Cx} {pins : List (Addr × Obj)} {σ : St} {H : Hp} {s : Shared} {e C N f : Addr} {B newId initId : String} {bm : List Value} {a : Str} {A : Around} {E : Value → Shared → Prop}
end
end L2
set_option Elab.async false
set_option linter.all false
set_option maxRecDepth 100000
namespace L2
open PySem PySem.Spec PyProof.Rows
section
variable {X : Cx} {pins : List (Addr × Obj)} {σ : St} {H : Hp} {s : Shared} {e d C f : Addr} {B newId initId : String} {bm : List Value} {a : Str} {A : Around} {E : Value → Shared → Prop}
variable {prog : Program} {w : World} {hh : Heap} {g : Array GenState} {dr : Drawn} {t : Nat} {os : OsState}
variable {nm q : Str} {N : Addr} {bs : List Value} {sn : List Str} {sub : List Value} {ab : Bool} {col : Option Bool} {dd : Option Addr} {k0 k1 k2 k3 k5 : Option Value} {mN mA : Str → Option Value} {oe : Obj} {vs : Array Value} {u : Value}
end
end L2
set_option Elab.async false
set_option linter.all false
set_option maxRecDepth 100000
namespace L2
open PySem PySem.Spec PyProof.Rows
section
variable {X : Cx} {f C N : Addr} {fd : FuncData} {ps : List Str} {sp : Sp} {B newId initId : String} {bm : List Value} {k : Nat} {a : Str} {o value : Expr} {ta tv : TE} {pos pos' np cpos : Pos} {x : Str} {e₀ : Expr} {es : List Expr} {t : TA}
end
section
variable {X : Cx} {f C N : Addr} {fd : FuncData} {ps : List Str} {sp : Sp} {B newId initId : String} {bm : List Value} {k : Nat} {a : Str} {o value : Expr} {ta tv : TE} {pos pos' np cpos : Pos} {x : Str} {e₀ : Expr} {es : List Expr} {t : TA}
structure XGet (B : String) (bm : List Value) : Prop where
  ga : Slot B "__getattribute__" "BaseException.__getattribute__"
  ngh : typeLookup (.type B) "__getattr__" = pure none
end
end L2
set_option Elab.async false
set_option linter.all false
set_option maxRecDepth 100000
namespace L2
open PySem PySem.Spec PyProof.Rows
def CX1 (P : Program) (w : World) : CXT := fun outer H s E e s' => ∃ (ea C T : Addr) (d : Option Addr) (H' : Hp), e = .ref ea ∧ s'.os = s.os ∧ AllBare s'.gens ∧ Un (frs outer) [] H H' s.heap s'.heap ∧ HOk P w H' s'.heap ∧
  s.heap.get? ea = none ∧ s.heap.get? T = none ∧ H' ea = none ∧ H' T = none ∧ Fly s'.heap ea C d (some T) ∧ E (.ref C) d H'
section
variable {X : Cx} {pins : List (Addr × Obj)} {σ : St} {H : Hp} {s : Shared} {e C : Addr} {d : Option Addr}
end
end L2
set_option Elab.async false
set_option linter.all false
set_option maxRecDepth 100000
namespace L2
open PySem PySem.Spec PyProof.Rows
section
variable {X : Cx} {pins : List (Addr × Obj)} {σ : St} {H H0 : Hp} {s : Shared} {e C d : Addr}
end
section
variable {P : Program} {w : World} {K : PySem.W.Frag} {mg : Str → Option Value} {base : Heap}
end
section
variable {X : Cx} {f C N : Addr} {fd : FuncData} {ps : List Str} {sp : Sp} {B newId initId : String} {bm : List Value} {k : Nat} {x : Str} {e₀ : Expr} {es : List Expr} {t : TA} {pos np cpos : Pos} {W : XK}
end
def XP (X : Cx) (pins : List (Addr × Obj)) (σ : St) (E : XK) (ev : Value) (s' : Shared) : Prop := ∃ H1 s1, Inv X pins σ H1 s1 ∧ CX1 X.prog X.w X.stack H1 s1 E ev s'
abbrev TX := St → Hp → VK → XK → Prop
structure PEx (X : Cx) (e : Expr) (t : TX) : Prop where
  run : ∀ (pins : List (Addr × Obj)) (s : Shared) (σ : St) (H : Hp) (Q : VK) (E : XK), Inv X pins σ H s → t σ H Q E → wpAny (model X.prog X.w) X.A (eval e X.env) (EP X pins σ Q) (XP X pins σ E) s
instance {X : Cx} {e : Expr} {t : TX} : CoeFun (PEx X e t) (fun _ => ∀ (pins : List (Addr × Obj)) (s : Shared) (σ : St) (H : Hp) (Q : VK) (E : XK), Inv X pins σ H s → t σ H Q E → wpAny (model X.prog X.w) X.A (eval e X.env) (EP X pins σ Q) (XP X pins σ E) s) := ⟨PEx.run⟩
section
variable {X : Cx} {f C : Addr} {fd : FuncData} {ps ks : List Str} {sp : Sp} {k : Nat} {x : Str} {e₀ : Expr} {es : List Expr} {kws : List Keyword} {t tk : TA} {pos p np cpos : Pos} {dvs : List V} {ds : List Value} {g : List Value → List Value → List Value} {gV : List V → List V → List V}
end
end L2
set_option Elab.async false
set_option linter.all false
set_option maxRecDepth 100000
namespace L2
open PySem PySem.Spec PyProof.Rows
section
variable {X : Cx} {pins : List (Addr × Obj)} {σ : St} {H : Hp} {s : Shared} {ea : Addr}
end
end L2
set_option Elab.async false
set_option linter.all false
set_option maxRecDepth 100000
namespace L2
open PySem PySem.Spec PyProof.Rows
section
variable {X : Cx} {pins : List (Addr × Obj)} {σ : St} {H : Hp} {s : Shared} {ea C N f : Addr} {B newId initId : String} {bm : List Value} {x n : Str} {np hpos pos : Pos} {b₀ : Stmt} {suite : List Stmt} {ts : TS} {i : Nat} {D : Ends}
end
end L2
set_option Elab.async false
set_option linter.all false
set_option maxRecDepth 100000
namespace L2
open PySem PySem.Spec PyProof.Rows
section
variable {X : Cx} {A : Around} {E : Value → Shared → Prop} {prog : Program} {w : World} {hh : Heap} {g : Array GenState} {dr : Drawn} {t : Nat} {os : OsState}
variable {nm q : Str} {C N e f : Addr} {bs bm : List Value} {sn : List Str} {sub : List Value} {ab : Bool} {col : Option Bool} {dd : Option Addr} {k0 k1 k2 k3 k5 : Option Value} {B newId initId : String} {mN : Str → Option Value} {oe : Obj} {vs : Array Value}
end
end L2
set_option Elab.async false
set_option linter.all false
set_option maxRecDepth 100000
namespace L2
open PySem PySem.Spec PyProof.Rows
structure XIs (B : String) (bm : List Value) : Prop extends XGet B bm where
  lc : typeLookup (.type B) "__class__" = pure (some (.builtin "object.__class__"))
  ho : bm.contains (.type "object") = true
section
variable {K : PySem.W.Frag} {C N e f : Addr} {B newId initId : String} {bm : List Value}
end
section
variable {X : Cx} {C N f : Addr} {B newId initId : String} {bm : List Value}
def clsV : V → Option Value
  | .ref a => some (.ref a)
  | .ty n => some (.type n)
  | _ => none
theorem clsV_rel {v : V} {u c : Value} (h : clsV v = some c) (r : RelV v u) : u = c := by
  cases v <;> first | (cases h; exact r) | cases h
end
end L2
set_option Elab.async false
set_option linter.all false
set_option maxRecDepth 100000
namespace L2
open PySem PySem.Spec PyProof.Rows
def Fit (i : Int) : Prop := i.natAbs < 2 ^ 1000
theorem Fit.bits {i : Int} (h : Fit i) : Builtin.Int.intBits i ≤ 2 ^ 20 := Nat.le_trans (PyProof.Rows.intBits_le (k := 1000) h) (by decide)
section
variable {X : Cx}
theorem call_repr_d {k : Nat} (hr : Room k X.A) : CallR X (.builtin "repr") (fun xs H Q => ∃ a d, xs = [.ref a] ∧ Dp X.K H (.ref a) d ∧ SeqAt.shaped d = true ∧ d.showable = true ∧ d.shown.length ≤ sizeLine ∧ Q (.str d.shown) H) := by
  intro pins s σ H xs us Q I r h
  obtain ⟨a, d, rfl, hd, hs, hw, hz, q⟩ := h
  obtain ⟨u, rfl, ru⟩ := vals1 r
  obtain rfl : u = Value.ref a := ru
  obtain ⟨as, rd⟩ := Dp.reads I d (.ref a) (.ref a) hd rfl
  have nd : d.hasDict = false := PyData.hasDict_of_canLay d (SeqAt.canLay_of_shaped hs)
  have dp := SeqAt.depth_of_shaped hs
  have un := hr.un
  refine repr_of_reads' rd hw (PyData.noDict_hsm nd) hr.gd (by omega) (fun _ _ z => z) (fun h' u tk hk => ?_) hz
  exact ⟨.str d.shown, H, I.kept (t' := tk) hk, ⟨u, rfl⟩, q⟩
end
end L2
namespace L2
open PySem PySem.Spec PyProof.Rows
structure FunD (K : PySem.W.Frag) (x qual : Str) (st : Stmt) (f : Addr) (fd : FuncData) : Prop where
  ex : ∃ (oc : Value) (od : Option Addr) (dV kV doc pm : Value) (an : Option Addr) (cdv ct : Value) (osl : Array (Option Value)),
    fd = PySem.W.fnOf x qual (defArgs st) (defBody st) (defScope st) dV kV doc pm an cdv ct ∧ K.lookup f = some ⟨oc, od, .func fd, osl⟩ ∧ PySem.W.codeIn K cdv qual = true
section
variable {P : Program} {w : World} {K : PySem.W.Frag} {mg : Str → Option Value} {base : Heap}
theorem FunD.ok {x qual : Str} {st : Stmt} {f : Addr} {fd : FuncData} {N ps : List Str} {k : Nat} {sp : Sp} (F : FunD K x qual st f fd) (S : FnScope N ps (defScope st)) (len : ∀ vs H Q E, sp vs H Q E → vs.length = ps.length)
    (hbody : ∀ (cdv : Value) (A : Around) (outer : List Env) (s : Shared) (H : Hp) (vs : List V) (Q : VK) (E : XK), Room k (A.deeper (envOfC qual (defScope st) s.heap.objs.size f cdv)) → sp vs H Q E →
      ∃ t, PSs (cxOf CX0 P w K mg base N qual (defScope st) f cdv A outer s H E).nox (defBody st) t ∧ t { nx := fun _ H' => Q .non H', rt := Q } (start N vs) H) : FnOk P w K mg base CX0 (k + 1) f fd ps sp := by
  obtain ⟨oc, od, dV, kV, doc, pm, an, cdv, ct, osl, rfl, lk, hcd⟩ := F.ex
  refine fn_of lk hcd S len fun A outer s H vs Q E hr hsp => ?_
  obtain ⟨t, h, q⟩ := hbody cdv A outer s H vs Q E hr hsp
  exact ⟨t, h.nox, q⟩
end
end L2
set_option Elab.async false
set_option linter.all false
set_option maxRecDepth 100000
namespace L2
open PySem PySem.Spec PyProof.Rows
section
variable {X : Cx} {CX : CXT} {k : Nat} {f C : Addr} {fd : FuncData} {ps ks : List Str} {sp : Sp} {E : XK} {x m : Str} {p pos apos kpos : Pos} {e o : Expr} {es : List Expr} {kws : List Keyword} {te ta : TE} {t tk : TA} {nm : Option Str}
variable {g : List Value → List Value → List Value} {gV : List V → List V → List V}
def tMakeK (C : Addr) (sp : Sp) (gV : List V → List V → List V) (E : XK) (t tk : TA) : TE := fun σ H Q => t σ H fun vs H1 => tk σ H1 fun zs H2 => ∀ x dx, H2 x = none → H2 dx = none → dx ≠ x →
  sp (gV (.ref x :: vs) zs) (upd (upd H2 dx (.own x)) x (.ins C dx [])) (fun v H3 => v = .non ∧ Q (.ref x) H3) E
theorem run_makeK {pins : List (Addr × Obj)} {σ : St} {H : Hp} {s : Shared} {Q : VK} {us ws : List Value} {vs zs : List V} (M : Mk X.K C f) (F : FnOk X.prog X.w X.K X.mg X.base CX k f fd ps sp) (hr : Room (k + 1) X.A) (hb : KBinds X.K fd ps ks g gV) (hx : Passes CX X E)
    (I : Inv X pins σ H s) (r : Vals vs us) (rz : Vals zs ws)
    (h : ∀ x dx, H x = none → H dx = none → dx ≠ x → sp (gV (.ref x :: vs) zs) (upd (upd H dx (.own x)) x (.ins C dx [])) (fun v H2 => v = .non ∧ Q (.ref x) H2) E) :
    wpAny (model X.prog X.w) X.A (call (.ref C) us (ks.zip ws)) (EP X pins σ Q) X.xe s := by
  have q0 := h (s.heap.objs.size + 1) s.heap.objs.size (I.hok.fresh (Nat.le_succ _)) (I.hok.fresh (Nat.le_refl _)) (Nat.ne_of_lt (Nat.lt_succ_self _))
  have J := Inv.made (C := C) I
  have rr : Vals (gV (V.ref (s.heap.objs.size + 1) :: vs) zs) (g (Value.ref (s.heap.objs.size + 1) :: us) ws) := hb.rel (.cons rfl r) rz
  have hl : (g (Value.ref (s.heap.objs.size + 1) :: us) ws).length = ps.length := by rw [← rr.length]; exact F.len _ _ _ _ q0
  have go := F.run (X.A.under (.builtin "type.__call__" ⟨.ref C :: us, ks.zip ws⟩)) X.stack _ _ ⟨Value.ref (s.heap.objs.size + 1) :: us, ks.zip ws⟩ _ _ _ E (hr.make C us (ks.zip ws)) (J.env0.make C us (ks.zip ws)) (hb.to _ (Value.ref (s.heap.objs.size + 1) :: us) ws J.kIn hl) rr q0
  refine wpAny_call (make_map (f := f) I.kIn M.makes M.init (beq_iff_eq.mp M.fn) (codeAny_mono go fun r s' z => ?_))
  cases r with
  | error e => exact hx pins σ _ _ e s' J z
  | ok fl =>
    cases fl with
    | ret u =>
      obtain ⟨v, H', J3, rv, ev, q3⟩ := J.after z
      subst ev
      exact ⟨rv, ⟨V.ref (s.heap.objs.size + 1), H', J3, rfl, q3⟩⟩
    | next => exact False.elim z
    | brk => exact False.elim z
    | cont => exact False.elim z
end
end L2
set_option Elab.async false
set_option linter.all false
set_option maxRecDepth 100000
namespace L2
open PySem PySem.Spec PyProof.Rows
structure OwnEq (K : PySem.W.Frag) (C N f : Addr) : Prop where
  cls : ∃ nm q bs hd sn sub ab col dd k0 k1 k2 k3 k5 newId, K.lookup C = some (excClassObj nm q C N bs [.type "object"] hd sn sub ab col dd k0 k1 k2 k3 k5 newId)
  ok : PySem.W.nsOkIn K N = true
  eq : PySem.W.nsIn K N "__eq__" = some (some (.ref f))
  ne : PySem.W.nsIn K N "__ne__" = some none
  fn : PySem.W.isFn K (.ref f) = true
section
variable {K : PySem.W.Frag} {C N f x : Addr}
theorem ns_val {h : Heap} {m : Str → Option Value} {n : Str} {v : Value} (X : K.In h) (G : h.Ns N m) (e : PySem.W.nsIn K N n = some (some v)) : m n = some v := by
  obtain ⟨ob, en, ix, g1, g2, _, g3⟩ := G
  unfold PySem.W.nsIn at e
  split at e
  · rename_i c1 c2 c3 c4 c5 lk
    have z := X _ _ lk
    rw [g1] at z
    cases z
    cases g2
    split at e
    · rename_i e1 e2
      cases e
      rw [← g3]
      unfold nsFind findBy
      rw [← Array.find?_toList, e2]
      rfl
    · split at e <;> cases e
  · cases e
theorem OwnEq.at_ {h : Heap} {o : Obj} (c : OwnEq K C N f) (X : K.In h) (hx : h.get? x = some o) (hc : o.cls = .ref C) : h.OwnEqNoNe x C f "object" [.type "object"] := by
  obtain ⟨nm, q, bs, hd, sn, sub, ab, col, dd, k0, k1, k2, k3, k5, newId, lk⟩ := c.cls
  have hn : h.Ns N (h.nsMap N) := .of_isNs (PySem.W.isNs_of_in X c.ok)
  have e1 : PySem.W.typeIn K (.ref f) = some (.type "function") := beq_iff_eq.mp c.fn
  obtain ⟨of, l1, l2⟩ := Option.map_eq_some_iff.mp (show (K.lookup f).map (·.cls) = some (.type "function") from e1)
  refine ⟨o, of, nm, q, N, bs, hd, sn, sub, ab, col, dd, k0, k1, k2, k3, k5, newId, h.nsMap N, some (.builtin "object.__eq__"), hx, hc, X _ _ lk, hn, ns_val X hn c.eq, X _ _ l1, l2, PySem.F.cmp_object.mro, PySem.F.cmp_object.eq.lookup, PySem.W.nsMap_none_of_in X c.ok c.ne⟩
end
section
variable {X : Cx} {k : Nat} {f C N : Addr} {fd : FuncData} {ps : List Str} {sp : Sp}
def rEqOwn (C : Addr) (sp : Sp) : R2 := fun x y H Q => ∃ p q dx dy fs gs, x = .ref p ∧ y = .ref q ∧ H p = some (.ins C dx fs) ∧ H q = some (.ins C dy gs) ∧ sp [.ref p, .ref q] H (fun v H2 => ∃ b, v = .bl b ∧ Q (.bl b) H2) E0
theorem ins_obj {pins : List (Addr × Obj)} {σ : St} {H : Hp} {s : Shared} {p dx : Addr} {fs : List (Str × V)} (I : Inv X pins σ H s) (h : H p = some (.ins C dx fs)) : ∃ o, s.heap.get? p = some o ∧ o.cls = .ref C := by
  obtain ⟨mA, O, _⟩ := ins_get I.hok h
  exact ⟨_, O.obj, rfl⟩
theorem op_eqOwn (c : OwnEq X.K C N f) (F : FnOk X.prog X.w X.K X.mg X.base CX0 k f fd ps sp) (hr : Room k X.A) (hb : Binds X.K fd ps []) : OpR X (compareOp .Eq) (rEqOwn C sp) := by
  intro pins s σ H x y v u Q I rx ry h
  obtain ⟨p, q, dx, dy, fs, gs, rfl, rfl, hp, hq, w⟩ := h
  obtain rfl : v = Value.ref p := rx
  obtain rfl : u = Value.ref q := ry
  obtain ⟨op, p1, p2⟩ := ins_obj I hp
  obtain ⟨oq, q1, q2⟩ := ins_obj I hq
  have go := run_fn (us := [.ref p, .ref q]) (vs := [.ref p, .ref q]) (dvs := []) (E := E0) F hr hb .nil pass0 I (.cons rfl (.cons rfl .nil)) w
  have hu := hu_of hr
  obtain ⟨hh, g, dr, t, os⟩ := s
  refine compareOp_own_same (op := .Eq) cmpInfo_Eq ⟨by decide, by decide, by decide, by decide⟩ (c.at_ I.kIn p1 p2).ownEq q1 q2 (Nat.lt_of_succ_lt hu) (thn go fun v s' z => ?_)
  obtain ⟨x, H2, I2, r, b, e, q3⟩ := z
  subst e
  exact ⟨b, r, ⟨.bl b, H2, I2, rfl, q3⟩⟩
def rNeOwn (C : Addr) (sp : Sp) : R2 := fun x y H Q => ∃ p q dx dy fs gs, x = .ref p ∧ y = .ref q ∧ H p = some (.ins C dx fs) ∧ H q = some (.ins C dy gs) ∧ sp [.ref p, .ref q] H (fun v H2 => ∃ b, v = .bl b ∧ Q (.bl (!b)) H2) E0
theorem op_neOwn (c : OwnEq X.K C N f) (F : FnOk X.prog X.w X.K X.mg X.base CX0 k f fd ps sp) (hr : Room (k + 1) X.A) (hb : Binds X.K fd ps []) : OpR X (compareOp .NotEq) (rNeOwn C sp) := by
  intro pins s σ H x y v u Q I rx ry h
  obtain ⟨p, q, dx, dy, fs, gs, rfl, rfl, hp, hq, w⟩ := h
  obtain rfl : v = Value.ref p := rx
  obtain rfl : u = Value.ref q := ry
  obtain ⟨op, p1, p2⟩ := ins_obj I hp
  obtain ⟨oq, q1, q2⟩ := ins_obj I hq
  have r2 : Vals [V.ref p, V.ref q] [Value.ref p, Value.ref q] := .cons rfl (.cons rfl .nil)
  have hl : ([Value.ref p, Value.ref q] ++ []).length = ps.length := by
    rw [List.append_nil, ← r2.length]; exact F.len _ _ _ _ w
  have bnd := hb s [.ref p, .ref q] I.kIn hl
  rw [List.append_nil] at bnd
  have go := F.run X.A.in1 X.stack s H ⟨[.ref p, .ref q], []⟩ [.ref p, .ref q] [.ref p, .ref q] _ E0 hr.in1 I.env0.in1 bnd r2 w
  have hu := hu_of hr
  have fin : ∀ r s', CR CX0 X.stack X.prog X.w H s (fun v H2 => ∃ b, v = .bl b ∧ Q (.bl (!b)) H2) E0 r s' → (match r with | .ok (.ret v) => ∃ b, v = .bool b ∧ EP X pins σ Q (.bool (!b)) s' | .ok _ => False | .error e => X.xe e s') := fun r s' z => by
    cases r with
    | error e => exact z.elim
    | ok fl =>
      cases fl with
      | ret u =>
        obtain ⟨x, H2, I2, r, b, e, q3⟩ := I.after z
        subst e
        exact ⟨b, r, ⟨.bl (!b), H2, I2, rfl, q3⟩⟩
      | next => exact False.elim z
      | brk => exact False.elim z
      | cont => exact False.elim z
  obtain ⟨hh, g, dr, t, os⟩ := s
  exact compareOp_ne_ownEq PySem.F.cmp_object (c.at_ I.kIn p1 p2) q1 q2 hu (wpAny_call (codeAny_mono go fin))
end
end L2
set_option Elab.async false
set_option linter.all false
set_option maxRecDepth 100000
namespace L2
open PySem PySem.Spec PyProof.Rows
section
variable {X : Cx}
theorem isi_any : CallR X (.builtin "isinstance") (fun xs H Q => ∃ x v t cv b, xs = [x, v] ∧ TyOf X.K H x t ∧ clsV v = some cv ∧ PySem.W.kitOne X.K t cv = some b ∧ Q (.bl b) H) := by
  intro pins s σ H xs us Q I r h
  obtain ⟨x, v, t, cv, b, rfl, ht, hv, hk, q⟩ := h
  obtain ⟨u1, u2, rfl, r1, r2⟩ := vals2 r
  obtain rfl := clsV_rel hv r2
  exact isinst_ok I r1 ht hk fun tk => ⟨.bl b, H, I.tok tk, rfl, q⟩
end
end L2
set_option Elab.async false
set_option linter.all false
namespace L2
open PySem PySem.Spec PyProof.Rows
section
variable {X : Cx}
end
end L2
set_option Elab.async false
set_option linter.all false
set_option maxRecDepth 100000
namespace L2
open PySem PySem.Spec PyProof.Rows
structure Fd where
  c : Addr
  ns : List Int
def FeedC (H : Hp) (f : Addr) (d : Fd) (n : Nat) : Prop :=
  ∃ (a l : Int), H f = some (.dK (feedKV d.c a l)) ∧ H d.c = some (.lst (d.ns.map V.int)) ∧ 0 ≤ a ∧ a ≤ n ∧ 0 ≤ l
theorem FeedC.mono {H : Hp} {f : Addr} {d : Fd} {n m : Nat} (h : FeedC H f d n) (hm : n ≤ m) : FeedC H f d m := by
  obtain ⟨a, l, h1, h2, h3, h4, h5⟩ := h
  exact ⟨a, l, h1, h2, h3, by omega, h5⟩
theorem FeedC.same {H H' : Hp} {f : Addr} {d : Fd} {n : Nat} (h : FeedC H f d n) (s : Same H H') : FeedC H' f d n := by
  obtain ⟨a, l, h1, h2, h3, h4, h5⟩ := h
  exact ⟨a, l, s _ _ h1, s _ _ h2, h3, h4, h5⟩
theorem FeedC.at_f {H : Hp} {f : Addr} {d : Fd} {n : Nat} (h : FeedC H f d n) : ∃ kv, H f = some (.dK kv) := by
  obtain ⟨a, l, h1, _⟩ := h
  exact ⟨_, h1⟩
theorem FeedC.at_c {H : Hp} {f : Addr} {d : Fd} {n : Nat} (h : FeedC H f d n) : H d.c = some (.lst (d.ns.map V.int)) := by
  obtain ⟨a, l, h1, h2, _⟩ := h
  exact h2
theorem FeedC.ne_f {H : Hp} {f p : Addr} {d : Fd} {n : Nat} (h : FeedC H f d n) (e : H p = none) : p ≠ f := by
  obtain ⟨kv, h1⟩ := h.at_f
  exact (ne_of_none h1 e).symm
theorem FeedC.ne_c {H : Hp} {f p : Addr} {d : Fd} {n : Nat} (h : FeedC H f d n) (e : H p = none) : p ≠ d.c := (ne_of_none h.at_c e).symm
theorem FeedC.off {H : Hp} {f p : Addr} {d : Fd} {n : Nat} {o : HO} (h : FeedC H f d n) (h1 : p ≠ f) (h2 : p ≠ d.c) : FeedC (upd H p o) f d n := by
  obtain ⟨a, l, z1, z2, h3, h4, h5⟩ := h
  exact ⟨a, l, by rw [upd_ne h1.symm]; exact z1, by rw [upd_ne h2.symm]; exact z2, h3, h4, h5⟩
theorem FeedC.new {H : Hp} {f p : Addr} {d : Fd} {n : Nat} {o : HO} (h : FeedC H f d n) (e : H p = none) : FeedC (upd H p o) f d n := h.same (Same.new e)
theorem Kp.put {f p : Addr} {H H' : Hp} {o : HO} (k : Kp f H H') (hp : H p = none) : Kp f H (upd H' p o) := fun b u e n => by
  rw [upd_ne (ne_of_none e hp)]; exact k b u e n
theorem Kp.keeps {f p : Addr} {H H' : Hp} {o : HO} {kv : List (Key × V)} (k : Kp f H H') (hf : H f = some (.dK kv)) (hp : H p = some o) (ho : ∀ kv', o ≠ .dK kv') : H' p = some o :=
  k p o hp fun z => by rw [z, hf] at hp; exact ho kv (Option.some.inj hp).symm
def spFeedC (K : PySem.W.Frag) : Sp := fun vs H Q _ => ∃ (a : Addr) (ns : List Int), vs = [.ref a] ∧ SqL K H a (ns.map V.int) ∧ ∀ f c H', H f = none → H c = none → FeedC H' f ⟨c, ns.take 63⟩ 0 → Same H H' → Q (.ref f) H'
def spDrawC : Sp := fun vs H Q _ => ∃ (f : Addr) (m : Int) (d : Fd) (n : Nat), vs = [.ref f, .int m] ∧ 0 < m ∧ m < 1073741824 ∧ FeedC H f d n ∧ n < 1000000 ∧
  ∀ (r : Int) (H' : Hp), 0 ≤ r → r < m → FeedC H' f d (n + 1) → Kp f H H' → Q (.int r) H'
end L2
set_option Elab.async false
set_option linter.all false
set_option maxRecDepth 100000
namespace L2
open PySem PySem.Spec PyProof.Rows
section
variable {M : Model} {A : Around} {E : Value → Shared → Prop} {s : Shared} {base : Heap} {env : Env} {outer : List Env} {L e C T : Addr} {dx : Option Addr}
end
section
variable {P : Program} {w : World} {base : Heap} {env : Env} {outer : List Env} {L : Addr} {s0 : Shared} {H0 : Hp} {E : XK} {A : Around} {ea C T : Addr} {d : Option Addr}
end
end L2
set_option Elab.async false
set_option linter.all false
set_option maxRecDepth 100000
namespace L2
open PySem PySem.Spec PyProof.Rows
section
variable {P : Program} {w : World} {K : PySem.W.Frag} {mg : Str → Option Value} {base : Heap}
end
section
variable {X : Cx}
end
end L2
set_option Elab.async false
set_option linter.all false
set_option maxRecDepth 100000
namespace L2
open PySem PySem.Spec PyProof.Rows
section
variable {X : Cx} {e : Expr} {te : TE} {pos p2 p3 p4 : Pos} {kk : Nat}
end
end L2
set_option Elab.async false
set_option linter.all false
set_option maxRecDepth 100000
namespace L2
open PySem PySem.Spec PyProof.Rows PySem.Builtin PySem.Builtin.Str PySem.StrLaws
end L2
set_option Elab.async false
set_option linter.all false
set_option maxRecDepth 100000
namespace L2
open PySem PySem.Spec PyProof.Rows
section
variable {X : Cx} {es : List Expr} {te : TE} {t : TA}
theorem pa_con {c k p} (ha : PE X (.Constant c k p) te) (hr : PA X es t) : PA X (.Constant c k p :: es) (tCons te t) := pa_cons ha hr rfl
theorem pa_nam {x p} (ha : PE X (.Name x p) te) (hr : PA X es t) : PA X (.Name x p :: es) (tCons te t) := pa_cons ha hr rfl
theorem pa_cal {f as ks p} (ha : PE X (.Call f as ks p) te) (hr : PA X es t) : PA X (.Call f as ks p :: es) (tCons te t) := pa_cons ha hr rfl
theorem pa_bin {f as ks p} (ha : PE X (.BinOp f as ks p) te) (hr : PA X es t) : PA X (.BinOp f as ks p :: es) (tCons te t) := pa_cons ha hr rfl
theorem pa_lis {f p} (ha : PE X (.List f p) te) (hr : PA X es t) : PA X (.List f p :: es) (tCons te t) := pa_cons ha hr rfl
theorem pa_tpl {f k p} (ha : PE X (.Tuple f k p) te) (hr : PA X es t) : PA X (.Tuple f k p :: es) (tCons te t) := pa_cons ha hr rfl
theorem pa_sub {f k p} (ha : PE X (.Subscript f k p) te) (hr : PA X es t) : PA X (.Subscript f k p :: es) (tCons te t) := pa_cons ha hr rfl
theorem pa_att {f k p} (ha : PE X (.Attribute f k p) te) (hr : PA X es t) : PA X (.Attribute f k p :: es) (tCons te t) := pa_cons ha hr rfl
end
end L2
set_option Elab.async false
set_option linter.all false
set_option maxRecDepth 100000
namespace L2
open PySem PySem.Spec PyProof.Rows
section
variable {X : Cx} {pins : List (Addr × Obj)} {σ : St} {H : Hp} {s : Shared} {h' : Heap}
end
section
variable {P : Program} {w : World} {H : Hp} {h : Heap} {a : Addr} {o : HO}
theorem ObjOk.there (x : ObjOk P w H h a o) : ∃ u, h.get? a = some u := by
  cases o with
  | lst xs => obtain ⟨_, _, _, _, e⟩ := x; exact ⟨_, e⟩
  | tup xs => obtain ⟨_, _, _, _, e, _⟩ := x; exact ⟨_, e⟩
  | dK kvs => obtain ⟨_, _, _, _, o, _, _, e, _⟩ := x; exact ⟨_, e⟩
  | dT kvs => obtain ⟨_, _, _, _, o, _, _, e, _⟩ := x; exact ⟨_, e⟩
  | set S n => obtain ⟨o, _, _, _, e, _⟩ := x; exact ⟨_, e⟩
  | ins C dx fs => obtain ⟨_, _, _, e, _⟩ := x; exact ⟨_, e⟩
  | own y => exact x
  | xd fs => obtain ⟨_, ⟨_, _, _, e, _⟩, _⟩ := x; exact ⟨_, e⟩
  | rng lo hi => obtain ⟨_, _, _, e⟩ := x; exact ⟨_, e⟩
  | frz ob u => obtain ⟨e, _⟩ := x; exact ⟨_, e⟩
  | tbl ps => exact ⟨_, x⟩
  | met f y => exact ⟨_, x⟩
  | ext φ => exact x.2.1
end
section
variable {P : Program} {w : World} {K : PySem.W.Frag} {mg : Str → Option Value} {base : Heap}
end
section
variable {X : Cx} {C N : Addr} {B newId initId : String} {bm : List Value} {x : Str} {pos np cpos : Pos} {W : XK}
end
section
variable {P : Program} {w : World} {K : PySem.W.Frag} {mg : Str → Option Value} {base : Heap}
end
end L2
set_option Elab.async false
set_option linter.all false
set_option maxRecDepth 100000
namespace L2
open PySem PySem.Spec PyProof.Rows
abbrev TF := St → Hp → Str → (Str → Hp → Prop) → Prop
section
variable {X : Cx} {e v₁ v₂ : Expr} {es rest : List Expr} {te : TE} {tf : TF} {pos : Pos}
end
end L2
set_option Elab.async false
set_option linter.all false
set_option maxRecDepth 100000
namespace L2
open PySem PySem.Spec PyProof.Rows
structure OwnStr (K : PySem.W.Frag) (C N f : Addr) : Prop where
  cls : ∃ nm q bs hd sn sub ab col dd k0 k1 k2 k3 k5 newId, K.lookup C = some (excClassObj nm q C N bs [.type "object"] hd sn sub ab col dd k0 k1 k2 k3 k5 newId)
  ok : PySem.W.nsOkIn K N = true
  str : PySem.W.nsIn K N "__str__" = some (some (.ref f))
  fn : PySem.W.isFn K (.ref f) = true
theorem look_str : typeLookup (.type "object") "__str__" = pure (some (.builtin "object.__str__")) := by rw [typeLookup_type, builtinLookup_eq_fast]; kernel_rfl
section
variable {K : PySem.W.Frag} {C N f x : Addr}
theorem OwnStr.at_ {h : Heap} {o : Obj} (c : OwnStr K C N f) (X : K.In h) (hx : h.get? x = some o) (hc : o.cls = .ref C) : h.OwnSpecial x C f "object" "__str__" := by
  obtain ⟨nm, q, bs, hd, sn, sub, ab, col, dd, k0, k1, k2, k3, k5, newId, lk⟩ := c.cls
  have hn : h.Ns N (h.nsMap N) := .of_isNs (PySem.W.isNs_of_in X c.ok)
  have e1 : PySem.W.typeIn K (.ref f) = some (.type "function") := beq_iff_eq.mp c.fn
  obtain ⟨of, l1, l2⟩ := Option.map_eq_some_iff.mp (show (K.lookup f).map (·.cls) = some (.type "function") from e1)
  exact ⟨o, of, nm, q, N, bs, _, hd, sn, sub, ab, col, dd, k0, k1, k2, k3, k5, newId, h.nsMap N, _, hx, hc, X _ _ lk, hn, ns_val X hn c.str, X _ _ l1, l2, PySem.F.cmp_object.mro, look_str⟩
end
open Builtin in
section
variable {X : Cx} {k : Nat} {f C N : Addr} {fd : FuncData} {ps : List Str} {sp : Sp}
end
end L2
set_option Elab.async false
set_option linter.all false
set_option maxRecDepth 100000
namespace L2
open PySem PySem.Spec PyProof.Rows
open AutoSeq1 (wpAny_loadPart')
section
variable {M : Model} {A : Around} {E : Value → Shared → Prop} {x C fA : Addr} {B : String} {a : Value} {Ta ida : String}
theorem rc_own_right {h : Heap} {g : Array GenState} {d : Drawn} {t : Nat} {os : OsState} {Q : Value → Shared → Prop} (ha : (Shared.mk h g d t os).TypeIs a Ta) (hsub : PySem.W.Looks M h (isSubtype (.ref C) (.type Ta)) false)
    (h1 : Slot Ta (cmpInfo .Eq).2.1 ida) (hc1 : ∀ Q' : Value → Shared → Prop, Q' .notImplemented ⟨h, g, d, t, os⟩ → wpAny M A (call (.builtin ida) [a, .ref x]) Q' E ⟨h, g, d, t, os⟩)
    (X : h.OwnSpecial x C fA B "__eq__") (hu : A.units < cLine)
    (hcall : wpAny M A (call (.ref fA) [.ref x, a]) (fun v s' => ∃ b, v = .bool b ∧ Q (.bool b) s') E ⟨h, g, d, t, os⟩) :
    wpAny M A (richCompare .Eq a (.ref x)) Q E ⟨h, g, d, t, os⟩ := by
  have X' := X
  obtain ⟨o, of, nm, q, N, bs, bm, hdct, sn, sub, ab, col, dd, k0, k1, k2, k3, k5, newId, mN, yv, hx, hc, _⟩ := X'
  rcases hi : cmpInfo CmpOp.Eq with ⟨sym, f, r⟩
  rw [hi] at h1
  simp only [richCompare, hi, ha.oneThing_none]
  try with_reducible refine wpAny_holding ?_
  refine wpAny_bind (wpAny_cRoomFor hu ?_)
  refine wpAny_bind (wpAny_typeOf ha (wpAny_bind (wpAny_typeOf_ref hx ?_)))
  rw [hc]
  rw [show (Value.type Ta != Value.ref C) = true from rfl]
  simp only [if_true]
  refine wpAny_bind (hsub.at ?_)
  simp only [Bool.false_eq_true, if_false, Bool.not_false, if_true]
  refine wpAny_bind (m := tryCompare a _ (.ref x)) (wpAny_tryCompare_declines ha h1 (hc1 _ ⟨rfl, ?_⟩))
  have er : r = "__eq__" := by have := hi; rw [cmpInfo_Eq] at this; injection this with _ z; injection z with _ z; exact z.symm
  subst er
  unfold tryCompare
  refine wpAny_bind (wpAny_bind (wpAny_callSpecialIfBound?_own X (wpAny_mono hcall (fun v s' hv => ?_) fun _ _ e => e)))
  obtain ⟨b, rfl, hq⟩ := hv
  exact wpAny_pure (wpAny_pure hq)
theorem eqBool_own_right {h : Heap} {g : Array GenState} {d : Drawn} {t : Nat} {os : OsState} {Q : Bool → Shared → Prop} (hne : (a == Value.ref x) = false) (hr : wpAny M A (richCompare .Eq a (.ref x)) (fun v s' => ∃ b, v = .bool b ∧ Q b s') E ⟨h, g, d, t, os⟩) :
    wpAny M A (eqBool a (.ref x)) Q E ⟨h, g, d, t, os⟩ := by
  unfold eqBool
  refine wpAny_holding ?_
  rw [if_neg (by rw [hne]; decide)]
  split
  · rename_i e; cases e
  · refine wpAny_bind (wpAny_mono hr (fun v s' hv => ?_) fun _ _ e => e)
    obtain ⟨b, rfl, q⟩ := hv
    exact wpAny_truthy_bool q
end
theorem int_decl_ins (b : Bool) (x C dx : Addr) : Meets (Builtin.«int.__eq__» ⟨[.bool b, .ref x], []⟩) (fun _ R s => s.heap.get? x = some (PySem.W.instObj C dx) ∧ R (.ok (.ret .notImplemented)) s) :=
  .of_wp fun prog w A R s h => by obtain ⟨hp, g, d, tk, os⟩ := s; obtain ⟨hl, h⟩ := h; wp_walk using wpAny_loadPart' hl, wpAny_load hl; exact ⟨_, rfl, h⟩
theorem str_decl_ins (b : Str) (u : Tok) (x C dx : Addr) : Meets (Builtin.«str.__eq__» ⟨[.str b u, .ref x], []⟩) (fun _ R s => s.heap.get? x = some (PySem.W.instObj C dx) ∧ R (.ok (.ret .notImplemented)) s) :=
  .of_wp fun prog w A R s h => by obtain ⟨hp, g, d, tk, os⟩ := s; obtain ⟨hl, h⟩ := h; wp_walk using wpAny_loadPart' hl, wpAny_load hl; exact ⟨_, rfl, h⟩
theorem isInst_not {M : Model} {A : Around} {E : Value → Shared → Prop} {h : Heap} {g : Array GenState} {d : Drawn} {t : Nat} {os : OsState} {x C dx : Addr} {T : String} {Q : Bool → Shared → Prop} (hx : h.get? x = some (PySem.W.instObj C dx)) (hs : PySem.W.Looks M h (isSubtype (.ref C) (.type T)) false) (q : Q false ⟨h, g, d, t, os⟩) :
    wpAny M A (isInstance (.ref x) (.type T)) Q E ⟨h, g, d, t, os⟩ := by
  unfold isInstance
  exact wpAny_bind (wpAny_typeOf_ref hx (hs.at q))
theorem tup_decl_ins {P : Program} {w : World} (l x C dx : Addr) (its : Array Value) (n : Nat) (dd : Option Addr) (sl : Array (Option Value)) :
    MeetsIn P w (Builtin.«tuple.__eq__» ⟨[.ref l, .ref x], []⟩) (fun _ R s => s.heap.get? l = some { cls := .type "tuple", dict := dd, data := .seq its n, slots := sl } ∧ s.heap.get? x = some (PySem.W.instObj C dx) ∧ PySem.W.Looks (model P w) s.heap (isSubtype (.ref C) (.type "tuple")) false ∧ R (.ok (.ret .notImplemented)) s) :=
  .of_wp fun A R s h => by obtain ⟨hp, g, d, tk, os⟩ := s; obtain ⟨hl, hx, hs, h⟩ := h; wp_walk using wpAny_loadPart' hl, isInst_not hx hs; exact ⟨_, rfl, h⟩
theorem lst_decl_ins {P : Program} {w : World} (l x C dx : Addr) (its : Array Value) (n : Nat) (dd : Option Addr) (sl : Array (Option Value)) :
    MeetsIn P w (Builtin.«list.__eq__» ⟨[.ref l, .ref x], []⟩) (fun _ R s => s.heap.get? l = some { cls := .type "list", dict := dd, data := .seq its n, slots := sl } ∧ s.heap.get? x = some (PySem.W.instObj C dx) ∧ PySem.W.Looks (model P w) s.heap (isSubtype (.ref C) (.type "list")) false ∧ R (.ok (.ret .notImplemented)) s) :=
  .of_wp fun A R s h => by obtain ⟨hp, g, d, tk, os⟩ := s; obtain ⟨hl, hx, hs, h⟩ := h; wp_walk using wpAny_loadPart' hl, isInst_not hx hs; exact ⟨_, rfl, h⟩
structure Apart (K : PySem.W.Frag) (C : Addr) : Prop where
  non : PySem.W.mroIn K C (.type "NoneType") = some false
  bl : PySem.W.mroIn K C (.type "bool") = some false
  str : PySem.W.mroIn K C (.type "str") = some false
  tup : PySem.W.mroIn K C (.type "tuple") = some false
  lst : PySem.W.mroIn K C (.type "list") = some false
def Oth (K : PySem.W.Frag) (H : Hp) : V → Prop
  | .non => True
  | .bl _ => True
  | .str _ => True
  | .ref l => (∃ xs, SqT K H l xs) ∨ ∃ xs, SqL K H l xs
  | _ => False
section
variable {X : Cx} {k : Nat} {f C N : Addr} {fd : FuncData} {ps : List Str} {sp : Sp}
theorem eq_oth {pins : List (Addr × Obj)} {σ : St} {H : Hp} {s : Shared} {p dx : Addr} {fs : List (Str × V)} {v : V} {u : Value} {E : Value → Shared → Prop} (c : OwnEq X.K C N f) (ap : Apart X.K C) (F : FnOk X.prog X.w X.K X.mg X.base CX0 k f fd ps sp) (hr : Room (k + 1) X.A) (hb : Binds X.K fd ps [])
    (I : Inv X pins σ H s) (hp : H p = some (.ins C dx fs)) (ho : Oth X.K H v) (r : RelV v u) (w : sp [.ref p, v] H (fun r H2 => r = .bl false ∧ H2 = H) E0) :
    wpAny (model X.prog X.w) X.A.in1 (eqBool u (.ref p)) (fun b s' => b = false ∧ Inv X pins σ H s') E s := by
  obtain ⟨mA, O, _⟩ := ins_get I.hok hp
  have p1 := O.obj
  have r2 : Vals [V.ref p, v] [Value.ref p, u] := .cons rfl (.cons r .nil)
  have hl : ([Value.ref p, u] ++ []).length = ps.length := by
    rw [List.append_nil, ← r2.length]; exact F.len _ _ _ _ w
  have bnd := hb s [.ref p, u] I.kIn hl
  rw [List.append_nil] at bnd
  have go := F.run X.A.in1 X.stack s H ⟨[.ref p, u], []⟩ [.ref p, u] [.ref p, v] _ E0 hr.in1 I.env0.in1 bnd r2 w
  have hu := hu_of hr
  have fin : wpAny (model X.prog X.w) X.A.in1 (call (.ref f) [.ref p, u]) (fun v s' => ∃ b, v = .bool b ∧ (∃ b', Value.bool b = .bool b' ∧ b' = false ∧ Inv X pins σ H s')) E s := wpAny_call (codeAny_mono go fun r s' z => by
    cases r with
    | error e => exact z.elim
    | ok fl =>
      cases fl with
      | ret u =>
        obtain ⟨x, H2, I2, r, e, e2⟩ := I.after z
        subst e
        subst e2
        exact ⟨false, r, false, rfl, rfl, I2⟩
      | next => exact False.elim z
      | brk => exact False.elim z
      | cont => exact False.elim z)
  have own := c.at_ I.kIn p1 rfl
  have sub : ∀ {T : String}, PySem.W.mroIn X.K C (.type T) = some false → PySem.W.Looks (model X.prog X.w) s.heap (isSubtype (.ref C) (.type T)) false := fun e => PySem.W.looks_mroIn I.kIn e
  have kIn := I.kIn
  have tupI := fun xs h => I.tuple (a := (match v with | .ref l => l | _ => 0)) (xs := xs) h
  have lstI := fun xs h => I.list (a := (match v with | .ref l => l | _ => 0)) (xs := xs) h
  have nel : ∀ l, v = .ref l → l ≠ p := by
    intro l e z
    subst e
    subst z
    rcases ho with ⟨xs, h⟩ | ⟨xs, h⟩
    · obtain ⟨its, _, ⟨o, e, hc, _⟩, _⟩ := I.tuple h
      rw [p1] at e; cases e; cases hc
    · obtain ⟨its, _, ⟨o, n, e, hc, _⟩, _⟩ := I.list h
      rw [p1] at e; cases e; cases hc
  obtain ⟨hh, g, d, t, os⟩ := s
  cases v with
  | non =>
    cases (show u = Value.none from r)
    exact eqBool_own_right rfl (rc_own_right (Ta := "NoneType") rfl (sub ap.non) PySem.F.slot_NoneType_eq (fun Q' q => call_gives PySem.F.slot_NoneType_eq rfl PySem.F.entry_NoneType_eq (PySem.F.args_NoneType_eq_2 _ _) (SeqAt.NoneType___eq___none_ref_0 p) q) own.ownEq (hu) fin)
  | bl b =>
    cases (show u = Value.bool b from r)
    exact eqBool_own_right rfl (rc_own_right (Ta := "bool") rfl (sub ap.bl) PySem.F.slot_bool_eq (fun Q' q => call_meets PySem.F.slot_bool_eq rfl PySem.F.entry_int_eq (PySem.F.args_int_eq_2 _ _) (int_decl_ins b p C dx) ⟨p1, q⟩) own.ownEq (hu) fin)
  | str x =>
    obtain ⟨tk, e⟩ := (show ∃ t, u = Value.str x t from r)
    subst e
    exact eqBool_own_right rfl (rc_own_right (Ta := "str") rfl (sub ap.str) PySem.F.slot_str_eq (fun Q' q => call_meets PySem.F.slot_str_eq rfl PySem.F.entry_str_eq (PySem.F.args_str_eq_2 _ _) (str_decl_ins x tk p C dx) ⟨p1, q⟩) own.ownEq (hu) fin)
  | ref l =>
    cases (show u = Value.ref l from r)
    have ne : (Value.ref l == Value.ref p) = false := by
      have := nel l rfl
      simpa using this
    rcases ho with ⟨xs, h⟩ | ⟨xs, h⟩
    · obtain ⟨its, _, ⟨⟨cc, dd, da, sl⟩, e, hc, n, hd⟩, _⟩ := tupI xs h
      simp only at hc hd
      subst hc hd
      exact eqBool_own_right ne (rc_own_right (Ta := "tuple") ⟨_, e, rfl⟩ (sub ap.tup) PySem.F.slot_tuple_eq (fun Q' q => call_meetsIn PySem.F.slot_tuple_eq ⟨_, e, rfl⟩ PySem.F.entry_tuple_eq (PySem.F.args_tuple_eq_2 _ _) (tup_decl_ins l p C dx _ n dd sl) ⟨e, p1, sub ap.tup, q⟩) own.ownEq (hu) fin)
    · obtain ⟨its, _, ⟨⟨cc, dd, da, sl⟩, n, e, hc, hd0, hd⟩, _⟩ := lstI xs h
      simp only at hc hd
      subst hc hd
      exact eqBool_own_right ne (rc_own_right (Ta := "list") ⟨_, e, rfl⟩ (sub ap.lst) PySem.F.slot_list_eq (fun Q' q => call_meetsIn PySem.F.slot_list_eq ⟨_, e, rfl⟩ PySem.F.entry_list_eq (PySem.F.args_list_eq_2 _ _) (lst_decl_ins l p C dx _ n dd sl) ⟨e, p1, sub ap.lst, q⟩) own.ownEq (hu) fin)
  | _ => exact ho.elim
theorem in_loop {pins : List (Addr × Obj)} {σ : St} {H : Hp} {l : Addr} {x : Value} {vs : List V} {R : Result → Shared → Prop} (hl : H l = some (.lst vs))
    (he : ∀ v ∈ vs, ∀ (u : Value) (s : Shared), Inv X pins σ H s → RelV v u → wpAny (model X.prog X.w) X.A.in1 (eqBool u x) (fun b s' => b = false ∧ Inv X pins σ H s') (fun e s' => R (.error e) s') s)
    (hR : ∀ s, Inv X pins σ H s → R (.ok (.ret (.bool false))) s) (k : Nat) : ∀ i : Nat, vs.length - i = k → ∀ s, Inv X pins σ H s →
    wpAny (model X.prog X.w) X.A.in1 (Builtin.«list.__contains__.loop» ⟨[.ref l, x, rawInt i], []⟩) (fun fin s' => match fin with | .done f => R (.ok f) s' | .again c' => c'.quiet = true ∧ codeAny (model X.prog X.w) X.A c' R s') (fun e s' => R (.error e) s') s := by
  induction k with
  | zero =>
    intro i hk s I
    obtain ⟨its, r, ⟨⟨cc, dd, da, sl⟩, n, e, hc, hd0, hd⟩, _⟩ := I.list (SqL.of hl)
    simp only at hc hd
    subst hc hd
    have q := hR s I
    obtain ⟨hp, g, d, tk, os⟩ := s
    have el := r.length
    wp_walk using wpAny_loadPart' e
    have hi : its.toArray[((i : Nat) : Int).toNat]? = none := by simp; omega
    rw [hi]
    wp_walk
    exact q
  | succ k ih =>
    intro i hk s I
    obtain ⟨its, r, ⟨⟨cc, dd, da, sl⟩, n, e, hc, hd0, hd⟩, _⟩ := I.list (SqL.of hl)
    simp only at hc hd
    subst hc hd
    have el := r.length
    have hlt : i < vs.length := by omega
    obtain ⟨u, hu, ru⟩ := r.get (i := i) (x := vs[i]) (by simp [hlt])
    have go := he vs[i] (List.getElem_mem hlt) u s I ru
    obtain ⟨hp, g, d, tk, os⟩ := s
    wp_walk using wpAny_loadPart' e
    have hi : its.toArray[((i : Nat) : Int).toNat]? = some u := by simpa using hu
    rw [hi]
    refine wpAny_bind (wpAny_mono go (fun b s' hb => ?_) fun _ _ z => z)
    obtain ⟨rfl, I'⟩ := hb
    have hc : ((i : Int) + 1) = ((i + 1 : Nat) : Int) := by push_cast; rfl
    obtain ⟨hp', g', d', tk', os'⟩ := s'
    wp_walk
    rw [hc]
    exact ⟨plainId_quiet MeetsSeq.plain_contains_loop _, codeAny_builtin MeetsSeq.entry_contains_loop (by
      rw [Around.under_plainId MeetsSeq.plain_contains_loop _]
      exact ih (i + 1) (by omega) _ I')⟩
end
end L2
set_option Elab.async false
set_option linter.all false
set_option maxRecDepth 100000
namespace L2
open PySem PySem.Spec PyProof.Rows
open AutoSeq1 (wpAny_loadPart')
open MeetsSeq MeetsSeq2 MeetsSeq3
section
variable {X : Cx}
end
section
variable {X : Cx} {k : Nat} {f C N : Addr} {fd : FuncData} {ps : List Str} {sp : Sp}
end
end L2
set_option Elab.async false
set_option linter.all false
set_option maxRecDepth 100000
namespace L2
open PySem PySem.Spec PyProof.Rows
section
variable {X : Cx} {pins : List (Addr × Obj)} {σ : St} {H : Hp} {s : Shared} {ea C N f : Addr} {B newId initId : String} {bm : List Value} {x n : Str} {np hpos pos : Pos} {b₀ : Stmt} {suite : List Stmt} {ts : TS} {i : Nat} {D : Ends}
end
section
variable {X : Cx} {k : Nat} {f C : Addr} {fd : FuncData} {ps ks : List Str} {sp : Sp} {x : Str} {p pos : Pos} {e : Expr} {es : List Expr} {kws : List Keyword} {t tk : TA}
variable {g : List Value → List Value → List Value} {gV : List V → List V → List V}
end
section
open AutoSeq1 (wpAny_loadPart')
open MeetsSeq MeetsSeq2 MeetsSeq3
variable {X : Cx} {k : Nat} {f C N : Addr} {fd : FuncData} {ps : List Str} {sp : Sp}
end
end L2
set_option Elab.async false
set_option linter.all false
set_option maxRecDepth 100000
namespace L2
open PySem PySem.Spec PyProof.Rows
section
variable {X : Cx} {pos : Pos}
end
end L2
set_option Elab.async false
set_option linter.all false
set_option maxRecDepth 100000
namespace L2
open PySem PySem.Spec PyProof.Rows
section
variable {X : Cx} {tg : Expr}
def rngL (i : Int) (n : Nat) : List V := (List.range n).map fun k => V.int (i + (k : Nat))
theorem rngL_key {acc : Array Value} {n : Nat} {a : Int} (h1 : acc.size = n) (h2 : ∀ j v, acc[j]? = some v → ∃ t, v = Value.int (a + (j : Nat) * 1) t) : ∀ (m : Nat) (k : Nat), k + m = n → Vals ((List.range' k m).map fun j => V.int (a + (j : Nat))) (acc.toList.drop k)
  | 0, k, e => by
    rw [List.drop_of_length_le (by rw [Array.length_toList]; omega)]
    exact .nil
  | m + 1, k, e => by
    have hk : k < acc.toList.length := by rw [Array.length_toList]; omega
    rw [List.drop_eq_getElem_cons hk, List.range'_succ, List.map_cons]
    refine .cons ?_ (rngL_key h1 h2 m (k + 1) (by omega))
    obtain ⟨t, ht⟩ := h2 k acc.toList[k] (by rw [← Array.getElem?_toList]; simp [hk])
    refine ⟨t, ?_⟩
    rw [ht, Int.mul_one]
theorem rngL_vals {acc : Array Value} {n : Nat} {a : Int} (h : ItemsOf (fun i v => ∃ t, v = .int (a + i * 1) t) acc n) : Vals (rngL a n) acc.toList := by
  have := rngL_key h.1 h.2 n 0 (by omega)
  rw [List.drop_zero] at this
  unfold rngL
  rw [List.range_eq_range']
  exact this
end
end L2
set_option Elab.async false
set_option linter.all false
set_option maxRecDepth 100000
namespace L2
open PySem PySem.Spec PyProof.Rows
section
variable {X : Cx} {o i : Expr} {pos : Pos} {td ty : TE}
def KTup (K : PySem.W.Frag) (p : Addr) (xs : List V) : Prop := ∃ (o : Obj) (its : Array Value) (n : Nat), K.lookup p = some o ∧ o.cls = .type "tuple" ∧ o.data = .seq its n ∧ its.size ≤ sizeLine ∧ Vals xs its.toList
theorem KTup.seq {K : PySem.W.Frag} {H : Hp} {p : Addr} {xs : List V} (h : KTup K p xs) : SqT K H p xs := .inr h
inductive Ents (w : World) : List DictEntry → List (Str × V) → Prop
  | nil : Ents w [] []
  | cons {k : Str} {t : Tok} {v : V} {u : Value} {es : List DictEntry} {kvs : List (Str × V)} (r : RelV v u) (h : Ents w es kvs) : Ents w (⟨hashStr w k, .str k t, u⟩ :: es) ((k, v) :: kvs)
theorem Ents.keys {P : Program} {w : World} : ∀ {es : List DictEntry} {kvs : List (Str × V)}, Ents w es kvs → ∀ e ∈ es, ∃ k, (mixKind P w).is k e.key = true ∧ e.hash = (mixKind P w).hash k
  | _, _, .nil, e, h => by cases h
  | _, _, .cons (k := k) (t := t) r h, e, he => by
    rcases List.mem_cons.mp he with rfl | z
    · exact ⟨.inr k, by show Value.isStrOf k (.str k t) = true; simp [Value.isStrOf], rfl⟩
    · exact h.keys e z
end
end L2
set_option Elab.async false
set_option linter.all false
set_option maxRecDepth 100000
namespace L2
open PySem PySem.Spec PyProof.Rows
inductive NsAll (K : PySem.W.Frag) (d : Addr) : List (Str × Value) → Prop
  | nil : NsAll K d []
  | cons {k : Str} {v : Value} {l : List (Str × Value)} (h : PySem.W.nsIn K d k = some (some v)) (t : NsAll K d l) : NsAll K d ((k, v) :: l)
theorem NsAll.mem {K : PySem.W.Frag} {d : Addr} : ∀ {l : List (Str × Value)}, NsAll K d l → ∀ p ∈ l, PySem.W.nsIn K d p.1 = some (some p.2)
  | _, .cons h t, p, hp => by
    rcases List.mem_cons.mp hp with rfl | z
    · exact h
    · exact t.mem p z
end L2
set_option Elab.async false
set_option linter.all false
set_option maxRecDepth 100000
namespace L2
open PySem PySem.Spec PyProof.Rows
section
variable {X : Cx} {pos : Pos}
end
end L2
set_option Elab.async false
set_option linter.all false
set_option maxRecDepth 100000
namespace L2
open PySem PySem.Spec PyProof.Rows
theorem FnOk.or {P : Program} {w : World} {K : PySem.W.Frag} {mg : Str → Option Value} {base : Heap} {CX : CXT} {k : Nat} {f : Addr} {fd : FuncData} {ps : List Str} {sp sp' : Sp} (F : FnOk P w K mg base CX k f fd ps sp) (F' : FnOk P w K mg base CX k f fd ps sp') :
    FnOk P w K mg base CX k f fd ps (fun vs H Q E => sp vs H Q E ∨ sp' vs H Q E) :=
  ⟨fun vs H Q E q => q.elim (F.len vs H Q E) (F'.len vs H Q E), fun A outer s H args us vs Q E hr he hb hv hs => hs.elim (F.run A outer s H args us vs Q E hr he hb hv) (F'.run A outer s H args us vs Q E hr he hb hv)⟩
section
variable {X : Cx}
end
end L2
set_option Elab.async false
set_option linter.all false
set_option maxRecDepth 100000
namespace L2
open PySem PySem.Spec PyProof.Rows
section
variable {X : Cx} {e : Expr} {es : List Expr} {p : Pos} {te : TE} {t : TA}
def tLrng1 (ta : TA) : TE := fun σ H Q => ta σ H fun vs H1 => ∃ j : Int, vs = [.int j] ∧ (-(2 ^ 62) ≤ j ∧ j < 2 ^ 62) ∧ j.toNat ≤ 2 ^ 24 ∧ ∀ p, H1 p = none → Q (.ref p) (upd H1 p (.lst (rngL 0 j.toNat)))
theorem pe_lrng1 {a : Expr} {ta : TA} {p p2 pos pos2 : Pos} (hc : X.calm = true) (hgl : Gl X "list") (hml : X.mg "list" = none) (hg : Gl X "range") (hm : X.mg "range" = none) (ha : PA X [a] ta) (hs : starEach [a] X.env = [(false, eval a X.env)] := by rfl)
    (hs3 : starEach [.Call (.Name "range" p2) [a] [] pos2] X.env = [(false, eval (.Call (.Name "range" p2) [a] [] pos2) X.env)] := by rfl) :
    PE X (.Call (.Name "list" p) [.Call (.Name "range" p2) [a] [] pos2] [] pos) (tLrng1 ta) := by
  constructor
  intro pins s σ H Q I h
  refine Call_ (ld_blt I hgl hml PyProof.Rows.boot_list (PyProof.Rows.callWith_type1 ?_ hs3 rfl))
  rw [hs3]
  show wpAny _ _ (spliced ((false, eval (.Call (.Name "range" p2) [a] [] pos2) X.env) :: backTo pos [])) _ _ s
  refine Calls.spliced_cons ?_
  refine Call_ (ld_blt I hg hm boot_range (PyProof.Rows.callWith_type1 (thn (ha pos2 pins s σ H _ I h) fun us s1 ⟨vs, H1, I1, r1, q1⟩ => ?_) hs rfl))
  obtain ⟨j, e, ⟨q3, q4⟩, hn, q⟩ := q1
  subst e
  cases r1 with
  | cons r rr =>
    cases rr
    obtain ⟨t, rfl⟩ := r
    refine call_range_1 ?_
    refine Calls.spliced_nil ?_
    have e2 : Builtin.Range.rangeSize 0 j 1 = ((j.toNat : Nat) : Int) := by rw [rangeSize_one]; split <;> omega
    refine PySem.call_list_range (I.ok.hd hc) (IsRange.new ..) (small_one (by omega) (by omega) q3 q4) e2 hn fun h' tk acc c' kp e hi => ?_
    have hz : (rngL 0 j.toNat).length ≤ sizeLine := by
      show ((List.range _).map _).length ≤ _
      rw [List.length_map, List.length_range, sizeLine_eq]; omega
    have I2 : Inv X pins σ H1 { s1 with heap := s1.heap.push { cls := .type "range", data := .fields #[.int 0 s1.toks, .int j t, .int 1 (s1.toks + 1)] }, toks := s1.toks + 1 + 1 } := I1.kept fun b o e => Heap.get?_push_of_some _ e
    refine ⟨.ref _, _, I2.laid (t' := tk) kp (Nat.le_refl _) (show ObjOk X.prog X.w _ h' _ (.lst (rngL 0 j.toNat)) from ⟨hz, acc.toList, c', rngL_vals hi, ?_⟩), rfl, q _ (I2.hok.fresh (Nat.le_refl _))⟩
    rw [Array.toArray_toList]
    exact e
end
end L2
set_option Elab.async false
set_option linter.all false
set_option maxRecDepth 100000
namespace L2
open PySem PySem.Spec PyProof.Rows
open AutoSeq1 (wpAny_loadPart')
def Hits (K : PySem.W.Frag) (H : Hp) (zs : List (Key × V)) : List (Key × V) → Bool → Prop
  | [], b => b = true
  | kv :: r, b => ∃ u d e b', valV zs kv.1 = some u ∧ Dp K H kv.2 d ∧ Dp K H u e ∧ SeqAt.shaped d = true ∧ SeqAt.shaped e = true ∧ Hits K H zs r b' ∧ b = (PyData.eqv d e && b')
section
variable {X : Cx}
theorem Hits.go {pins : List (Addr × Obj)} {σ : St} {H : Hp} {s : Shared} {A : Around} {zs : List (Key × V)} {ws : List (Key × Value)} (I : Inv X pins σ H s) (hu : A.in1.units + 64 < cLine) (rz : KV zs ws) :
    ∀ {kvs : List (Key × V)} {vs : List (Key × Value)} {b : Bool}, KV kvs vs → Hits X.K H zs kvs b → PySem.W.KeqHits A.in1 s ws vs b
  | [], [], b, _, h => by cases (show b = true from h); exact .nil
  | kv :: r, q :: t, b, rk, h => by
    obtain ⟨u, d, e, b', h1, h2, h3, h4, h5, h6, rfl⟩ := h
    cases rk with
    | cons r1 r2 =>
      obtain ⟨k, v⟩ := q
      obtain ⟨e1, e2⟩ := r1
      simp only at e1 e2
      subst e1
      obtain ⟨y, hy, ry⟩ := RelO.some_of (by rw [← h1]; exact rz.val kv.1)
      obtain ⟨as, x1⟩ := Dp.reads I d kv.2 v h2 e2
      obtain ⟨bs, x2⟩ := Dp.reads I e u y h3 ry
      exact .hit hy (PySem.W.keq_at (A := A) x1 x2 h4 h5 hu) (Hits.go I hu rz r2 h6)
end
structure OwnRepr (K : PySem.W.Frag) (C N f : Addr) : Prop where
  cls : ∃ nm q bs hd sn sub ab col dd k0 k1 k2 k3 k5 newId, K.lookup C = some (excClassObj nm q C N bs [.type "object"] hd sn sub ab col dd k0 k1 k2 k3 k5 newId)
  ok : PySem.W.nsOkIn K N = true
  rep : PySem.W.nsIn K N "__repr__" = some (some (.ref f))
  fn : PySem.W.isFn K (.ref f) = true
theorem look_repr : typeLookup (.type "object") "__repr__" = pure (some (.builtin "object.__repr__")) := by rw [typeLookup_type, builtinLookup_eq_fast]; kernel_rfl
theorem OwnRepr.at_ {K : PySem.W.Frag} {C N f x : Addr} {h : Heap} {o : Obj} (c : OwnRepr K C N f) (X : K.In h) (hx : h.get? x = some o) (hc : o.cls = .ref C) : h.OwnSpecial x C f "object" "__repr__" := by
  obtain ⟨nm, q, bs, hd, sn, sub, ab, col, dd, k0, k1, k2, k3, k5, newId, lk⟩ := c.cls
  have hn : h.Ns N (h.nsMap N) := .of_isNs (PySem.W.isNs_of_in X c.ok)
  have e1 : PySem.W.typeIn K (.ref f) = some (.type "function") := beq_iff_eq.mp c.fn
  obtain ⟨of, l1, l2⟩ := Option.map_eq_some_iff.mp (show (K.lookup f).map (·.cls) = some (.type "function") from e1)
  exact ⟨o, of, nm, q, N, bs, _, hd, sn, sub, ab, col, dd, k0, k1, k2, k3, k5, newId, h.nsMap N, _, hx, hc, X _ _ lk, hn, ns_val X hn c.rep, X _ _ l1, l2, PySem.F.cmp_object.mro, look_repr⟩
section
variable {X : Cx} {k : Nat} {f C N : Addr} {fd : FuncData} {ps : List Str} {sp : Sp}
end
section
variable {M : Model} {A : Around} {E : Value → Shared → Prop} {x C fA : Addr} {B : String} {b : Value} {Tb : String}
end
section
variable {X : Cx} {k : Nat} {f C N : Addr} {fd : FuncData} {ps : List Str} {sp : Sp}
structure Apart2 (K : PySem.W.Frag) (C : Addr) : Prop where
  ap : Apart K C
  int : PySem.W.mroIn K C (.type "int") = some false
  dict : PySem.W.mroIn K C (.type "dict") = some false
def Oth2 (K : PySem.W.Frag) (H : Hp) (v : V) : Prop := Oth K H v ∨ (∃ i, v = .int i) ∨ ∃ p kvs, v = .ref p ∧ H p = some (.dK kvs)
theorem int_decl_ins2 (i : Int) (u : Tok) (x C dx : Addr) : Meets (Builtin.«int.__eq__» ⟨[.int i u, .ref x], []⟩) (fun _ R s => s.heap.get? x = some (PySem.W.instObj C dx) ∧ R (.ok (.ret .notImplemented)) s) :=
  .of_wp fun prog w A R s h => by obtain ⟨hp, g, d, tk, os⟩ := s; obtain ⟨hl, h⟩ := h; wp_walk using wpAny_loadPart' hl, wpAny_load hl; exact ⟨_, rfl, h⟩
theorem dict_decl_ins {P : Program} {w : World} (l x C dx : Addr) :
    MeetsIn P w (Builtin.«dict.__eq__» ⟨[.ref l, .ref x], []⟩) (fun _ R s => s.TypeIs (.ref l) "dict" ∧ s.heap.get? x = some (PySem.W.instObj C dx) ∧ PySem.W.Looks (model P w) s.heap (isSubtype (.ref C) (.type "dict")) false ∧ R (.ok (.ret .notImplemented)) s) :=
  .of_wp fun A R s h => by
    obtain ⟨hp, g, d, tk, os⟩ := s
    obtain ⟨hl, hx, hs, h⟩ := h
    show wpAny _ _ (Builtin.Dict.dictSlotArgs "__eq__" ⟨[.ref l, .ref x], []⟩ >>= _) _ _ _
    refine wpAny_bind ?_
    unfold Builtin.Dict.dictSlotArgs
    refine wpAny_bind (wpAny_notOrdered_dict hl ?_)
    show wpAny _ _ (pure (Value.ref l, Value.ref x)) _ _ _
    refine wpAny_pure ?_
    refine wpAny_bind (isInst_not hx hs ?_)
    simp only [Bool.not_false, if_true]
    wp_walk
    exact ⟨_, rfl, h⟩
theorem eq_oth2 {pins : List (Addr × Obj)} {σ : St} {H : Hp} {s : Shared} {p dx : Addr} {fs : List (Str × V)} {v : V} {u : Value} {E : Value → Shared → Prop} (c : OwnEq X.K C N f) (ap : Apart2 X.K C) (F : FnOk X.prog X.w X.K X.mg X.base CX0 k f fd ps sp) (hr : Room (k + 1) X.A) (hb : Binds X.K fd ps [])
    (I : Inv X pins σ H s) (hp : H p = some (.ins C dx fs)) (ho : Oth2 X.K H v) (r : RelV v u) (w : sp [.ref p, v] H (fun r H2 => r = .bl false ∧ H2 = H) E0) :
    wpAny (model X.prog X.w) X.A.in1 (eqBool u (.ref p)) (fun b s' => b = false ∧ Inv X pins σ H s') E s := by
  rcases ho with ho | ho
  · exact eq_oth c ap.ap F hr hb I hp ho r w
  obtain ⟨mA, O, _⟩ := ins_get I.hok hp
  have p1 := O.obj
  have r2 : Vals [V.ref p, v] [Value.ref p, u] := .cons rfl (.cons r .nil)
  have hl : ([Value.ref p, u] ++ []).length = ps.length := by
    rw [List.append_nil, ← r2.length]; exact F.len _ _ _ _ w
  have bnd := hb s [.ref p, u] I.kIn hl
  rw [List.append_nil] at bnd
  have go := F.run X.A.in1 X.stack s H ⟨[.ref p, u], []⟩ [.ref p, u] [.ref p, v] _ E0 hr.in1 I.env0.in1 bnd r2 w
  have hu := hu_of hr
  have fin : wpAny (model X.prog X.w) X.A.in1 (call (.ref f) [.ref p, u]) (fun v s' => ∃ b, v = .bool b ∧ (∃ b', Value.bool b = .bool b' ∧ b' = false ∧ Inv X pins σ H s')) E s := wpAny_call (codeAny_mono go fun r s' z => by
    cases r with
    | error e => exact z.elim
    | ok fl =>
      cases fl with
      | ret u =>
        obtain ⟨x, H2, I2, r, e, e2⟩ := I.after z
        subst e
        subst e2
        exact ⟨false, r, false, rfl, rfl, I2⟩
      | next => exact False.elim z
      | brk => exact False.elim z
      | cont => exact False.elim z)
  have own := c.at_ I.kIn p1 rfl
  have sub : ∀ {T : String}, PySem.W.mroIn X.K C (.type T) = some false → PySem.W.Looks (model X.prog X.w) s.heap (isSubtype (.ref C) (.type T)) false := fun e => PySem.W.looks_mroIn I.kIn e
  rcases ho with ⟨i, rfl⟩ | ⟨l, kvs, rfl, hl'⟩
  · obtain ⟨tk, e⟩ := (show ∃ t, u = Value.int i t from r)
    subst e
    obtain ⟨hh, g, d, t, os⟩ := s
    exact eqBool_own_right rfl (rc_own_right (Ta := "int") rfl (sub ap.int) PySem.F.slot_int_eq (fun Q' q => call_meets PySem.F.slot_int_eq rfl PySem.F.entry_int_eq (PySem.F.args_int_eq_2 _ _) (int_decl_ins2 i tk p C dx) ⟨p1, q⟩) own.ownEq (hu) fin)
  · obtain rfl : u = Value.ref l := r
    obtain ⟨_, _, vs, _, dd⟩ := dk_of I.hok hl'
    have ne : (Value.ref l == Value.ref p) = false := by
      have : l ≠ p := fun z => by subst z; rw [hp] at hl'; cases hl'
      simpa using this
    have tt := dd.typeIs
    obtain ⟨hh, g, d, t, os⟩ := s
    exact eqBool_own_right ne (rc_own_right (Ta := "dict") tt (sub ap.dict) PySem.F.slot_dict_eq (fun Q' q => call_meetsIn PySem.F.slot_dict_eq tt PySem.F.entry_dict_eq (PySem.F.args_dict_eq_2 _ _) (dict_decl_ins l p C dx) ⟨tt, p1, sub ap.dict, q⟩) own.ownEq (hu) fin)
def rInOwn2 (K : PySem.W.Frag) (C : Addr) (sp : Sp) : R2 := fun x y H Q => ∃ p l dx fs vs, x = .ref p ∧ y = .ref l ∧ H p = some (.ins C dx fs) ∧ H l = some (.lst vs) ∧ (∀ v ∈ vs, Oth2 K H v ∧ sp [.ref p, v] H (fun r H2 => r = .bl false ∧ H2 = H) E0) ∧ Q (.bl false) H
theorem op_inOwn2 (c : OwnEq X.K C N f) (ap : Apart2 X.K C) (F : FnOk X.prog X.w X.K X.mg X.base CX0 k f fd ps sp) (hr : Room (k + 1) X.A) (hb : Binds X.K fd ps []) : OpR X (compareOp .In) (rInOwn2 X.K C sp) := by
  intro pins s σ H x y v u Q I rx ry h
  obtain ⟨p, l, dx, fs, vs, rfl, rfl, hp, hl, ha, q⟩ := h
  obtain rfl : v = Value.ref p := rx
  obtain rfl : u = Value.ref l := ry
  obtain ⟨its, r, ⟨⟨cc, dd, da, sl⟩, n, e, hc, hd0, hd⟩, _⟩ := I.list (SqL.of hl)
  simp only at hc hd
  subst hc hd
  refine PyProof.Rows.In_slot ⟨_, e, rfl⟩ PySem.F.slot_list_contains ?_
  refine call_meetsIn (S := fun A R s => A = X.A ∧ Inv X pins σ H s ∧ (∀ e s', False → R (.error e) s') ∧ ∀ s', Inv X pins σ H s' → R (.ok (.ret (.bool false))) s') PySem.F.slot_list_contains ⟨_, e, rfl⟩ PySem.F.entry_list_contains (PySem.F.args_list_contains_2 _ _) ?_ ⟨rfl, I, fun _ _ z => z.elim, fun s' I' => ?_⟩
  · intro A R s ⟨eA, I1, z1, z2⟩
    subst eA
    obtain ⟨its, r, ⟨⟨cc, dd, da, sl⟩, n, e, hc, hd0, hd⟩, _⟩ := I1.list (SqL.of hl)
    simp only at hc hd
    subst hc hd
    obtain ⟨hp', g', d', tk', os'⟩ := s
    wp_walk using wpAny_loadPart' e
    exact ⟨plainId_quiet MeetsSeq.plain_contains_loop _, codeAny_builtin MeetsSeq.entry_contains_loop (by
      rw [Around.under_plainId MeetsSeq.plain_contains_loop _]
      exact in_loop hl (fun v hv u s I2 rv => eq_oth2 c ap F hr hb I2 hp (ha v hv).1 rv (ha v hv).2) z2 _ 0 rfl _ I1)⟩
  · exact wpAny_truthy_bool ⟨.bl false, H, I', rfl, q⟩
end
end L2
set_option Elab.async false
set_option linter.all false
set_option maxRecDepth 100000
namespace L2
open PySem PySem.Spec PyProof.Rows
def Fit2 (i : Int) : Prop := i.natAbs < 2 ^ 1800
theorem Fit2.bits {i : Int} (h : Fit2 i) : Builtin.Int.intBits i ≤ 2 ^ 20 := Nat.le_trans (PyProof.Rows.intBits_le (k := 1800) h) (by decide)
end L2
set_option Elab.async false
set_option linter.all false
set_option maxRecDepth 100000
namespace L2
open PySem PySem.Spec PyProof.Rows
section
variable {X : Cx} {CX : CXT} {k : Nat} {f C : Addr} {fd : FuncData} {ps ks : List Str} {sp : Sp} {E : XK} {x m : Str} {p pos apos kpos : Pos} {kws : List Keyword} {tk : TA}
variable {g : List Value → List Value → List Value} {gV : List V → List V → List V}
theorem pe_makeK0 (M : Mk X.K C f) (F : FnOk X.prog X.w X.K X.mg X.base CX k f fd ps sp) (hr : Room (k + 1) X.A) (hg : Gl X x) (hm : X.mg x = some (.ref C)) (hb : KBinds X.K fd ps ks g gV) (hx : Passes CX X E)
    (hkw : PK X kws tk) (hall : (backToKw pos (keywordEach kws X.env)).all (·.1.isSome) = true := by rfl) (hks : (backToKw pos (keywordEach kws X.env)).filterMap (·.1) = ks := by rfl)
    (hdb : (x == ("__debug__" : Str)) = false := by decide)
    (hpl : ((backTo pos (starEach [] X.env)).any (·.1) || (backToKw pos (keywordEach kws X.env)).any (·.1.isNone)) = false := by rfl) :
    PE X (.Call (.Name x p) [] kws pos) (tMakeK C sp gV E (fun _ H q => q [] H) tk) := by
  constructor
  intro pins s σ H Q I h
  refine wpAny_Call_Name_kw (ld_glob I hg hm ?_ hdb)
  refine PySem.W.callWith_KW0 (h₀ := X.base) I.ok.mod.kin M.kp hall ?_ hpl
  refine thn (hkw pos pins s σ H _ I h) fun ws s2 ⟨zs, H2, I2, rz, q2⟩ => ⟨I2.kIn, ?_⟩
  rw [hks]
  exact run_makeK M F hr hb hx I2 .nil rz q2
end
end L2
set_option Elab.async false
set_option linter.all false
set_option maxRecDepth 100000
namespace L2
open PySem PySem.Spec PyProof.Rows
abbrev TM := St → Hp → (St → Hp → Prop) → Prop
structure PM (X : Cx) (code : Sem Unit) (em : TM) : Prop where
  run : ∀ (pins : List (Addr × Obj)) (s : Shared) (σ : St) (H : Hp) (N : St → Hp → Prop), Inv X pins σ H s → em σ H N → wpAny (model X.prog X.w) X.A code (fun _ s' => ∃ σ' H', Inv X pins σ' H' s' ∧ N σ' H') X.xe s
def turnOf (e : Expr) (dep : Nat) (target iter : Expr) (ifs : List Expr) (it acc : Value) (env : Env) (code : Sem Unit) : Sem Fin := do
  standAt iter.pos
  match ← pyNext it with
  | none => pure (.done .next)
  | some v =>
    letOwnedTupleGo target it v
    assign target env v
    let mut ok := true
    for c in ifs do
      if ok then ok ← isTrue c env (eval c env)
    if ok then code
    again (.compLoop e dep it acc env)
def NoX : Value → Shared → Prop := fun _ _ => False
theorem thnN {α : Type} {t : Sem α} {Q Q' : α → Shared → Prop} {M : Model} {A : Around} {E : Value → Shared → Prop} {s : Shared} (h : wpAny M A t Q NoX s) (hQ : ∀ a s, Q a s → Q' a s) : wpAny M A t Q' E s := wpAny_mono h hQ fun _ _ z => False.elim z
theorem comp_loop {prog : Program} {w : World} {A : Around} {R : Result → Shared → Prop} {s : Shared} {e target iter : Expr} {dep : Nat} {ifs : List Expr} {it acc : Value} {env : Env} {code : Sem Unit}
    (hE : compTurn e dep it acc env = turnOf e dep target iter ifs it acc env code) (hq : (Code.compLoop e dep it acc env).quiet = true) (hf : (Code.compLoop e dep it acc env).isFrame = false) (hA : A.under (Code.compLoop e dep it acc env) = A) (I : Nat → Shared → Prop)
    (turn : ∀ n s, I n s → wpAny (model prog w) A (pyNext it) (fun r s₁ => match r with
      | none => R (.ok .next) s₁
      | some v => wpAny (model prog w) A (letOwnedTupleGo target it v) (fun _ s₁' => wpAny (model prog w) A (assign target env v) (fun _ s₂ =>
          wpAny (model prog w) A (forIn ifs true fun c r => if r = true then do let ok ← isTrue c env (eval c env); pure (ForInStep.yield ok) else pure (ForInStep.yield r)) (fun ok s₃ =>
            if ok = true then wpAny (model prog w) A code (fun _ s₅ => ∃ m, m < n ∧ I m s₅) NoX s₃
            else ∃ m, m < n ∧ I m s₃) NoX s₂) NoX s₁') NoX s₁) NoX s)
    (n : Nat) (h : I n s) : codeAny (model prog w) A (.compLoop e dep it acc env) R s := by
  refine codeAny_loop hq I (fun n s hI => ?_) n h
  rw [hA]
  have hden : (model prog w).den (.compLoop e dep it acc env) = (compTurn e dep it acc env).onRaise (fun x => do noteFrame x env; theTreesLotGoes x) := by
    show (if (Code.compLoop e dep it acc env).isFrame then _ else _) = _
    rw [hf]; rfl
  rw [hden]
  refine wpAny_noted ?_
  rw [hE]
  unfold turnOf
  refine wpAny_bind (wpAny_standAt (wpAny_bind (thnN (turn n s hI) (fun r s₁ h₁ => ?_))))
  cases r with
  | none => exact wpAny_pure h₁
  | some v =>
    refine wpAny_bind (thnN h₁ fun _ s₁' h₁' => ?_)
    refine wpAny_bind (thnN h₁' fun _ s₂ h₂ => wpAny_bind (thnN h₂ fun ok s₃ h₃ => ?_))
    cases ok with
    | false => exact wpAny_pure ⟨rfl, h₃⟩
    | true => exact wpAny_bind (thnN h₃ fun _ s₅ h₅ => wpAny_pure ⟨rfl, h₅⟩)
section
variable {X : Cx}
end
end L2
set_option Elab.async false
set_option linter.all false
set_option maxRecDepth 100000
namespace L2
open PySem PySem.Spec PyProof.Rows
section
variable {prog : Program} {w : World} {A : Around} {E : Value → Shared → Prop} {s : Shared}
theorem nextOf_ascii_item {it : Addr} {x : Str} {t : Tok} {i c : Nat} {Q : Value → Shared → Prop} (hit : s.heap.IsStrIter it "str_ascii_iterator" x t i) (hx : x.cps[i]? = some c)
    (hQ : ∀ h', h'.IsStrIter it "str_ascii_iterator" x t (i + 1) → Heap.SameBut it s.heap h' → Q (.str ⟨#[c]⟩ s.toks) { s with heap := h', toks := s.toks + 1 }) :
    wpAny (model prog w) A (Builtin.SmallTypes.nextOf (.ref it)) Q E s := by
  obtain ⟨o, ho, hc, hd⟩ := id hit
  unfold Builtin.SmallTypes.nextOf
  refine wpAny_bind (wpAny_callSpecial?_slot (name := Str.ofString "__next__") hit.typeIs F.slot_str_ascii_iterator_next
    (wpAny_call_entry F.slot_str_ascii_iterator_next hit.typeIs F.entry_str_ascii_iterator_next ?_ (F.args_str_ascii_iterator_next_1 _)))
  show wpAny _ _ (field (.ref it) 0 >>= _) _ _ s
  refine wpAny_bind (wpAny_field ho hd (x := .str x t) rfl ?_)
  show wpAny _ _ (field (.ref it) 1 >>= _) _ _ s
  refine wpAny_bind (wpAny_field ho hd (x := .int i 0) rfl ?_)
  simp only [Int.toNat_natCast, hx]
  refine wpAny_bind (wpAny_setField ho hd (by simp) (wpAny_bind (wpAny_mkStr (wpAny_pure ⟨_, rfl, wpAny_pure (hQ _ ?_ (Heap.SameBut.update ..))⟩) (by show 1 ≤ sizeLine; decide))))
  exact ⟨_, Heap.get?_update_self _ ho (Obj.isFreed_of_fields (Obj.data_mapFields hd _)), (Obj.cls_mapFields ..).trans hc, by
    rw [Obj.data_mapFields hd]; simp [rawInt]⟩
theorem nextOf_ascii_end {it : Addr} {x : Str} {t : Tok} {i : Nat} {Q : Value → Shared → Prop} (hh : A.handled = none)
    (hit : s.heap.IsStrIter it "str_ascii_iterator" x t i) (hx : x.cps[i]? = none)
    (hE : ∀ h' e, Heap.ExtBut it s.heap h' → (∃ o, h'.get? e = some o ∧ o.cls = .type "StopIteration") → E (.ref e) { s with heap := h' }) :
    wpAny (model prog w) A (Builtin.SmallTypes.nextOf (.ref it)) Q E s := by
  obtain ⟨o, ho, hc, hd⟩ := id hit
  unfold Builtin.SmallTypes.nextOf
  refine wpAny_bind (wpAny_callSpecial?_slot (name := Str.ofString "__next__") hit.typeIs F.slot_str_ascii_iterator_next
    (wpAny_call_entry F.slot_str_ascii_iterator_next hit.typeIs F.entry_str_ascii_iterator_next ?_ (F.args_str_ascii_iterator_next_1 _)))
  show wpAny _ _ (field (.ref it) 0 >>= _) _ _ s
  refine wpAny_bind (wpAny_field ho hd (x := .str x t) rfl ?_)
  show wpAny _ _ (field (.ref it) 1 >>= _) _ _ s
  refine wpAny_bind (wpAny_field ho hd (x := .int i 0) rfl ?_)
  simp only [Int.toNat_natCast, hx]
  refine wpAny_bind (wpAny_rule (wpAny_bind (wpAny_setField ho hd (by simp) (wpAny_bind (wpAny_letGo ?_)))))
  show wpAny _ _ (newExc (.type "StopIteration") [] >>= _) _ _ _
  refine wpAny_bind ?_
  simp only [newExc, newTuple]
  refine wpAny_bind (wpAny_newObj_type ?_ (by size_fits))
  refine wpAny_bind (m := firstArgMember _ _) (wpAny_of_eq (a := Value.none) (by first | rfl | (simp only [firstArgMember]; rfl)) ?_)
  refine wpAny_newObj_type ?_ (by size_fits)
  simp only [raiseNew]
  refine wpAny_bind (wpAny_handled ?_)
  first | rw [show A.in1.handled = none from hh] | rw [hh]
  refine wpAny_bind (wpAny_pure (wpAny_throw ?_))
  exact hE _ _ (((Heap.SameBut.update ..).extBut.push _).push _) ⟨_, Heap.get?_push_size _ rfl, rfl⟩
theorem si_ext {it b : Addr} {ty : String} {x : Str} {t : Tok} {i : Nat} {h h' : Heap} (st : h.IsStrIter it ty x t i) (e : Heap.ExtBut b h h') (n : it ≠ b) : h'.IsStrIter it ty x t i := let ⟨o, ho, r⟩ := st; ⟨o, e it o n ho, r⟩
theorem si_at {it : Addr} {ty : String} {x : Str} {t : Tok} {i : Nat} {h h' : Heap} (st : h.IsStrIter it ty x t i) (e : ∀ o, h.get? it = some o → h'.get? it = some o) : h'.IsStrIter it ty x t i := let ⟨o, ho, r⟩ := st; ⟨o, e o ho, r⟩
structure ZA (z TI TO i1 i2 : Addr) : Prop where
  TIz : TI ≠ z
  TOz : TO ≠ z
  i1z : i1 ≠ z
  i2z : i2 ≠ z
  TITO : TI ≠ TO
  TIi1 : TI ≠ i1
  TIi2 : TI ≠ i2
  TOi1 : TO ≠ i1
  TOi2 : TO ≠ i2
  i12 : i1 ≠ i2
theorem za_new (n : Nat) : ZA (n + 4) (n + 2) (n + 3) n (n + 1) := by
  constructor <;> (show (_ : Nat) ≠ _; omega)
abbrev ASC : String := "str_ascii_iterator"
theorem zipS_next_item {z TI TO i1 i2 : Addr} {k1 k2 : Nat} {xs ys : Str} {t1 t2 : Tok} {x y : Nat} {a b : Value} {Q : Value → Shared → Prop} (D : ZA z TI TO i1 i2)
    (hz : IsZip s.heap z TI TO .none) (hTI : IsPair s.heap TI (.ref i1) (.ref i2)) (hTO : IsPair s.heap TO a b)
    (h1 : s.heap.IsStrIter i1 ASC xs t1 k1) (h2 : s.heap.IsStrIter i2 ASC ys t2 k2) (hx : xs.cps[k1]? = some x) (hy : ys.cps[k2]? = some y)
    (hQ : ∀ h' u1 u2 tk, IsZip h' z TI TO (rawInt s.heap.objs.size) → IsPair h' TO (.str ⟨#[x]⟩ u1) (.str ⟨#[y]⟩ u2) → h'.IsStrIter i1 ASC xs t1 (k1 + 1) → h'.IsStrIter i2 ASC ys t2 (k2 + 1) → IsPair h' s.heap.objs.size (.str ⟨#[x]⟩ u1) (.str ⟨#[y]⟩ u2) → h'.objs.size = s.heap.objs.size + 1 →
      (∀ c o, c ≠ z → c ≠ TO → c ≠ i1 → c ≠ i2 → s.heap.get? c = some o → h'.get? c = some o) → Q (.ref s.heap.objs.size) { s with heap := h', toks := tk }) :
    wpAny (model prog w) A (Builtin.«zip.__next__» ⟨[.ref z], []⟩) (fun fin s' => ∃ v, fin = .done (.ret v) ∧ Q v s') E s := by
  show wpAny _ _ (field (.ref z) 2 >>= _) _ _ _
  refine wpAny_bind (wpAny_field hz rfl (x := .bool false) rfl ?_)
  show wpAny _ _ (field (.ref z) 3 >>= _) _ _ _
  refine wpAny_bind (wpAny_field hz rfl (x := .ref TI) rfl ?_)
  refine wpAny_bind (wpAny_seqItems hTI rfl ?_)
  show wpAny _ _ (Builtin.SmallTypes.ownedTupleIsFree (.ref z) >>= _) _ _ _
  refine wpAny_bind ?_
  unfold Builtin.SmallTypes.ownedTupleIsFree
  refine wpAny_bind (wpAny_field hz rfl (x := .none) rfl (wpAny_pure ?_))
  simp only [if_true]
  refine wpAny_bind (wpAny_rule ?_)
  refine wpAny_bind (wpAny_field hz rfl (x := .ref TO) rfl ?_)
  refine wpAny_bind (wpAny_setField_rec hz (by simp) fun h₁ hz₁ hs₁ => ?_)
  replace hz₁ : IsZip h₁ z TI TO .ellipsis := hz₁
  refine wpAny_bind ?_
  simp only [List.zipIdx_cons, List.zipIdx_nil, List.forIn_cons, List.forIn_nil]
  refine wpAny_bind (wpAny_bind (wpAny_onRaise ?_))
  show wpAny _ _ (Builtin.SmallTypes.nextOf (.ref i1) >>= _) _ _ _
  refine wpAny_bind (nextOf_ascii_item (si_ext h1 hs₁.extBut D.i1z) hx fun h₂ h1₂ hs₂ => wpAny_pure ?_)
  have hTO₂ : IsPair h₂ TO a b := hs₂.extBut _ _ D.TOi1 (hs₁.extBut _ _ D.TOz hTO)
  refine wpAny_bind (wpAny_seqItems hTO₂ rfl ?_)
  refine wpAny_bind (wpAny_updateSeq_pair hTO₂ fun h₃ hTO₃ hs₃ => ?_)
  replace hTO₃ : IsPair h₃ TO (.str ⟨#[x]⟩ _) b := hTO₃
  refine wpAny_bind (wpAny_letGo (wpAny_pure ?_))
  refine wpAny_bind (wpAny_bind (wpAny_onRaise ?_))
  show wpAny _ _ (Builtin.SmallTypes.nextOf (.ref i2) >>= _) _ _ _
  refine wpAny_bind (nextOf_ascii_item (si_ext (si_ext (si_ext h2 hs₁.extBut D.i2z) hs₂.extBut D.i12.symm) hs₃.extBut D.TOi2.symm) hy fun h₄ h2₄ hs₄ => wpAny_pure ?_)
  have hTO₄ : IsPair h₄ TO (.str ⟨#[x]⟩ _) b := hs₄.extBut _ _ D.TOi2 hTO₃
  refine wpAny_bind (wpAny_seqItems hTO₄ rfl ?_)
  refine wpAny_bind (wpAny_updateSeq_pair hTO₄ fun h₅ hTO₅ hs₅ => ?_)
  replace hTO₅ : IsPair h₅ TO (.str ⟨#[x]⟩ _) (.str ⟨#[y]⟩ _) := hTO₅
  refine wpAny_bind (wpAny_letGo (wpAny_pure (wpAny_pure ?_)))
  refine wpAny_bind (wpAny_seqItems hTO₅ rfl ?_)
  refine wpAny_bind (wpAny_newTuple ?_)
  have hsz : h₅.objs.size = s.heap.objs.size := by rw [hs₅.1, hs₄.1, hs₃.1, hs₂.1, hs₁.1]
  have hz₅ : IsZip h₅ z TI TO .ellipsis := hs₅.extBut _ _ D.TOz.symm (hs₄.extBut _ _ D.i2z.symm (hs₃.extBut _ _ D.TOz.symm (hs₂.extBut _ _ D.i1z.symm hz₁)))
  have hk₅ : ∀ c o, c ≠ z → c ≠ TO → c ≠ i1 → c ≠ i2 → s.heap.get? c = some o → h₅.get? c = some o := fun c o c1 c2 c3 c4 e =>
    hs₅.extBut _ _ c2 (hs₄.extBut _ _ c4 (hs₃.extBut _ _ c2 (hs₂.extBut _ _ c3 (hs₁.extBut _ _ c1 e))))
  have h1₅ : h₅.IsStrIter i1 ASC xs t1 (k1 + 1) := si_ext (si_ext (si_ext h1₂ hs₃.extBut D.TOi1.symm) hs₄.extBut D.i12) hs₅.extBut D.TOi1.symm
  have h2₅ : h₅.IsStrIter i2 ASC ys t2 (k2 + 1) := si_ext h2₄ hs₅.extBut D.TOi2.symm
  have hzlt : z < h₅.objs.size := Heap.lt_size hz₅
  show wpAny _ _ (Builtin.SmallTypes.ownedTupleHandOut (.ref z) (.ref h₅.objs.size) >>= _) _ _ _
  refine wpAny_bind ?_
  unfold Builtin.SmallTypes.ownedTupleHandOut
  have hz₆ : IsZip (h₅.push { cls := .type "tuple", data := .seq #[.str ⟨#[x]⟩ s.toks, .str ⟨#[y]⟩ (s.toks + 1)] }) z TI TO .ellipsis := Heap.get?_push_of_some _ hz₅
  refine wpAny_bind (wpAny_setField_rec hz₆ (by simp) fun h₇ hz₇ hs₇ => ?_)
  replace hz₇ : IsZip h₇ z TI TO (rawInt h₅.objs.size) := hz₇
  refine wpAny_setField_rec hz₇ (by simp) fun h₈ hz₈ hs₈ => ?_
  replace hz₈ : IsZip h₈ z TI TO (rawInt h₅.objs.size) := hz₈
  have up : ∀ c o, c ≠ z → h₅.get? c = some o → h₈.get? c = some o := fun c o c1 e => hs₈.extBut _ _ c1 (hs₇.extBut _ _ c1 (Heap.get?_push_of_some _ e))
  have hT₈ : IsPair h₈ h₅.objs.size (.str ⟨#[x]⟩ s.toks) (.str ⟨#[y]⟩ (s.toks + 1)) := hs₈.extBut _ _ (Nat.ne_of_gt hzlt) (hs₇.extBut _ _ (Nat.ne_of_gt hzlt) (Heap.get?_push_size _ rfl))
  have hz8 : h₈.objs.size = h₅.objs.size + 1 := by rw [hs₈.1, hs₇.1, Heap.size_push]
  rw [hsz] at hz₈ hT₈ hz8
  refine wpAny_pure ⟨_, rfl, ?_⟩
  show Q (.ref h₅.objs.size) _
  rw [hsz]
  exact hQ h₈ _ _ _ hz₈ (up _ _ D.TOz hTO₅) (si_at h1₅ fun o e => up _ o D.i1z e) (si_at h2₅ fun o e => up _ o D.i2z e) hT₈ hz8 fun c o c1 c2 c3 c4 e => up c o c1 (hk₅ c o c1 c2 c3 c4 e)
theorem zipS_next_end {z TI TO i1 i2 : Addr} {k1 k2 : Nat} {xs ys : Str} {t1 t2 : Tok} {a b : Value} {Q : Fin → Shared → Prop} (hh : A.handled = none) (D : ZA z TI TO i1 i2)
    (hz : IsZip s.heap z TI TO .none) (hTI : IsPair s.heap TI (.ref i1) (.ref i2)) (hTO : IsPair s.heap TO a b)
    (h1 : s.heap.IsStrIter i1 ASC xs t1 k1) (h2 : s.heap.IsStrIter i2 ASC ys t2 k2) (hend : xs.cps[k1]? = none ∨ ys.cps[k2]? = none)
    (hE : ∀ h' e tk, (∀ c o, c ≠ z → c ≠ TO → c ≠ i1 → c ≠ i2 → s.heap.get? c = some o → h'.get? c = some o) → (∃ o, h'.get? e = some o ∧ o.cls = .type "StopIteration") → E (.ref e) { s with heap := h', toks := tk }) :
    wpAny (model prog w) A (Builtin.«zip.__next__» ⟨[.ref z], []⟩) Q E s := by
  show wpAny _ _ (field (.ref z) 2 >>= _) _ _ _
  refine wpAny_bind (wpAny_field hz rfl (x := .bool false) rfl ?_)
  show wpAny _ _ (field (.ref z) 3 >>= _) _ _ _
  refine wpAny_bind (wpAny_field hz rfl (x := .ref TI) rfl ?_)
  refine wpAny_bind (wpAny_seqItems hTI rfl ?_)
  show wpAny _ _ (Builtin.SmallTypes.ownedTupleIsFree (.ref z) >>= _) _ _ _
  refine wpAny_bind ?_
  unfold Builtin.SmallTypes.ownedTupleIsFree
  refine wpAny_bind (wpAny_field hz rfl (x := .none) rfl (wpAny_pure ?_))
  simp only [if_true]
  refine wpAny_bind (wpAny_rule ?_)
  refine wpAny_bind (wpAny_field hz rfl (x := .ref TO) rfl ?_)
  refine wpAny_bind (wpAny_setField_rec hz (by simp) fun h₁ hz₁ hs₁ => ?_)
  replace hz₁ : IsZip h₁ z TI TO .ellipsis := hz₁
  refine wpAny_bind ?_
  simp only [List.zipIdx_cons, List.zipIdx_nil, List.forIn_cons, List.forIn_nil]
  refine wpAny_bind (wpAny_bind (wpAny_onRaise ?_))
  show wpAny _ _ (Builtin.SmallTypes.nextOf (.ref i1) >>= _) _ _ _
  cases hx : xs.cps[k1]? with
  | none =>
    refine wpAny_bind (nextOf_ascii_end hh (si_ext h1 hs₁.extBut D.i1z) hx fun h₂ e hs₂ he => ?_)
    obtain ⟨oe, hoe, hce⟩ := he
    have hz₂ : IsZip h₂ z TI TO .ellipsis := hs₂ _ _ D.i1z.symm hz₁
    have hez : e ≠ z := fun x => by subst x; rw [hz₂] at hoe; cases hoe; simp at hce
    refine wpAny_setField_rec hz₂ (by simp) fun h₃ _ hs₃ => hE h₃ e _ (fun c o c1 _ c3 _ x => hs₃.extBut _ _ c1 (hs₂ _ _ c3 (hs₁.extBut _ _ c1 x))) ⟨oe, hs₃.extBut _ _ hez hoe, hce⟩
  | some x =>
    have hy : ys.cps[k2]? = none := by rcases hend with h | h; rw [hx] at h; cases h; exact h
    refine wpAny_bind (nextOf_ascii_item (si_ext h1 hs₁.extBut D.i1z) hx fun h₂ h1₂ hs₂ => wpAny_pure ?_)
    have hTO₂ : IsPair h₂ TO a b := hs₂.extBut _ _ D.TOi1 (hs₁.extBut _ _ D.TOz hTO)
    refine wpAny_bind (wpAny_seqItems hTO₂ rfl ?_)
    refine wpAny_bind (wpAny_updateSeq_pair hTO₂ fun h₃ hTO₃ hs₃ => ?_)
    refine wpAny_bind (wpAny_letGo (wpAny_pure ?_))
    refine wpAny_bind (wpAny_bind (wpAny_onRaise ?_))
    show wpAny _ _ (Builtin.SmallTypes.nextOf (.ref i2) >>= _) _ _ _
    refine wpAny_bind (nextOf_ascii_end hh (si_ext (si_ext (si_ext h2 hs₁.extBut D.i2z) hs₂.extBut D.i12.symm) hs₃.extBut D.TOi2.symm) hy fun h₄ e hs₄ he => ?_)
    obtain ⟨oe, hoe, hce⟩ := he
    have hz₄ : IsZip h₄ z TI TO .ellipsis := hs₄ _ _ D.i2z.symm (hs₃.extBut _ _ D.TOz.symm (hs₂.extBut _ _ D.i1z.symm hz₁))
    have hez : e ≠ z := fun x => by subst x; rw [hz₄] at hoe; cases hoe; simp at hce
    refine wpAny_setField_rec hz₄ (by simp) fun h₅ _ hs₅ => hE h₅ e _ (fun c o c1 c2 c3 c4 x => hs₅.extBut _ _ c1 (hs₄ _ _ c4 (hs₃.extBut _ _ c2 (hs₂.extBut _ _ c3 (hs₁.extBut _ _ c1 x))))) ⟨oe, hs₅.extBut _ _ hez hoe, hce⟩
theorem pyNext_zipS_item {z TI TO i1 i2 : Addr} {k1 k2 : Nat} {xs ys : Str} {t1 t2 : Tok} {x y : Nat} {a b : Value} {Q : Option Value → Shared → Prop} (D : ZA z TI TO i1 i2)
    (hz : IsZip s.heap z TI TO .none) (hTI : IsPair s.heap TI (.ref i1) (.ref i2)) (hTO : IsPair s.heap TO a b)
    (h1 : s.heap.IsStrIter i1 ASC xs t1 k1) (h2 : s.heap.IsStrIter i2 ASC ys t2 k2) (hx : xs.cps[k1]? = some x) (hy : ys.cps[k2]? = some y)
    (hQ : ∀ h' u1 u2 tk, IsZip h' z TI TO (rawInt s.heap.objs.size) → IsPair h' TO (.str ⟨#[x]⟩ u1) (.str ⟨#[y]⟩ u2) → h'.IsStrIter i1 ASC xs t1 (k1 + 1) → h'.IsStrIter i2 ASC ys t2 (k2 + 1) → IsPair h' s.heap.objs.size (.str ⟨#[x]⟩ u1) (.str ⟨#[y]⟩ u2) → h'.objs.size = s.heap.objs.size + 1 →
      (∀ c o, c ≠ z → c ≠ TO → c ≠ i1 → c ≠ i2 → s.heap.get? c = some o → h'.get? c = some o) → Q (some (.ref s.heap.objs.size)) { s with heap := h', toks := tk }) :
    wpAny (model prog w) A (pyNext (.ref z)) Q E s := by
  have hT : s.TypeIs (.ref z) "zip" := ⟨_, hz, rfl⟩
  unfold pyNext
  exact wpAny_bind (wpAny_attempt (wpAny_callSpecial?_slot (name := Str.ofString "__next__") hT F.slot_zip_next
    (wpAny_call_entry F.slot_zip_next hT F.entry_zip_next
      (zipS_next_item D hz hTI hTO h1 h2 hx hy fun h' u1 u2 tk a1 a2 a3 a4 a5 a6 a7 => wpAny_pure (hQ h' u1 u2 tk a1 a2 a3 a4 a5 a6 a7)) (F.args_zip_next_1 _))))
theorem pyNext_zipS_end {z TI TO i1 i2 : Addr} {k1 k2 : Nat} {xs ys : Str} {t1 t2 : Tok} {a b : Value} {Q : Option Value → Shared → Prop} (hh : A.handled = none) (D : ZA z TI TO i1 i2)
    (hz : IsZip s.heap z TI TO .none) (hTI : IsPair s.heap TI (.ref i1) (.ref i2)) (hTO : IsPair s.heap TO a b)
    (h1 : s.heap.IsStrIter i1 ASC xs t1 k1) (h2 : s.heap.IsStrIter i2 ASC ys t2 k2) (hend : xs.cps[k1]? = none ∨ ys.cps[k2]? = none)
    (hQ : ∀ h' tk, (∀ c o, c ≠ z → c ≠ TO → c ≠ i1 → c ≠ i2 → s.heap.get? c = some o → h'.get? c = some o) → Q none { s with heap := h', toks := tk }) : wpAny (model prog w) A (pyNext (.ref z)) Q E s := by
  have hT : s.TypeIs (.ref z) "zip" := ⟨_, hz, rfl⟩
  unfold pyNext
  refine wpAny_bind (wpAny_attempt (wpAny_callSpecial?_slot (name := Str.ofString "__next__") hT F.slot_zip_next
    (wpAny_call_entry F.slot_zip_next hT F.entry_zip_next (zipS_next_end hh D hz hTI hTO h1 h2 hend fun h' e tk hk he => ?_) (F.args_zip_next_1 _))))
  obtain ⟨o, ho, hc⟩ := he
  refine wpAny_bind (wpAny_isInstance (T := "StopIteration") (b := true) ⟨o, ho, hc⟩ isSubtype_stop ?_)
  exact wpAny_pure (hQ _ _ hk)
end
abbrev zS1 (h : Heap) (x : Str) (t : Tok) : Heap := h.push { cls := .type "str_ascii_iterator", data := .fields #[.str x t, .int 0 0] }
abbrev zS2 (h : Heap) (x y : Str) (t u : Tok) : Heap := (zS1 h x t).push { cls := .type "str_ascii_iterator", data := .fields #[.str y u, .int 0 0] }
abbrev zS3 (h : Heap) (x y : Str) (t u : Tok) : Heap := (zS2 h x y t u).push { cls := .type "tuple", data := .seq #[.ref h.objs.size, .ref (zS1 h x t).objs.size] }
abbrev zS4 (h : Heap) (x y : Str) (t u : Tok) : Heap := (zS3 h x y t u).push { cls := .type "tuple", data := .seq #[.none, .none] }
abbrev zS5 (h : Heap) (x y : Str) (t u : Tok) : Heap := (zS4 h x y t u).push { cls := .type "zip", data := .fields #[.none, .bool false, .bool false, .ref (zS2 h x y t u).objs.size, .ref (zS3 h x y t u).objs.size] }
set_option maxHeartbeats 4000000 in
theorem meets_zipS_new (x y : Str) (t u : Tok) (hx : x.cps.all (· < 128) = true) (hy : y.cps.all (· < 128) = true) :
    Meets (Builtin.«zip.__new__» ⟨[.type "zip", .str x t, .str y u], []⟩) (fun _ R s => 
      R (.ok (.ret (.ref (zS4 s.heap x y t u).objs.size))) { s with heap := zS5 s.heap x y t u }) :=
  .of_wp fun prog w A R s h => by
    obtain ⟨hp, g, d, tk, os⟩ := s
    have hsub := sub_zip
    wp_walk using wpAny_pyIter_ascii hx, wpAny_pyIter_ascii hy
    exact ⟨_, rfl, h⟩
section
variable {prog : Program} {w : World} {A : Around} {E : Value → Shared → Prop} {s : Shared}
theorem call_zipS {x y : Str} {t u : Tok} {Q : Value → Shared → Prop} (hx : x.cps.all (· < 128) = true) (hy : y.cps.all (· < 128) = true)
    (h : ∀ h', IsZip h' (s.heap.objs.size + 4) (s.heap.objs.size + 2) (s.heap.objs.size + 3) .none → IsPair h' (s.heap.objs.size + 2) (.ref s.heap.objs.size) (.ref (s.heap.objs.size + 1)) →
      IsPair h' (s.heap.objs.size + 3) .none .none → h'.IsStrIter s.heap.objs.size ASC x t 0 → h'.IsStrIter (s.heap.objs.size + 1) ASC y u 0 → h'.objs.size = s.heap.objs.size + 5 →
      (∀ c o, s.heap.get? c = some o → h'.get? c = some o) → Q (.ref (s.heap.objs.size + 4)) { s with heap := h' }) :
    wpAny (model prog w) A (call (.type "zip") [.str x t, .str y u]) Q E s := by
  refine callType_new F.called_zip (by decide) (F.typeCall_zip_2 _ _) (F.newCall_zip_2 _ _) (fun obj => F.args_object_init_3 obj _ _) F.entry_zip_new
    (meets_zipS_new x y t u hx hy) ?_
  have z1 : (zS1 s.heap x t).objs.size = s.heap.objs.size + 1 := Heap.size_push ..
  have z2 : (zS2 s.heap x y t u).objs.size = s.heap.objs.size + 2 := by rw [Heap.size_push, z1]
  have z3 : (zS3 s.heap x y t u).objs.size = s.heap.objs.size + 3 := by rw [Heap.size_push, z2]
  have z4 : (zS4 s.heap x y t u).objs.size = s.heap.objs.size + 4 := by rw [Heap.size_push, z3]
  have z5 : (zS5 s.heap x y t u).objs.size = s.heap.objs.size + 5 := by rw [Heap.size_push, z4]
  have g5 : (zS5 s.heap x y t u).get? (zS4 s.heap x y t u).objs.size = some _ := Heap.get?_push_size _ rfl
  have g4 : (zS5 s.heap x y t u).get? (zS3 s.heap x y t u).objs.size = some _ := Heap.get?_push_of_some _ (Heap.get?_push_size _ rfl)
  have g3 : (zS5 s.heap x y t u).get? (zS2 s.heap x y t u).objs.size = some _ := Heap.get?_push_of_some _ (Heap.get?_push_of_some _ (Heap.get?_push_size _ rfl))
  have g2 : (zS5 s.heap x y t u).get? (zS1 s.heap x t).objs.size = some _ := Heap.get?_push_of_some _ (Heap.get?_push_of_some _ (Heap.get?_push_of_some _ (Heap.get?_push_size _ rfl)))
  have g1 : (zS5 s.heap x y t u).get? s.heap.objs.size = some _ := Heap.get?_push_of_some _ (Heap.get?_push_of_some _ (Heap.get?_push_of_some _ (Heap.get?_push_of_some _ (Heap.get?_push_size _ rfl))))
  show _ ∧ _
  rw [z2, z3, z4] at g5
  rw [z1, z2] at g3
  rw [z3] at g4
  rw [z1] at g2
  rw [z4]
  exact ⟨⟨_, g5, rfl⟩, h _ g5 g3 g4 ⟨_, g1, rfl, rfl⟩ ⟨_, g2, rfl, rfl⟩ z5 fun c o x =>
    Heap.get?_push_of_some _ (Heap.get?_push_of_some _ (Heap.get?_push_of_some _ (Heap.get?_push_of_some _ (Heap.get?_push_of_some _ x))))⟩
end
def ItzS (x y : Str) : It :=
  ⟨fun i _ => i < x.cps.size ∧ i < y.cps.size,
    fun i H v H' => ∃ T c d, v = .ref T ∧ H T = none ∧ H' = upd H T (.tup [.str ⟨#[c]⟩, .str ⟨#[d]⟩]) ∧ x.cps[i]? = some c ∧ y.cps[i]? = some d,
    fun i _ => x.cps.size ≤ i ∨ y.cps.size ≤ i⟩
theorem turn_zipS {P : Program} {w : World} {K : PySem.W.Frag} {elts : List Expr} {kk : Nat} {tpos : Pos} {x y : Str} {t u : Tok} {z TI TO i1 i2 : Addr} (D : ZA z TI TO i1 i2) :
    Turn P w K (.Tuple elts kk tpos) (ItzS x y) [z, TI, TO, i1, i2] z (fun i h => IsZip h z TI TO .none ∧ IsPair h TI (.ref i1) (.ref i2) ∧ (∃ x y, IsPair h TO x y) ∧ h.IsStrIter i1 ASC x t i ∧ h.IsStrIter i2 ASC y u i) where
  mem := by simp
  obj := fun i h st c hc => by
    obtain ⟨hz, hTI, ⟨x, y, hTO⟩, ⟨o1, e1, _, d1⟩, ⟨o2, e2, _, d2⟩⟩ := st
    have e' : c = z ∨ c = TI ∨ c = TO ∨ c = i1 ∨ c = i2 := by simpa using hc
    rcases e' with q | q | q | q | q
    · rw [q]; exact ⟨_, hz, fun v q => nomatch q⟩
    · rw [q]; exact ⟨_, hTI, fun v q => nomatch q⟩
    · rw [q]; exact ⟨_, hTO, fun v q => nomatch q⟩
    · rw [q]; exact ⟨o1, e1, fun v q => by rw [d1] at q; cases q⟩
    · rw [q]; exact ⟨o2, e2, fun v q => by rw [d2] at q; cases q⟩
  keep := fun i h h' st k => by
    obtain ⟨hz, hTI, ⟨x, y, hTO⟩, h1, h2⟩ := st
    exact ⟨k z (by simp) _ hz, k TI (by simp) _ hTI, ⟨x, y, k TO (by simp) _ hTO⟩, si_at h1 fun o q => k i1 (by simp) o q, si_at h2 fun o q => k i2 (by simp) o q⟩
  item := by
    intro X hP hw hK hc i pins s σ H E I hf st hg
    subst hP hw hK
    obtain ⟨hz, hTI, ⟨x0, y0, hTO⟩, h1, h2⟩ := st
    obtain ⟨hx, hy⟩ := hg
    obtain ⟨c, hcx⟩ : ∃ c, x.cps[i]? = some c := ⟨_, Array.getElem?_eq_getElem hx⟩
    obtain ⟨d, hdy⟩ : ∃ d, y.cps[i]? = some d := ⟨_, Array.getElem?_eq_getElem hy⟩
    have hzl : z < s.heap.objs.size := Heap.lt_size hz
    refine pyNext_zipS_item D hz hTI hTO h1 h2 hcx hdy fun h' u1 u2 tk z' TO' h1' h2' hT hsz hk => ?_
    refine ⟨_, rfl, wpAny_letOwnedTupleGo_zip (s := { s with heap := h', toks := tk }) z' fun h'' z'' sb => ?_⟩
    have hT2 : h''.get? s.heap.objs.size = some { cls := .type "tuple", data := .seq #[.str ⟨#[c]⟩ u1, .str ⟨#[d]⟩ u2] } := (sb.2 _ (Nat.ne_of_gt hzl)).trans hT
    have new : ObjOk X.prog X.w (upd H s.heap.objs.size (.tup [.str ⟨#[c]⟩, .str ⟨#[d]⟩])) h'' s.heap.objs.size (.tup [.str ⟨#[c]⟩, .str ⟨#[d]⟩]) :=
      ⟨by show 2 ≤ sizeLine; decide, [.str ⟨#[c]⟩ u1, .str ⟨#[d]⟩ u2], .cons ⟨_, rfl⟩ (.cons ⟨_, rfl⟩ .nil), ⟨_, hT2, rfl, _, rfl⟩⟩
    have I1 : Inv X pins σ (upd H s.heap.objs.size (.tup [.str ⟨#[c]⟩, .str ⟨#[d]⟩])) { s with heap := h'', toks := tk } :=
      I.turnedNew (t' := tk) (ch := [z, TI, TO, i1, i2]) (fun c o hb q => (sb.2 c (fun q' => hb (by simp [q']))).trans (hk c o (fun q' => hb (by simp [q'])) (fun q' => hb (by simp [q'])) (fun q' => hb (by simp [q'])) (fun q' => hb (by simp [q'])) q)) hf (Nat.le_refl _) new
    refine ⟨.ref s.heap.objs.size, _, I1, rfl, ⟨_, c, d, rfl, I.hok.fresh (Nat.le_refl _), rfl, hcx, hdy⟩, ⟨z'', ?_, ⟨_, _, (sb.2 _ D.TOz).trans TO'⟩, ?_, ?_⟩, fun c hcm => ?_⟩
    · exact (sb.2 _ D.TIz).trans (hk _ _ D.TIz D.TITO D.TIi1 D.TIi2 hTI)
    · exact si_at h1' fun o q => (sb.2 _ D.i1z).trans q
    · exact si_at h2' fun o q => (sb.2 _ D.i2z).trans q
    · have hlt : c < s.heap.objs.size := by
        have e' : c = z ∨ c = TI ∨ c = TO ∨ c = i1 ∨ c = i2 := by simpa using hcm
        rcases e' with q | q | q | q | q
        · rw [q]; exact hzl
        · rw [q]; exact Heap.lt_size hTI
        · rw [q]; exact Heap.lt_size hTO
        · rw [q]; obtain ⟨_, e1, _⟩ := h1; exact Heap.lt_size e1
        · rw [q]; obtain ⟨_, e2, _⟩ := h2; exact Heap.lt_size e2
      rw [upd_ne (Nat.ne_of_lt hlt)]
      exact (hf c hcm).1
  done := by
    intro X hP hw hK hc i pins s σ H E I hf st hg
    subst hP hw hK
    obtain ⟨hz, hTI, ⟨x0, y0, hTO⟩, h1, h2⟩ := st
    have he : x.cps[i]? = none ∨ y.cps[i]? = none := by
      rcases hg with q | q
      · exact .inl (Array.getElem?_eq_none q)
      · exact .inr (Array.getElem?_eq_none q)
    exact pyNext_zipS_end (I.ok.hd hc) D hz hTI hTO h1 h2 he fun h' tk hk => ⟨rfl, I.turnedL (t' := tk) (ch := [z, TI, TO, i1, i2]) (fun c o hb q =>
      hk c o (fun q' => hb (by simp [q'])) (fun q' => hb (by simp [q'])) (fun q' => hb (by simp [q'])) (fun q' => hb (by simp [q'])) q) hf⟩
  self := fun A i s Q E st h => wpAny_pyIter_zip st.1 h
def iZipS (ta : TA) : TI := fun σ H R => ta σ H fun vs H1 => ∃ x y : Str, vs = [.str x, .str y] ∧ x.cps.all (· < 128) = true ∧ y.cps.all (· < 128) = true ∧ R (ItzS x y) H1
theorem pi_zipS {X : Cx} {e e2 : Expr} {ta : TA} {p pos tpos : Pos} {elts : List Expr} {kk : Nat} (hg : Gl X "zip") (hm : X.mg "zip" = none) (ha : PA X [e, e2] ta)
    (hs : starEach [e, e2] X.env = (false, eval e X.env) :: starEach [e2] X.env := by rfl) (hpl : (backTo pos (starEach [e2] X.env)).any (·.1) = false := by rfl) :
    PI X (.Tuple elts kk tpos) (.Call (.Name "zip" p) [e, e2] [] pos) (iZipS ta) := by
  constructor
  intro pins s σ H R I h
  refine Call_ (ld_blt I hg hm boot_zip5 (PyProof.Rows.callWith_type1 (thn (ha pos pins s σ H _ I h) fun us s1 ⟨vs, H1, I1, r1, q1⟩ => ?_) hs hpl))
  obtain ⟨x, y, ex, hx, hy, q⟩ := q1
  subst ex
  cases r1 with
  | cons r rr =>
    cases rr with
    | cons r' rr =>
      cases rr
      obtain ⟨t, rfl⟩ := r
      obtain ⟨u, rfl⟩ := r'
      refine call_zipS hx hy fun h' hz hTI hTO h1 h2 hsz hk => wpAny_pyIter_zip hz ?_
      have I2 : Inv X pins σ H1 { s1 with heap := h' } := I1.kept (t' := s1.toks) hk
      refine ⟨s1.heap.objs.size + 4, [s1.heap.objs.size + 4, s1.heap.objs.size + 2, s1.heap.objs.size + 3, s1.heap.objs.size, s1.heap.objs.size + 1], _, _, H1, rfl, I2, turn_zipS (t := t) (u := u) (za_new _), ⟨hz, hTI, ⟨_, _, hTO⟩, h1, h2⟩, fun c hcm => ?_, q⟩
      have e' : c = s1.heap.objs.size + 4 ∨ c = s1.heap.objs.size + 2 ∨ c = s1.heap.objs.size + 3 ∨ c = s1.heap.objs.size ∨ c = s1.heap.objs.size + 1 := by simpa using hcm
      have hle : s1.heap.objs.size ≤ c := by
        rcases e' with z | z | z | z | z
        · rw [z]; exact Nat.le_add_right _ _
        · rw [z]; exact Nat.le_add_right _ _
        · rw [z]; exact Nat.le_add_right _ _
        · rw [z]; exact Nat.le_refl _
        · rw [z]; exact Nat.le_add_right _ _
      exact I1.fpOk hle (I1.hok.fresh hle)
end L2
set_option Elab.async false
set_option linter.all false
set_option maxRecDepth 100000
namespace L2
open PySem PySem.Spec PyProof.Rows
def Walk (J : It) (S : Hp → Prop) (xs : List V) : Prop := ∀ i H, S H → (∀ x, xs[i]? = some x → J.go i H ∧ ∀ v H', J.yld i H v H' → v = x ∧ H' = H) ∧ (xs.length ≤ i → J.stop i H)
theorem walk_range (lo : Int) (n : Nat) : Walk (Itr lo n) (fun _ => True) ((List.range n).map fun (i : Nat) => V.int (lo + i)) := by
  intro i H _
  refine ⟨fun x hx => ?_, fun h => by rw [List.length_map, List.length_range] at h; exact h⟩
  rw [List.getElem?_map] at hx
  cases e : (List.range n)[i]? with
  | none => rw [e] at hx; cases hx
  | some j =>
    rw [e] at hx
    obtain ⟨h1, h2⟩ := List.getElem?_eq_some_iff.mp e
    rw [List.getElem_range] at h2
    rw [List.length_range] at h1
    subst h2
    refine ⟨h1, fun v H' y => ?_⟩
    obtain ⟨y1, y2⟩ := y
    exact ⟨y2.trans (Option.some.inj hx), y1⟩
theorem walk_str (x : Str) : Walk (Its x) (fun _ => True) (x.cps.toList.map fun c => V.str ⟨#[c]⟩) := by
  intro i H _
  refine ⟨fun v hv => ?_, fun h => by rw [List.length_map] at h; show x.cps.size ≤ i; simpa using h⟩
  rw [List.getElem?_map] at hv
  cases e : x.cps.toList[i]? with
  | none => rw [e] at hv; cases hv
  | some c =>
    rw [e] at hv
    have h1 : i < x.cps.size := by
      obtain ⟨h, _⟩ := List.getElem?_eq_some_iff.mp e
      simpa using h
    refine ⟨h1, fun u H' y => ?_⟩
    obtain ⟨y1, d, y2, y3⟩ := y
    have : x.cps.toList[i]? = some d := by simpa using y2
    rw [e] at this
    cases this
    exact ⟨y3.trans (Option.some.inj hv), y1⟩
theorem walk_tup {K : PySem.W.Frag} {a : Addr} (xs : List V) : Walk (Itt K a) (fun H => SqT K H a xs) xs := fun i H h =>
  ⟨fun x hx => ⟨⟨xs, x, h, hx⟩, fun v H' y => ⟨by have := y.2 xs h; rw [hx] at this; exact (Option.some.inj this).symm, y.1⟩⟩, fun hl => ⟨xs, h, hl⟩⟩
theorem walk_list {K : PySem.W.Frag} {a : Addr} (xs : List V) : Walk (Itl K a) (fun H => SqL K H a xs) xs := fun i H h =>
  ⟨fun x hx => ⟨⟨xs, x, h, hx⟩, fun v H' y => ⟨by have := y.2 xs h; rw [hx] at this; exact (Option.some.inj this).symm, y.1⟩⟩, fun hl => ⟨xs, h, hl⟩⟩
theorem lc_by {J : It} {S : Hp → Prop} {xs : List V} {g : TG} {tt : TT} {te : TE} {vs : List Nat} {σ : St} {H1 : Hp} {D : Addr} {Qd : Hp → Prop} (hW : Walk J S xs) (Pv : Nat → Hp → Prop) (h0 : Pv 0 (upd H1 D (.lst []))) (hS : ∀ i H, i ≤ xs.length → Pv i H → S H)
    (hs : ∀ i x H, xs[i]? = some x → Pv i H → g x (wipe σ vs) H fun σ2 H2 => wipe σ2 vs = wipe σ vs ∧ tt σ2 H2 fun b H3 =>
      if b = true then te σ2 H3 fun y H4 => ∃ acc, H4 D = some (.lst acc) ∧ acc.length < sizeLine ∧ Pv (i + 1) (upd H4 D (.lst (acc ++ [y]))) else Pv (i + 1) H3) (hd : ∀ H, Pv xs.length H → Qd H) :
    ∃ W : Nat → Nat → Hp → Prop, (∃ m, W 0 m (upd H1 D (.lst []))) ∧ ∀ i m H, W i m H →
      (J.stop i H ∧ Qd H) ∨ (J.go i H ∧ ∃ Nx : Hp → Prop, (∀ H', Nx H' → ∃ m', m' < m ∧ W (i + 1) m' H') ∧ ∀ x H', J.yld i H x H' → g x (wipe σ vs) H' fun σ2 H2 => wipe σ2 vs = wipe σ vs ∧ tt σ2 H2 fun b H3 =>
        if b = true then te σ2 H3 fun y H4 => ∃ acc, H4 D = some (.lst acc) ∧ acc.length < sizeLine ∧ Nx (upd H4 D (.lst (acc ++ [y]))) else Nx H3) := by
  refine ⟨fun i m H => m = xs.length - i ∧ i ≤ xs.length ∧ Pv i H, ⟨xs.length, by simp, Nat.zero_le _, h0⟩, ?_⟩
  rintro i m H ⟨rfl, hi, p⟩
  obtain ⟨w1, w2⟩ := hW i H (hS i H hi p)
  by_cases hlt : i < xs.length
  · obtain ⟨go, yl⟩ := w1 xs[i] (by simp [hlt])
    refine .inr ⟨go, Pv (i + 1), fun H' p' => ⟨xs.length - (i + 1), by omega, rfl, hlt, p'⟩, fun x H' y => ?_⟩
    obtain ⟨e1, e2⟩ := yl x H' y
    subst e1 e2
    exact hs i _ _ (by simp [hlt]) p
  · have e : i = xs.length := by omega
    subst e
    exact .inl ⟨w2 (Nat.le_refl _), hd H p⟩
section
variable {X : Cx} {es : List Expr} {te : TE} {t : TA}
theorem pa_lcm {f g s p} (ha : PE X (.ListComp f g s p) te) (hr : PA X es t) : PA X (.ListComp f g s p :: es) (tCons te t) := pa_cons ha hr rfl
end
end L2
set_option Elab.async false
set_option linter.all false
set_option maxRecDepth 100000
namespace L2
open PySem PySem.Spec PyProof.Rows
def keyD : Key → PyData
  | .inl i => .int i
  | .inr x => .str x
mutual
inductive Dx (K : PySem.W.Frag) (H : Hp) : V → PyData → Prop
  | non : Dx K H .non .none
  | bl (b : Bool) : Dx K H (.bl b) (.bool b)
  | int (i : Int) : Dx K H (.int i) (.int i)
  | str (x : Str) : Dx K H (.str x) (.str x)
  | lst {a : Addr} {xs : List V} {ds : List PyData} : H a = some (.lst xs) → a ≠ sysModules → DxAll K H xs ds → Dx K H (.ref a) (.list ds)
  | tup {a : Addr} {xs : List V} {ds : List PyData} : H a = some (.tup xs) → DxAll K H xs ds → Dx K H (.ref a) (.tuple ds)
  | dic {a : Addr} {kvs : List (Key × V)} {ps : List (PyData × PyData)} : H a = some (.dK kvs) → ps.map (·.1) = kvs.map (fun kv => keyD kv.1) → DxAll K H (kvs.map (·.2)) (ps.map (·.2)) → Dx K H (.ref a) (.dict ps)
inductive DxAll (K : PySem.W.Frag) (H : Hp) : List V → List PyData → Prop
  | nil : DxAll K H [] []
  | cons {v : V} {vs : List V} {d : PyData} {ds : List PyData} : Dx K H v d → DxAll K H vs ds → DxAll K H (v :: vs) (d :: ds)
end
section
variable {X : Cx} {pins : List (Addr × Obj)} {σ : St} {H : Hp} {s : Shared}
theorem keyD_reads {k : Key} {v : Value} {h : Heap} (hk : keyIs k v = true) : ∃ as, Reads h v (keyD k) as ∧ as = [] := by
  rcases keyIs_shape hk with ⟨i, t, e, rfl⟩ | ⟨x, t, e, rfl⟩
  · subst e; exact ⟨_, Reads.int i t, rfl⟩
  · subst e; exact ⟨_, Reads.str x t, rfl⟩
theorem keys_reads {P : Program} {w : World} {h : Heap} : ∀ {es : List DictEntry} {kvs : List (Key × Value)}, Pairs (mixKind P w) es kvs → ReadsAll h (es.map (·.key)) (kvs.map fun kv => keyD kv.1) []
  | _, _, .nil => ReadsAll.nil
  | _, _, .cons h1 _ r => by
    obtain ⟨as, q1, e⟩ := keyD_reads (h := h) h1
    subst e
    exact ReadsAll.cons (as := []) (bs := []) q1 (keys_reads r)
theorem pairs_vals {P : Program} {w : World} : ∀ {es : List DictEntry} {kvs : List (Key × Value)}, Pairs (mixKind P w) es kvs → es.map (·.val) = kvs.map (·.2)
  | _, _, .nil => rfl
  | _, _, .cons _ h2 r => by rw [List.map_cons, List.map_cons, h2, pairs_vals r]
theorem KV.vals {kvs : List (Key × V)} {vs : List (Key × Value)} (r : KV kvs vs) : Vals (kvs.map (·.2)) (vs.map (·.2)) ∧ kvs.map (·.1) = vs.map (·.1) := by
  induction r with
  | nil => exact ⟨.nil, rfl⟩
  | cons h _ ih => exact ⟨.cons h.2 ih.1, by rw [List.map_cons, List.map_cons, h.1, ih.2]⟩
theorem sz_snd : ∀ ps : List (PyData × PyData), sizeOf (ps.map (·.2)) ≤ sizeOf ps
  | [] => Nat.le_refl _
  | (a, b) :: ps => by
    have := sz_snd ps
    simp only [List.map_cons, List.cons.sizeOf_spec, Prod.mk.sizeOf_spec]
    omega
mutual
theorem Dx.reads (I : Inv X pins σ H s) : ∀ (d : PyData) (v : V) (u : Value), Dx X.K H v d → RelV v u → ∃ as, Reads s.heap u d as ∧ sysModules ∉ as
  | .none, _, _, h, r => by
    cases h
    cases r
    exact ⟨_, Reads.none, fun z => nomatch z⟩
  | .bool b, _, _, h, r => by
    cases h
    cases r
    exact ⟨_, Reads.bool b, fun z => nomatch z⟩
  | .int i, _, _, h, r => by
    cases h
    obtain ⟨t, rfl⟩ := r
    exact ⟨_, Reads.int i t, fun z => nomatch z⟩
  | .str x, _, _, h, r => by
    cases h
    obtain ⟨t, rfl⟩ := r
    exact ⟨_, Reads.str x t, fun z => nomatch z⟩
  | .list ds, _, _, h, r => by
    cases h with
    | lst hs hne ha =>
      cases r
      obtain ⟨its, rv, ⟨o, n, ho, hc, _, hd⟩, _⟩ := I.list (SqL.of hs)
      obtain ⟨as, hr, hn⟩ := Dx.readsAll I ds _ its ha rv
      refine ⟨_, Reads.list ho hc hd hr, fun z => ?_⟩
      rcases List.mem_cons.mp z with q | q
      · exact hne q.symm
      · exact hn q
  | .tuple ds, _, _, h, r => by
    cases h with
    | tup hs ha =>
      cases r
      obtain ⟨its, rv, ⟨o, ho, hc, n, hd⟩, _⟩ := I.tuple (SqT.of hs)
      obtain ⟨as, hr, hn⟩ := Dx.readsAll I ds _ its ha rv
      exact ⟨_, Reads.tuple ho hc hd hr, hn⟩
  | .dict ps, _, _, h, r => by
    cases h with
    | dic hs hk ha =>
      cases r
      obtain ⟨_, hsys, vs, rel, o, es, ep, ho, hx, hd, _, hp, _⟩ := dk_of I.hok hs
      obtain ⟨rv, rk⟩ := rel.vals
      obtain ⟨bs, hr, hn⟩ := Dx.readsAll I (ps.map (·.2)) _ (vs.map (·.2)) ha rv
      have h1 : ReadsAll s.heap (es.toList.map (·.key)) (ps.map (·.1)) [] := by
        have := keys_reads (h := s.heap) hp
        have e : vs.map (fun kv => keyD kv.1) = ps.map (·.1) := by
          rw [hk]
          have := congrArg (List.map keyD) rk
          rw [List.map_map, List.map_map] at this
          exact this.symm
        rw [e] at this
        exact this
      have h2 : ReadsAll s.heap (es.toList.map (·.val)) (ps.map (·.2)) bs := by rw [pairs_vals hp]; exact hr
      refine ⟨_, Reads.dict ho hx.1 hd h1 h2, fun z => ?_⟩
      have z : sysModules ∈ _ :: ([] ++ bs) := z
      rcases List.mem_cons.mp z with q | q
      · rw [← q] at hsys
        simp at hsys
      · exact hn (by simpa using q)
  termination_by d => sizeOf d
  decreasing_by all_goals (simp_wf; try first | omega | (have := sz_snd ps; omega))
theorem Dx.readsAll (I : Inv X pins σ H s) : ∀ (ds : List PyData) (vs : List V) (us : List Value), DxAll X.K H vs ds → Vals vs us → ∃ as, ReadsAll s.heap us ds as ∧ sysModules ∉ as
  | [], _, _, h, r => by
    cases h
    cases r
    exact ⟨_, ReadsAll.nil, fun z => nomatch z⟩
  | d :: ds, _, _, h, r => by
    cases h with
    | cons h1 h2 =>
      cases r with
      | cons r1 r2 =>
        obtain ⟨as, q1, n1⟩ := Dx.reads I d _ _ h1 r1
        obtain ⟨bs, q2, n2⟩ := Dx.readsAll I ds _ _ h2 r2
        refine ⟨_, ReadsAll.cons q1 q2, fun z => ?_⟩
        rcases List.mem_append.mp z with q | q
        · exact n1 q
        · exact n2 q
  termination_by ds => sizeOf ds
  decreasing_by all_goals (simp_wf; omega)
end
end
end L2
set_option Elab.async false
set_option linter.all false
set_option maxRecDepth 100000
namespace L2
open PySem PySem.Spec PyProof.Rows
section
variable {A : Around} {s : Shared}
end
section
variable {X : Cx}
end
section
variable {X : Cx} {es : List Expr} {t : TA} {pos : Pos}
end
def tyD : PyData → Value
  | .none => .type "NoneType"
  | .bool _ => .type "bool"
  | .int _ => .type "int"
  | .str _ => .type "str"
  | .list _ => .type "list"
  | .tuple _ => .type "tuple"
  | .dict _ => .type "dict"
end L2
set_option Elab.async false
set_option linter.all false
set_option maxRecDepth 100000
namespace L2
open PySem PySem.Spec PyProof.Rows
theorem Dx.ty {K : PySem.W.Frag} {H : Hp} {v : V} {d : PyData} (h : Dx K H v d) : TyOf K H v (tyD d) := by
  cases h with
  | non => exact .non
  | bl b => exact .bl b
  | int i => exact .int i
  | str x => exact .str x
  | lst h _ _ => exact .lst h
  | tup h _ => exact .tup h
  | dic h _ _ => exact .dK h
mutual
theorem Dx.same {K : PySem.W.Frag} {H H' : Hp} (s : ∀ b o, H b = some o → H' b = some o) : ∀ {v : V} {d : PyData}, Dx K H v d → Dx K H' v d
  | _, _, .non => .non
  | _, _, .bl b => .bl b
  | _, _, .int i => .int i
  | _, _, .str x => .str x
  | _, _, .lst h n q => .lst (s _ _ h) n (Dx.sameAll s q)
  | _, _, .tup h q => .tup (s _ _ h) (Dx.sameAll s q)
  | _, _, .dic h e q => .dic (s _ _ h) e (Dx.sameAll s q)
theorem Dx.sameAll {K : PySem.W.Frag} {H H' : Hp} (s : ∀ b o, H b = some o → H' b = some o) : ∀ {vs : List V} {ds : List PyData}, DxAll K H vs ds → DxAll K H' vs ds
  | _, _, .nil => .nil
  | _, _, .cons h q => .cons (Dx.same s h) (Dx.sameAll s q)
end
def cutH (f : Addr) (H : Hp) : Hp := fun b => if b = f then none else H b
theorem cutH_ne {f b : Addr} {H : Hp} (h : b ≠ f) : cutH f H b = H b := if_neg h
mutual
theorem Dx.off {K : PySem.W.Frag} {H : Hp} {x C dx : Addr} {fs : List (Str × V)} (hx : H x = some (.ins C dx fs)) : ∀ {v : V} {d : PyData}, Dx K H v d → Dx K (cutH x H) v d
  | _, _, .non => .non
  | _, _, .bl b => .bl b
  | _, _, .int i => .int i
  | _, _, .str x => .str x
  | _, _, .lst h n q => .lst ((cutH_ne (fun z => by rw [z, hx] at h; cases h)).trans h) n (Dx.offAll hx q)
  | _, _, .tup h q => .tup ((cutH_ne (fun z => by rw [z, hx] at h; cases h)).trans h) (Dx.offAll hx q)
  | _, _, .dic h e q => .dic ((cutH_ne (fun z => by rw [z, hx] at h; cases h)).trans h) e (Dx.offAll hx q)
theorem Dx.offAll {K : PySem.W.Frag} {H : Hp} {x C dx : Addr} {fs : List (Str × V)} (hx : H x = some (.ins C dx fs)) : ∀ {vs : List V} {ds : List PyData}, DxAll K H vs ds → DxAll K (cutH x H) vs ds
  | _, _, .nil => .nil
  | _, _, .cons h q => .cons (Dx.off hx h) (Dx.offAll hx q)
end
section
variable {X : Cx}
end
end L2
set_option Elab.async false
set_option linter.all false
set_option maxRecDepth 100000
namespace L2
open PySem PySem.Spec PyProof.Rows
section
variable {X : Cx}
end
end L2
set_option Elab.async false
set_option linter.all false
set_option maxRecDepth 100000
namespace L2
open PySem PySem.Spec PyProof.Rows
section
variable {prog : Program} {w : World} {A : Around} {E : Value → Shared → Prop} {s : Shared}
theorem nextOf_tup_item {it l : Addr} {i : Nat} {items} {x : Value} {Q : Value → Shared → Prop} (hit : s.heap.IsTupleIter it l i)
    (hl : s.heap.IsTuple l items) (hx : items[i]? = some x)
    (hQ : ∀ h', h'.IsTupleIter it l (i + 1) → Heap.SameBut it s.heap h' → Q x { s with heap := h' }) :
    wpAny (model prog w) A (Builtin.SmallTypes.nextOf (.ref it)) Q E s := by
  obtain ⟨o, ho, hc, hd⟩ := id hit
  obtain ⟨ol, hol, _, nl, hdl⟩ := hl
  unfold Builtin.SmallTypes.nextOf
  refine wpAny_bind (wpAny_callSpecial?_slot (name := Str.ofString "__next__") hit.typeIs F.slot_tuple_iterator_next
    (wpAny_call_entry F.slot_tuple_iterator_next hit.typeIs F.entry_tuple_iterator_next ?_ (F.args_tuple_iterator_next_1 _)))
  show wpAny _ _ (field (.ref it) 0 >>= _) _ _ s
  refine wpAny_bind (wpAny_field ho hd (x := .ref l) rfl ?_)
  show wpAny _ _ (if (Value.ref l == Value.none) = true then _ else _) _ _ s
  rw [if_neg (show ¬ ((Value.ref l == Value.none) = true) from Bool.false_ne_true)]
  show wpAny _ _ (field (.ref it) 1 >>= _) _ _ s
  refine wpAny_bind (wpAny_field ho hd (x := .int i 0) rfl ?_)
  show wpAny _ _ (seqItems? (.ref l) >>= _) _ _ s
  refine wpAny_bind (wpAny_seqItems hol hdl ?_)
  simp only [Int.toNat_natCast, hx]
  refine wpAny_bind (wpAny_setField ho hd (by simp) (wpAny_pure ⟨x, rfl, wpAny_pure (hQ _ ?_ (Heap.SameBut.update ..))⟩))
  exact ⟨_, Heap.get?_update_self _ ho (Obj.isFreed_of_fields (Obj.data_mapFields hd _)), (Obj.cls_mapFields ..).trans hc, by
    rw [Obj.data_mapFields hd]; simp [rawInt]⟩
theorem nextOf_tup_end {it l : Addr} {i : Nat} {items} {Q : Value → Shared → Prop} (hh : A.handled = none)
    (hit : s.heap.IsTupleIter it l i) (hl : s.heap.IsTuple l items) (hx : items[i]? = none)
    (hE : ∀ h' e, Heap.ExtBut it s.heap h' → (∃ o, h'.get? e = some o ∧ o.cls = .type "StopIteration") → E (.ref e) { s with heap := h' }) :
    wpAny (model prog w) A (Builtin.SmallTypes.nextOf (.ref it)) Q E s := by
  obtain ⟨o, ho, hc, hd⟩ := id hit
  obtain ⟨ol, hol, _, nl, hdl⟩ := hl
  unfold Builtin.SmallTypes.nextOf
  refine wpAny_bind (wpAny_callSpecial?_slot (name := Str.ofString "__next__") hit.typeIs F.slot_tuple_iterator_next
    (wpAny_call_entry F.slot_tuple_iterator_next hit.typeIs F.entry_tuple_iterator_next ?_ (F.args_tuple_iterator_next_1 _)))
  show wpAny _ _ (field (.ref it) 0 >>= _) _ _ s
  refine wpAny_bind (wpAny_field ho hd (x := .ref l) rfl ?_)
  show wpAny _ _ (if (Value.ref l == Value.none) = true then _ else _) _ _ s
  rw [if_neg (show ¬ ((Value.ref l == Value.none) = true) from Bool.false_ne_true)]
  show wpAny _ _ (field (.ref it) 1 >>= _) _ _ s
  refine wpAny_bind (wpAny_field ho hd (x := .int i 0) rfl ?_)
  show wpAny _ _ (seqItems? (.ref l) >>= _) _ _ s
  refine wpAny_bind (wpAny_seqItems hol hdl ?_)
  simp only [Int.toNat_natCast, hx]
  refine wpAny_bind (wpAny_rule (wpAny_bind (wpAny_setField ho hd (by simp) ?_)))
  show wpAny _ _ (newExc (.type "StopIteration") [] >>= _) _ _ _
  refine wpAny_bind ?_
  simp only [newExc, newTuple]
  refine wpAny_bind (wpAny_newObj_type ?_ (by size_fits))
  refine wpAny_bind (m := firstArgMember _ _) (wpAny_of_eq (a := Value.none) (by first | rfl | (simp only [firstArgMember]; rfl)) ?_)
  refine wpAny_newObj_type ?_ (by size_fits)
  simp only [raiseNew]
  refine wpAny_bind (wpAny_handled ?_)
  first | rw [show A.in1.handled = none from hh] | rw [hh]
  refine wpAny_bind (wpAny_pure (wpAny_throw ?_))
  exact hE _ _ (((Heap.SameBut.update ..).extBut.push _).push _) ⟨_, Heap.get?_push_size _ rfl, rfl⟩
def TIt (h : Heap) (it l : Addr) (xs : Array Value) (i : Nat) : Prop := h.IsTupleIter it l i ∧ h.IsTuple l xs
theorem ti_ext {it l b : Addr} {xs : Array Value} {i : Nat} {h h' : Heap} (st : TIt h it l xs i) (e : Heap.ExtBut b h h') (n : it ≠ b) (m : l ≠ b) : TIt h' it l xs i :=
  let ⟨⟨o, ho, r⟩, ⟨p, hp, q⟩⟩ := st; ⟨⟨o, e it o n ho, r⟩, ⟨p, e l p m hp, q⟩⟩
theorem ti_at {it l : Addr} {xs : Array Value} {i : Nat} {h h' : Heap} (st : TIt h it l xs i) (e : ∀ o, h.get? it = some o → h'.get? it = some o) (f : ∀ o, h.get? l = some o → h'.get? l = some o) : TIt h' it l xs i :=
  let ⟨⟨o, ho, r⟩, ⟨p, hp, q⟩⟩ := st; ⟨⟨o, e o ho, r⟩, ⟨p, f p hp, q⟩⟩
structure ZL (z TO i1 i2 l : Addr) : Prop where
  z : l ≠ z
  t : l ≠ TO
  a : l ≠ i1
  b : l ≠ i2
theorem zl_new {n l : Nat} (h : l < n) : ZL (n + 4) (n + 3) n (n + 1) l := by
  constructor <;> (show (_ : Nat) ≠ _; omega)
theorem zipT_next_item {z TI' TO i1 i2 l1 l2 : Addr} {k1 k2 : Nat} {xs ys : Array Value} {x y a b : Value} {Q : Value → Shared → Prop} (D : ZA z TI' TO i1 i2) (D1 : ZL z TO i1 i2 l1) (D2 : ZL z TO i1 i2 l2)
    (hz : IsZip s.heap z TI' TO .none) (hTI : IsPair s.heap TI' (.ref i1) (.ref i2)) (hTO : IsPair s.heap TO a b)
    (h1 : TIt s.heap i1 l1 xs k1) (h2 : TIt s.heap i2 l2 ys k2) (hx : xs[k1]? = some x) (hy : ys[k2]? = some y)
    (hQ : ∀ h', IsZip h' z TI' TO (rawInt s.heap.objs.size) → IsPair h' TO x y → TIt h' i1 l1 xs (k1 + 1) → TIt h' i2 l2 ys (k2 + 1) → IsPair h' s.heap.objs.size x y → h'.objs.size = s.heap.objs.size + 1 →
      (∀ c o, c ≠ z → c ≠ TO → c ≠ i1 → c ≠ i2 → s.heap.get? c = some o → h'.get? c = some o) → Q (.ref s.heap.objs.size) { s with heap := h' }) :
    wpAny (model prog w) A (Builtin.«zip.__next__» ⟨[.ref z], []⟩) (fun fin s' => ∃ v, fin = .done (.ret v) ∧ Q v s') E s := by
  show wpAny _ _ (field (.ref z) 2 >>= _) _ _ _
  refine wpAny_bind (wpAny_field hz rfl (x := .bool false) rfl ?_)
  show wpAny _ _ (field (.ref z) 3 >>= _) _ _ _
  refine wpAny_bind (wpAny_field hz rfl (x := .ref TI') rfl ?_)
  refine wpAny_bind (wpAny_seqItems hTI rfl ?_)
  show wpAny _ _ (Builtin.SmallTypes.ownedTupleIsFree (.ref z) >>= _) _ _ _
  refine wpAny_bind ?_
  unfold Builtin.SmallTypes.ownedTupleIsFree
  refine wpAny_bind (wpAny_field hz rfl (x := .none) rfl (wpAny_pure ?_))
  simp only [if_true]
  refine wpAny_bind (wpAny_rule ?_)
  refine wpAny_bind (wpAny_field hz rfl (x := .ref TO) rfl ?_)
  refine wpAny_bind (wpAny_setField_rec hz (by simp) fun h₁ hz₁ hs₁ => ?_)
  replace hz₁ : IsZip h₁ z TI' TO .ellipsis := hz₁
  refine wpAny_bind ?_
  simp only [List.zipIdx_cons, List.zipIdx_nil, List.forIn_cons, List.forIn_nil]
  refine wpAny_bind (wpAny_bind (wpAny_onRaise ?_))
  show wpAny _ _ (Builtin.SmallTypes.nextOf (.ref i1) >>= _) _ _ _
  have g1 := ti_ext h1 hs₁.extBut D.i1z D1.z
  refine wpAny_bind (nextOf_tup_item g1.1 g1.2 hx fun h₂ h1₂ hs₂ => wpAny_pure ?_)
  have h1₂ : TIt h₂ i1 l1 xs (k1 + 1) := ⟨h1₂, let ⟨p, hp, q⟩ := g1.2; ⟨p, hs₂.extBut l1 p D1.a hp, q⟩⟩
  have hTO₂ : IsPair h₂ TO a b := hs₂.extBut _ _ D.TOi1 (hs₁.extBut _ _ D.TOz hTO)
  refine wpAny_bind (wpAny_seqItems hTO₂ rfl ?_)
  refine wpAny_bind (wpAny_updateSeq_pair hTO₂ fun h₃ hTO₃ hs₃ => ?_)
  replace hTO₃ : IsPair h₃ TO x b := hTO₃
  refine wpAny_bind (wpAny_letGo (wpAny_pure ?_))
  refine wpAny_bind (wpAny_bind (wpAny_onRaise ?_))
  show wpAny _ _ (Builtin.SmallTypes.nextOf (.ref i2) >>= _) _ _ _
  have g2 := ti_ext (ti_ext (ti_ext h2 hs₁.extBut D.i2z D2.z) hs₂.extBut D.i12.symm D2.a) hs₃.extBut D.TOi2.symm D2.t
  refine wpAny_bind (nextOf_tup_item g2.1 g2.2 hy fun h₄ h2₄ hs₄ => wpAny_pure ?_)
  have h2₄ : TIt h₄ i2 l2 ys (k2 + 1) := ⟨h2₄, let ⟨p, hp, q⟩ := g2.2; ⟨p, hs₄.extBut l2 p D2.b hp, q⟩⟩
  have hTO₄ : IsPair h₄ TO x b := hs₄.extBut _ _ D.TOi2 hTO₃
  refine wpAny_bind (wpAny_seqItems hTO₄ rfl ?_)
  refine wpAny_bind (wpAny_updateSeq_pair hTO₄ fun h₅ hTO₅ hs₅ => ?_)
  replace hTO₅ : IsPair h₅ TO x y := hTO₅
  refine wpAny_bind (wpAny_letGo (wpAny_pure (wpAny_pure ?_)))
  refine wpAny_bind (wpAny_seqItems hTO₅ rfl ?_)
  refine wpAny_bind (wpAny_newTuple ?_)
  have hsz : h₅.objs.size = s.heap.objs.size := by rw [hs₅.1, hs₄.1, hs₃.1, hs₂.1, hs₁.1]
  have hz₅ : IsZip h₅ z TI' TO .ellipsis := hs₅.extBut _ _ D.TOz.symm (hs₄.extBut _ _ D.i2z.symm (hs₃.extBut _ _ D.TOz.symm (hs₂.extBut _ _ D.i1z.symm hz₁)))
  have hk₅ : ∀ c o, c ≠ z → c ≠ TO → c ≠ i1 → c ≠ i2 → s.heap.get? c = some o → h₅.get? c = some o := fun c o c1 c2 c3 c4 e =>
    hs₅.extBut _ _ c2 (hs₄.extBut _ _ c4 (hs₃.extBut _ _ c2 (hs₂.extBut _ _ c3 (hs₁.extBut _ _ c1 e))))
  have h1₅ : TIt h₅ i1 l1 xs (k1 + 1) := ti_ext (ti_ext (ti_ext h1₂ hs₃.extBut D.TOi1.symm D1.t) hs₄.extBut D.i12 D1.b) hs₅.extBut D.TOi1.symm D1.t
  have h2₅ : TIt h₅ i2 l2 ys (k2 + 1) := ti_ext h2₄ hs₅.extBut D.TOi2.symm D2.t
  have hzlt : z < h₅.objs.size := Heap.lt_size hz₅
  show wpAny _ _ (Builtin.SmallTypes.ownedTupleHandOut (.ref z) (.ref h₅.objs.size) >>= _) _ _ _
  refine wpAny_bind ?_
  unfold Builtin.SmallTypes.ownedTupleHandOut
  have hz₆ : IsZip (h₅.push { cls := .type "tuple", data := .seq #[x, y] }) z TI' TO .ellipsis := Heap.get?_push_of_some _ hz₅
  refine wpAny_bind (wpAny_setField_rec hz₆ (by simp) fun h₇ hz₇ hs₇ => ?_)
  replace hz₇ : IsZip h₇ z TI' TO (rawInt h₅.objs.size) := hz₇
  refine wpAny_setField_rec hz₇ (by simp) fun h₈ hz₈ hs₈ => ?_
  replace hz₈ : IsZip h₈ z TI' TO (rawInt h₅.objs.size) := hz₈
  have up : ∀ c o, c ≠ z → h₅.get? c = some o → h₈.get? c = some o := fun c o c1 e => hs₈.extBut _ _ c1 (hs₇.extBut _ _ c1 (Heap.get?_push_of_some _ e))
  have hT₈ : IsPair h₈ h₅.objs.size x y := hs₈.extBut _ _ (Nat.ne_of_gt hzlt) (hs₇.extBut _ _ (Nat.ne_of_gt hzlt) (Heap.get?_push_size _ rfl))
  have hz8 : h₈.objs.size = h₅.objs.size + 1 := by rw [hs₈.1, hs₇.1, Heap.size_push]
  rw [hsz] at hz₈ hT₈ hz8
  refine wpAny_pure ⟨_, rfl, ?_⟩
  show Q (.ref h₅.objs.size) _
  rw [hsz]
  exact hQ h₈ hz₈ (up _ _ D.TOz hTO₅) (ti_at h1₅ (fun o e => up _ o D.i1z e) fun o e => up _ o D1.z e) (ti_at h2₅ (fun o e => up _ o D.i2z e) fun o e => up _ o D2.z e) hT₈ hz8 fun c o c1 c2 c3 c4 e => up c o c1 (hk₅ c o c1 c2 c3 c4 e)
theorem zipT_next_end {z TI' TO i1 i2 l1 l2 : Addr} {k1 k2 : Nat} {xs ys : Array Value} {a b : Value} {Q : Fin → Shared → Prop} (hh : A.handled = none) (D : ZA z TI' TO i1 i2) (D1 : ZL z TO i1 i2 l1) (D2 : ZL z TO i1 i2 l2)
    (hz : IsZip s.heap z TI' TO .none) (hTI : IsPair s.heap TI' (.ref i1) (.ref i2)) (hTO : IsPair s.heap TO a b)
    (h1 : TIt s.heap i1 l1 xs k1) (h2 : TIt s.heap i2 l2 ys k2) (hend : xs[k1]? = none ∨ ys[k2]? = none)
    (hE : ∀ h' e, (∀ c o, c ≠ z → c ≠ TO → c ≠ i1 → c ≠ i2 → s.heap.get? c = some o → h'.get? c = some o) → (∃ o, h'.get? e = some o ∧ o.cls = .type "StopIteration") → E (.ref e) { s with heap := h' }) :
    wpAny (model prog w) A (Builtin.«zip.__next__» ⟨[.ref z], []⟩) Q E s := by
  show wpAny _ _ (field (.ref z) 2 >>= _) _ _ _
  refine wpAny_bind (wpAny_field hz rfl (x := .bool false) rfl ?_)
  show wpAny _ _ (field (.ref z) 3 >>= _) _ _ _
  refine wpAny_bind (wpAny_field hz rfl (x := .ref TI') rfl ?_)
  refine wpAny_bind (wpAny_seqItems hTI rfl ?_)
  show wpAny _ _ (Builtin.SmallTypes.ownedTupleIsFree (.ref z) >>= _) _ _ _
  refine wpAny_bind ?_
  unfold Builtin.SmallTypes.ownedTupleIsFree
  refine wpAny_bind (wpAny_field hz rfl (x := .none) rfl (wpAny_pure ?_))
  simp only [if_true]
  refine wpAny_bind (wpAny_rule ?_)
  refine wpAny_bind (wpAny_field hz rfl (x := .ref TO) rfl ?_)
  refine wpAny_bind (wpAny_setField_rec hz (by simp) fun h₁ hz₁ hs₁ => ?_)
  replace hz₁ : IsZip h₁ z TI' TO .ellipsis := hz₁
  refine wpAny_bind ?_
  simp only [List.zipIdx_cons, List.zipIdx_nil, List.forIn_cons, List.forIn_nil]
  refine wpAny_bind (wpAny_bind (wpAny_onRaise ?_))
  show wpAny _ _ (Builtin.SmallTypes.nextOf (.ref i1) >>= _) _ _ _
  have g1 := ti_ext h1 hs₁.extBut D.i1z D1.z
  cases hx : xs[k1]? with
  | none =>
    refine wpAny_bind (nextOf_tup_end hh g1.1 g1.2 hx fun h₂ e hs₂ he => ?_)
    obtain ⟨oe, hoe, hce⟩ := he
    have hz₂ : IsZip h₂ z TI' TO .ellipsis := hs₂ _ _ D.i1z.symm hz₁
    have hez : e ≠ z := fun x => by subst x; rw [hz₂] at hoe; cases hoe; simp at hce
    refine wpAny_setField_rec hz₂ (by simp) fun h₃ _ hs₃ => hE h₃ e (fun c o c1 _ c3 _ x => hs₃.extBut _ _ c1 (hs₂ _ _ c3 (hs₁.extBut _ _ c1 x))) ⟨oe, hs₃.extBut _ _ hez hoe, hce⟩
  | some x =>
    have hy : ys[k2]? = none := by rcases hend with h | h; rw [hx] at h; cases h; exact h
    refine wpAny_bind (nextOf_tup_item g1.1 g1.2 hx fun h₂ h1₂ hs₂ => wpAny_pure ?_)
    have hTO₂ : IsPair h₂ TO a b := hs₂.extBut _ _ D.TOi1 (hs₁.extBut _ _ D.TOz hTO)
    refine wpAny_bind (wpAny_seqItems hTO₂ rfl ?_)
    refine wpAny_bind (wpAny_updateSeq_pair hTO₂ fun h₃ hTO₃ hs₃ => ?_)
    refine wpAny_bind (wpAny_letGo (wpAny_pure ?_))
    refine wpAny_bind (wpAny_bind (wpAny_onRaise ?_))
    show wpAny _ _ (Builtin.SmallTypes.nextOf (.ref i2) >>= _) _ _ _
    have g2 := ti_ext (ti_ext (ti_ext h2 hs₁.extBut D.i2z D2.z) hs₂.extBut D.i12.symm D2.a) hs₃.extBut D.TOi2.symm D2.t
    refine wpAny_bind (nextOf_tup_end hh g2.1 g2.2 hy fun h₄ e hs₄ he => ?_)
    obtain ⟨oe, hoe, hce⟩ := he
    have hz₄ : IsZip h₄ z TI' TO .ellipsis := hs₄ _ _ D.i2z.symm (hs₃.extBut _ _ D.TOz.symm (hs₂.extBut _ _ D.i1z.symm hz₁))
    have hez : e ≠ z := fun x => by subst x; rw [hz₄] at hoe; cases hoe; simp at hce
    refine wpAny_setField_rec hz₄ (by simp) fun h₅ _ hs₅ => hE h₅ e (fun c o c1 c2 c3 c4 x => hs₅.extBut _ _ c1 (hs₄ _ _ c4 (hs₃.extBut _ _ c2 (hs₂.extBut _ _ c3 (hs₁.extBut _ _ c1 x))))) ⟨oe, hs₅.extBut _ _ hez hoe, hce⟩
theorem pyNext_zipT_item {z TI' TO i1 i2 l1 l2 : Addr} {k1 k2 : Nat} {xs ys : Array Value} {x y a b : Value} {Q : Option Value → Shared → Prop} (D : ZA z TI' TO i1 i2) (D1 : ZL z TO i1 i2 l1) (D2 : ZL z TO i1 i2 l2)
    (hz : IsZip s.heap z TI' TO .none) (hTI : IsPair s.heap TI' (.ref i1) (.ref i2)) (hTO : IsPair s.heap TO a b)
    (h1 : TIt s.heap i1 l1 xs k1) (h2 : TIt s.heap i2 l2 ys k2) (hx : xs[k1]? = some x) (hy : ys[k2]? = some y)
    (hQ : ∀ h', IsZip h' z TI' TO (rawInt s.heap.objs.size) → IsPair h' TO x y → TIt h' i1 l1 xs (k1 + 1) → TIt h' i2 l2 ys (k2 + 1) → IsPair h' s.heap.objs.size x y → h'.objs.size = s.heap.objs.size + 1 →
      (∀ c o, c ≠ z → c ≠ TO → c ≠ i1 → c ≠ i2 → s.heap.get? c = some o → h'.get? c = some o) → Q (some (.ref s.heap.objs.size)) { s with heap := h' }) :
    wpAny (model prog w) A (pyNext (.ref z)) Q E s := by
  have hT : s.TypeIs (.ref z) "zip" := ⟨_, hz, rfl⟩
  unfold pyNext
  exact wpAny_bind (wpAny_attempt (wpAny_callSpecial?_slot (name := Str.ofString "__next__") hT F.slot_zip_next
    (wpAny_call_entry F.slot_zip_next hT F.entry_zip_next
      (zipT_next_item D D1 D2 hz hTI hTO h1 h2 hx hy fun h' a1 a2 a3 a4 a5 a6 a7 => wpAny_pure (hQ h' a1 a2 a3 a4 a5 a6 a7)) (F.args_zip_next_1 _))))
theorem pyNext_zipT_end {z TI' TO i1 i2 l1 l2 : Addr} {k1 k2 : Nat} {xs ys : Array Value} {a b : Value} {Q : Option Value → Shared → Prop} (hh : A.handled = none) (D : ZA z TI' TO i1 i2) (D1 : ZL z TO i1 i2 l1) (D2 : ZL z TO i1 i2 l2)
    (hz : IsZip s.heap z TI' TO .none) (hTI : IsPair s.heap TI' (.ref i1) (.ref i2)) (hTO : IsPair s.heap TO a b)
    (h1 : TIt s.heap i1 l1 xs k1) (h2 : TIt s.heap i2 l2 ys k2) (hend : xs[k1]? = none ∨ ys[k2]? = none)
    (hQ : ∀ h', (∀ c o, c ≠ z → c ≠ TO → c ≠ i1 → c ≠ i2 → s.heap.get? c = some o → h'.get? c = some o) → Q none { s with heap := h' }) : wpAny (model prog w) A (pyNext (.ref z)) Q E s := by
  have hT : s.TypeIs (.ref z) "zip" := ⟨_, hz, rfl⟩
  unfold pyNext
  refine wpAny_bind (wpAny_attempt (wpAny_callSpecial?_slot (name := Str.ofString "__next__") hT F.slot_zip_next
    (wpAny_call_entry F.slot_zip_next hT F.entry_zip_next (zipT_next_end hh D D1 D2 hz hTI hTO h1 h2 hend fun h' e hk he => ?_) (F.args_zip_next_1 _))))
  obtain ⟨o, ho, hc⟩ := he
  refine wpAny_bind (wpAny_isInstance (T := "StopIteration") (b := true) ⟨o, ho, hc⟩ isSubtype_stop ?_)
  exact wpAny_pure (hQ _ hk)
end
abbrev zT1 (h : Heap) (l1 : Addr) : Heap := h.push { cls := .type "tuple_iterator", data := .fields #[.ref l1, .int 0 0] }
abbrev zT2 (h : Heap) (l1 l2 : Addr) : Heap := (zT1 h l1).push { cls := .type "tuple_iterator", data := .fields #[.ref l2, .int 0 0] }
abbrev zT3 (h : Heap) (l1 l2 : Addr) : Heap := (zT2 h l1 l2).push { cls := .type "tuple", data := .seq #[.ref h.objs.size, .ref (zT1 h l1).objs.size] }
abbrev zT4 (h : Heap) (l1 l2 : Addr) : Heap := (zT3 h l1 l2).push { cls := .type "tuple", data := .seq #[.none, .none] }
abbrev zT5 (h : Heap) (l1 l2 : Addr) : Heap := (zT4 h l1 l2).push { cls := .type "zip", data := .fields #[.none, .bool false, .bool false, .ref (zT2 h l1 l2).objs.size, .ref (zT3 h l1 l2).objs.size] }
theorem tup_push {h : Heap} {l : Addr} {xs : Array Value} (t : h.IsTuple l xs) (o : Obj) : (h.push o).IsTuple l xs := let ⟨p, hp, q⟩ := t; ⟨p, Heap.get?_push_of_some _ hp, q⟩
set_option maxHeartbeats 4000000 in
theorem meets_zipT_new (l1 l2 : Addr) (xs ys : Array Value) :
    Meets (Builtin.«zip.__new__» ⟨[.type "zip", .ref l1, .ref l2], []⟩) (fun _ R s => s.heap.IsTuple l1 xs ∧ s.heap.IsTuple l2 ys ∧
      R (.ok (.ret (.ref (zT4 s.heap l1 l2).objs.size))) { s with heap := zT5 s.heap l1 l2 }) :=
  .of_wp fun prog w A R s h => by
    obtain ⟨hp, g, d, tk, os⟩ := s
    obtain ⟨hx, hy, h⟩ := h
    have hsub := sub_zip
    have hy1 := tup_push hy { cls := .type "tuple_iterator", data := .fields #[.ref l1, .int 0 0] }
    wp_walk using wpAny_pyIter_tuple hx, wpAny_pyIter_tuple hy1
    exact ⟨_, rfl, h⟩
section
variable {prog : Program} {w : World} {A : Around} {E : Value → Shared → Prop} {s : Shared}
theorem call_zipT {l1 l2 : Addr} {xs ys : Array Value} {Q : Value → Shared → Prop} (hx : s.heap.IsTuple l1 xs) (hy : s.heap.IsTuple l2 ys)
    (h : ∀ h', IsZip h' (s.heap.objs.size + 4) (s.heap.objs.size + 2) (s.heap.objs.size + 3) .none → IsPair h' (s.heap.objs.size + 2) (.ref s.heap.objs.size) (.ref (s.heap.objs.size + 1)) →
      IsPair h' (s.heap.objs.size + 3) .none .none → h'.IsTupleIter s.heap.objs.size l1 0 → h'.IsTupleIter (s.heap.objs.size + 1) l2 0 → h'.objs.size = s.heap.objs.size + 5 →
      (∀ c o, s.heap.get? c = some o → h'.get? c = some o) → Q (.ref (s.heap.objs.size + 4)) { s with heap := h' }) :
    wpAny (model prog w) A (call (.type "zip") [.ref l1, .ref l2]) Q E s := by
  refine callType_new F.called_zip (by decide) (F.typeCall_zip_2 _ _) (F.newCall_zip_2 _ _) (fun obj => F.args_object_init_3 obj _ _) F.entry_zip_new
    (meets_zipT_new l1 l2 xs ys) ?_
  have z1 : (zT1 s.heap l1).objs.size = s.heap.objs.size + 1 := Heap.size_push ..
  have z2 : (zT2 s.heap l1 l2).objs.size = s.heap.objs.size + 2 := by rw [Heap.size_push, z1]
  have z3 : (zT3 s.heap l1 l2).objs.size = s.heap.objs.size + 3 := by rw [Heap.size_push, z2]
  have z4 : (zT4 s.heap l1 l2).objs.size = s.heap.objs.size + 4 := by rw [Heap.size_push, z3]
  have z5 : (zT5 s.heap l1 l2).objs.size = s.heap.objs.size + 5 := by rw [Heap.size_push, z4]
  have g5 : (zT5 s.heap l1 l2).get? (zT4 s.heap l1 l2).objs.size = some _ := Heap.get?_push_size _ rfl
  have g4 : (zT5 s.heap l1 l2).get? (zT3 s.heap l1 l2).objs.size = some _ := Heap.get?_push_of_some _ (Heap.get?_push_size _ rfl)
  have g3 : (zT5 s.heap l1 l2).get? (zT2 s.heap l1 l2).objs.size = some _ := Heap.get?_push_of_some _ (Heap.get?_push_of_some _ (Heap.get?_push_size _ rfl))
  have g2 : (zT5 s.heap l1 l2).get? (zT1 s.heap l1).objs.size = some _ := Heap.get?_push_of_some _ (Heap.get?_push_of_some _ (Heap.get?_push_of_some _ (Heap.get?_push_size _ rfl)))
  have g1 : (zT5 s.heap l1 l2).get? s.heap.objs.size = some _ := Heap.get?_push_of_some _ (Heap.get?_push_of_some _ (Heap.get?_push_of_some _ (Heap.get?_push_of_some _ (Heap.get?_push_size _ rfl))))
  refine ⟨hx, hy, ?_⟩
  show _ ∧ _
  rw [z2, z3, z4] at g5
  rw [z1, z2] at g3
  rw [z3] at g4
  rw [z1] at g2
  rw [z4]
  exact ⟨⟨_, g5, rfl⟩, h _ g5 g3 g4 ⟨_, g1, rfl, rfl⟩ ⟨_, g2, rfl, rfl⟩ z5 fun c o x =>
    Heap.get?_push_of_some _ (Heap.get?_push_of_some _ (Heap.get?_push_of_some _ (Heap.get?_push_of_some _ (Heap.get?_push_of_some _ x))))⟩
end
def ItzT (K : PySem.W.Frag) (a b : Addr) : It :=
  ⟨fun i H => ∃ (xs ys : List V) (x y : V), SqT K H a xs ∧ SqT K H b ys ∧ xs[i]? = some x ∧ ys[i]? = some y,
    fun i H v H' => ∃ T x y, v = .ref T ∧ H T = none ∧ H' = upd H T (.tup [x, y]) ∧ (∀ xs, SqT K H a xs → xs[i]? = some x) ∧ ∀ ys, SqT K H b ys → ys[i]? = some y,
    fun i H => ∃ xs ys : List V, SqT K H a xs ∧ SqT K H b ys ∧ (xs.length ≤ i ∨ ys.length ≤ i)⟩
theorem turn_zipT {P : Program} {w : World} {K : PySem.W.Frag} {elts : List Expr} {kk : Nat} {tpos : Pos} {l1 l2 z TI' TO i1 i2 : Addr} (D : ZA z TI' TO i1 i2) (D1 : ZL z TO i1 i2 l1) (D2 : ZL z TO i1 i2 l2) :
    Turn P w K (.Tuple elts kk tpos) (ItzT K l1 l2) [z, TI', TO, i1, i2] z (fun i h => IsZip h z TI' TO .none ∧ IsPair h TI' (.ref i1) (.ref i2) ∧ (∃ x y, IsPair h TO x y) ∧ h.IsTupleIter i1 l1 i ∧ h.IsTupleIter i2 l2 i) where
  mem := by simp
  obj := fun i h st c hc => by
    obtain ⟨hz, hTI, ⟨x, y, hTO⟩, ⟨o1, e1, _, d1⟩, ⟨o2, e2, _, d2⟩⟩ := st
    have e' : c = z ∨ c = TI' ∨ c = TO ∨ c = i1 ∨ c = i2 := by simpa using hc
    rcases e' with q | q | q | q | q
    · rw [q]; exact ⟨_, hz, fun v q => nomatch q⟩
    · rw [q]; exact ⟨_, hTI, fun v q => nomatch q⟩
    · rw [q]; exact ⟨_, hTO, fun v q => nomatch q⟩
    · rw [q]; exact ⟨o1, e1, fun v q => by rw [d1] at q; cases q⟩
    · rw [q]; exact ⟨o2, e2, fun v q => by rw [d2] at q; cases q⟩
  keep := fun i h h' st k => by
    obtain ⟨hz, hTI, ⟨x, y, hTO⟩, h1, h2⟩ := st
    exact ⟨k z (by simp) _ hz, k TI' (by simp) _ hTI, ⟨x, y, k TO (by simp) _ hTO⟩, h1.at fun o q => k i1 (by simp) o q, h2.at fun o q => k i2 (by simp) o q⟩
  item := by
    intro X hP hw hK hc i pins s σ H E I hf st hg
    subst hP hw hK
    obtain ⟨hz, hTI, ⟨x0, y0, hTO⟩, h1, h2⟩ := st
    obtain ⟨xs, ys, x, y, hqx, hqy, hx, hy⟩ := hg
    obtain ⟨its, rv, p, _⟩ := I.tuple hqx
    obtain ⟨its2, rv2, p2, _⟩ := I.tuple hqy
    obtain ⟨u, hu, ru⟩ := rv.get hx
    obtain ⟨u2, hu2, ru2⟩ := rv2.get hy
    have hzl : z < s.heap.objs.size := Heap.lt_size hz
    refine pyNext_zipT_item D D1 D2 hz hTI hTO ⟨h1, (show s.heap.IsTuple l1 its.toArray from p)⟩ ⟨h2, (show s.heap.IsTuple l2 its2.toArray from p2)⟩ (x := u) (y := u2) (by simpa using hu) (by simpa using hu2) fun h' z' TO' h1' h2' hT hsz hk => ?_
    refine ⟨_, rfl, wpAny_letOwnedTupleGo_zip (s := { s with heap := h' }) z' fun h'' z'' sb => ?_⟩
    have hT2 : h''.get? s.heap.objs.size = some { cls := .type "tuple", data := .seq #[u, u2] } := (sb.2 _ (Nat.ne_of_gt hzl)).trans hT
    have new : ObjOk X.prog X.w (upd H s.heap.objs.size (.tup [x, y])) h'' s.heap.objs.size (.tup [x, y]) :=
      ⟨by show 2 ≤ sizeLine; decide, [u, u2], .cons ru (.cons ru2 .nil), ⟨_, hT2, rfl, _, rfl⟩⟩
    have I1 : Inv X pins σ (upd H s.heap.objs.size (.tup [x, y])) { s with heap := h'' } :=
      I.turnedNew (t' := s.toks) (ch := [z, TI', TO, i1, i2]) (fun c o hb q => (sb.2 c (fun q' => hb (by simp [q']))).trans (hk c o (fun q' => hb (by simp [q'])) (fun q' => hb (by simp [q'])) (fun q' => hb (by simp [q'])) (fun q' => hb (by simp [q'])) q)) hf (Nat.le_refl _) new
    refine ⟨.ref s.heap.objs.size, _, I1, rfl, ⟨_, x, y, rfl, I.hok.fresh (Nat.le_refl _), rfl, fun l hl => by rw [I.tuple_inj hl hqx]; exact hx, fun l hl => by rw [I.tuple_inj hl hqy]; exact hy⟩, ⟨z'', ?_, ⟨u, u2, ?_⟩, ?_, ?_⟩, fun c hcm => ?_⟩
    · exact (sb.2 _ D.TIz).trans (hk _ _ D.TIz D.TITO D.TIi1 D.TIi2 hTI)
    · exact (sb.2 _ D.TOz).trans TO'
    · exact h1'.1.at fun o q => (sb.2 _ D.i1z).trans q
    · exact h2'.1.at fun o q => (sb.2 _ D.i2z).trans q
    · have hlt : c < s.heap.objs.size := by
        have e' : c = z ∨ c = TI' ∨ c = TO ∨ c = i1 ∨ c = i2 := by simpa using hcm
        rcases e' with q | q | q | q | q
        · rw [q]; exact hzl
        · rw [q]; exact Heap.lt_size hTI
        · rw [q]; exact Heap.lt_size hTO
        · rw [q]; obtain ⟨_, e1, _⟩ := h1; exact Heap.lt_size e1
        · rw [q]; obtain ⟨_, e2, _⟩ := h2; exact Heap.lt_size e2
      rw [upd_ne (Nat.ne_of_lt hlt)]
      exact (hf c hcm).1
  done := by
    intro X hP hw hK hc i pins s σ H E I hf st hg
    subst hP hw hK
    obtain ⟨hz, hTI, ⟨x0, y0, hTO⟩, h1, h2⟩ := st
    obtain ⟨xs, ys, hqx, hqy, hend⟩ := hg
    obtain ⟨its, rv, p, _⟩ := I.tuple hqx
    obtain ⟨its2, rv2, p2, _⟩ := I.tuple hqy
    have l1 := rv.length
    have l2 := rv2.length
    have he : its.toArray[i]? = none ∨ its2.toArray[i]? = none := by
      rcases hend with q | q
      · exact .inl (by simp; omega)
      · exact .inr (by simp; omega)
    exact pyNext_zipT_end (I.ok.hd hc) D D1 D2 hz hTI hTO ⟨h1, p⟩ ⟨h2, p2⟩ he fun h' hk => ⟨rfl, I.turnedL (t' := s.toks) (ch := [z, TI', TO, i1, i2]) (fun c o hb q =>
      hk c o (fun q' => hb (by simp [q'])) (fun q' => hb (by simp [q'])) (fun q' => hb (by simp [q'])) (fun q' => hb (by simp [q'])) q) hf⟩
  self := fun A i s Q E st h => wpAny_pyIter_zip st.1 h
def iZipT (K : PySem.W.Frag) (ta : TA) : TI := fun σ H R => ta σ H fun vs H1 => ∃ a b xs ys, vs = [.ref a, .ref b] ∧ SqT K H1 a xs ∧ SqT K H1 b ys ∧ R (ItzT K a b) H1
theorem pi_zipT {X : Cx} {e e2 : Expr} {ta : TA} {p pos tpos : Pos} {elts : List Expr} {kk : Nat} (hg : Gl X "zip") (hm : X.mg "zip" = none) (ha : PA X [e, e2] ta)
    (hs : starEach [e, e2] X.env = (false, eval e X.env) :: starEach [e2] X.env := by rfl) (hpl : (backTo pos (starEach [e2] X.env)).any (·.1) = false := by rfl) :
    PI X (.Tuple elts kk tpos) (.Call (.Name "zip" p) [e, e2] [] pos) (iZipT X.K ta) := by
  constructor
  intro pins s σ H R I h
  refine Call_ (ld_blt I hg hm boot_zip5 (PyProof.Rows.callWith_type1 (thn (ha pos pins s σ H _ I h) fun us s1 ⟨vs, H1, I1, r1, q1⟩ => ?_) hs hpl))
  obtain ⟨a, b, xs, ys, ex, hqx, hqy, q⟩ := q1
  subst ex
  cases r1 with
  | cons r rr =>
    cases rr with
    | cons r' rr =>
      cases rr
      cases r
      cases r'
      obtain ⟨its, rv, p1, _⟩ := I1.tuple hqx
      obtain ⟨its2, rv2, p2, _⟩ := I1.tuple hqy
      have la : a < s1.heap.objs.size := p1.lt
      have lb : b < s1.heap.objs.size := p2.lt
      refine call_zipT p1 p2 fun h' hz hTI hTO h1 h2 hsz hk => wpAny_pyIter_zip hz ?_
      have I2 : Inv X pins σ H1 { s1 with heap := h' } := I1.kept (t' := s1.toks) hk
      refine ⟨s1.heap.objs.size + 4, [s1.heap.objs.size + 4, s1.heap.objs.size + 2, s1.heap.objs.size + 3, s1.heap.objs.size, s1.heap.objs.size + 1], _, _, H1, rfl, I2, turn_zipT (za_new _) (zl_new la) (zl_new lb), ⟨hz, hTI, ⟨_, _, hTO⟩, h1, h2⟩, fun c hcm => ?_, q⟩
      have e' : c = s1.heap.objs.size + 4 ∨ c = s1.heap.objs.size + 2 ∨ c = s1.heap.objs.size + 3 ∨ c = s1.heap.objs.size ∨ c = s1.heap.objs.size + 1 := by simpa using hcm
      have hle : s1.heap.objs.size ≤ c := by
        rcases e' with z | z | z | z | z
        · rw [z]; exact Nat.le_add_right _ _
        · rw [z]; exact Nat.le_add_right _ _
        · rw [z]; exact Nat.le_add_right _ _
        · rw [z]; exact Nat.le_refl _
        · rw [z]; exact Nat.le_add_right _ _
      exact I1.fpOk hle (I1.hok.fresh hle)
section
variable {prog : Program} {w : World} {A : Around} {E : Value → Shared → Prop} {s : Shared}
end
section
variable {X : Cx} {e : Expr} {te : TE} {pos p2 p3 p4 : Pos} {kk : Nat}
end
end L2
set_option Elab.async false
set_option linter.all false
set_option maxRecDepth 100000
namespace L2
open PySem PySem.Spec PyProof.Rows
variable {K : PySem.W.Frag}
mutual
theorem Dx.un {H : Hp} : ∀ {d d' : PyData} {v : V}, Dx K H v d → Dx K H v d' → d = d'
  | .none, _, _, h, h' => by cases h; cases h'; rfl
  | .bool _, _, _, h, h' => by cases h; cases h'; rfl
  | .int _, _, _, h, h' => by cases h; cases h'; rfl
  | .str _, _, _, h, h' => by cases h; cases h'; rfl
  | .list ds, _, _, h, h' => by
    cases h with
    | lst e n q =>
      cases h' with
      | lst e' n' q' => rw [e] at e'; cases e'; rw [Dx.unAll q q']
      | tup e' q' => rw [e] at e'; cases e'
      | dic e' k' q' => rw [e] at e'; cases e'
  | .tuple ds, _, _, h, h' => by
    cases h with
    | tup e q =>
      cases h' with
      | lst e' n' q' => rw [e] at e'; cases e'
      | tup e' q' => rw [e] at e'; cases e'; rw [Dx.unAll q q']
      | dic e' k' q' => rw [e] at e'; cases e'
  | .dict ps, _, _, h, h' => by
    cases h with
    | dic e k q =>
      cases h' with
      | lst e' n' q' => rw [e] at e'; cases e'
      | tup e' q' => rw [e] at e'; cases e'
      | @dic _ _ ps' e' k' q' =>
        rw [e] at e'
        cases e'
        have h1 : ps.map (·.1) = ps'.map (·.1) := k.trans k'.symm
        have h2 : ps.map (·.2) = ps'.map (·.2) := Dx.unAll q q'
        congr 1
        have : List.zip (ps.map (·.1)) (ps.map (·.2)) = List.zip (ps'.map (·.1)) (ps'.map (·.2)) := by rw [h1, h2]
        have z : ∀ l : List (PyData × PyData), List.zip (l.map (·.1)) (l.map (·.2)) = l := fun l => by
          induction l with
          | nil => rfl
          | cons a l ih => simp only [List.map_cons, List.zip_cons_cons, ih]
        rw [← z ps, ← z ps']
        exact this
  termination_by d => sizeOf d
  decreasing_by all_goals (simp_wf; try first | omega | (have := sz_snd ps; omega))
theorem Dx.unAll {H : Hp} : ∀ {ds ds' : List PyData} {vs : List V}, DxAll K H vs ds → DxAll K H vs ds' → ds = ds'
  | [], _, _, h, h' => by cases h; cases h'; rfl
  | d :: ds, _, _, h, h' => by
    cases h with
    | cons a b =>
      cases h' with
      | cons a' b' => rw [Dx.un a a', Dx.unAll b b']
  termination_by ds => sizeOf ds
  decreasing_by all_goals (simp_wf; omega)
end
theorem DxAll.get {H : Hp} : ∀ {vs : List V} {ds : List PyData}, DxAll K H vs ds → vs.length = ds.length ∧ ∀ (i : Nat) (v : V), vs[i]? = some v → ∃ d, ds[i]? = some d ∧ Dx K H v d
  | _, _, .nil => ⟨rfl, fun i v h => by simp at h⟩
  | _, _, .cons a b => by
    obtain ⟨l, g⟩ := DxAll.get b
    refine ⟨by rw [List.length_cons, List.length_cons, l], fun i v h => ?_⟩
    cases i with
    | zero =>
      rw [List.getElem?_cons_zero] at h
      cases h
      exact ⟨_, rfl, a⟩
    | succ i => exact g i v (by simpa using h)
theorem DxAll.snoc {H : Hp} : ∀ {vs : List V} {ds : List PyData} {v : V} {d : PyData}, DxAll K H vs ds → Dx K H v d → DxAll K H (vs ++ [v]) (ds ++ [d])
  | _, _, _, _, .nil, h => .cons h .nil
  | _, _, _, _, .cons a b, h => .cons a (DxAll.snoc b h)
section
variable {H H' H2 : Hp} {D : Addr} {o o2 : HO}
end
end L2
set_option Elab.async false
set_option linter.all false
set_option maxRecDepth 100000
namespace L2
open PySem PySem.Spec PyProof.Rows
section
variable {X : Cx} {k : Nat} {f C : Addr} {fd : FuncData} {ps : List Str} {ds : List Value} {dvs : List V} {sp : Sp} {m : Str} {pos apos : Pos} {o e : Expr} {es : List Expr} {ta : TE} {t : TA}
end
section
variable {X : Cx} {pins : List (Addr × Obj)} {σ : St} {H : Hp} {s : Shared} {A : Around}
end
end L2
set_option Elab.async false
set_option linter.all false
set_option maxRecDepth 100000
namespace L2
open PySem PySem.Spec PyProof.Rows
end L2
set_option Elab.async false
set_option linter.all false
set_option maxRecDepth 100000
namespace L2
open PySem PySem.Spec PyProof.Rows
section
variable {prog : Program} {w : World} {A : Around} {R : Result → Shared → Prop} {h : Heap} {g : Array GenState} {d : Drawn} {t : Nat} {os : OsState}
variable {nm q : Str} {C N f : Addr} {bs bm : List Value} {hdct : Bool} {sn : List Str} {sub : List Value} {ab : Bool} {col : Option Bool} {dd : Option Addr} {k0 k1 k2 k3 k5 : Option Value} {B newId initId : String}
end
end L2
set_option Elab.async false
set_option linter.all false
set_option maxRecDepth 100000
namespace L2
open PySem PySem.Spec PyProof.Rows
def XD (d : Addr) (fs : List (Str × V)) : HO := .ext fun h => ∃ mA, h.Ns1 d mA ∧ (∀ f, RelO (fs.lookup f) (mA f)) ∧ PySem.Within mA (fs.map (·.1)) ∧ fs.length ≤ 1000
theorem XD.ok {P : Program} {w : World} {H : Hp} {h : Heap} {d : Addr} {fs : List (Str × V)} {mA : Str → Option Value} (n : h.Ns1 d mA) (r : ∀ f, RelO (fs.lookup f) (mA f)) (wi : PySem.Within mA (fs.map (·.1))) (l : fs.length ≤ 1000) : ObjOk P w H h d (XD d fs) := by
  refine ⟨⟨mA, n, r, wi, l⟩, ?_, ?_⟩
  · obtain ⟨o, _, _, z, _⟩ := n; exact ⟨o, z⟩
  · rintro h1 h2 ⟨m, ⟨o, es, ep, z, q⟩, r2⟩ k
    exact ⟨m, ⟨o, es, ep, k _ z, q⟩, r2⟩
section
variable {prog : Program} {w : World} {hh : Heap} {g : Array GenState} {dr : Drawn} {t : Nat} {os : OsState} {A : Around} {E : Value → Shared → Prop}
variable {nm q : Str} {e d C N : Addr} {bs bm : List Value} {sn : List Str} {sub : List Value} {ab : Bool} {col : Option Bool} {dd : Option Addr} {k0 k1 k2 k3 k5 : Option Value} {B newId sa owner : String} {mN mA : Str → Option Value} {oe : Obj} {vs : Array Value} {u : Value} {a : Str} {ns : List Str}
open Builtin Builtin.ObjectAttr in
end
section
variable {X : Cx} {pins : List (Addr × Obj)} {σ : St} {H : Hp} {s : Shared} {e d C N f : Addr} {B newId initId : String} {bm : List Value} {a : Str} {A : Around} {E : Value → Shared → Prop} {fs : List (Str × V)}
end
end L2
set_option Elab.async false
set_option linter.all false
set_option maxRecDepth 100000
namespace L2
open PySem PySem.Spec PyProof.Rows
section
variable {X : Cx} {pins : List (Addr × Obj)} {σ : St} {H : Hp} {s : Shared} {C N f : Addr} {B newId initId : String} {bm : List Value} {a : Str}
section
variable {o value : Expr} {ta tv te : TE} {pos pos' : Pos}
end
end
section
variable {X : Cx} {k : Nat} {f C N : Addr} {fd : FuncData} {ps ks : List Str} {sp : Sp} {x : Str} {p pos : Pos} {e : Expr} {es : List Expr} {kws : List Keyword} {t tk : TA} {B newId initId : String} {bm : List Value}
variable {g : List Value → List Value → List Value} {gV : List V → List V → List V}
end
section
variable {X : Cx} {C N : Addr} {B newId initId : String} {bm : List Value} {x : Str} {pos np : Pos}
end
end L2
set_option Elab.async false
set_option linter.all false
set_option maxRecDepth 100000
namespace L2
open PySem PySem.Spec PyProof.Rows
end L2
set_option Elab.async false
set_option linter.all false
set_option maxRecDepth 100000
namespace L2
open PySem PySem.Spec PyProof.Rows
abbrev TAx := St → Hp → (List V → Hp → Prop) → XK → Prop
structure PAx (X : Cx) (es : List Expr) (t : TAx) : Prop where
  run : ∀ (pos : Pos) (pins : List (Addr × Obj)) (s : Shared) (σ : St) (H : Hp) (Q : List V → Hp → Prop) (E : XK), Inv X pins σ H s → t σ H Q E →
    wpAny (model X.prog X.w) X.A (spliced (backTo pos (starEach es X.env))) (fun us s1 => ∃ vs H1, Inv X pins σ H1 s1 ∧ Vals vs us ∧ Q vs H1) (XP X pins σ E) s
section
variable {X : Cx} {e : Expr} {es : List Expr} {te : TE} {tx : TX} {t : TA} {ta : TAx}
end
section
variable {X : Cx} {f C : Addr} {fd : FuncData} {ps ks : List Str} {sp : Sp} {k : Nat} {x : Str} {e₀ : Expr} {es : List Expr} {t : TAx} {pos p np cpos : Pos} {dvs : List V} {ds : List Value}
end
def XPS (X : Cx) (pins : List (Addr × Obj)) (E : St → XK) (ev : Value) (s : Shared) : Prop := ∃ σ', XP X pins σ' (E σ') ev s
abbrev TSx := St → Hp → Ends → (St → XK) → Prop
structure PSX (X : Cx) (st : Stmt) (t : TSx) : Prop where
  run : ∀ (pins : List (Addr × Obj)) (s : Shared) (σ : St) (H : Hp) (D : Ends) (E : St → XK), Inv X pins σ H s → t σ H D E → wpAny (model X.prog X.w) X.A (exec st X.env) (SP X pins D) (XPS X pins E) s
structure PSsX (X : Cx) (sts : List Stmt) (t : TSx) : Prop where
  run : ∀ (pins : List (Addr × Obj)) (s : Shared) (σ : St) (H : Hp) (D : Ends) (E : St → XK), Inv X pins σ H s → t σ H D E → wpAny (model X.prog X.w) X.A (execs sts X.env) (SP X pins D) (XPS X pins E) s
section
variable {X : Cx} {st : Stmt} {sts : List Stmt} {e c : Expr} {te : TX} {ts : TS} {t u : TSx} {tc : TT} {pos epos : Pos}
end
section
variable {X : Cx} {C N : Addr} {B newId initId : String} {bm : List Value} {x : Str} {np hpos pos : Pos} {b₀ : Stmt} {suite body : List Stmt} {ts : TS} {tb : TSx}
end
end L2
set_option Elab.async false
set_option linter.all false
set_option maxRecDepth 100000
namespace L2
open PySem PySem.Spec PyProof.Rows
end L2
set_option Elab.async false
set_option linter.all false
namespace SPr
open PySem
def sD : Nat → Nat
  | 0 => 0
  | d + 1 => 5 * sD d + 1
theorem pow5 : ∀ d, 5 ^ d = 4 * sD d + 1
  | 0 => rfl
  | d + 1 => by rw [Nat.pow_succ, pow5 d]; show _ = 4 * (5 * sD d + 1) + 1; omega
theorem sD_par : ∀ d, sD d % 2 = d % 2
  | 0 => rfl
  | d + 1 => by have := sD_par d; show (5 * sD d + 1) % 2 = _; omega
theorem sD_add : ∀ n d, sD (n + d) = 5 ^ n * sD d + sD n
  | 0, d => by rw [Nat.zero_add, Nat.pow_zero, Nat.one_mul]; rfl
  | n + 1, d => by
    rw [show n + 1 + d = (n + d) + 1 by omega]
    show 5 * sD (n + d) + 1 = 5 ^ (n + 1) * sD d + (5 * sD n + 1)
    rw [sD_add n d, Nat.pow_succ, Nat.mul_add, Nat.mul_comm (5 ^ n) 5, Nat.mul_assoc]; omega
theorem sD_dbl (e : Nat) : sD (2 * e) = 2 * (sD e * (2 * sD e + 1)) := by
  rw [show 2 * e = e + e by omega, sD_add, pow5]
  rw [Nat.add_mul, Nat.mul_add, Nat.mul_add, Nat.one_mul, Nat.mul_one]
  rw [Nat.mul_left_comm (sD e) 2 (sD e), Nat.mul_assoc]
  omega
theorem cop2 {x : Nat} (h : x % 2 = 1) : Nat.Coprime 2 x := by
  unfold Nat.Coprime
  rw [Nat.gcd_rec, h]; rfl
theorem copk {x : Nat} (h : x % 2 = 1) (k : Nat) : Nat.Coprime (2 ^ k) x := Nat.Coprime.pow_left k (cop2 h)
theorem dvd_sD : ∀ k d, 2 ^ k ∣ sD d → 2 ^ k ∣ d
  | 0, d, _ => by rw [Nat.pow_zero]; exact Nat.one_dvd d
  | k + 1, d, h => by
    have h2 : sD d % 2 = 0 := by
      obtain ⟨c, hc⟩ := h
      rw [hc, Nat.pow_succ, Nat.mul_comm (2 ^ k) 2, Nat.mul_assoc]
      exact Nat.mul_mod_right 2 _
    have hd := sD_par d
    obtain ⟨e, rfl⟩ : ∃ e, d = 2 * e := ⟨d / 2, by omega⟩
    rw [sD_dbl, Nat.pow_succ, Nat.mul_comm (2 ^ k) 2] at h
    have h3 : 2 ^ k ∣ sD e * (2 * sD e + 1) := Nat.dvd_of_mul_dvd_mul_left (by decide) h
    rw [Nat.mul_comm] at h3
    have h4 := Nat.Coprime.dvd_of_dvd_mul_left (copk (by omega) k) h3
    rw [Nat.pow_succ, Nat.mul_comm (2 ^ k) 2]
    exact Nat.mul_dvd_mul_left 2 (dvd_sD k e h4)
def lcgN (M : Nat) (i : Nat) : Nat → Nat
  | 0 => i
  | n + 1 => (lcgN M i n * 5 + 1) % M
theorem lcg_eq {M i : Nat} (hi : i < M) : ∀ n, lcgN M i n = (5 ^ n * i + sD n) % M
  | 0 => by
    show i = (5 ^ 0 * i + 0) % M
    rw [Nat.pow_zero, Nat.one_mul, Nat.add_zero, Nat.mod_eq_of_lt hi]
  | n + 1 => by
    show (lcgN M i n * 5 + 1) % M = _
    rw [lcg_eq hi n]
    have e : 5 ^ (n + 1) * i + sD (n + 1) = (5 ^ n * i + sD n) * 5 + 1 := by
      rw [Nat.pow_succ, Nat.add_mul, Nat.mul_right_comm]
      show _ + (5 * sD n + 1) = _
      omega
    rw [e, Nat.add_mod, Nat.mul_mod, Nat.mod_mod, ← Nat.mul_mod, ← Nat.add_mod]
theorem lcg_lt {M i : Nat} (hi : i < M) (n : Nat) : lcgN M i n < M := by
  rw [lcg_eq hi n]
  exact Nat.mod_lt _ (by omega)
theorem lcg_inj {k i n d : Nat} (hi : i < 2 ^ k) (hd : 0 < d) (hd2 : d < 2 ^ k) : lcgN (2 ^ k) i (n + d) ≠ lcgN (2 ^ k) i n := by
  intro h
  rw [lcg_eq hi, lcg_eq hi] at h
  have e : 5 ^ (n + d) * i + sD (n + d) = 5 ^ n * (sD d * (4 * i + 1)) + (5 ^ n * i + sD n) := by
    rw [sD_add, Nat.pow_add, pow5 d, Nat.mul_add (5 ^ n), Nat.mul_one, Nat.add_mul, Nat.mul_add (sD d), Nat.mul_one, Nat.mul_add (5 ^ n)]
    have : 5 ^ n * (4 * sD d) * i = 5 ^ n * (sD d * (4 * i)) := by
      rw [Nat.mul_assoc]; congr 1; rw [Nat.mul_comm 4, Nat.mul_assoc]
    omega
  rw [e] at h
  have h2 : (5 ^ n * (sD d * (4 * i + 1)) + (5 ^ n * i + sD n) - (5 ^ n * i + sD n)) % 2 ^ k = 0 := Nat.sub_mod_eq_zero_of_mod_eq h
  rw [Nat.add_sub_cancel] at h2
  have h3 := Nat.dvd_of_mod_eq_zero h2
  have h5 : (5 ^ n) % 2 = 1 := by rw [pow5]; omega
  have h4 := Nat.Coprime.dvd_of_dvd_mul_left (copk h5 k) h3
  rw [Nat.mul_comm] at h4
  have h6 := Nat.Coprime.dvd_of_dvd_mul_left (copk (by omega) k) h4
  have h7 := Nat.le_of_dvd hd (dvd_sD k d h6)
  omega
theorem nodup_le : ∀ (M : Nat) (l : List Nat), l.Nodup → (∀ x ∈ l, x < M) → l.length ≤ M
  | 0, l, _, h => by
    cases l with
    | nil => exact Nat.le_refl _
    | cons a r => exact absurd (h a (.head _)) (Nat.not_lt_zero _)
  | M + 1, l, hn, h => by
    have h1 := nodup_le M (l.erase M) (hn.erase M) fun x hx => by
      have := (List.Nodup.mem_erase_iff hn).mp hx
      have := h x this.2
      omega
    have := List.le_length_erase (a := M) (l := l)
    omega
theorem sub_len : ∀ (L l : List Nat), L.Nodup → (∀ x ∈ L, x ∈ l) → L.length ≤ l.length
  | [], _, _, _ => Nat.zero_le _
  | a :: r, l, hn, h => by
    obtain ⟨h1, h2⟩ := List.nodup_cons.mp hn
    have ha := h a (.head _)
    have := sub_len r (l.erase a) h2 fun x hx => (List.mem_erase_of_ne (show x ≠ a from fun z => h1 (z ▸ hx))).mpr (h x (.tail _ hx))
    rw [List.length_erase_of_mem ha] at this
    have := List.length_pos_of_mem ha
    rw [List.length_cons]; omega
theorem missing {l : List Nat} {M : Nat} (h : l.length < M) : ∃ j, j < M ∧ j ∉ l := by
  by_cases e : ∃ j, j < M ∧ j ∉ l
  · exact e
  · exfalso
    have h1 : ∀ j, j < M → j ∈ l := fun j hj => by
      by_cases z : j ∈ l
      · exact z
      · exact absurd ⟨j, hj, z⟩ e
    have := sub_len (List.range M) l List.nodup_range fun j hj => h1 j (List.mem_range.mp hj)
    rw [List.length_range] at this
    omega
theorem lcg_all {k i : Nat} (hi : i < 2 ^ k) {j : Nat} (hj : j < 2 ^ k) : ∃ n, n < 2 ^ k ∧ lcgN (2 ^ k) i n = j := by
  by_cases e : ∃ n, n < 2 ^ k ∧ lcgN (2 ^ k) i n = j
  · exact e
  · exfalso
    have hn : ((List.range (2 ^ k)).map (lcgN (2 ^ k) i)).Nodup := by
      rw [List.Nodup, List.pairwise_map]
      refine List.Pairwise.imp_of_mem ?_ (List.pairwise_lt_range (n := 2 ^ k))
      intro a b ha hb hab
      have hb' := List.mem_range.mp hb
      have := lcg_inj (n := a) (d := b - a) hi (by omega) (by omega)
      rw [show a + (b - a) = b by omega] at this
      exact fun z => this z.symm
    have hc : (j :: (List.range (2 ^ k)).map (lcgN (2 ^ k) i)).Nodup := List.nodup_cons.mpr ⟨fun z => by
      obtain ⟨n, hn, hz⟩ := List.mem_map.mp z
      exact e ⟨n, List.mem_range.mp hn, hz⟩, hn⟩
    have := nodup_le (2 ^ k) _ hc fun x hx => by
      rcases List.mem_cons.mp hx with rfl | hx
      · exact hj
      · obtain ⟨n, _, rfl⟩ := List.mem_map.mp hx
        exact lcg_lt hi n
    rw [List.length_cons, List.length_map, List.length_range] at this
    omega
end SPr
set_option Elab.async false
set_option linter.all false
namespace SPr
open PySem PySem.SetTable
def tn (mask h : Nat) : Nat → Nat × Nat
  | 0 => (h % (mask + 1), h)
  | T + 1 => leap mask (tn mask h T).1 (tn mask h T).2
theorem tn_per (mask h : Nat) : ∀ T, (tn mask h T).2 = h / 32 ^ T
  | 0 => by rw [Nat.pow_zero, Nat.div_one]; rfl
  | T + 1 => by
    show (tn mask h T).2 / 32 = _
    rw [tn_per mask h T, Nat.div_div_eq_div_mul, Nat.pow_succ]
theorem tn_zero {mask h : Nat} (hh : h < 2 ^ 64) {T : Nat} (hT : 13 ≤ T) : (tn mask h T).2 = 0 := by
  rw [tn_per]
  refine Nat.div_eq_of_lt (Nat.lt_of_lt_of_le hh ?_)
  refine Nat.le_trans ?_ (Nat.pow_le_pow_right (by decide) hT)
  decide
theorem tn_lt (mask h : Nat) : ∀ T, (tn mask h T).1 < mask + 1
  | 0 => Nat.mod_lt _ (Nat.succ_pos _)
  | T + 1 => Nat.mod_lt _ (Nat.succ_pos _)
theorem tn_lcg {mask h : Nat} (hh : h < 2 ^ 64) : ∀ n, (tn mask h (13 + n)).1 = lcgN (mask + 1) (tn mask h 13).1 n
  | 0 => rfl
  | n + 1 => by
    show (leap mask (tn mask h (13 + n)).1 (tn mask h (13 + n)).2).1 = (lcgN (mask + 1) (tn mask h 13).1 n * 5 + 1) % (mask + 1)
    rw [← tn_lcg hh n, tn_zero hh (by omega)]
    rfl
theorem tn_all {mask h k : Nat} (hm : mask + 1 = 2 ^ k) (hh : h < 2 ^ 64) {j : Nat} (hj : j ≤ mask) : ∃ T, T < mask + 14 ∧ (tn mask h T).1 = j := by
  have hi := tn_lt mask h 13
  obtain ⟨n, hn, e⟩ := lcg_all (k := k) (i := (tn mask h 13).1) (by rw [← hm]; exact hi) (j := j) (by omega)
  refine ⟨13 + n, by omega, ?_⟩
  rw [tn_lcg hh, hm]
  exact e
theorem runEnd_le (mask i : Nat) : runEnd mask i - i ≤ 9 := by unfold runEnd; split <;> omega
theorem runEnd_ge (mask i : Nat) : i ≤ runEnd mask i := by unfold runEnd; split <;> omega
def adv (t : SetTable) : Nat → Probe → Probe
  | 0, p => p
  | n + 1, p => t.advance (adv t n p)
theorem adv_add (t : SetTable) (p : Probe) : ∀ m n, adv t (n + m) p = adv t m (adv t n p)
  | 0, n => rfl
  | m + 1, n => by
    show t.advance (adv t (n + m) p) = t.advance (adv t m (adv t n p))
    rw [adv_add t p m n]
def pst (mask : Nat) (x : Nat × Nat) : Probe := { j := x.1, more := runEnd mask x.1 - x.1, i := x.1, perturb := x.2, dummy := none }
theorem adv_run (t : SetTable) : ∀ (r : Nat) (p : Probe), p.more = r → p.dummy = none → adv t (r + 1) p = pst t.mask (leap t.mask p.i p.perturb)
  | 0, p, h, hd => by
    show t.advance p = _
    unfold advance
    rw [if_neg (by omega)]
    cases p
    cases hd
    rfl
  | r + 1, p, h, hd => by
    rw [show r + 1 + 1 = 1 + (r + 1) by omega, adv_add]
    have e : adv t 1 p = { p with j := p.j + 1, more := p.more - 1 } := by
      show t.advance p = _
      unfold advance
      rw [if_pos (by omega)]
    rw [e]
    exact adv_run t r { p with j := p.j + 1, more := p.more - 1 } (by show p.more - 1 = r; omega) hd
theorem adv_turn (t : SetTable) (h : Int) : ∀ T, ∃ n, n ≤ 10 * T ∧ adv t n (t.probeStart h) = pst t.mask (tn t.mask (bits h) T)
  | 0 => ⟨0, Nat.le_refl _, rfl⟩
  | T + 1 => by
    obtain ⟨n, hn, e⟩ := adv_turn t h T
    have := runEnd_le t.mask (tn t.mask (bits h) T).1
    refine ⟨n + ((runEnd t.mask (tn t.mask (bits h) T).1 - (tn t.mask (bits h) T).1) + 1), by omega, ?_⟩
    rw [adv_add, e]
    exact adv_run t _ _ rfl rfl
theorem bits_lt (h : Int) : bits h < 2 ^ 64 := by
  unfold bits
  have h1 := Int.emod_nonneg h (b := 2 ^ 64) (by decide)
  have h2 := Int.emod_lt_of_pos h (b := 2 ^ 64) (by decide)
  omega
theorem adv_all {t : SetTable} {k : Nat} (hm : t.mask + 1 = 2 ^ k) (h : Int) {j : Nat} (hj : j ≤ t.mask) : ∃ n, n < 10 * turns t.mask ∧ (adv t n (t.probeStart h)).j = j := by
  obtain ⟨T, hT, e⟩ := tn_all hm (bits_lt h) hj
  obtain ⟨n, hn, e2⟩ := adv_turn t h T
  refine ⟨n, by unfold turns; omega, ?_⟩
  rw [e2]
  exact e
theorem adv_dummy (t : SetTable) (p : Probe) (hd : p.dummy = none) : ∀ n, (adv t n p).dummy = none
  | 0 => hd
  | n + 1 => by
    have := adv_dummy t p hd n
    show (t.advance (adv t n p)).dummy = none
    unfold advance
    split
    · exact this
    · exact this
structure Wf (t : SetTable) (n : Nat) : Prop where
  dm : t.dummies = #[]
  pw : ∃ k, t.mask + 1 = 2 ^ k
  sz : t.place.size = n
  le : n * 5 < t.mask * 3
  m7 : 7 ≤ t.mask
theorem Wf.odd {t : SetTable} {n : Nat} (w : Wf t n) : t.mask % 2 = 1 := by
  obtain ⟨k, hk⟩ := w.pw
  have := w.m7
  cases k with
  | zero => rw [Nat.pow_zero] at hk; omega
  | succ k => rw [Nat.pow_succ] at hk; omega
theorem slot_free {t : SetTable} (hd : t.dummies = #[]) {j : Nat} (h : j ∉ t.place.toList) : t.slot j = .empty := by
  unfold slot
  have e : ∀ i : Nat, (t.place[i]? == some j) = false := fun i => by
    cases q : t.place[i]? with
    | none => rfl
    | some y =>
      have : y ≠ j := fun z => h (by rw [← z]; exact Array.mem_toList_iff.mpr (Array.mem_of_getElem? q))
      simpa using this
  dsimp only
  rw [e, hd]
  rfl
theorem no_dummy {t : SetTable} (hd : t.dummies = #[]) (j : Nat) : t.slot j ≠ .dummy := by
  unfold slot
  rw [hd]
  dsimp only
  split
  · intro z; cases z
  · split
    · rename_i h
      exact absurd h (by unfold has; simp)
    · intro z; cases z
theorem live_at {t : SetTable} {j i : Nat} (h : t.slot j = .live i) : i < t.place.size := by
  unfold slot at h
  dsimp only at h
  split at h
  · rename_i e
    cases h
    have := beq_iff_eq.mp e
    exact (Array.getElem?_eq_some_iff.mp this).1
  · split at h <;> cases h
theorem Wf.free {t : SetTable} {n : Nat} (w : Wf t n) (h : Int) : ∃ m, m < 10 * turns t.mask ∧ t.slot (adv t m (t.probeStart h)).j = .empty := by
  obtain ⟨k, hk⟩ := w.pw
  have hl : t.place.toList.length < t.mask + 1 := by
    have h1 := w.le
    have h2 := w.sz
    rw [Array.length_toList, h2]; omega
  obtain ⟨j, hj, hn⟩ := missing hl
  obtain ⟨m, hm, e⟩ := adv_all hk h (show j ≤ t.mask by omega)
  exact ⟨m, hm, by rw [e]; exact slot_free w.dm hn⟩
theorem go_path {t : SetTable} {n : Nat} (w : Wf t n) (hashAt : Nat → Int) (h : Int) {N : Nat} (hN : t.slot (adv t N (t.probeStart h)).j = .empty) :
    ∀ (r m fuel : Nat), m + r = N → r < fuel →
      (∃ j, probe.go t hashAt h fuel (adv t m (t.probeStart h)) = some (.empty j none)) ∨
      ∃ m' i, m ≤ m' ∧ m' < N ∧ t.slot (adv t m' (t.probeStart h)).j = .live i ∧ hashAt i = h ∧ probe.go t hashAt h fuel (adv t m (t.probeStart h)) = some (.candidate (adv t m' (t.probeStart h)).j i (adv t (m' + 1) (t.probeStart h)))
  | 0, m, fuel + 1, e, _ => by
    have e : m = N := e
    subst e
    refine .inl ⟨(adv t m (t.probeStart h)).j, ?_⟩
    unfold probe.go
    rw [hN]
    dsimp only
    rw [adv_dummy t _ rfl]
  | r + 1, m, fuel + 1, e, hf => by
    have ih := go_path w hashAt h hN r (m + 1) fuel (by omega) (by omega)
    unfold probe.go
    cases q : t.slot (adv t m (t.probeStart h)).j with
    | empty => exact .inl ⟨(adv t m (t.probeStart h)).j, by dsimp only; rw [adv_dummy t _ rfl]⟩
    | dummy => exact absurd q (no_dummy w.dm _)
    | live i =>
      dsimp only
      by_cases z : hashAt i = h
      · refine .inr ⟨m, i, Nat.le_refl _, by omega, q, z, ?_⟩
        rw [if_pos (beq_iff_eq.mpr z)]
        rfl
      · rw [if_neg (fun y => z (beq_iff_eq.mp y))]
        rcases ih with ⟨j, ej⟩ | ⟨m', i', h1, h2, h3, h4, h5⟩
        · exact .inl ⟨j, ej⟩
        · exact .inr ⟨m', i', by omega, h2, h3, h4, h5⟩
theorem probe_path {t : SetTable} {n : Nat} (w : Wf t n) (hashAt : Nat → Int) (h : Int) {N : Nat} (hN : t.slot (adv t N (t.probeStart h)).j = .empty) (hNl : N < 10 * turns t.mask) {m : Nat} (hm : m ≤ N) :
      (∃ j, t.probe hashAt h (adv t m (t.probeStart h)) = some (.empty j none)) ∨
      ∃ m' i, m ≤ m' ∧ m' < N ∧ t.slot (adv t m' (t.probeStart h)).j = .live i ∧ hashAt i = h ∧ t.probe hashAt h (adv t m (t.probeStart h)) = some (.candidate (adv t m' (t.probeStart h)).j i (adv t (m' + 1) (t.probeStart h))) :=
  go_path w hashAt h hN (N - m) m _ (by omega) (by omega)
end SPr
set_option Elab.async false
set_option linter.all false
namespace SPr
open PySem PySem.SetTable
def cnt (o : Array (Option Nat)) : Nat := o.toList.countP Option.isSome
theorem find_free {owner : Array (Option Nat)} {i e : Nat} {k : Nat} (h : (List.range e).find? (fun k => (owner.getD (i + k) (some 0)).isNone) = some k) : owner[i + k]? = some none := by
  have h1 := List.find?_some h
  rw [Array.getD_eq_getD_getElem?] at h1
  cases q : owner[i + k]? with
  | none => rw [q] at h1; cases h1
  | some z =>
    rw [q] at h1
    cases z with
    | none => rfl
    | some y => cases h1
theorem free_go {mask h : Nat} {owner : Array (Option Nat)} {T0 : Nat} (h0 : owner[(tn mask h T0).1]? = some none) :
    ∀ (r T fuel : Nat), T + r = T0 → r < fuel → ∃ j, layClean.free mask owner fuel (tn mask h T).1 (tn mask h T).2 = some j ∧ owner[j]? = some none
  | r, T, 0, _, hf => absurd hf (Nat.not_lt_zero _)
  | r, T, fuel + 1, e, hf => by
    unfold layClean.free
    cases q : (List.range (runEnd mask (tn mask h T).1 + 1 - (tn mask h T).1)).find? (fun k => (owner.getD ((tn mask h T).1 + k) (some 0)).isNone) with
    | some k => exact ⟨_, rfl, find_free q⟩
    | none =>
      cases r with
      | zero =>
        exfalso
        have e : T = T0 := e
        subst e
        have h1 := List.find?_eq_none.mp q 0 (List.mem_range.mpr (by have := runEnd_ge mask (tn mask h T).1; omega))
        rw [Array.getD_eq_getD_getElem?, Nat.add_zero, h0] at h1
        exact h1 rfl
      | succ r =>
        obtain ⟨j, h1, h2⟩ := free_go h0 r (T + 1) fuel (by omega) (by omega)
        exact ⟨j, h1, h2⟩
theorem free_ok {mask k : Nat} (hm : mask + 1 = 2 ^ k) {owner : Array (Option Nat)} (hs : owner.size = mask + 1) (h : Int) (hc : cnt owner ≤ mask) :
    ∃ j, layClean.free mask owner (turns mask) (bits h % (mask + 1)) (bits h) = some j ∧ owner[j]? = some none := by
  obtain ⟨j, hj⟩ : ∃ j : Nat, owner[j]? = some none := by
    by_cases z : ∃ j : Nat, owner[j]? = some none
    · exact z
    · exfalso
      have : owner.toList.countP Option.isSome = owner.toList.length := List.countP_eq_length.mpr fun a ha => by
        obtain ⟨j, hj, rfl⟩ := List.getElem_of_mem ha
        cases q : owner.toList[j] with
        | some _ => rfl
        | none => exact absurd ⟨j, by rw [← Array.getElem?_toList, List.getElem?_eq_getElem hj, q]⟩ z
      unfold cnt at hc
      rw [this, Array.length_toList, hs] at hc
      omega
  have hjl : j < owner.size := (Array.getElem?_eq_some_iff.mp hj).1
  obtain ⟨T, hT, e⟩ := tn_all hm (bits_lt h) (show j ≤ mask by omega)
  exact free_go (T0 := T) (by rw [e]; exact hj) T 0 (turns mask) (by omega) (by unfold turns; omega)
def layF (mask : Nat) (acc : Option (Array (Option Nat) × Nat)) (h : Int) : Option (Array (Option Nat) × Nat) := do
  let (owner, k) ← acc
  let j ← layClean.free mask owner (turns mask) (bits h % (mask + 1)) (bits h)
  pure (owner.setIfInBounds j (some k), k + 1)
theorem lay_fold {mask k : Nat} (hm : mask + 1 = 2 ^ k) : ∀ (hs : List Int) (owner : Array (Option Nat)) (c : Nat), owner.size = mask + 1 → cnt owner = c → c + hs.length ≤ mask + 1 → (∀ j v : Nat, owner[j]? = some (some v) → v < c) →
    ∃ owner', hs.foldl (layF mask) (some (owner, c)) = some (owner', c + hs.length) ∧ owner'.size = mask + 1 ∧ cnt owner' = c + hs.length ∧ ∀ j v : Nat, owner'[j]? = some (some v) → v < c + hs.length
  | [], owner, c, h1, h2, _, h4 => ⟨owner, rfl, h1, h2, h4⟩
  | h :: hs, owner, c, h1, h2, h3, h4 => by
    rw [List.length_cons] at h3 ⊢
    obtain ⟨j, e1, e2⟩ := free_ok hm h1 h (by omega)
    have hj : j < owner.size := (Array.getElem?_eq_some_iff.mp e2).1
    have hc : cnt (owner.setIfInBounds j (some c)) = c + 1 := by
      unfold cnt at h2 ⊢
      rw [Array.toList_setIfInBounds, List.countP_set (h := by rw [Array.length_toList]; exact hj)]
      have e3 : owner.toList[j]'(by rw [Array.length_toList]; exact hj) = none := by
        rw [Array.getElem_toList]
        rw [Array.getElem?_eq_getElem hj] at e2
        exact Option.some.inj e2
      rw [e3, h2]
      simp
    obtain ⟨o', f1, f2, f3, f4⟩ := lay_fold hm hs (owner.setIfInBounds j (some c)) (c + 1) (by rw [Array.size_setIfInBounds]; exact h1) hc (by omega) fun i v hv => by
      rw [Array.getElem?_setIfInBounds] at hv
      split at hv
      · have := Option.some.inj (Option.some.inj hv)
        omega
      · have := h4 i v hv
        omega
    refine ⟨o', ?_, f2, by omega, fun i v hv => by have := f4 i v hv; omega⟩
    rw [List.foldl_cons]
    have e4 : layF mask (some (owner, c)) h = some (owner.setIfInBounds j (some c), c + 1) := by
      show (do let j ← layClean.free mask owner (turns mask) (bits h % (mask + 1)) (bits h); pure (owner.setIfInBounds j (some c), c + 1) : Option _) = _
      rw [e1]; rfl
    rw [e4, f1]
    rw [show c + 1 + hs.length = c + (hs.length + 1) by omega]
theorem laid_ok {mask k : Nat} (hm : mask + 1 = 2 ^ k) (finger moves : Nat) (led plain : Bool) (hashes : Array Int) (hn : hashes.size ≤ mask) :
    ∃ t' order, laid mask finger moves led plain hashes = some (t', order) ∧ t'.mask = mask ∧ t'.dummies = #[] ∧ t'.place.size = hashes.size ∧ order.size = hashes.size ∧ ∀ v ∈ order.toList, v < hashes.size := by
  obtain ⟨owner, f1, f2, f3, f4⟩ := lay_fold hm hashes.toList (Array.replicate (mask + 1) none) 0 (by simp) (by unfold cnt; simp) (by rw [Array.length_toList]; omega) (fun j v hv => by
    have h := Array.mem_of_getElem? hv
    rw [Array.mem_replicate] at h
    exact absurd h.2 (by simp))
  rw [Nat.zero_add, Array.length_toList] at f1 f3
  have hl : layClean mask hashes = some owner := by
    show (hashes.foldl (layF mask) (some (Array.replicate (mask + 1) none, 0))).map (·.1) = some owner
    rw [← Array.foldl_toList, f1]; rfl
  have hlen : ((List.range (mask + 1)).filterMap fun j => (owner.getD j none).map (j, ·)).length = hashes.size := by
    rw [List.length_filterMap_eq_countP, ← f3]
    unfold cnt
    have e : owner.toList = (List.range (mask + 1)).map fun j => owner.getD j none := by
      apply List.ext_getElem
      · rw [Array.length_toList, List.length_map, List.length_range, f2]
      · intro i h1 h2
        rw [List.getElem_map, List.getElem_range, Array.getElem_toList]
        rw [Array.length_toList] at h1
        rw [Array.getD_eq_getD_getElem?, Array.getElem?_eq_getElem h1]; rfl
    rw [e, List.countP_map]
    congr 1
    funext j
    simp [Function.comp]
  refine ⟨_, _, by unfold laid; rw [hl]; rfl, rfl, rfl, ?_, ?_, ?_⟩
  · rw [List.size_toArray, List.length_map, hlen]
  · rw [List.size_toArray, List.length_map, hlen]
  · intro v hv
    obtain ⟨p, hp, rfl⟩ := List.mem_map.mp hv
    obtain ⟨j, hj, e⟩ := List.mem_filterMap.mp hp
    obtain ⟨y, e1, e2⟩ := Option.map_eq_some_iff.mp e
    have e3 : owner[j]? = some (some y) := by
      rw [Array.getD_eq_getD_getElem?] at e1
      cases q : owner[j]? with
      | none => rw [q] at e1; cases e1
      | some z => rw [q] at e1; exact congrArg some e1
    have := f4 j y e3
    rw [← e2]
    rw [Nat.zero_add, Array.length_toList] at this
    exact this
theorem above_go : ∀ (fuel s n : Nat), (∃ k, s = 2 ^ k) → 8 ≤ s → n < s * 2 ^ fuel → s ≤ max 8 (2 * n) → (∃ k, sizeAbove.go n fuel s = 2 ^ k) ∧ n < sizeAbove.go n fuel s ∧ 8 ≤ sizeAbove.go n fuel s ∧ sizeAbove.go n fuel s ≤ max 8 (2 * n)
  | 0, s, n, h1, h2, h3, h4 => ⟨h1, by rw [Nat.pow_zero, Nat.mul_one] at h3; exact h3, h2, h4⟩
  | fuel + 1, s, n, ⟨k, hk⟩, h2, h3, h4 => by
    unfold sizeAbove.go
    by_cases z : s ≤ n
    · rw [if_pos z]
      exact above_go fuel (s * 2) n ⟨k + 1, by rw [hk, Nat.pow_succ]⟩ (by omega) (by rw [Nat.pow_succ, Nat.mul_comm (2 ^ fuel) 2, ← Nat.mul_assoc] at h3; exact h3) (by omega)
    · rw [if_neg z]
      exact ⟨⟨k, hk⟩, by omega, h2, h4⟩
theorem above_ok {n : Nat} (h : n < 2 ^ 22) : (∃ k, sizeAbove n = 2 ^ k) ∧ n < sizeAbove n ∧ 8 ≤ sizeAbove n ∧ sizeAbove n ≤ max 8 (2 * n) :=
  above_go 64 8 n ⟨3, rfl⟩ (Nat.le_refl _) (Nat.lt_of_lt_of_le h (by decide)) (by omega)
end SPr
set_option Elab.async false
set_option linter.all false
set_option maxRecDepth 100000
namespace L2
open PySem PySem.Spec PyProof.Rows SPr
section
variable {prog : Program} {w : World} {A : Around} {E : Value → Shared → Prop} {s : Shared} {K0 : Type} [DecidableEq K0] {knd : KeyKind prog w K0}
theorem oaS_val {n : Nat} {v : Value} (h : carriedByValue v = true) : ofAClassStatement n v = pure false := by
  cases v <;> first | (cases n <;> rfl) | cases h
theorem wp_oaS {ks : List K0} {a : Addr} {Q : Bool → Shared → Prop} (hk : IsTupleKey knd s.heap ks a) (h : Q false s) : wpAny (model prog w) A (ofAClassStatement 8 (.ref a)) Q E s := by
  obtain ⟨o, items, n, ho, hc, hd, hi⟩ := hk
  unfold ofAClassStatement
  refine wpAny_bind (wpAny_typeOf_ref ho ?_)
  rw [hc]
  dsimp only
  refine wpAny_bind ?_
  refine wpAny_pure ?_
  simp only [Bool.not_true, Bool.false_eq_true, if_false]
  refine wpAny_bind (wpAny_seqItems ho hd ?_)
  refine wpAny_bind ?_
  show wpAny _ _ (forIn items _ _) _ _ s
  rw [← Array.forIn_toList]
  refine wpAny_forIn_list _ (fun rest r s' => r.1 = none ∧ s' = s ∧ ∀ v ∈ rest, carriedByValue v = true) _ ?_ ?_ _ _ ⟨rfl, rfl, hi.byValue⟩
  · rintro v rest r s' ⟨hr, rfl, hall⟩
    rw [oaS_val (hall v List.mem_cons_self)]
    refine wpAny_bind (wpAny_pure ?_)
    simp only [Bool.false_eq_true, if_false]
    exact wpAny_pure ⟨rfl, rfl, fun u hu' => hall u (List.mem_cons_of_mem _ hu')⟩
  · rintro ⟨r1, r2⟩ s' ⟨hr, rfl, _⟩
    simp only at hr
    subst hr
    exact wpAny_pure h
def TupsAt (knd : KeyKind prog w K0) (h : Heap) (k : List K0) (l : List Value) : Prop := ∀ v ∈ l, ∃ k' y, v = .ref y ∧ IsTupleKey knd h k' y ∧ k' ≠ k
theorem wp_seen {k : List K0} {x : Addr} {l : List Value} {Q : Bool → Shared → Prop} (hx : IsTupleKey knd s.heap k x) (hl : TupsAt knd s.heap k l) (h : Q false s) : wpAny (model prog w) A (searchCouldBeSeen (.ref x) l) Q E s := by
  unfold searchCouldBeSeen
  refine wpAny_bind ?_
  refine wpAny_forIn_list _ (fun rest r s' => r.1 = none ∧ s' = s ∧ TupsAt knd s.heap k rest) _ ?_ ?_ _ _ ⟨rfl, rfl, hl⟩
  · rintro v rest r s' ⟨hr, rfl, hall⟩
    obtain ⟨k', y, rfl, hy, hne⟩ := hall v List.mem_cons_self
    have rest' : TupsAt knd s'.heap k rest := fun u hu => hall u (List.mem_cons_of_mem _ hu)
    dsimp only
    have nxy : (x == y) = false := by
      cases q : (x == y) with
      | false => rfl
      | true =>
        have e := beq_iff_eq.mp q
        subst e
        exact absurd (hy.inj hx) hne
    rw [nxy]
    simp only [Bool.false_or, carriedByValue, Bool.false_and, Bool.false_eq_true, if_false]
    refine wpAny_bind (wpAny_eqIsQuiet_tuple hx ?_)
    simp only [Bool.not_true, Bool.false_eq_true, if_false]
    refine wpAny_bind (wpAny_eqIsQuiet_tuple hy ?_)
    simp only [Bool.not_true, Bool.false_eq_true, if_false]
    refine wpAny_bind (wp_oaS hx ?_)
    simp only [Bool.false_eq_true, if_false]
    refine wpAny_bind (wp_oaS hy ?_)
    simp only [Bool.false_eq_true, if_false]
    exact wpAny_pure ⟨rfl, rfl, rest'⟩
  · rintro ⟨r1, r2⟩ s' ⟨hr, rfl, _⟩
    simp only at hr
    subst hr
    exact wpAny_pure h
theorem hbv_val {n : Nat} {v : Value} (h : carriedByValue v = true) : ∃ b, hashByValue n v = pure b := by
  cases v <;> first | (cases n <;> exact ⟨_, rfl⟩) | cases h
theorem hash_slot {x : Addr} {k : List K0} (hx : IsTupleKey knd s.heap k x) {Q : Option Value → Shared → Prop} (h : Q (some (.builtin "tuple.__hash__")) s) : wpAny (model prog w) A (specialOf (.ref x) "__hash__") Q E s :=
  wpAny_specialOf hx.typeIs F.slot_tuple_hash.lookup h
theorem wp_hbv {k : List K0} {x : Addr} {Q : Bool → Shared → Prop} (hx : IsTupleKey knd s.heap k x) (h : ∀ b, Q b s) : wpAny (model prog w) A (hashByValue 8 (.ref x)) Q E s := by
  have hx0 := hx
  obtain ⟨o, items, n, ho, hc, hd, hi⟩ := hx
  unfold hashByValue
  refine wpAny_bind (hash_slot hx0 ?_)
  dsimp only
  refine wpAny_bind (wpAny_seqItems ho hd ?_)
  refine wpAny_bind ?_
  show wpAny _ _ (forIn items _ _) _ _ s
  rw [← Array.forIn_toList]
  refine wpAny_forIn_list _ (fun rest r s' => r.1 = none ∧ s' = s ∧ ∀ v ∈ rest, carriedByValue v = true) _ ?_ ?_ _ _ ⟨rfl, rfl, hi.byValue⟩
  · rintro v rest r s' ⟨hr, rfl, hall⟩
    obtain ⟨b, e⟩ := hbv_val (n := 7) (hall v List.mem_cons_self)
    rw [e]
    refine wpAny_bind (wpAny_pure ?_)
    cases b with
    | true =>
      simp only [Bool.not_true, Bool.false_eq_true, if_false]
      exact wpAny_pure ⟨rfl, rfl, fun u hu' => hall u (List.mem_cons_of_mem _ hu')⟩
    | false =>
      simp only [Bool.not_false, if_true]
      exact wpAny_pure (wpAny_pure (h _))
  · rintro ⟨r1, r2⟩ s' ⟨hr, rfl, _⟩
    simp only at hr
    subst hr
    exact wpAny_pure (h _)
theorem wp_search {a x : Addr} {k : List K0} {o : Obj} {es : Array (Int × Value)} {ep : Nat} {t : SetTable} {h : Int} {Q : SetFound → Shared → Prop} (hu : A.units < cLine) (hx : IsTupleKey knd s.heap k x)
    (ho : s.heap.get? a = some o) (hd : o.data = .set es ep t) (wf : Wf t es.size) (hes : TupsAt knd s.heap k (es.toList.map (·.2))) {N : Nat} (hN : t.slot (adv t N (t.probeStart h)).j = .empty) (hNl : N < 10 * SetTable.turns t.mask) (hq : ∀ j, Q (.free j false) s) :
    ∀ (r m fuel : Nat) (stand : Option SetTable.Probe), m + r = N → r < fuel → stand.getD (t.probeStart h) = adv t m (t.probeStart h) → wpAny (model prog w) A (setSearchFrom a (.ref x) h true fuel stand) Q E s
  | r, m, 0, stand, _, hf, _ => absurd hf (Nat.not_lt_zero _)
  | r, m, fuel + 1, stand, e, hf, hst => by
    have hfit : t.fits es.size = true := by
      unfold SetTable.fits SetTable.fill
      rw [wf.sz, wf.dm]
      have := wf.le
      simp
      omega
    have hodd : t.gaveWay = false := by unfold SetTable.gaveWay; rw [wf.odd]; rfl
    unfold setSearchFrom
    refine wpAny_bind (wpAny_setState_of ho hd hfit ?_)
    dsimp only
    rw [hodd]
    simp only [Bool.false_eq_true, if_false]
    rw [hst]
    generalize hp : t.probe _ h (adv t m (t.probeStart h)) = met
    rcases probe_path wf (fun i => (es[i]?.map (·.1)).getD 0) h hN hNl (m := m) (by omega) with ⟨j, ej⟩ | ⟨m', i, h1, h2, h3, h4, h5⟩
    · have e1 : met = some (.empty j none) := hp.symm.trans ej
      rw [e1]
      exact wpAny_pure (hq j)
    · have e1 : met = some (.candidate (adv t m' (t.probeStart h)).j i (adv t (m' + 1) (t.probeStart h))) := hp.symm.trans h5
      rw [e1]
      dsimp only
      have hi : i < es.size := by have := live_at h3; rw [wf.sz] at this; exact this
      have hei : es[i]? = some es[i] := Array.getElem?_eq_getElem hi
      have hmem : es[i].2 ∈ es.toList.map (·.2) := List.mem_map.mpr ⟨es[i], Array.mem_toList_iff.mpr (Array.getElem_mem hi), rfl⟩
      obtain ⟨k', y, ey, hy, hne⟩ := hes _ hmem
      have hflt : TupsAt knd s.heap k ((es.filter (·.1 == h)).toList.map (·.2)) := fun v hv => by
        obtain ⟨e, he, rfl⟩ := List.mem_map.mp hv
        rw [Array.toList_filter] at he
        exact hes _ (List.mem_map.mpr ⟨e, (List.mem_filter.mp he).1, rfl⟩)
      have hsm : t.sameMemory t.moves t.mask = some true := by unfold SetTable.sameMemory; simp
      have hss : isSame (.ref y) (.ref y) = pure true := by unfold isSame; simp
      have ih := wp_search hu hx ho hd wf hes hN hNl hq (N - (m' + 1)) (m' + 1) fuel (some (adv t (m' + 1) (t.probeStart h))) (by omega) (by omega) rfl
      generalize es[i] = e0 at hei ey
      obtain ⟨f0, y0⟩ := e0
      dsimp only at ey
      subst ey
      split
      · refine wpAny_bind (wp_seen hx hflt ?_)
        simp only [Bool.false_eq_true, if_false]
        rw [hei]
        dsimp only
        refine wpAny_bind (wpAny_holding (wpAny_eqBool_tuple hu hy hx ?_))
        rw [decide_eq_false hne]
        refine wpAny_bind (wpAny_setState_of ho hd hfit ?_)
        simp only [Bool.and_false, Bool.false_eq_true, if_false]
        rw [hsm]
        dsimp only
        rw [if_pos rfl, h3]
        dsimp only
        rw [hei]
        dsimp only
        rw [hss]
        refine wpAny_bind (wpAny_pure ?_)
        refine wpAny_bind (wpAny_pure ?_)
        exact ih
      · rw [hei]
        dsimp only
        refine wpAny_bind (wpAny_holding (wpAny_eqBool_tuple hu hy hx ?_))
        rw [decide_eq_false hne]
        refine wpAny_bind (wpAny_setState_of ho hd hfit ?_)
        simp only [Bool.and_false, Bool.false_eq_true, if_false]
        rw [hsm]
        dsimp only
        rw [if_pos rfl, h3]
        dsimp only
        rw [hei]
        dsimp only
        rw [hss]
        refine wpAny_bind (wpAny_pure ?_)
        refine wpAny_bind (wpAny_pure ?_)
        exact ih
def SetB (D : Addr) (ps : List Addr) (n : Nat) (h : Heap) : Prop :=
  ∃ o es ep t, h.get? D = some o ∧ o.ExactSet ∧ o.data = .set es ep t ∧ Wf t es.size ∧ es.size = n ∧ t.mask ≤ 8 * es.size + 7 ∧ ∀ v ∈ es.toList.map (·.2), ∃ y ∈ ps, v = .ref y
theorem insertAt_size {α : Type} (xs : Array α) (p : Nat) (x : α) : (SetTable.insertAt xs p x).size = xs.size + 1 := by
  unfold SetTable.insertAt
  rw [Array.size_append, Array.size_push, Array.size_extract, Array.size_extract]
  omega
theorem insertAt_mem {α : Type} {xs : Array α} {p : Nat} {x v : α} (h : v ∈ (SetTable.insertAt xs p x).toList) : v = x ∨ v ∈ xs.toList := by
  unfold SetTable.insertAt at h
  rw [Array.toList_append, Array.toList_push] at h
  rcases List.mem_append.mp h with h | h
  · rcases List.mem_append.mp h with h | h
    · rw [Array.toList_extract] at h
      exact .inr (List.mem_of_mem_drop (List.mem_of_mem_take h))
    · exact .inl (List.mem_singleton.mp h)
  · rw [Array.toList_extract] at h
    exact .inr (List.mem_of_mem_drop (List.mem_of_mem_take h))
end
end L2
set_option Elab.async false
set_option linter.all false
set_option maxRecDepth 100000
namespace L2
open PySem PySem.Spec PyProof.Rows SPr
section
variable {prog : Program} {w : World} {A : Around} {E : Value → Shared → Prop} {s : Shared} {K0 : Type} [DecidableEq K0] {knd : KeyKind prog w K0}
theorem fits_of {t : SetTable} {n : Nat} (h1 : t.dummies = #[]) (h2 : t.place.size = n) (h3 : n ≤ t.mask) : t.fits n = true := by
  unfold SetTable.fits SetTable.fill
  rw [h1, h2]
  simp
  exact h3
theorem wp_relay {D : Addr} {o : Obj} {es : Array (Int × Value)} {ep : Nat} {t : SetTable} {Q : Unit → Shared → Prop} (ho : s.heap.get? D = some o) (hd : o.data = .set es ep t) (hf : t.fits es.size = true) (hn : es.size < 5000)
    (hQ : ∀ (es' : Array (Int × Value)) (t' : SetTable), (∀ v ∈ es'.toList, v ∈ es.toList) → es'.size = es.size → t'.dummies = #[] → t'.place.size = es.size → t'.mask + 1 = SetTable.sizeAbove (es.size * 4) → Q () { s with heap := s.heap.update D (Obj.putSet es' t') }) :
    wpAny (model prog w) A (setRelay D (SetTable.grown es.size)) Q E s := by
  have hg : SetTable.grown es.size = es.size * 4 := by unfold SetTable.grown; rw [if_neg (by omega)]
  rw [hg]
  obtain ⟨⟨k, hk⟩, h2, h3, h4⟩ := above_ok (n := es.size * 4) (by have : 2 ^ 22 = 4194304 := rfl; omega)
  have hm : (SetTable.sizeAbove (es.size * 4) - 1) + 1 = 2 ^ k := by omega
  obtain ⟨t', order, e1, e2, e3, e4, e5, e6⟩ := laid_ok hm t.finger (t.movedTo (SetTable.sizeAbove (es.size * 4) - 1)) t.led t.plain (es.map (·.1)) (by rw [Array.size_map]; omega)
  rw [Array.size_map] at e4 e5 e6
  unfold setRelay
  refine wpAny_bind (wpAny_setState_of ho hd hf ?_)
  dsimp only
  have hsl : ¬ SetTable.sizeAbove (es.size * 4) > sizeLine := by
    have : 100000 ≤ sizeLine := by decide
    omega
  rw [if_neg hsl]
  have hes : (order.filterMap (fun i => es[i]?)).size = es.size := by
    rw [← Array.length_toList, Array.toList_filterMap, List.length_filterMap_eq_countP, ← e5, ← Array.length_toList]
    exact List.countP_eq_length.mpr fun v hv => by
      have := e6 v hv
      rw [Array.getElem?_eq_getElem this]; rfl
  refine wpAny_bind ?_
  show wpAny _ _ (do
    let some (t, order) := SetTable.relaid t (es.map (·.1)) (es.size * 4) | unsupported "internal:set-table-without-room"
    let es' := order.filterMap (es[·]?)
    if es'.size != es.size then unsupported "internal:set-table-lost-an-element"
    pure (es', t)) _ _ s
  rw [show SetTable.relaid t (es.map (·.1)) (es.size * 4) = some (t', order) from e1]
  dsimp only
  rw [hes, if_neg (by simp)]
  refine wpAny_pure ?_
  refine wpAny_storeSet_of ho hd (hQ _ _ (fun v hv => ?_) hes e3 e4 (by rw [e2]; omega)) (by
    rw [hes]
    have : 100000 ≤ sizeLine := by decide
    omega)
  rw [Array.toList_filterMap] at hv
  obtain ⟨i, _, e⟩ := List.mem_filterMap.mp hv
  exact Array.mem_toList_iff.mpr (Array.mem_of_getElem? e)
theorem set_stored {h : Heap} {D : Addr} {o : Obj} {es : Array (Int × Value)} {ep : Nat} {t : SetTable} (ho : h.get? D = some o) (hx : o.ExactSet) (hd : o.data = .set es ep t) (es' : Array (Int × Value)) (t' : SetTable) :
    (h.update D (Obj.putSet es' t')).get? D = some { o with data := .set es' (ep + 1) t' } := by
  have := Heap.get?_update_self (Obj.putSet es' t') ho (by rw [putSet_of es' t' hd]; rfl)
  rw [putSet_of es' t' hd] at this
  exact this
theorem wp_setAdd {D x : Addr} {k : List K0} {ps : List Addr} {n : Nat} {h : Int} {Q : Bool → Shared → Prop} (hu : A.units < cLine) (hx : IsTupleKey knd s.heap k x) (hS : SetB D ps n s.heap) (hps : ∀ p ∈ ps, ∃ k', IsTupleKey knd s.heap k' p ∧ k' ≠ k) (hl : n < 1000)
    (hQ : ∀ h', Heap.SameBut D s.heap h' → SetB D (ps ++ [x]) (n + 1) h' → Q true { s with heap := h' }) :
    wpAny (model prog w) A (setAddHashed D (.ref x) h) Q E s := by
  obtain ⟨o, es, ep, t, ho, hex, hd, wf, hsz, hmask, hel⟩ := hS
  have hfit : t.fits es.size = true := fits_of wf.dm wf.sz (by have := wf.le; omega)
  obtain ⟨N, hN, hNe⟩ := wf.free h
  have hes : TupsAt knd s.heap k (es.toList.map (·.2)) := fun v hv => by
    obtain ⟨y, e1, e2⟩ := hel v hv
    obtain ⟨k', e3, e4⟩ := hps y e1
    exact ⟨k', y, e2, e3, e4⟩
  unfold setAddHashed setAddHashedIn
  refine wpAny_holding (wpAny_bind (wpAny_setState_of ho hd hfit ?_))
  dsimp only
  have hb : byScan (.ref x) es = false := rfl
  rw [hb]
  simp only [Bool.false_eq_true, if_false]
  unfold setSearch
  refine wpAny_bind (wp_search hu hx ho hd wf hes hNe hN (fun j => ?_) N 0 100000 none (by omega) (by unfold SetTable.turns at hN; omega) rfl)
  dsimp only
  refine wpAny_bind (wpAny_setState_of ho hd hfit ?_)
  dsimp only
  have tail : ∀ pl : Bool, wpAny (model prog w) A (do
      storeSet D (SetTable.insertAt es (t.put j).2 (h, .ref x)) { (t.put j).1 with plain := pl }
      if (!false && SetTable.tooFull { (t.put j).1 with plain := pl }) = true then do
        setRelay D (SetTable.grown (es.size + 1))
        pure true
      else pure true) Q E s := fun pl => by
    have i1 := insertAt_size es (t.put j).2 (h, Value.ref x)
    have hdm : ({ (t.put j).1 with plain := pl } : SetTable).dummies = #[] := by
      show (if SetTable.has t.dummies j = true then _ else t.dummies) = #[]
      rw [wf.dm]
      rfl
    have hpl : ({ (t.put j).1 with plain := pl } : SetTable).place.size = es.size + 1 := by
      show (SetTable.insertAt t.place _ j).size = _
      rw [insertAt_size, wf.sz]
    have hmk : ({ (t.put j).1 with plain := pl } : SetTable).mask = t.mask := rfl
    generalize ({ (t.put j).1 with plain := pl } : SetTable) = t1 at hdm hpl hmk ⊢
    have hmem : ∀ v ∈ (SetTable.insertAt es (t.put j).2 (h, Value.ref x)).toList.map (·.2), v = .ref x ∨ v ∈ es.toList.map (·.2) := fun v hv => by
      obtain ⟨e, he, rfl⟩ := List.mem_map.mp hv
      rcases insertAt_mem he with rfl | he
      · exact .inl rfl
      · exact .inr (List.mem_map.mpr ⟨e, he, rfl⟩)
    generalize SetTable.insertAt es (t.put j).2 (h, Value.ref x) = es1 at i1 hmem ⊢
    have hsl : es1.size ≤ sizeLine := by
      have : 100000 ≤ sizeLine := by decide
      omega
    refine wpAny_bind (wpAny_storeSet_of ho hd ?_ hsl)
    have hg1 := set_stored ho hex hd es1 t1
    have sb1 := Heap.SameBut.update s.heap D (Obj.putSet es1 t1)
    have ent : ∀ es2 : Array (Int × Value), (∀ v ∈ es2.toList, v ∈ es1.toList) → ∀ v ∈ es2.toList.map (·.2), ∃ y ∈ ps ++ [x], v = .ref y := fun es2 hsub v hv => by
      obtain ⟨e, he, rfl⟩ := List.mem_map.mp hv
      rcases hmem _ (List.mem_map.mpr ⟨e, hsub e he, rfl⟩) with z | z
      · exact ⟨x, List.mem_append_right _ (.head _), z⟩
      · obtain ⟨y, e1, e2⟩ := hel _ z
        exact ⟨y, List.mem_append_left _ e1, e2⟩
    by_cases hfull : t1.tooFull = true
    · rw [hfull]
      rw [if_pos (show (!false && true) = true from rfl)]
      refine wpAny_bind ?_
      rw [← i1]
      refine wp_relay hg1 rfl (fits_of hdm (by rw [hpl, i1]) (by have := wf.le; omega)) (by omega) fun es2 t2 q1 q2 q3 q4 q5 => ?_
      refine wpAny_pure ?_
      have hg2 := set_stored hg1 (o := { o with data := .set es1 (ep + 1) t1 }) hex rfl es2 t2
      have sb2 := sb1.trans (Heap.SameBut.update _ D (Obj.putSet es2 t2))
      obtain ⟨⟨kk, hkk⟩, z2, z3, z4⟩ := above_ok (n := es1.size * 4) (by have : 2 ^ 22 = 4194304 := rfl; omega)
      exact hQ _ sb2 ⟨_, es2, _, t2, hg2, hex, rfl, ⟨q3, ⟨kk, by rw [q5]; exact hkk⟩, by rw [q4, q2], by omega, by omega⟩, by omega, by omega, ent es2 q1⟩
    · rw [Bool.eq_false_iff.mpr hfull]
      rw [if_neg (show ¬ (!false && false) = true from Bool.false_ne_true)]
      refine wpAny_pure ?_
      have nf : (es.size + 1) * 5 < t1.mask * 3 := by
        have h0 := Bool.eq_false_iff.mpr hfull
        unfold SetTable.tooFull SetTable.fill at h0
        rw [hdm, hpl] at h0
        have := of_decide_eq_false h0
        simp at this
        omega
      exact hQ _ sb1 ⟨_, es1, _, t1, hg1, hex, rfl, ⟨hdm, by rw [hmk]; exact wf.pw, by rw [hpl, i1], by omega, by have := wf.m7; omega⟩, by omega, by omega, ent es1 fun v hv => hv⟩
  split
  · refine wpAny_bind (wp_hbv hx fun b => ?_)
    cases b with
    | true => exact tail (t.put j).1.plain
    | false => exact tail false
  · refine wpAny_bind (wpAny_pure ?_)
    exact tail (t.put j).1.plain
theorem wp_callAdd {D x : Addr} {k : List K0} {ps : List Addr} {n : Nat} {Q : Value → Shared → Prop} (hu : A.units + 1 < cLine) (hx : IsTupleKey knd s.heap k x) (hS : SetB D ps n s.heap) (hps : ∀ p ∈ ps, ∃ k', IsTupleKey knd s.heap k' p ∧ k' ≠ k) (hl : n < 1000)
    (hQ : ∀ h' m, Heap.SameBut D s.heap h' → SetB D (ps ++ [x]) (n + 1) h' → Q .none { s with heap := h', toks := m }) :
    wpAny (model prog w) A (call (.builtin "set.add") [.ref D, .ref x]) Q E s := by
  have hT : s.TypeIs (.ref D) "set" := by
    obtain ⟨o, _, _, _, ho, hex, _⟩ := hS
    exact ⟨o, ho, hex.1⟩
  refine wpAny_call_entry F.slot_set_add hT F.entry_set_add ?_ (F.args_set_add_2 _ _)
  unfold Builtin.«set.add» Builtin.Frozenset.oneOther
  simp only [List.isEmpty_nil, bind_assoc]
  unfold Builtin.Frozenset.addrOf setAdd
  refine wpAny_bind (wpAny_pure ?_)
  try dsimp only
  refine wpAny_bind (wpAny_pure ?_)
  try dsimp only
  refine wpAny_bind ?_
  refine wpAny_holding ?_
  refine wpAny_bind ((tupleKind knd).pyHash hu hx ?_)
  refine wp_setAdd (s := { s with toks := s.toks + (tupleKind knd).draws k }) hu hx hS hps hl fun h' hsb hS' => ?_
  show wpAny _ _ (ret Value.none) _ _ _
  exact wpAny_pure ⟨_, rfl, hQ h' _ hsb hS'⟩
end
end L2
set_option Elab.async false
set_option linter.all false
set_option maxRecDepth 100000
namespace L2
open PySem PySem.Spec PyProof.Rows SPr
theorem SetB.stay {D : Addr} {ps : List Addr} {n : Nat} {h1 h2 : Heap} (h : SetB D ps n h1) (k : ∀ o, h1.get? D = some o → h2.get? D = some o) : SetB D ps n h2 := by
  obtain ⟨o, es, ep, t, e, r⟩ := h
  exact ⟨o, es, ep, t, k o e, r⟩
theorem SetB.ok {P : Program} {w : World} {H : Hp} {D : Addr} {ps : List Addr} {n : Nat} {h : Heap} (x : SetB D ps n h) : ObjOk P w H h D (.ext (SetB D ps n)) := by
  have x0 := x
  obtain ⟨o, es, ep, t, e, r⟩ := x
  exact ⟨x0, ⟨o, e⟩, fun _ _ q k => q.stay k⟩
theorem set_empty {P : Program} {w : World} {H : Hp} (h : Heap) (led : Bool) : ObjOk P w H (h.push { cls := .type "set", dict := none, data := .set #[] 0 (.fresh 0 0 led) }) h.objs.size (.ext (SetB h.objs.size [] 0)) :=
  SetB.ok ⟨_, #[], 0, _, Heap.get?_push_size _ rfl, ⟨rfl, rfl, rfl⟩, rfl, ⟨rfl, ⟨3, rfl⟩, rfl, (by show 0 * 5 < 7 * 3; decide), Nat.le_refl _⟩, rfl, (by show 7 ≤ 8 * 0 + 7; decide), fun v hv => by cases hv⟩
section
variable {X : Cx}
def emitS (D : Addr) (ex : Expr) (env : Env) : Sem Unit := do
  let v ← eval ex env
  standAt ex.pos
  let _ ← call (.builtin "set.add") [.ref D, v]
def tAddS (D : Addr) (te : TE) : TM := fun σ H N => te σ H fun x H1 => ∃ (y : Addr) (k : List Key) (ps : List Addr) (n : Nat), x = .ref y ∧ H1 y = some (.tup (k.map kV)) ∧ H1 D = some (.ext (SetB D ps n)) ∧
  (∀ p ∈ ps, ∃ k' : List Key, H1 p = some (.tup (k'.map kV)) ∧ k' ≠ k) ∧ n < 1000 ∧ N σ (upd H1 D (.ext (SetB D (ps ++ [y]) (n + 1))))
theorem pm_addS {ex : Expr} {te : TE} {D : Addr} (he : PE X ex te) (hu : X.A.units + 1 < cLine) : PM X (emitS D ex X.env) (tAddS D te) := by
  constructor
  intro pins s σ H N I h
  unfold emitS
  refine wpAny_bind (thn (he pins s σ H _ I h) fun v s1 ⟨x, H1, I1, r1, y, k, ps, n, ex1, hy, hD, hps, hn, q1⟩ => ?_)
  subst ex1
  obtain rfl : v = Value.ref y := r1
  refine wpAny_bind (wpAny_standAt (wpAny_bind ?_))
  have hS : SetB D ps n s1.heap := (I1.hok D _ hD).1
  refine wp_callAdd (knd := mixKind X.prog X.w) hu (key_of I1.hok hy) hS (fun p hp => ?_) hn fun h' m sb hS' => wpAny_pure ?_
  · obtain ⟨k', h1, h2⟩ := hps p hp
    exact ⟨k', key_of I1.hok h1, h2⟩
  · have he : ∃ q, h'.get? D = some q := by
      obtain ⟨o, _, _, _, e, _⟩ := hS'
      exact ⟨o, e⟩
    exact ⟨σ, _, d_write I1 (by rw [hD]; exact True.intro) sb he (SetB.ok hS'), q1⟩
theorem codeAny_compStart_s {prog : Program} {w : World} {A : Around} {R : Result → Shared → Prop} {s : Shared} {ex target iter : Expr} {ifs : List Expr} {rest : List Comprehension} {scope : Scope} {pos : Pos} {it acc : Value} {env : Env}
    (h0 : codeAny (model prog w) A (.compLoop (.SetComp ex (⟨target, iter, ifs, 0⟩ :: rest) scope pos) 0 it acc env) R s)
    (h : wpAny (model prog w) A (pyIter it) (fun it' s' => codeAny (model prog w) A (.compLoop (.SetComp ex (⟨target, iter, ifs, 0⟩ :: rest) scope pos) 0 it' acc env) R s') NoX s) :
    codeAny (model prog w) A (.compStart (.SetComp ex (⟨target, iter, ifs, 0⟩ :: rest) scope pos) 0 it acc env) R s := by
  refine codeAny_of_tree ?_
  show wpAny _ A ((compStart (.SetComp ex (⟨target, iter, ifs, 0⟩ :: rest) scope pos) 0 it acc env).onRaise (fun x => do noteFrame x env; standAt theWindowsPlace)) _ _ s
  refine wpAny_notedAt ?_
  unfold compStart
  show wpAny _ A (ask >>= _) _ _ s
  refine wpAny_bind (wpAny_askSetting (wpAny_ite ?_))
  split
  · first
      | exact wpAny_bind (wpAny_pure (wpAny_pure (And.intro rfl h0)))
      | exact wpAny_pure (And.intro rfl h0)
  · first
      | exact wpAny_bind (wpAny_rule (wpAny_bind (wpAny_standAt (wpAny_bind (thnN h (fun it' s' h' => wpAny_pure (And.intro rfl h')))))))
      | (refine wpAny_bind (wpAny_rule ?_); show wpAny _ _ (standAt iter.pos >>= _) _ _ s; exact wpAny_bind (wpAny_standAt (wpAny_bind (thnN h (fun it' s' h' => wpAny_pure (And.intro rfl h'))))))
theorem compTurn_s (ex target iter : Expr) (ifs : List Expr) (scope : Scope) (pos : Pos) (it : Value) (D : Addr) (env : Env) :
    compTurn (.SetComp ex [⟨target, iter, ifs, 0⟩] scope pos) 0 it (.ref D) env = turnOf (.SetComp ex [⟨target, iter, ifs, 0⟩] scope pos) 0 target iter ifs it (.ref D) env (emitS D ex env) := by rfl
def tSc (wi : TI) (g : TG) (tt : TT) (em : Addr → TM) (vs : List Nat) : TE := fun σ H Q => wi σ H fun J H1 => ∀ D, H1 D = none → ∃ W : Nat → Nat → Hp → Prop, (∃ m, W 0 m (upd H1 D (.ext (SetB D [] 0)))) ∧ ∀ i m H, W i m H →
  (J.stop i H ∧ Q (.ref D) H) ∨ (J.go i H ∧ ∃ Nx : Hp → Prop, (∀ H', Nx H' → ∃ m', m' < m ∧ W (i + 1) m' H') ∧ ∀ x H', J.yld i H x H' → g x (wipe σ vs) H' fun σ2 H2 => tt σ2 H2 fun b H3 =>
    if b = true then em D σ2 H3 (fun σ4 H4 => wipe σ4 vs = wipe σ vs ∧ Nx H4) else wipe σ2 vs = wipe σ vs ∧ Nx H3)
theorem sc_core {pins : List (Addr × Obj)} {s : Shared} {σ : St} {H : Hp} {Q : VK} {ex tg iter : Expr} {ifs : List Expr} {gs : List Comprehension} {scope : Scope} {own : List (Str × Nat)} {pos pos' : Pos} {wi : TI} {g : TG} {tt : TT} {em : Addr → TM} {use : Option (Value → Sem Unit)} {Qf : Value → Shared → Prop} {code : Addr → Env → Sem Unit}
    (hc : X.calm = true) (hN : X.N.Nodup) (I : Inv X pins σ H s) (hi : PI X tg iter wi) (ok : BlkOk X.N X.env.scope scope own)
    (hE : ∀ it D env, compTurn (.SetComp ex (⟨tg, iter, ifs, 0⟩ :: gs) scope pos) 0 it (.ref D) env = turnOf (.SetComp ex (⟨tg, iter, ifs, 0⟩ :: gs) scope pos) 0 tg iter ifs it (.ref D) env (code D env))
    (hg : ∀ (s : Shared) (H : Hp) (C : Addr) (cl : List (Str × Addr)) (fp : List Addr), PG (X.blk s H scope (compEnvC scope cl C X.env) fp) tg g) (ht : ∀ (s : Shared) (H : Hp) (C : Addr) (cl : List (Str × Addr)) (fp : List Addr), PTs (X.blk s H scope (compEnvC scope cl C X.env) fp) ifs tt)
    (he : ∀ (s : Shared) (H : Hp) (C : Addr) (cl : List (Str × Addr)) (fp : List Addr) (D : Addr), PM (X.blk s H scope (compEnvC scope cl C X.env) fp) (code D (compEnvC scope cl C X.env)) (em D)) (hs : ∀ x, foldedSetIterable iter X.env x = pure x)
    (h : tSc wi g tt em (own.map (·.2)) σ H Q)
    (hRR : ∀ D C s' m H', Inv X pins σ H' s' → Q (.ref D) H' → s'.heap.Ns C m → FpOk X pins H' C → compPost (model X.prog X.w) X.A X.xe use Qf (.ref D) C (.ok .next) s') :
    wpAny (model X.prog X.w) X.A (comprehension (.SetComp ex (⟨tg, iter, ifs, 0⟩ :: gs) scope pos) scope X.env pos' (newSet (.type "set")) false (eval iter X.env) use) Qf X.xe s := by
  have hfree : ∀ y ∈ scope.names, y.2 = .free → ∃ c, X.env.cells.lookup y.1 = some c := fun y hy e => by
    rcases ok.free y hy e with k | k
    · exact I.ok.has _ (.inl k)
    · exact I.ok.has _ (.inr k)
  refine wpAny_comprehension_free (use := use) rfl hs (closure_ok hfree) ok.kind (fun y hy e => by rw [ok.uniq y hy, e])
    (thn (hi pins s σ H _ I h) fun xv s1 hx => thn hx fun itv s2 h2 => ?_)
  obtain ⟨it, fp, tn, J, H2, e, I2, T, st2, f2, q⟩ := h2
  subst e
  refine wpAny_newSet_of (knd := intKind X.prog X.w) fun led _ => newEnv_comp ?_
  generalize hD : s2.heap.objs.size = D
  have hDn : H2 D = none := I2.hok.fresh (Nat.le_of_eq hD)
  obtain ⟨W, ⟨m0, w0⟩, turn⟩ := q D hDn
  generalize hs3 : ({ s2 with heap := s2.heap.push { cls := .type "set", dict := none, data := .set #[] 0 (.fresh 0 0 led) } } : Shared) = s3
  have I3 : Inv X pins σ (upd H2 D (.ext (SetB D [] 0))) s3 := by
    rw [← hs3]
    refine I2.laid (t' := s2.toks) (fun b o e => Heap.get?_push_of_some _ e) (Nat.le_of_eq hD) ?_
    rw [← hD]
    exact set_empty s2.heap led
  have h3 : s3.heap = s2.heap.push { cls := .type "set", dict := none, data := .set #[] 0 (.fresh 0 0 led) } := by rw [← hs3]
  have sz : ∀ b ∈ fp, b < s2.heap.objs.size := fun b hb => by
    obtain ⟨o, e, _⟩ := T.obj _ _ st2 b hb
    exact Heap.lt_size e
  have f3 : ∀ b ∈ fp, FpOk X pins (upd H2 D (.ext (SetB D [] 0))) b ∧ b < s3.heap.objs.size := fun b hb => by
    have hlt := sz b hb
    refine ⟨⟨?_, (f2 b hb).2⟩, by rw [h3, Heap.size_push]; exact Nat.lt_succ_of_lt hlt⟩
    rw [upd_ne (by rw [← hD]; exact Nat.ne_of_lt hlt)]
    exact (f2 b hb).1
  have st3 : tn 0 s3.heap := T.keep _ _ _ st2 fun b _ o e => by rw [h3]; exact Heap.get?_push_of_some _ e
  have I4 := block_start I3 ok hN f3
  have pg := hg s3 (upd H2 D (.ext (SetB D [] 0))) s3.heap.objs.size (cellsFrom (s3.heap.objs.size + 1) scope.names (cloFrom X.env.cells scope.names [])) fp
  have pt := ht s3 (upd H2 D (.ext (SetB D [] 0))) s3.heap.objs.size (cellsFrom (s3.heap.objs.size + 1) scope.names (cloFrom X.env.cells scope.names [])) fp
  have pe := he s3 (upd H2 D (.ext (SetB D [] 0))) s3.heap.objs.size (cellsFrom (s3.heap.objs.size + 1) scope.names (cloFrom X.env.cells scope.names [])) fp D
  show codeAny _ _ (.compStart (.SetComp ex (⟨tg, iter, ifs, 0⟩ :: gs) scope pos) 0 (.ref it) (.ref D) (compEnvC scope (cellsFrom (s3.heap.objs.size + 1) scope.names (cloFrom X.env.cells scope.names [])) s3.heap.objs.size X.env)) (compPost (model X.prog X.w) X.A X.xe use Qf (.ref D) s3.heap.objs.size) { s3 with heap := pushCells (s3.heap.push { cls := .type "dict", data := .dict #[] }) scope.names }
  have nfp : ∀ b ∈ fp, (upd H2 D (.ext (SetB D [] 0))) b = none := fun b hb => (f3 b hb).1.1
  generalize hce : compEnvC scope (cellsFrom (s3.heap.objs.size + 1) scope.names (cloFrom X.env.cells scope.names [])) s3.heap.objs.size X.env = ce at I4 pg pt pe ⊢
  have cL : ce.locals = s3.heap.objs.size := by subst hce; rfl
  generalize hH3 : upd H2 D (.ext (SetB D [] 0)) = H3 at I3 I4 pg pt pe w0 nfp f3
  generalize hs4 : ({ s3 with heap := pushCells (s3.heap.push { cls := .type "dict", data := .dict #[] }) scope.names } : Shared) = s4 at I4 ⊢
  have st4 : tn 0 s4.heap := T.keep _ _ _ st3 fun b _ o e => by rw [← hs4]; exact pushCells_keeps _ _ _ _ (Heap.get?_push_of_some _ e)
  have stat : ∀ {σ' : St} {H' : Hp} {s' : Shared}, Inv (X.blk s3 H3 scope ce fp) [] σ' H' s' → (∀ b ∈ fp, H' b = none) → ∀ b ∈ fp, FpOk (X.blk s3 H3 scope ce fp) [] H' b := fun {σ' H' s'} I' hn b hb =>
    ⟨hn b hb, (I'.ok.exf b hb).1, I'.ok.exfs b hb, .inl hb, fun x c e => (I'.ok.exf b hb).2 x c e, fun p hp => absurd (show p ∈ ([] : List (Addr × Obj)) ++ [] from hp) (by simp)⟩
  have loop : codeAny (model X.prog X.w) X.A (.compLoop (.SetComp ex (⟨tg, iter, ifs, 0⟩ :: gs) scope pos) 0 (.ref it) (.ref D) ce) (compPost (model X.prog X.w) X.A X.xe use Qf (.ref D) s3.heap.objs.size) s4 := by
    refine comp_loop (target := tg) (iter := iter) (ifs := ifs) (code := code D ce) (hE _ _ _) rfl rfl rfl (fun n s' => ∃ i H', Inv (X.blk s3 H3 scope ce fp) [] (wipe σ (own.map (·.2))) H' s' ∧ tn i s'.heap ∧ (∀ b ∈ fp, H' b = none) ∧ W i n H') ?_ m0 ⟨0, H3, I4, st4, nfp, w0⟩
    rintro n s5 ⟨i, H5, I5, st5, n5, w5⟩
    rcases turn i n H5 w5 with ⟨stop, qq⟩ | ⟨go, Nx, hNx, step⟩
    · have td := T.done (X.blk s3 H3 scope ce fp) rfl rfl rfl hc i [] s5 _ H5 (fun _ _ => False) I5 (stat I5 n5) st5 stop
      refine thnF td fun r s6 ⟨hr, I6⟩ => ?_
      subst hr
      have I7 : Inv X pins σ H5 s6 := I3.call' (ch := fp) I6.os I6.base I6.hok I6.bare fun b hb => ⟨(f3 b hb).1.2.2.2.1, (f3 b hb).1.2.1, (f3 b hb).1.2.2.2.2.1, (f3 b hb).1.2.2.2.2.2⟩
      have nC : H5 s3.heap.objs.size = none := by
        have z : H5 ce.locals = none := I6.free
        rw [cL] at z
        exact z
      obtain ⟨m, hn, _⟩ := I6.loc
      have hn : s6.heap.Ns ce.locals m := hn
      rw [cL] at hn
      exact hRR D s3.heap.objs.size s6 m H5 I7 qq hn (I3.fpOk (Nat.le_refl _) nC)
    · have ti := T.item (X.blk s3 H3 scope ce fp) rfl rfl rfl hc i [] s5 _ H5 (fun _ _ => False) I5 (stat I5 n5) st5 go
      refine thnF ti fun r s6 ⟨u, hr, h6⟩ => ?_
      subst hr
      refine thnF h6 fun _ s7 ⟨x, H7, I7, r7, y7, st7, n7⟩ => ?_
      have I7' := I7.pinned (stat I7 n7) (T.obj _ _ st7)
      refine thnF (pg _ s7 _ H7 x u _ I7' r7 (step x H7 y7)) fun _ s8 ⟨σ8, H8, I8, q8⟩ => ?_
      refine thnF (pt _ s8 σ8 H8 _ I8 q8) fun b s9 ⟨H9, I9, q9⟩ => ?_
      have fin : ∀ {s' : Shared} {σ' : St} {H' : Hp}, Inv (X.blk s3 H3 scope ce fp) ([] ++ pinsAt fp s7.heap) σ' H' s' → wipe σ' (own.map (·.2)) = wipe σ (own.map (·.2)) ∧ Nx H' → ∃ m, m < n ∧ ∃ i H', Inv (X.blk s3 H3 scope ce fp) [] (wipe σ (own.map (·.2))) H' s' ∧ tn i s'.heap ∧ (∀ b ∈ fp, H' b = none) ∧ W i m H' := fun {s' σ' H'} I' ⟨hw8, nx⟩ => by
        obtain ⟨m', hm, w'⟩ := hNx H' nx
        have pin' : ∀ b ∈ fp, ∀ o, s7.heap.get? b = some o → s'.heap.get? b = some o ∧ H' b = none := fun b hb o e =>
          let z := I'.pin (b, o) (List.mem_append_right _ (List.mem_append_right _ (mem_pinsAt hb e)))
          ⟨z.1, z.2.1⟩
        have hl : (wipe σ (own.map (·.2))).length = σ'.length := by rw [← hw8, wipe_length]
        refine ⟨m', hm, i + 1, H', (I'.unpinned (pins := [])).weak hl (fun j v e => ?_), T.keep _ _ _ st7 fun b hb o e => (pin' b hb o e).1, fun b hb => ?_, w'⟩
        · rw [← hw8] at e
          exact (wipe_some e).1
        · obtain ⟨o, e, _⟩ := T.obj _ _ st7 b hb
          exact (pin' b hb o e).2
      cases b with
      | false =>
        simp only [Bool.false_eq_true, if_false] at q9 ⊢
        exact fin I9 q9
      | true =>
        simp only [if_true] at q9 ⊢
        exact thnF (pe.run _ s9 σ8 H9 _ I9 q9) fun _ s10 ⟨σ10, H10, I10, q10⟩ => fin I10 q10
  exact codeAny_compStart_s loop (T.self X.A 0 _ _ _ st4 loop)
theorem pe_sc {ex tg iter : Expr} {ifs : List Expr} {scope : Scope} {own : List (Str × Nat)} {pos : Pos} {wi : TI} {g : TG} {tt : TT} {te : TE} (hu : X.A.units + 1 < cLine) (hc : X.calm = true) (hN : X.N.Nodup) (hi : PI X tg iter wi) (ok : BlkOk X.N X.env.scope scope own)
    (hg : ∀ (s : Shared) (H : Hp) (C : Addr) (cl : List (Str × Addr)) (fp : List Addr), PG (X.blk s H scope (compEnvC scope cl C X.env) fp) tg g) (ht : ∀ (s : Shared) (H : Hp) (C : Addr) (cl : List (Str × Addr)) (fp : List Addr), PTs (X.blk s H scope (compEnvC scope cl C X.env) fp) ifs tt)
    (hk : ∀ (s : Shared) (H : Hp) (C : Addr) (cl : List (Str × Addr)) (fp : List Addr), PE (X.blk s H scope (compEnvC scope cl C X.env) fp) ex te)
    (hs : ∀ x, foldedSetIterable iter X.env x = pure x := by intro _; rfl) :
    PE X (.SetComp ex [⟨tg, iter, ifs, 0⟩] scope pos) (tSc wi g tt (fun D => tAddS D te) (own.map (·.2))) := by
  constructor
  intro pins s σ H Q I h
  show wpAny _ _ (comprehension (.SetComp ex [⟨tg, iter, ifs, 0⟩] scope pos) scope X.env (firstIterPos [⟨tg, iter, ifs, 0⟩] pos) (newSet (.type "set")) false (eval iter X.env)) _ _ s
  refine sc_core (code := fun D env => emitS D ex env) hc hN I hi ok (fun it D env => compTurn_s ..) hg ht (fun s H C cl fp D => pm_addS (X := X.blk s H scope (compEnvC scope cl C X.env) fp) (hk s H C cl fp) hu) hs h fun D C s' m H' I' q hn f => ⟨m, hn, fun h'' sb => ?_⟩
  obtain ⟨f0, f1, f2, f3, f4, f5⟩ := f
  exact ⟨.ref D, H', I'.turned (t' := s'.toks) (fun b o hb e => (sb.2 b hb).trans e) f0 f1 f3 f4 f5, rfl, q⟩
theorem call_len_setB : CallR X (.builtin "len") (fun xs H Q => ∃ (D : Addr) (ps : List Addr) (n : Nat), xs = [.ref D] ∧ H D = some (.ext (SetB D ps n)) ∧ n ≤ 1000000 ∧ Q (.int n) H) := by
  intro pins s σ H xs us Q I r h
  obtain ⟨D, ps, n, rfl, hD, hn, q⟩ := h
  obtain ⟨u, rfl, r1⟩ := vals1 r
  obtain rfl : u = Value.ref D := r1
  obtain ⟨o, es, ep, t, e, hx, hd, wf, hz, hm, _⟩ := (I.hok D _ hD).1
  have hf : t.fits es.size = true := fits_of wf.dm wf.sz (by have := wf.le; omega)
  refine call_len_set e hx hd hf ?_ ?_
  · omega
  · rw [hz]
    exact ⟨.int n, H, I.tok _, ⟨_, rfl⟩, q⟩
end
end L2
set_option Elab.async false
set_option linter.all false
set_option maxRecDepth 100000
namespace L2
open PySem PySem.Spec PyProof.Rows
open AutoSeq1 (wpAny_loadPart')
open MeetsSeq MeetsSeq2 MeetsSeq3
section
variable {X : Cx}
end
end L2
set_option Elab.async false
set_option linter.all false
set_option maxRecDepth 100000
namespace L2
open PySem PySem.W PyProof.Rows
namespace Ts
section
variable {lt : Nat → Nat → Bool} {n : Nat}
def Good (lt : Nat → Nat → Bool) (n : Nat) {α : Type} : KasT α → (α → Prop) → Prop
  | .ret a, Q => Q a
  | .ask i j k, Q => i < n ∧ j < n ∧ Good lt n (k (lt i j)) Q
theorem Good.mono {α : Type} {Q R : α → Prop} (hq : ∀ a, Q a → R a) : ∀ {t : KasT α}, Good lt n t Q → Good lt n t R
  | .ret a, h => hq a h
  | .ask i j k, h => ⟨h.1, h.2.1, Good.mono hq (t := k (lt i j)) h.2.2⟩
theorem Good.bind {α β : Type} {f : α → KasT β} {Q : β → Prop} : ∀ {t : KasT α}, Good lt n t (fun a => Good lt n (f a) Q) → Good lt n (t.bind f) Q
  | .ret a, h => h
  | .ask i j k, h => ⟨h.1, h.2.1, Good.bind (t := k (lt i j)) h.2.2⟩
theorem Good.wp {α : Type} {cmp : Nat → Nat → (Bool → Shared → Prop) → Shared → Prop} {s : Shared} {G : α → Shared → Prop}
    (hc : ∀ i j (C : Bool → Shared → Prop), i < n → j < n → C (lt i j) s → cmp i j C s) : ∀ {t : KasT α}, Good lt n t (fun a => G a s) → t.kasWp cmp G s
  | .ret a, h => h
  | .ask i j k, h => hc i j _ h.1 h.2.1 (Good.wp hc (t := k (lt i j)) h.2.2)
def e (p : Array Nat) (i : Nat) : Nat := p.getD i 0
theorem e_opt (p : Array Nat) (i : Nat) : e p i = (p[i]?).getD 0 := by
  show p.getD i 0 = _
  rw [Array.getD_eq_getD_getElem?]
def Pm (n : Nat) (p : Array Nat) : Prop := p.size = n ∧ p.toList.Perm (List.range n)
theorem Pm.bd {p : Array Nat} (h : Pm n p) {i : Nat} (hi : i < n) : e p i < n := by
  have hs : i < p.size := by rw [h.1]; exact hi
  have e1 : e p i = p[i] := by show p.getD i 0 = _; simp [Array.getD, hs]
  rw [e1]
  have hm : p[i] ∈ p.toList := by simp
  exact List.mem_range.mp (h.2.mem_iff.mp hm)
theorem Pm.rev {p : Array Nat} (h : Pm n p) (i j : Nat) : Pm n (kas_rev p i j) := by
  refine ⟨(mirror_size _ _ _ _).trans h.1, ?_⟩
  exact (Array.perm_iff_toList_perm.mp (mirror_perm p i j ((j - i) / 2))).trans h.2
theorem Pm.bub {p : Array Nat} (h : Pm n p) (k d : Nat) : Pm n (bubble p k d) := by
  refine ⟨(bubble_size _ _ _).trans h.1, ?_⟩
  exact (Array.perm_iff_toList_perm.mp (bubble_perm p k d)).trans h.2
theorem e_rev {p : Array Nat} {i j : Nat} (hj : j ≤ p.size) (k : Nat) : e (kas_rev p i j) k = if i ≤ k ∧ k < j then e p (i + j - 1 - k) else e p k := by
  rw [e_opt]
  show ((mirror p i j ((j - i) / 2))[k]?).getD 0 = _
  rw [getElem?_mirror_all hj]
  split
  · rw [← e_opt]
  · rw [← e_opt]
theorem e_bub {p : Array Nat} {k d : Nat} (hk : k < p.size) (hd : d ≤ k) (i : Nat) : e (bubble p k d) i = if i = k - d then e p k else if k - d < i ∧ i ≤ k then e p (i - 1) else e p i := by
  rw [e_opt, getElem?_bubble hk d hd]
  split
  · rw [← e_opt]
  · split
    · rw [← e_opt]
    · rw [← e_opt]
structure Ord (lt : Nat → Nat → Bool) : Prop where
  asym : ∀ i j, lt i j = true → lt j i = false
  tr : ∀ i j k, lt i j = false → lt j k = false → lt i k = false
theorem Ord.irr (o : Ord lt) (i : Nat) : lt i i = false := by
  cases h : lt i i with
  | false => rfl
  | true => rw [o.asym i i h] at h; cases h
def Asc (lt : Nat → Nat → Bool) (p : Array Nat) (m : Nat) : Prop := ∀ i j, i < j → j < m → lt (e p j) (e p i) = false
def Dsc (lt : Nat → Nat → Bool) (p : Array Nat) (m : Nat) : Prop := ∀ i j, i < j → j < m → lt (e p i) (e p j) = false
def Eqs (lt : Nat → Nat → Bool) (p : Array Nat) (a b : Nat) : Prop := ∀ i j, a ≤ i → i < b → a ≤ j → j < b → lt (e p i) (e p j) = false
theorem good_asc (o : Ord lt) {p : Array Nat} (hp : Pm n p) : ∀ (f m : Nat), 1 ≤ m → m + f = n → Asc lt p m → Good lt n (kas_asc p f m) (fun r => m ≤ r ∧ r ≤ n ∧ Asc lt p r ∧ (r < n → lt (e p r) (e p (r - 1)) = true))
  | 0, m, h1, hf, hA => ⟨Nat.le_refl _, by omega, hA, fun h => absurd h (by omega)⟩
  | f + 1, m, h1, hf, hA => by
    refine ⟨hp.bd (by omega), hp.bd (by omega), ?_⟩
    show Good lt n (if lt (e p m) (e p (m - 1)) = true then _ else _) _
    cases hc : lt (e p m) (e p (m - 1)) with
    | true =>
      exact ⟨Nat.le_refl _, by omega, hA, fun _ => hc⟩
    | false =>
      refine Good.mono (fun r h => ⟨by omega, h.2⟩) (good_asc o hp f (m + 1) (by omega) (by omega) fun i j hij hj => ?_)
      by_cases hjm : j < m
      · exact hA i j hij hjm
      · have : j = m := by omega
        subst this
        by_cases hi : i = j - 1
        · rw [hi]; exact hc
        · exact o.tr _ _ _ hc (hA i (j - 1) (by omega) (by omega))
theorem dsc_below (o : Ord lt) {p : Array Nat} {m : Nat} (h1 : 1 ≤ m) (hD : Dsc lt p m) (hl : lt (e p (m - 1)) (e p m) = false) (k : Nat) (hk : k < m) : lt (e p k) (e p m) = false := by
  by_cases hkm : k = m - 1
  · rw [hkm]; exact hl
  · exact o.tr _ _ _ (hD k (m - 1) (by omega) (by omega)) hl
theorem dsc_rev (o : Ord lt) {p : Array Nat} {m q : Nat} (hm : m ≤ p.size) (hq : q < m) (hD : Dsc lt p m) (hE : Eqs lt p (m - 1 - q) m) : Dsc lt (kas_rev p (m - (q + 1)) m) m := by
  intro i j hij hj
  rw [e_rev hm, e_rev hm]
  by_cases hi : m - (q + 1) ≤ i
  · rw [if_pos ⟨hi, by omega⟩, if_pos ⟨by omega, hj⟩]
    exact hE _ _ (by omega) (by omega) (by omega) (by omega)
  · rw [if_neg (fun h => hi h.1)]
    split
    · exact hD _ _ (by omega) (by omega)
    · exact hD _ _ hij hj
theorem good_desc (o : Ord lt) : ∀ (f : Nat) (p : Array Nat) (m q : Nat), Pm n p → 1 ≤ m → q < m → m + f = n → Dsc lt p m → Eqs lt p (m - 1 - q) m →
    Good lt n (kas_desc f p m q) (fun r => Pm n r.1 ∧ 1 ≤ r.2.1 ∧ r.2.1 ≤ n ∧ r.2.2 < r.2.1 ∧ Dsc lt r.1 r.2.1 ∧ Eqs lt r.1 (r.2.1 - 1 - r.2.2) r.2.1)
  | 0, p, m, q, hp, h1, hq, hf, hD, hE => ⟨hp, h1, (show m ≤ n by omega), hq, hD, hE⟩
  | f + 1, p, m, q, hp, h1, hq, hf, hD, hE => by
    have hs : m < p.size := by rw [hp.1]; omega
    refine ⟨hp.bd (by omega), hp.bd (by omega), ?_⟩
    show Good lt n (if lt (e p m) (e p (m - 1)) = true then _ else _) _
    cases hc : lt (e p m) (e p (m - 1)) with
    | true =>
      have hl := dsc_below o h1 hD (o.asym _ _ hc)
      show Good lt n (if q > 0 then _ else _) _
      by_cases hq0 : q > 0
      · rw [if_pos hq0]
        refine good_desc o f _ (m + 1) 0 (hp.rev _ _) (by omega) (by omega) (by omega) (fun i j hij hj => ?_) (fun i j a b c d => ?_)
        · by_cases hjm : j < m
          · exact dsc_rev o (by omega) hq hD hE i j hij hjm
          · have : j = m := by omega
            subst this
            rw [e_rev (by omega), e_rev (by omega), if_neg (c := _ ∧ j < j) (fun h => by omega)]
            split
            · exact hl _ (by omega)
            · exact hl _ hij
        · have : i = j := by omega
          subst this
          exact o.irr _
      · rw [if_neg hq0]
        refine good_desc o f p (m + 1) 0 hp (by omega) (by omega) (by omega) (fun i j hij hj => ?_) (fun i j a b c d => ?_)
        · by_cases hjm : j < m
          · exact hD i j hij hjm
          · have : j = m := by omega
            subst this
            exact hl _ hij
        · have : i = j := by omega
          subst this
          exact o.irr _
    | false =>
      refine ⟨hp.bd (by omega), hp.bd (by omega), ?_⟩
      show Good lt n (if lt (e p (m - 1)) (e p m) = true then _ else _) _
      cases hd : lt (e p (m - 1)) (e p m) with
      | true => exact ⟨hp, h1, (show m ≤ n by omega), hq, hD, hE⟩
      | false =>
        have hl := dsc_below o h1 hD hd
        refine good_desc o f p (m + 1) (q + 1) hp (by omega) (by omega) (by omega) (fun i j hij hj => ?_) (fun i j a b c d => ?_)
        · by_cases hjm : j < m
          · exact hD i j hij hjm
          · have : j = m := by omega
            subst this
            exact hl _ hij
        · by_cases hjm : j < m
          · by_cases him : i < m
            · exact hE i j (by omega) him (by omega) hjm
            · have : i = m := by omega
              subst this
              exact o.tr _ _ _ hc (hE (i - 1) j (by omega) (by omega) (by omega) hjm)
          · have : j = m := by omega
            subst this
            by_cases him : i < j
            · exact hl _ him
            · have : i = j := by omega
              subst this
              exact o.irr _
theorem good_tail3 (o : Ord lt) {p : Array Nat} {m : Nat} (hp : Pm n p) (h1 : 1 ≤ m) (hm : m ≤ n) (hD : Dsc lt p m) :
    Good lt n (kas_tail3 m n p) (fun r => Pm n r.2 ∧ 1 ≤ r.1 ∧ r.1 ≤ n ∧ Asc lt r.2 r.1) := by
  refine Good.bind (Good.mono (fun r h => ?_) (good_asc o (hp.rev 0 m) (n - m) m h1 (by omega) fun i j hij hj => ?_))
  · exact ⟨hp.rev 0 m, Nat.le_trans h1 h.1, h.2.1, h.2.2.1⟩
  · have hs : m ≤ p.size := by rw [hp.1]; exact hm
    rw [e_rev hs, e_rev hs, if_pos ⟨by omega, hj⟩, if_pos ⟨by omega, by omega⟩]
    exact hD _ _ (by omega) (by omega)
theorem good_descPart (o : Ord lt) {p : Array Nat} {m : Nat} (hp : Pm n p) (hm : m + 1 ≤ n) (hD : Dsc lt p (m + 1)) :
    Good lt n (kas_descPart m n p) (fun r => Pm n r.2 ∧ 1 ≤ r.1 ∧ r.1 ≤ n ∧ Asc lt r.2 r.1) := by
  refine Good.bind (Good.mono (fun r h => ?_) (good_desc o (n - (m + 1)) p (m + 1) 0 hp (by omega) (by omega) (by omega) hD fun i j a b c d => ?_))
  · obtain ⟨h1, h2, h3, h4, h5, h6⟩ := h
    by_cases hq : r.2.2 > 0
    · rw [if_pos hq]
      exact good_tail3 o (h1.rev _ _) h2 h3 (dsc_rev o (by rw [h1.1]; exact h3) h4 h5 h6)
    · rw [if_neg hq]
      exact good_tail3 o h1 h2 h3 h5
  · have : i = j := by omega
    subst this
    exact o.irr _
theorem good_count (o : Ord lt) {p : Array Nat} (hp : Pm n p) (hn : 1 ≤ n) :
    Good lt n (kas_count n p) (fun r => Pm n r.2 ∧ 1 ≤ r.1 ∧ r.1 ≤ n ∧ Asc lt r.2 r.1) := by
  refine Good.bind (Good.mono (fun m h => ?_) (good_asc o hp (n - 1) 1 (Nat.le_refl _) (by omega) fun i j hij hj => absurd hj (by omega)))
  obtain ⟨h1, h2, h3, h4⟩ := h
  by_cases he : (m == n) = true
  · rw [if_pos he]
    exact ⟨hp, h1, h2, h3⟩
  · rw [if_neg he]
    have hmn : m < n := by
      have : m ≠ n := fun q => he (by simpa using q)
      omega
    have hl := h4 hmn
    by_cases hm : m > 1
    · rw [if_pos hm]
      refine ⟨hp.bd (by omega), hp.bd (by omega), ?_⟩
      show Good lt n (if lt (e p 0) (e p (m - 1)) = true then _ else _) _
      cases hc : lt (e p 0) (e p (m - 1)) with
      | true => exact ⟨hp, h1, h2, h3⟩
      | false =>
        refine good_descPart o (hp.rev 0 m) (by omega) fun i j hij hj => ?_
        have hs : m ≤ p.size := by rw [hp.1]; omega
        rw [e_rev hs, e_rev hs, if_pos ⟨by omega, by omega⟩]
        by_cases hjm : j < m
        · rw [if_pos ⟨by omega, hjm⟩]
          exact h3 _ _ (by omega) (by omega)
        · rw [if_neg (fun h => hjm h.2)]
          have : j = m := by omega
          subst this
          have a1 : lt (e p (0 + j - 1 - i)) (e p 0) = false := by
            by_cases h0 : 0 + j - 1 - i = 0
            · rw [h0]; exact o.irr _
            · exact h3 _ _ (by omega) (by omega)
          exact o.tr _ _ _ a1 (o.tr _ _ _ hc (o.asym _ _ hl))
    · rw [if_neg hm]
      refine good_descPart o hp (by omega) fun i j hij hj => ?_
      have h5 : m = 1 := by omega
      subst h5
      have : i = 0 ∧ j = 1 := by omega
      obtain ⟨rfl, rfl⟩ := this
      exact o.asym _ _ hl
theorem good_place (o : Ord lt) {p : Array Nat} (hp : Pm n p) {k : Nat} (hk : k < n) (hA : Asc lt p k) : ∀ (f l r : Nat), l ≤ r → r ≤ k → r - l ≤ f → (∀ i, i < l → lt (e p k) (e p i) = false) → (∀ i, r ≤ i → i < k → lt (e p k) (e p i) = true) →
    Good lt n (kas_place p k f l r) (fun l => l ≤ k ∧ (∀ i, i < l → lt (e p k) (e p i) = false) ∧ ∀ i, l ≤ i → i < k → lt (e p k) (e p i) = true)
  | 0, l, r, h1, h2, h3, h4, h5 => by
    have : r = l := by omega
    subst this
    exact ⟨h2, h4, h5⟩
  | f + 1, l, r, h1, h2, h3, h4, h5 => by
    show Good lt n (if l ≥ r then _ else _) _
    by_cases hlr : l ≥ r
    · rw [if_pos hlr]
      have : r = l := by omega
      subst this
      exact ⟨h2, h4, h5⟩
    · rw [if_neg hlr]
      have hmid : (l + r) / 2 < r ∧ l ≤ (l + r) / 2 := by omega
      refine ⟨hp.bd hk, hp.bd (by omega), ?_⟩
      show Good lt n (if lt (e p k) (e p ((l + r) / 2)) = true then _ else _) _
      cases hc : lt (e p k) (e p ((l + r) / 2)) with
      | true =>
        refine good_place o hp hk hA f l ((l + r) / 2) hmid.2 (by omega) (by omega) h4 fun i a b => ?_
        by_cases him : i = (l + r) / 2
        · rw [him]; exact hc
        · cases hx : lt (e p k) (e p i) with
          | true => rfl
          | false =>
            have := o.tr _ _ _ hx (hA _ i (show (l + r) / 2 < i by omega) b)
            rw [this] at hc
            cases hc
      | false =>
        refine good_place o hp hk hA f ((l + r) / 2 + 1) r (by omega) h2 (by omega) (fun i a => ?_) h5
        by_cases him : i = (l + r) / 2
        · rw [him]; exact hc
        · exact o.tr _ _ _ hc (hA i _ (by omega) (by omega))
theorem good_bin (o : Ord lt) : ∀ (f : Nat) (p : Array Nat) (k : Nat), Pm n p → k + f = n → Asc lt p k → Good lt n (kas_bin f p k) (fun r => Pm n r ∧ Asc lt r n)
  | 0, p, k, hp, hf, hA => by
    have : k = n := by omega
    subst this
    exact ⟨hp, hA⟩
  | f + 1, p, k, hp, hf, hA => by
    refine Good.bind (Good.mono (fun l h => ?_) (good_place o hp (by omega) hA k 0 k (Nat.zero_le _) (Nat.le_refl _) (by omega) (fun i h => absurd h (by omega)) fun i a b => absurd b (by omega)))
    obtain ⟨h1, h2, h3⟩ := h
    refine good_bin o f _ (k + 1) (hp.bub _ _) (by omega) fun i j hij hj => ?_
    have hs : k < p.size := by rw [hp.1]; omega
    have hkl : k - (k - l) = l := by omega
    rw [e_bub hs (by omega), e_bub hs (by omega), hkl]
    by_cases hjl : j = l
    · rw [if_pos hjl, if_neg (by omega), if_neg (by omega)]
      exact h2 i (by omega)
    · rw [if_neg hjl]
      by_cases hjr : l < j
      · rw [if_pos ⟨hjr, by omega⟩]
        by_cases hil : i = l
        · rw [if_pos hil]
          exact o.asym _ _ (h3 _ (by omega) (by omega))
        · rw [if_neg hil]
          by_cases hir : l < i
          · rw [if_pos ⟨hir, by omega⟩]
            exact hA _ _ (by omega) (by omega)
          · rw [if_neg (fun h => hir h.1)]
            exact hA _ _ (by omega) (by omega)
      · rw [if_neg (fun h => hjr h.1), if_neg (by omega), if_neg (fun h => by omega)]
        exact hA _ _ hij (by omega)
theorem good_sort (o : Ord lt) (hn : 1 ≤ n) : Good lt n (kas_sort n) (fun p => Pm n p ∧ Asc lt p n) := by
  refine Good.bind (Good.mono (fun r h => ?_) (good_count o (p := List.toArray (List.range n)) ⟨by simp, List.Perm.refl _⟩ hn))
  obtain ⟨h1, h2, h3, h4⟩ := h
  by_cases hr : r.1 < n
  · rw [if_pos hr]
    have hm : max r.1 1 = r.1 := by omega
    rw [hm]
    exact good_bin o _ _ _ h1 (by omega) h4
  · rw [if_neg hr]
    have : r.1 = n := by omega
    exact ⟨h1, by rw [← this]; exact h4⟩
end
end Ts
end L2
set_option Elab.async false
set_option linter.all false
set_option maxRecDepth 100000
namespace L2
open PySem PySem.W PyProof.Rows
theorem pm_range (n : Nat) : Ts.Pm n (List.toArray (List.range n)) := ⟨by simp, List.Perm.refl _⟩
section
variable {prog : Program} {w : World} {A : Around} {E : Value → Shared → Prop} {s : Shared}
structure Quiet (prog : Program) (w : World) (A : Around) (s : Shared) (Kp : Heap → Prop) (vs : List Value) (κ : SortKind) (lt : Nat → Nat → Bool) : Prop where
  knd : 2 ≤ vs.length → ∀ g, Kp g → ∀ Q : SortKind → Shared → Prop, Q κ { s with heap := g } → wpAny (model prog w) A (keyKind' vs.toArray) Q (fun _ _ => False) { s with heap := g }
  cmp : ∀ g, Kp g → ∀ i j (C : Bool → Shared → Prop), i < vs.length → j < vs.length → C (lt i j) { s with heap := g } → wpAny (model prog w) A (keyLt' κ (vs.getD i Value.none) (vs.getD j Value.none)) C (fun _ _ => False) { s with heap := g }
theorem srt_body {a : Addr} {vs : List Value} {n : Nat} {P : PySem.Fin → Shared → Prop} {Kp : Heap → Prop} {κ : SortKind} {lt : Nat → Nat → Bool} (or : Ts.Ord lt) (at_ : s.heap.get? a = some (seqObj "list" vs.toArray n)) (few : vs.length < 64)
    (qu : Quiet prog w A s Kp vs κ lt) (kp : Kp (((s.heap.update a (Obj.mapSeq fun _ => #[])).push (seqObj "tuple" vs.toArray 0)).push (seqObj "list" #[] 0)))
    (fin : ∀ p : Array Nat, Ts.Pm vs.length p → Ts.Asc lt p vs.length → P (.done (.ret .none)) { s with heap := sortedHeap s.heap a vs (List.toArray (p.toList.map fun i => vs.getD i Value.none)) }) :
    wpAny (model prog w) A (Builtin.«list.sort» ⟨[.ref a], []⟩) P E s := by
  rw [list_sort_plain]
  have room : vs.length ≤ sizeLine := by rw [sizeLine_eq]; omega
  obtain ⟨c, at1⟩ : ∃ c, (s.heap.update a (Obj.mapSeq fun _ => #[])).get? a = some (seqObj "list" #[] c) := ⟨_, get?_update_seq at_ (fun _ => #[])⟩
  have lo : a < s.heap.objs.size := Heap.lt_size at_
  have at2 : (((s.heap.update a (Obj.mapSeq fun _ => #[])).push (seqObj "tuple" vs.toArray 0)).push (seqObj "list" #[] 0)).get? a = some (seqObj "list" #[] c) :=
    Heap.get?_push_of_some _ (Heap.get?_push_of_some _ at1)
  have many : vs.toArray.size = vs.length := by simp
  refine wpAny_bind (listItems_at at_ rfl (wpAny_bind (listUpdate_at at_ rfl (wpAny_bind (seqEpoch_at at1 rfl (wpAny_bind (wpAny_newTuple (wpAny_bind (wpAny_newList (wpAny_holding ?_)))))))))) 
  show wpAny (model prog w) A _ P E { s with heap := (((s.heap.update a (Obj.mapSeq fun _ => #[])).push (seqObj "tuple" vs.toArray 0)).push (seqObj "list" #[] 0)) }
  dsimp only
  by_cases h2 : vs.length < 2
  · rw [if_pos (by rw [many]; exact h2), if_pos (by rw [many]; exact h2)]
    refine wpAny_bind (wpAny_pure ?_)
    rw [StateT.run_pure]
    refine wpAny_bind (wpAny_pure ?_)
    dsimp only
    have out : (arrOf (SortSt.mk' general' (vs.toArray.zip vs.toArray) #[] 7 none)).map (·.2) = List.toArray ((List.toArray (List.range vs.length)).toList.map fun i => vs.getD i Value.none) := by
      have e0 : ∀ us : List Value, us.length < 2 → (us.toArray.zip us.toArray).map (·.2) = List.toArray ((List.range us.length).map fun i => us.getD i Value.none) := fun us hu => by
        match us, hu with
        | [], _ => simp
        | [v], _ => simp
        | _ :: _ :: _, h => simp only [List.length_cons] at h; omega
      exact e0 vs h2
    rw [out]
    refine wpAny_bind (seqEpoch_at at2 rfl (wpAny_bind (listUpdate_at at2 rfl ?_ (Nat.zero_le _) (by simp; exact Nat.le_succ_of_le room))))
    simp only [bne_self_eq_false, Bool.false_eq_true, if_false]
    exact wpAny_pure (fin _ (pm_range _) fun i j hij hj => by omega)
  · rw [if_neg (by rw [many]; exact h2), if_neg (by rw [many]; exact h2)]
    refine wpAny_bind (wpAny_mono (qu.knd (by omega) _ kp (fun k t => k = κ ∧ t = { s with heap := (((s.heap.update a (Obj.mapSeq fun _ => #[])).push (seqObj "tuple" vs.toArray 0)).push (seqObj "list" #[] 0)) }) ⟨rfl, rfl⟩) ?_ fun _ _ x => x.elim)
    rintro k t ⟨rfl, rfl⟩
    refine wpAny_bind (wpAny_mono (kat_run (Q := fun st t => ∃ p : Array Nat, p.size = vs.length ∧ arrOf st = p.map (kas_item (vs.toArray.zip vs.toArray)) ∧ failedOf st = none ∧ (t = { s with heap := (((s.heap.update a (Obj.mapSeq fun _ => #[])).push (seqObj "tuple" vs.toArray 0)).push (seqObj "list" #[] 0)) } ∧ Ts.Pm vs.length p ∧ Ts.Asc lt p vs.length))
      rfl (by omega) few (fun p st t a1 a2 a3 a4 => ⟨p, a1, a2, a3, a4⟩) (Ts.Good.wp (lt := lt) (n := vs.length) (fun i j C hi hj hC => qu.cmp _ kp i j C hi hj hC) (Ts.Good.mono (fun p hp => ⟨rfl, hp⟩) (Ts.good_sort or (by omega))))) ?_ fun _ _ x => x)
    rintro ⟨⟨⟩, st⟩ t ⟨p, hp, ar, hf, rfl, hP, hA⟩
    dsimp only
    rw [kat_snds rfl ar]
    refine wpAny_bind (seqEpoch_at at2 rfl (wpAny_bind (listUpdate_at at2 rfl ?_ (Nat.zero_le _) (by simp; rw [hp]; exact Nat.le_succ_of_le room))))
    rw [hf]
    simp only [bne_self_eq_false, Bool.false_eq_true, if_false]
    exact wpAny_pure (fin p hP hA)
end
end L2
set_option Elab.async false
set_option linter.all false
set_option maxRecDepth 100000
namespace L2
open PySem PySem.W PyProof.Rows
abbrev OKey := Int × List Nat
def lt1 (x y : OKey) : Bool := decide (x.1 < y.1) || (decide (x.1 = y.1) && decide (x.2 < y.2))
theorem lt1_iff {x y : OKey} : lt1 x y = true ↔ x.1 < y.1 ∨ (x.1 = y.1 ∧ x.2 < y.2) := by
  unfold lt1
  rw [Bool.or_eq_true, Bool.and_eq_true, decide_eq_true_eq, decide_eq_true_eq, decide_eq_true_eq]
theorem lt1_irr (x : OKey) : lt1 x x = false := by
  cases h : lt1 x x with
  | false => rfl
  | true =>
    rcases lt1_iff.mp h with h | h
    · omega
    · exact absurd h.2 (List.lt_irrefl _)
theorem lt1_tr {x y z : OKey} (h1 : lt1 x y = true) (h2 : lt1 y z = true) : lt1 x z = true := by
  rw [lt1_iff] at *
  rcases h1 with h1 | h1 <;> rcases h2 with h2 | h2
  · exact .inl (by omega)
  · exact .inl (by omega)
  · exact .inl (by omega)
  · exact .inr ⟨by omega, List.lt_trans h1.2 h2.2⟩
theorem lt1_tot {x y : OKey} (h : lt1 x y = false) (n : x ≠ y) : lt1 y x = true := by
  rw [lt1_iff]
  have h' : ¬ (x.1 < y.1 ∨ (x.1 = y.1 ∧ x.2 < y.2)) := fun q => by rw [lt1_iff.mpr q] at h; cases h
  by_cases e : x.1 = y.1
  · refine .inr ⟨e.symm, ?_⟩
    have h2 : ¬ x.2 < y.2 := fun q => h' (.inr ⟨e, q⟩)
    have h3 : x.2 ≠ y.2 := fun q => n (Prod.ext e q)
    have h4 : y.2 ≤ x.2 := List.not_lt.mp h2
    exact Decidable.byContradiction fun q => h3 (List.le_antisymm (List.not_lt.mp q) h4)
  · exact .inl (by
      have : ¬ x.1 < y.1 := fun q => h' (.inl q)
      omega)
def ltK : List OKey → List OKey → Bool
  | [], [] => false
  | [], _ :: _ => true
  | _ :: _, [] => false
  | x :: xs, y :: ys => if x = y then ltK xs ys else lt1 x y
theorem ltK_cons (x y : OKey) (xs ys : List OKey) : ltK (x :: xs) (y :: ys) = if x = y then ltK xs ys else lt1 x y := rfl
theorem ltK_asym : ∀ (a b : List OKey), ltK a b = true → ltK b a = false
  | [], [], h => by cases h
  | [], _ :: _, _ => rfl
  | _ :: _, [], h => by cases h
  | x :: xs, y :: ys, h => by
    rw [ltK_cons] at h ⊢
    by_cases e : x = y
    · rw [if_pos e] at h
      rw [if_pos e.symm]
      exact ltK_asym xs ys h
    · rw [if_neg e] at h
      rw [if_neg fun q => e q.symm]
      cases q : lt1 y x with
      | false => rfl
      | true =>
        have := lt1_tr h q
        rw [lt1_irr] at this
        cases this
theorem ltK_tr : ∀ (a b c : List OKey), ltK a b = false → ltK b c = false → ltK a c = false
  | [], [], [], _, _ => rfl
  | [], [], _ :: _, _, h => by cases h
  | [], _ :: _, _, h, _ => by cases h
  | _ :: _, _, [], _, _ => rfl
  | _ :: _, [], _ :: _, _, h => by cases h
  | x :: xs, y :: ys, z :: zs, h1, h2 => by
    rw [ltK_cons] at h1 h2 ⊢
    by_cases e1 : x = y
    · subst e1
      rw [if_pos rfl] at h1
      by_cases e2 : x = z
      · subst e2
        rw [if_pos rfl] at h2
        rw [if_pos rfl]
        exact ltK_tr xs ys zs h1 h2
      · rw [if_neg e2] at h2 ⊢
        exact h2
    · rw [if_neg e1] at h1
      have g1 := lt1_tot h1 e1
      have fin : lt1 z x = true → (if x = z then ltK xs zs else lt1 x z) = false := fun g => by
        have n : x ≠ z := fun q => by
          rw [q, lt1_irr] at g
          cases g
        rw [if_neg n]
        cases q : lt1 x z with
        | false => rfl
        | true =>
          have := lt1_tr g q
          rw [lt1_irr] at this
          cases this
      by_cases e2 : y = z
      · subst e2
        exact fin g1
      · rw [if_neg e2] at h2
        exact fin (lt1_tr (lt1_tot h2 e2) g1)
theorem ltK_ord (k : Nat → List OKey) : Ts.Ord fun i j => ltK (k i) (k j) := ⟨fun _ _ h => ltK_asym _ _ h, fun _ _ _ h1 h2 => ltK_tr _ _ _ h1 h2⟩
theorem ltK_eq : ∀ (a b : List OKey), ltK a b = false → ltK b a = false → a = b
  | [], [], _, _ => rfl
  | [], _ :: _, h, _ => by cases h
  | _ :: _, [], _, h => by cases h
  | x :: xs, y :: ys, h1, h2 => by
    rw [ltK_cons] at h1 h2
    by_cases e : x = y
    · rw [if_pos e] at h1
      rw [if_pos e.symm] at h2
      rw [e, ltK_eq xs ys h1 h2]
    · rw [if_neg e] at h1
      rw [if_neg fun q => e q.symm] at h2
      rw [lt1_tot h1 e] at h2
      cases h2
def okV : V → OKey
  | .int i => (i, [])
  | .str s => (0, s.cps.toList)
  | _ => (0, [])
def tgV : V → Option Bool
  | .int _ => some true
  | .str _ => some false
  | _ => none
def lexV (xs ys : List V) : Bool := ltK (xs.map okV) (ys.map okV)
end L2
set_option Elab.async false
set_option linter.all false
set_option maxRecDepth 100000
namespace L2
open PySem PySem.Spec PySem.W PyProof.Rows
section
variable {prog : Program} {w : World} {A : Around} {E : Value → Shared → Prop} {s : Shared}
theorem one_eq {x y : V} {u v : Value} {C : Bool → Shared → Prop} (hx : RelV x u) (hy : RelV y v) (ht : tgV x = tgV y) (hn : tgV x ≠ none) (h : C (decide (okV x = okV y)) s) :
    wpAny (model prog w) A (eqBool u v) C (fun _ _ => False) s := by
  cases x with
  | int i =>
    cases y with
    | int j =>
      obtain ⟨t, rfl⟩ := hx
      obtain ⟨t', rfl⟩ := hy
      refine wpAny_eqBool_int ?_
      have e : (i == j) = decide (okV (.int i) = okV (.int j)) := by
        rw [Bool.eq_iff_iff, beq_iff_eq, decide_eq_true_eq]
        exact ⟨fun q => by rw [q], fun q => (Prod.mk.inj q).1⟩
      rw [e]
      exact h
    | _ => cases ht
  | str a =>
    cases y with
    | str b =>
      obtain ⟨t, rfl⟩ := hx
      obtain ⟨t', rfl⟩ := hy
      refine wpAny_eqBool_str ?_
      have e : decide (a = b) = decide (okV (.str a) = okV (.str b)) := by
        rw [Bool.eq_iff_iff, decide_eq_true_eq, decide_eq_true_eq]
        refine ⟨fun q => by rw [q], fun q => ?_⟩
        have := (Prod.mk.inj q).2
        cases a; cases b
        exact congrArg Str.mk (Array.toList_inj.mp this)
      rw [e]
      exact h
    | _ => cases ht
  | _ => exact absurd rfl hn
theorem one_lt {b : Bool} {x y : V} {u v : Value} {C : Bool → Shared → Prop} (hx : RelV x u) (hy : RelV y v) (ht : tgV x = tgV y) (hn : tgV x ≠ none) (h : C (lt1 (okV x) (okV y)) s) :
    wpAny (model prog w) A (oneLt' b u v) C (fun _ _ => False) s := by
  cases x with
  | int i =>
    cases y with
    | int j =>
      obtain ⟨t, rfl⟩ := hx
      obtain ⟨t', rfl⟩ := hy
      have e : lt1 (okV (.int i)) (okV (.int j)) = decide (i < j) := by
        rw [Bool.eq_iff_iff, lt1_iff, decide_eq_true_eq]
        exact ⟨fun q => q.elim id fun q => absurd q.2 (List.lt_irrefl _), .inl⟩
      rw [e] at h
      cases b with
      | true => exact oneLt_int h
      | false => exact kat_one _ _ (PyProof.Rows.lt_int h)
    | _ => cases ht
  | str p =>
    cases y with
    | str q =>
      obtain ⟨t, rfl⟩ := hx
      obtain ⟨t', rfl⟩ := hy
      have e : lt1 (okV (.str p)) (okV (.str q)) = decide (p.cps.toList < q.cps.toList) := by
        rw [Bool.eq_iff_iff, lt1_iff, decide_eq_true_eq]
        exact ⟨fun z => z.elim (fun z => absurd z (Int.lt_irrefl _)) (·.2), fun z => .inr ⟨rfl, z⟩⟩
      rw [e] at h
      cases b with
      | true => exact oneLt_str h
      | false => exact kat_one _ _ (PyProof.Rows.lt_str h)
    | _ => cases ht
  | _ => exact absurd rfl hn
theorem lex_ok {f : Bool} {C : Bool → Shared → Prop} : ∀ (xs ys : List V) (us vs : List Value) (i : Nat), Vals xs us → Vals ys vs → xs.map tgV = ys.map tgV → (∀ x ∈ xs, tgV x ≠ none) → C (lexV xs ys) s →
    KatLex prog w A f false C (us.zip vs) i s
  | [], [], _, _, _, .nil, .nil, _, _, h => kat_nil h
  | [], _ :: _, _, _, _, _, _, ht, _, _ => by cases ht
  | _ :: _, [], _, _, _, _, _, ht, _, _ => by cases ht
  | x :: xs, y :: ys, _, _, i, .cons rx r, .cons ry r', ht, hn, h => by
    rw [List.map_cons, List.map_cons] at ht
    injection ht with t1 t2
    have n1 := hn x (List.mem_cons_self ..)
    refine kat_cons (one_eq rx ry t1 n1 ?_)
    have h : C (if okV x = okV y then lexV xs ys else lt1 (okV x) (okV y)) s := h
    by_cases e : okV x = okV y
    · rw [decide_eq_true e]
      rw [if_pos e] at h
      exact kat_yes (lex_ok xs ys _ _ (i + 1) r r' t2 (fun z hz => hn z (List.mem_cons_of_mem _ hz)) h)
    · rw [decide_eq_false e]
      rw [if_neg e] at h
      exact kat_no (one_lt rx ry t1 n1 h)
theorem sorted_any {l : Addr} {vs : List Value} {κ : SortKind} {lt : Nat → Nat → Bool} {Q : Value → Shared → Prop} (or : Ts.Ord lt) (hl : s.heap.IsList l vs.toArray) (few : vs.length < 64)
    (qu : Quiet prog w A.in1.in1 s (fun g => ∀ b o, s.heap.get? b = some o → g.get? b = some o) vs κ lt)
    (fin : ∀ p : Array Nat, Ts.Pm vs.length p → Ts.Asc lt p vs.length → Q (.ref (s.heap.objs.size + 1)) { s with heap := sortedAll s.heap vs (List.toArray (p.toList.map fun i => vs.getD i Value.none)) }) :
    wpAny (model prog w) A (call (.builtin "sorted") [.ref l]) Q E s := by
  refine Calls.call_function_entry kind_sorted plain_sorted entry_sorted (args_sorted1 _) ?_
  unfold Builtin.«sorted»
  refine wpAny_bind (m := checkCount "sorted" 1 1 _) (wpAny_pure (wpAny_bind (collect_list hl (wpAny_bind (wpAny_newList ?_)))))
  have up : ((s.heap.push (seqObj "list" #[] 0)).update s.heap.objs.size (Obj.mapSeq (· ++ vs.toArray))).objs.size = s.heap.objs.size + 1 := (Heap.size_update ..).trans (size_push' ..)
  have own : (((s.heap.push (seqObj "list" #[] 0)).update s.heap.objs.size (Obj.mapSeq (· ++ vs.toArray))).push (seqObj "list" vs.toArray 0)).get? (s.heap.objs.size + 1) = some (seqObj "list" vs.toArray 0) := by
    rw [← up]
    exact Heap.get?_push_size _ rfl
  have old : ∀ b o, s.heap.get? b = some o → (((s.heap.push (seqObj "list" #[] 0)).update s.heap.objs.size (Obj.mapSeq (· ++ vs.toArray))).push (seqObj "list" vs.toArray 0)).get? b = some o := fun b o q => by
    have low : b < s.heap.objs.size := Heap.lt_size q
    refine Heap.get?_push_of_some _ ?_
    rw [Heap.get?_update_ne _ _ _ _ (Nat.ne_of_lt low)]
    exact Heap.get?_push_of_some _ q
  show wpAny _ _ _ _ _ { s with heap := (((s.heap.push (seqObj "list" #[] 0)).update s.heap.objs.size (Obj.mapSeq (· ++ vs.toArray))).push (seqObj "list" vs.toArray 0)) }
  rw [up]
  refine wpAny_bind (wpAny_holding (wpAny_call_entry slot_list_sort ⟨_, own, rfl⟩ entry_list_sort (srt_body (Kp := fun g => ∀ b o, s.heap.get? b = some o → g.get? b = some o) or own few ⟨fun h2 g kg Q' q => qu.knd h2 g kg Q' q, fun g kg i j C hi hj q => qu.cmp g kg i j C hi hj q⟩ ?_ fun p h1 h2 => ⟨_, rfl, wpAny_pure ⟨_, rfl, fin p h1 h2⟩⟩) (args_list_sort _)))
  intro b o q
  have low : b < s.heap.objs.size := Heap.lt_size q
  refine Heap.get?_push_of_some _ (Heap.get?_push_of_some _ ?_)
  rw [Heap.get?_update_ne _ _ _ _ (Nat.ne_of_lt (Nat.lt_succ_of_lt low))]
  exact old b o q
end
end L2
set_option Elab.async false
set_option linter.all false
set_option maxRecDepth 100000
namespace L2
open PySem PySem.Spec PySem.W PyProof.Rows
def rSortedT (K : PySem.W.Frag) : List V → Hp → VK → Prop := fun vs H Q => ∃ (a : Addr) (L : List (Addr × List V)) (b : Bool) (ts : List (Option Bool)), vs = [V.ref a] ∧ SqL K H a (L.map fun x => V.ref x.1) ∧ L.length < 64 ∧ none ∉ ts ∧
  (∀ x ∈ L, SqT K H x.1 x.2 ∧ x.2.map tgV = some b :: ts) ∧
  ∀ (L' : List (Addr × List V)) (p : Addr), L'.Perm L → L'.Pairwise (fun x y => lexV y.2 x.2 = false) → H p = none → Q (.ref p) (upd H p (.lst (L'.map fun x => V.ref x.1)))
theorem refs_of : ∀ {L : List (Addr × List V)} {us : List Value}, Vals (L.map fun x => V.ref x.1) us → us = L.map fun x => Value.ref x.1
  | [], _, .nil => rfl
  | x :: L, _, .cons r q => by rw [refs_of (L := L) q, show _ = Value.ref x.1 from r]; rfl
theorem of_refs : ∀ (L : List (Addr × List V)), Vals (L.map fun x => V.ref x.1) (L.map fun x => Value.ref x.1)
  | [] => .nil
  | _ :: L => .cons rfl (of_refs L)
def TupAt (g : Heap) (x : Addr × List V) : Prop := ∃ its : List Value, Vals x.2 its ∧ ∃ (o : Obj) (n : Nat), g.get? x.1 = some o ∧ o.cls = .type "tuple" ∧ o.data = .seq its.toArray n
theorem firsts_of {g : Heap} {b : Bool} {ts : List (Option Bool)} : ∀ (L : List (Addr × List V)), (∀ x ∈ L, TupAt g x) → (∀ x ∈ L, x.2.map tgV = some b :: ts) →
    ∃ fs : List Value, KatTups g (L.map fun x => Value.ref x.1) fs ∧ fs.length = L.length ∧ ∀ v ∈ fs, ∃ y : V, tgV y = some b ∧ RelV y v
  | [], _, _ => ⟨[], KatTups.nil, rfl, fun v h => by cases h⟩
  | (p, xs) :: L, h, ht => by
    obtain ⟨fs, k, hl, hf⟩ := firsts_of L (fun x hx => h x (List.mem_cons_of_mem _ hx)) (fun x hx => ht x (List.mem_cons_of_mem _ hx))
    obtain ⟨its, r, o, n, ho, hc, hd⟩ := h _ (List.mem_cons_self ..)
    have t0 := ht _ (List.mem_cons_self ..)
    cases r with
    | nil => cases t0
    | @cons y u ys us ry rr =>
      rw [List.map_cons] at t0
      injection t0 with t1 t2
      refine ⟨u :: fs, KatTups.cons ho hc hd rfl k, by rw [List.length_cons, List.length_cons, hl], fun v hv => ?_⟩
      rcases List.mem_cons.mp hv with e | hv'
      · exact ⟨y, t1, by rw [e]; exact ry⟩
      · exact hf v hv'
def tyB (b : Bool) : Value := if b = true then .type "int" else .type "str"
theorem ty_of {M : Model} {g : Heap} {b : Bool} {y : V} {v : Value} (h : tgV y = some b) (r : RelV y v) : Looks M g (typeOf v) (tyB b) := by
  cases y with
  | int i => cases h; obtain ⟨t, rfl⟩ := r; exact Looks.of_pure rfl
  | str s => cases h; obtain ⟨t, rfl⟩ := r; exact Looks.of_pure rfl
  | _ => cases h
theorem getD_map {α β : Type} (f : α → β) (d : α) (e : β) (L : List α) (i : Nat) (h : i < L.length) : (L.map f).getD i e = f (L.getD i d) := by
  rw [List.getD_eq_getElem?_getD, List.getElem?_map, List.getD_eq_getElem?_getD, List.getElem?_eq_getElem h]
  rfl
theorem getD_in {α : Type} (d : α) (L : List α) (i : Nat) (h : i < L.length) : L.getD i d ∈ L := by
  rw [List.getD_eq_getElem?_getD, List.getElem?_eq_getElem h]
  exact List.getElem_mem h
theorem perm_of {α : Type} (d : α) (L : List α) {p : List Nat} (h : p.Perm (List.range L.length)) : (p.map fun i => L.getD i d).Perm L := by
  refine (h.map _).trans (List.Perm.of_eq ?_)
  refine List.ext_getElem (by simp) fun i h1 h2 => ?_
  rw [List.getElem_map, List.getElem_range, List.getD_eq_getElem?_getD, List.getElem?_eq_getElem h2]
  rfl
section
variable {X : Cx}
theorem cr_sortedT : CallR X (.builtin "sorted") (rSortedT X.K) := by
  intro pins s σ H vs us Q I r h
  obtain ⟨a, L, b, ts, rfl, hs, few, nn, hL, q⟩ := h
  obtain ⟨its, rv, hl, room⟩ := I.list hs
  rw [Vals.ref1 r]
  have e := refs_of rv
  subst e
  have at0 : ∀ x ∈ L, TupAt s.heap x := fun x hx => by
    obtain ⟨is, ri, ⟨o, e1, e2, n, e3⟩, _⟩ := I.tuple (hL x hx).1
    exact ⟨is, ri, o, n, e1, e2, e3⟩
  have mv : ∀ {g : Heap} (_ : ∀ b o, s.heap.get? b = some o → g.get? b = some o), ∀ x ∈ L, TupAt g x := fun kg x hx => by
    obtain ⟨is, ri, o, n, e1, e2, e3⟩ := at0 x hx
    exact ⟨is, ri, o, n, kg _ _ e1, e2, e3⟩
  have many : (L.map fun x => Value.ref x.1).length = L.length := List.length_map ..
  refine sorted_any (κ := tuples' (tyB b != Value.type "tuple")) (lt := fun i j => lexV (L.getD i (0, [])).2 (L.getD j (0, [])).2) (ltK_ord fun i => (L.getD i (0, [])).2.map okV) hl.isList (by rw [many]; exact few) ⟨fun h2 g kg Q' q' => ?_, fun g kg i j C hi hj q' => ?_⟩ fun p h1 h2 => ?_
  · obtain ⟨fs, k, hlen, hf⟩ := firsts_of L (mv kg) fun x hx => (hL x hx).2
    exact kat_kind k (by rw [hlen]; rw [many] at h2; omega) (fun v hv => by obtain ⟨y, h3, h4⟩ := hf v hv; exact ty_of h3 h4) (by cases b <;> rfl) q'
  · rw [many] at hi hj
    rw [getD_map _ (0, []) _ L i hi, getD_map _ (0, []) _ L j hj]
    have mi := getD_in (0, []) L i hi
    have mj := getD_in (0, []) L j hj
    obtain ⟨is, ri, o, n, e1, e2, e3⟩ := mv kg _ mi
    obtain ⟨js, rj, o', n', f1, f2, f3⟩ := mv kg _ mj
    have ti := (hL _ mi).2
    have tj := (hL _ mj).2
    refine kat_lt (s := { s with heap := g }) e1 e3 f1 f3 ?_
    have sz : decide (is.toArray.size < js.toArray.size) = false := by
      refine decide_eq_false ?_
      have l1 := congrArg List.length (ti.trans tj.symm)
      rw [List.length_map, List.length_map, ri.length, rj.length] at l1
      simp [l1]
    rw [sz]
    refine lex_ok _ _ _ _ 0 ri rj (ti.trans tj.symm) (fun x hx z => ?_) q'
    have : tgV x ∈ some b :: ts := ti ▸ List.mem_map_of_mem hx
    rw [z] at this
    rcases List.mem_cons.mp this with w | w
    · cases w
    · exact nn w
  · obtain ⟨ep, he⟩ := sortedAll_at s.heap (L.map fun x => Value.ref x.1) (List.toArray (p.toList.map fun i => (L.map fun x => Value.ref x.1).getD i Value.none))
    have h1' : p.toList.Perm (List.range L.length) := by rw [← many]; exact h1.2
    have pe := perm_of (0, []) L h1'
    have out : (p.toList.map fun i => (L.map fun x => Value.ref x.1).getD i Value.none) = (p.toList.map fun i => L.getD i (0, [])).map fun x => Value.ref x.1 := by
      rw [List.map_map]
      refine List.map_congr_left fun i hi => ?_
      exact getD_map _ _ _ L i (List.mem_range.mp (h1'.mem_iff.mp hi))
    rw [out] at he ⊢
    refine ⟨.ref _, upd H (s.heap.objs.size + 1) (.lst ((p.toList.map fun i => L.getD i (0, [])).map fun x => V.ref x.1)), I.laid (t' := s.toks) (fun _ _ => sortedAll_old) (Nat.le_succ _) ⟨by rw [List.length_map, pe.length_eq]; exact small64 few, _, ep, of_refs _, he⟩, rfl, q _ _ pe ?_ (I.hok.fresh (Nat.le_succ _))⟩
    rw [List.pairwise_map, List.pairwise_iff_getElem]
    intro i j hi hj hij
    have ps : p.size = L.length := by rw [← many]; exact h1.1
    have := h2 i j hij (by rw [many, ← ps]; simpa using hj)
    have ei : Ts.e p i = p.toList[i] := by
      show p.getD i 0 = _
      have : i < p.size := by simpa using hi
      simp [Array.getD, this]
    have ej : Ts.e p j = p.toList[j] := by
      show p.getD j 0 = _
      have : j < p.size := by simpa using hj
      simp [Array.getD, this]
    rw [ei, ej] at this
    exact this
end
end L2
set_option Elab.async false
set_option linter.all false
set_option maxRecDepth 100000
namespace HT
open PySem PyProof.Rows L2
theorem fl_eq (A : Around) (s : Shared) {x y : V} {u v : Value} (hx : RelV x u) (hy : RelV y v) (ht : tgV x = tgV y) (hn : tgV x ≠ none) : SeqAt.EqAt A s u v (decide (okV x = okV y)) :=
  fun prog w E Q h => wpAny_mono (one_eq (prog := prog) (w := w) (A := A) (s := s) (C := fun b t => Q b t) hx hy ht hn h) (fun _ _ z => z) fun _ _ z => z.elim
theorem fl_lt (A : Around) (s : Shared) {x y : V} {u v : Value} (hx : RelV x u) (hy : RelV y v) (ht : tgV x = tgV y) (hn : tgV x ≠ none) (prog : Program) (w : World) (E : Value → Shared → Prop) (Q : Value → Shared → Prop) (h : Q (.bool (lt1 (okV x) (okV y))) s) :
    wpAny (model prog w) A (richCompare .Lt u v) Q E s := by
  cases x with
  | int i =>
    cases y with
    | int j =>
      obtain ⟨t, rfl⟩ := hx
      obtain ⟨t', rfl⟩ := hy
      have e : lt1 (okV (.int i)) (okV (.int j)) = decide (i < j) := by
        rw [Bool.eq_iff_iff, lt1_iff, decide_eq_true_eq]
        exact ⟨fun q => q.elim id fun q => absurd q.2 (List.lt_irrefl _), .inl⟩
      rw [e] at h
      exact (PyProof.Rows.lt_int h : wpAny (model prog w) A (compareOp .Lt _ _) Q E s)
    | _ => cases ht
  | str p =>
    cases y with
    | str q =>
      obtain ⟨t, rfl⟩ := hx
      obtain ⟨t', rfl⟩ := hy
      have e : lt1 (okV (.str p)) (okV (.str q)) = decide (p.cps.toList < q.cps.toList) := by
        rw [Bool.eq_iff_iff, lt1_iff, decide_eq_true_eq]
        exact ⟨fun z => z.elim (fun z => absurd z (Int.lt_irrefl _)) (·.2), fun z => .inr ⟨rfl, z⟩⟩
      rw [e] at h
      exact (PyProof.Rows.lt_str h : wpAny (model prog w) A (compareOp .Lt _ _) Q E s)
    | _ => cases ht
  | _ => exact absurd rfl hn
section
open PySem.SeqAt
open PySem.AutoSeq1 (wpAny_loadPart')
open PySem.MeetsSeq PySem.MeetsSeq2 PySem.MeetsSeq3
theorem tuple_lt_flat (l b : Addr) (items items2 : Array Value) (n n2 : Nat) (dd dd2 : Option Addr) (sl sl2 : Array (Option Value)) (xs ys : List V) (hi : Vals xs items.toList) (hj : Vals ys items2.toList) (ht : xs.map tgV = ys.map tgV) (hn : ∀ x ∈ xs, tgV x ≠ none) :
    Meets (Builtin.«tuple.__lt__» ⟨[.ref l, .ref b], []⟩)
      (fun _ R s => s.heap.get? l = some { cls := .type "tuple", dict := dd, data := .seq items n, slots := sl } ∧ s.heap.get? b = some { cls := .type "tuple", dict := dd2, data := .seq items2 n2, slots := sl2 } ∧
        R (.ok (.ret (.bool (lexV xs ys)))) s) :=
  .of_wp fun prog w A R s h => by
    obtain ⟨hp, g, d, tk, os⟩ := s; obtain ⟨hl, hb, h⟩ := h
    have f2 := AutoSeq1.sub_tuple_tuple
    have z0 := congrArg List.length ht
    rw [List.length_map, List.length_map, hi.length, hj.length] at z0
    have z1 : items.size = items2.size := by simpa using z0
    wp_walk using wpAny_loadPart' hl, wpAny_loadPart' hb, wpAny_forIn_list _ (fun rest b s' => b.1 = none ∧ s' = ⟨hp, g, d, tk, os⟩ ∧ ∃ (vs ws : List Value) (xs' ys' : List V), rest = vs.zip ws ∧
      Vals xs' vs ∧ Vals ys' ws ∧ xs'.map tgV = ys'.map tgV ∧ (∀ x ∈ xs', tgV x ≠ none) ∧ R (.ok (.ret (.bool (lexV xs' ys')))) ⟨hp, g, d, tk, os⟩) _
    case turn =>
      rintro ⟨y, x⟩ rest b s' ⟨hb', rfl, vs, ws, xs', ys', hz, hvi, hwi, hm, hq, hR⟩
      cases hvi with
      | nil => rw [List.zip_nil_left] at hz; cases hz
      | @cons a ua xs1 us1 ra ta =>
        cases hwi with
        | nil => rw [List.zip_nil_right] at hz; cases hz
        | @cons c uc ys1 ws1 rc tc =>
          rw [List.zip_cons_cons] at hz
          injection hz with hyx hrest
          injection hyx with hy hx
          subst hy hx
          rw [List.map_cons, List.map_cons] at hm
          injection hm with m1 m2
          have n1 := hq a (List.mem_cons_self ..)
          have hR : R (.ok (.ret (.bool (if okV a = okV c then lexV xs1 ys1 else lt1 (okV a) (okV c))))) ⟨hp, g, d, tk, os⟩ := hR
          have he := fl_eq A.in1 ⟨hp, g, d, tk, os⟩ ra rc m1 n1
          refine wpAny_bind (he prog w _ _ ?_)
          by_cases e : okV a = okV c
          · rw [decide_eq_true e]
            rw [if_pos e] at hR
            wp_walk
            exact ⟨rfl, rfl, _, _, _, _, hrest, ta, tc, m2, fun z hz => hq z (List.mem_cons_of_mem _ hz), hR⟩
          · rw [decide_eq_false e]
            rw [if_neg e] at hR
            have hri := fl_lt A.in1 ⟨hp, g, d, tk, os⟩ ra rc m1 n1 prog w
            wp_walk using hri
            exact ⟨_, rfl, by simpa using hR⟩
    case fin =>
      rintro ⟨b1, b2⟩ s' ⟨hb', rfl, vs, ws, xs', ys', hz, hvi, hwi, hm, hq, hR⟩
      simp only at hb'
      subst hb'
      have hv : lexV xs' ys' = decide (items.size < items2.size) := by
        rw [decide_eq_false (by omega)]
        cases hvi with
        | nil =>
          cases hwi with
          | nil => rfl
          | cons _ _ => cases hm
        | cons _ _ =>
          cases hwi with
          | nil => cases hm
          | cons _ _ =>
            rw [List.zip_cons_cons] at hz
            cases hz
      rw [hv] at hR
      wp_walk
      exact ⟨_, rfl, by simpa [Builtin.Tuple.tupleCompareSizes] using hR⟩
    case h =>
      exact ⟨rfl, rfl, items.toList, items2.toList, xs, ys, rfl, hi, hj, ht, hn, h⟩
end
theorem lt_flat {prog : Program} {w : World} {A : Around} {E : Value → Shared → Prop} {s : Shared} {l b : Addr} {items items2 : Array Value} {xs ys : List V} {Q : Value → Shared → Prop} (hl : IsTup s.heap l items) (hb : IsTup s.heap b items2) (hi : Vals xs items.toList) (hj : Vals ys items2.toList)
    (ht : xs.map tgV = ys.map tgV) (hn : ∀ x ∈ xs, tgV x ≠ none) (hu : A.units < cLine) (h : Q (.bool (lexV xs ys)) s) : wpAny (model prog w) A (compareOp .Lt (.ref l) (.ref b)) Q E s := by
  obtain ⟨⟨cls, dd, data, sl⟩, ho, hc, n, hd⟩ := id hl
  obtain ⟨⟨cls2, dd2, data2, sl2⟩, ho2, hc2, n2, hd2⟩ := id hb
  simp only at hc hd hc2 hd2
  subst hc hd hc2 hd2
  exact richCompare_meets_room (op := .Lt) ⟨_, ho, rfl⟩ ⟨_, ho2, rfl⟩ PySem.F.slot_tuple_lt PySem.F.entry_tuple_lt (PySem.F.args_tuple_lt_2 _ _) (tuple_lt_flat l b items items2 n n2 dd dd2 sl sl2 xs ys hi hj ht hn)
    ⟨ho, ho2, show Value.bool (lexV xs ys) ≠ Value.notImplemented ∧ Q (.bool (lexV xs ys)) s from ⟨(fun x => nomatch x), h⟩⟩ hu
end HT
namespace L2
open PySem PySem.Spec PyProof.Rows
section
variable {X : Cx}
def rLtV (K : PySem.W.Frag) : R2 := fun x y H Q => ∃ a b xs ys, x = .ref a ∧ y = .ref b ∧ SqT K H a xs ∧ SqT K H b ys ∧ xs.map tgV = ys.map tgV ∧ (∀ x ∈ xs, tgV x ≠ none) ∧ Q (.bl (lexV xs ys)) H
theorem op_ltV (hu : X.A.units < cLine) : OpR X (compareOp .Lt) (rLtV X.K) := by
  intro pins s σ H x y v u Q I rx ry h
  obtain ⟨a, b, xs, ys, rfl, rfl, ha, hb, ht, hn, q⟩ := h
  cases rx
  cases ry
  obtain ⟨its, r1, p1, _⟩ := I.tuple ha
  obtain ⟨its2, r2, p2, _⟩ := I.tuple hb
  exact HT.lt_flat p1 p2 (show Vals xs its.toArray.toList from r1) (show Vals ys its2.toArray.toList from r2) ht hn hu ⟨.bl (lexV xs ys), H, I, rfl, q⟩
end
end L2
set_option Elab.async false
set_option linter.all false
set_option maxRecDepth 100000
namespace L2
open PySem PySem.Spec PyProof.Rows
section
variable {X : Cx} {CX : CXT} {k : Nat} {f : Addr} {fd : FuncData} {ps ks : List Str} {sp : Sp} {E : XK} {x : Str} {p pos : Pos} {kws : List Keyword} {tk : TA} {es : List Expr} {te : TE} {t : TA}
variable {g : List Value → List Value → List Value} {gV : List V → List V → List V}
theorem pa_scm {e : Expr} {gs : List Comprehension} {sc : Scope} {q : Pos} (ha : PE X (.SetComp e gs sc q) te) (hr : PA X es t) : PA X (.SetComp e gs sc q :: es) (tCons te t) := pa_cons ha hr rfl
end
theorem len_is1 {α : Type} : ∀ {us : List α}, us.length = 1 → ∃ a0, us = [a0]
  | [], h => by cases h
  | [a0], _ => ⟨_, rfl⟩
  | _ :: _ :: _, h => by simp only [List.length_cons] at h; omega
theorem len_is2 {α : Type} : ∀ {us : List α}, us.length = 2 → ∃ a0 a1, us = [a0, a1]
  | [], h => by cases h
  | [_], h => by cases h
  | [a0, a1], _ => ⟨_, _, rfl⟩
  | _ :: _ :: _ :: _, h => by simp only [List.length_cons] at h; omega
theorem len_is3 {α : Type} : ∀ {us : List α}, us.length = 3 → ∃ a0 a1 a2, us = [a0, a1, a2]
  | [], h => by cases h
  | [_], h => by cases h
  | [_, _], h => by cases h
  | [a0, a1, a2], _ => ⟨_, _, _, rfl⟩
  | _ :: _ :: _ :: _ :: _, h => by simp only [List.length_cons] at h; omega
theorem len_is4 {α : Type} : ∀ {us : List α}, us.length = 4 → ∃ a0 a1 a2 a3, us = [a0, a1, a2, a3]
  | [], h => by cases h
  | [_], h => by cases h
  | [_, _], h => by cases h
  | [_, _, _], h => by cases h
  | [a0, a1, a2, a3], _ => ⟨_, _, _, _, rfl⟩
  | _ :: _ :: _ :: _ :: _ :: _, h => by simp only [List.length_cons] at h; omega
theorem len_is5 {α : Type} : ∀ {us : List α}, us.length = 5 → ∃ a0 a1 a2 a3 a4, us = [a0, a1, a2, a3, a4]
  | [], h => by cases h
  | [_], h => by cases h
  | [_, _], h => by cases h
  | [_, _, _], h => by cases h
  | [_, _, _, _], h => by cases h
  | [a0, a1, a2, a3, a4], _ => ⟨_, _, _, _, _, rfl⟩
  | _ :: _ :: _ :: _ :: _ :: _ :: _, h => by simp only [List.length_cons] at h; omega
end L2
set_option Elab.async false
set_option linter.all false
set_option maxRecDepth 100000
namespace HT
open PySem PyProof.Rows
section
variable {prog : Program} {w : World} {A : Around} {E : Value → Shared → Prop} {s : Shared}
theorem tuple_whole {t sl : Addr} {items : Array Value} {vl vu : Value} {lo hi : Option Int} {Q : Value → Shared → Prop} (tu : IsTup s.heap t items) (so : s.heap.IsSliceOf sl vl vu .none) (pl : IsPart vl lo) (pu : IsPart vu hi)
    (all : sIx items.size 0 lo = 0 ∧ sIx items.size items.size hi = items.size) (q : Q (.ref t) s) : wpAny (model prog w) A (getItem (.ref t) (.ref sl)) Q E s := by
  obtain ⟨os, hos, hcs, hds⟩ := id so
  have ty : s.TypeIs (.ref sl) "slice" := ⟨os, hos, hcs⟩
  unfold getItem
  try with_reducible refine wpAny_holding ?_
  first | refine wpAny_bind (wpAny_pure ?_) | skip
  refine wpAny_bind (wpAny_sequenceKey tu.typeIs (by decide) (wpAny_bind (wpAny_callSpecial?_slot (name := Str.ofString "__getitem__") tu.typeIs PyProof.Rows.slot_tuple_getitem
    (wpAny_call_entry PyProof.Rows.slot_tuple_getitem tu.typeIs entry_tuple_getitem ?_ (args_tuple_getitem _ _)))))
  show wpAny _ _ (Builtin.Tuple.tupleItemsOf (.ref t) >>= _) _ _ s
  refine wpAny_bind (tupleItemsOf_ tu (wpAny_bind (wpAny_typeOf ty ?_)))
  rw [if_pos (by decide)]
  refine wpAny_bind (sliceApplied_gen so pl pu ?_)
  have yes : ((((sIx items.size 0 lo : Nat) : Int) == 0 && (1 : Int) == 1 && (sIx items.size items.size hi - sIx items.size 0 lo) == items.size) = true) := by
    rw [all.1, all.2]
    simp
  dsimp only
  rw [if_pos yes]
  unfold Builtin.Tuple.tupleIsExact
  refine wpAny_bind (wpAny_bind (wpAny_typeOf tu.typeIs (wpAny_pure ?_)))
  rw [if_pos (by decide)]
  exact wpAny_bind (wpAny_rule (wpAny_pure ⟨_, rfl, wpAny_pure q⟩))
end
end HT
namespace L2
open PySem PySem.Spec PyProof.Rows
section
variable {X : Cx}
def rSlW (K : PySem.W.Frag) : V → Option Int → Option Int → Hp → VK → Prop := fun x lo hi H Q => ∃ a xs, x = .ref a ∧ SqT K H a xs ∧
  ((HT.sIx xs.length 0 lo = 0 ∧ HT.sIx xs.length xs.length hi = xs.length) → Q (.ref a) H) ∧
  (¬ (HT.sIx xs.length 0 lo = 0 ∧ HT.sIx xs.length xs.length hi = xs.length) → ∀ p, H p = none → Q (.ref p) (upd H p (.tup (cutV xs lo hi))))
theorem sl_tupW : SlR X (rSlW X.K) := by
  intro pins s σ H x v vl vu lo hi sl Q I rx hs pl pu h
  obtain ⟨a, xs, rfl, hx, q1, q2⟩ := h
  by_cases all : HT.sIx xs.length 0 lo = 0 ∧ HT.sIx xs.length xs.length hi = xs.length
  · cases rx
    obtain ⟨its, r, ht, hz⟩ := I.tuple hx
    have len : its.toArray.size = xs.length := by rw [List.size_toArray]; exact r.length.symm
    refine ⟨"tuple", _, PyProof.Rows.slot_tuple_getitem.lookup, ht.typeIs, ?_⟩
    exact HT.tuple_whole ht hs pl pu (by rw [len]; exact all) ⟨.ref a, H, I, rfl, q1 all⟩
  · exact sl_tup pins s σ H _ v vl vu lo hi sl Q I rx hs pl pu ⟨a, xs, rfl, hx, all, q2 all⟩
end
theorem lc_zipS {x y : Str} {g : TG} {tt : TT} {te : TE} {vs : List Nat} {σ : St} {H1 : Hp} {D : Addr} {Qd : Hp → Prop} (Pv : Nat → Hp → Prop) (h0 : Pv 0 (upd H1 D (.lst [])))
    (hs : ∀ i c d H T, x.cps[i]? = some c → y.cps[i]? = some d → Pv i H → H T = none → g (.ref T) (wipe σ vs) (upd H T (.tup [.str ⟨#[c]⟩, .str ⟨#[d]⟩])) fun σ2 H2 => wipe σ2 vs = wipe σ vs ∧ tt σ2 H2 fun b H3 =>
      if b = true then te σ2 H3 fun y H4 => ∃ acc, H4 D = some (.lst acc) ∧ acc.length < sizeLine ∧ Pv (i + 1) (upd H4 D (.lst (acc ++ [y]))) else Pv (i + 1) H3) (hd : ∀ H, Pv (min x.cps.size y.cps.size) H → Qd H) :
    ∃ W : Nat → Nat → Hp → Prop, (∃ m, W 0 m (upd H1 D (.lst []))) ∧ ∀ i m H, W i m H →
      ((ItzS x y).stop i H ∧ Qd H) ∨ ((ItzS x y).go i H ∧ ∃ Nx : Hp → Prop, (∀ H', Nx H' → ∃ m', m' < m ∧ W (i + 1) m' H') ∧ ∀ x1 H', (ItzS x y).yld i H x1 H' → g x1 (wipe σ vs) H' fun σ2 H2 => wipe σ2 vs = wipe σ vs ∧ tt σ2 H2 fun b H3 =>
        if b = true then te σ2 H3 fun y H4 => ∃ acc, H4 D = some (.lst acc) ∧ acc.length < sizeLine ∧ Nx (upd H4 D (.lst (acc ++ [y]))) else Nx H3) := by
  refine ⟨fun i m H => m = min x.cps.size y.cps.size - i ∧ i ≤ min x.cps.size y.cps.size ∧ Pv i H, ⟨_, rfl, Nat.zero_le _, h0⟩, ?_⟩
  rintro i m H ⟨rfl, hi, p⟩
  by_cases hlt : i < min x.cps.size y.cps.size
  · refine .inr ⟨⟨by omega, by omega⟩, Pv (i + 1), fun H' p' => ⟨min x.cps.size y.cps.size - (i + 1), by omega, rfl, hlt, p'⟩, fun v H' yl => ?_⟩
    obtain ⟨T, c, d, rfl, hT, rfl, hc, hd'⟩ := yl
    exact hs i c d H T hc hd' p hT
  · have e : i = min x.cps.size y.cps.size := by omega
    subst e
    exact .inl ⟨by show _ ∨ _; omega, hd H p⟩
theorem lc_zipT {K : PySem.W.Frag} {a b : Addr} {xs ys : List V} {g : TG} {tt : TT} {te : TE} {vs : List Nat} {σ : St} {H1 : Hp} {D : Addr} {Qd : Hp → Prop} (Pv : Nat → Hp → Prop) (h0 : Pv 0 (upd H1 D (.lst [])))
    (hl : ∀ i H, i ≤ min xs.length ys.length → Pv i H → SqT K H a xs ∧ SqT K H b ys)
    (hs : ∀ i c d H T, xs[i]? = some c → ys[i]? = some d → Pv i H → H T = none → g (.ref T) (wipe σ vs) (upd H T (.tup [c, d])) fun σ2 H2 => wipe σ2 vs = wipe σ vs ∧ tt σ2 H2 fun b H3 =>
      if b = true then te σ2 H3 fun y H4 => ∃ acc, H4 D = some (.lst acc) ∧ acc.length < sizeLine ∧ Pv (i + 1) (upd H4 D (.lst (acc ++ [y]))) else Pv (i + 1) H3) (hd : ∀ H, Pv (min xs.length ys.length) H → Qd H) :
    ∃ W : Nat → Nat → Hp → Prop, (∃ m, W 0 m (upd H1 D (.lst []))) ∧ ∀ i m H, W i m H →
      ((ItzT K a b).stop i H ∧ Qd H) ∨ ((ItzT K a b).go i H ∧ ∃ Nx : Hp → Prop, (∀ H', Nx H' → ∃ m', m' < m ∧ W (i + 1) m' H') ∧ ∀ x1 H', (ItzT K a b).yld i H x1 H' → g x1 (wipe σ vs) H' fun σ2 H2 => wipe σ2 vs = wipe σ vs ∧ tt σ2 H2 fun b H3 =>
        if b = true then te σ2 H3 fun y H4 => ∃ acc, H4 D = some (.lst acc) ∧ acc.length < sizeLine ∧ Nx (upd H4 D (.lst (acc ++ [y]))) else Nx H3) := by
  refine ⟨fun i m H => m = min xs.length ys.length - i ∧ i ≤ min xs.length ys.length ∧ Pv i H, ⟨_, rfl, Nat.zero_le _, h0⟩, ?_⟩
  rintro i m H ⟨rfl, hi, p⟩
  obtain ⟨la, lb⟩ := hl i H hi p
  by_cases hlt : i < min xs.length ys.length
  · have ha : i < xs.length := by omega
    have hb : i < ys.length := by omega
    refine .inr ⟨⟨xs, ys, xs[i], ys[i], la, lb, by simp [ha], by simp [hb]⟩, Pv (i + 1), fun H' p' => ⟨min xs.length ys.length - (i + 1), by omega, rfl, hlt, p'⟩, fun v H' yl => ?_⟩
    obtain ⟨T, c, d, rfl, hT, rfl, hc, hd'⟩ := yl
    exact hs i c d H T (hc _ la) (hd' _ lb) p hT
  · have e : i = min xs.length ys.length := by omega
    subst e
    exact .inl ⟨⟨xs, ys, la, lb, by omega⟩, hd H p⟩
end L2
set_option Elab.async false
set_option linter.all false
set_option maxRecDepth 100000
namespace L2
open PySem PySem.Spec PySem.W PyProof.Rows
section
variable {X : Cx}
end
section
variable {X : Cx} {pins : List (Addr × Obj)} {σ : St} {H : Hp} {s : Shared} {a : Addr} {kvs : List (Key × V)} {k : Key} {zv : V} {u r : Value} {A : Around} {E : Value → Shared → Prop}
end
section
variable {X : Cx}
end
section
variable {X : Cx} {o e f : Expr} {apos cpos : Pos} {td ty tx : TE}
end
end L2
set_option Elab.async false
set_option linter.all false
set_option maxRecDepth 100000
namespace L2
open PySem PySem.Spec PySem.W PyProof.Rows
open Sem (wp)
def MkS {α : Type} (t : Sem α) : Prop := ∀ (M : Model) (Γ : PySem.Ctx) (Q : α → Pos → Shared → Prop) (E : Value → Pos → Shared → Prop) (p : Pos) (s : Shared), wp M Γ t Q E p s → wp M Γ t (fun a p' s' => 1 ≤ s'.toks ∧ Q a p' s') E p s
section
variable {α β : Type}
theorem MkS.left {t : Sem α} {f : α → Sem β} (h : MkS t) : MkS (t >>= f) := fun M Γ Q E p s w => by
  rw [Sem.wp_bind'] at w ⊢
  refine Sem.wp_mono M Γ t (fun a p' s' ⟨h1, h2⟩ => ?_) (fun _ _ _ e => e) p s (h M Γ _ _ p s w)
  exact Sem.wp_mono M Γ (f a) (fun _ _ _ z => z) (fun _ _ _ z => z.2) p' s' (Sem.wp_toks M Γ 1 (f a) _ _ p' s' h1 h2)
theorem MkS.right {t : Sem α} {f : α → Sem β} (h : ∀ a, MkS (f a)) : MkS (t >>= f) := fun M Γ Q E p s w => by
  rw [Sem.wp_bind'] at w ⊢
  exact Sem.wp_mono M Γ t (fun a p' s' z => h a M Γ _ _ p' s' z) (fun _ _ _ e => e) p s w
theorem MkS.hold {vs : List Value} {t : Sem α} (h : MkS t) : MkS (holding vs t) := fun M Γ Q E p s w => by
  rw [Sem.wp_holding] at w ⊢
  exact h M Γ Q E p s w
theorem MkS.int {i : Int} {k : Nat} {pos : Pos} {env : Env} : MkS (eval (.Constant (.int i) k pos) env) := fun M Γ Q E p s w => ⟨Nat.succ_le_succ (Nat.zero_le _), w⟩
theorem MkS.str {x : Str} {k : Nat} {pos : Pos} {env : Env} : MkS (eval (.Constant (.str x) k pos) env) := fun M Γ Q E p s w => ⟨Nat.succ_le_succ (Nat.zero_le _), w⟩
theorem MkS.subI {v : Expr} {i : Int} {k : Nat} {pos pos' : Pos} {env : Env} : MkS (eval (.Subscript v (.Constant (.int i) k pos') pos) env) := by
  rw [eval_Subscript]
  exact MkS.right fun o => MkS.left (MkS.hold MkS.int)
theorem MkS.binL {l r : Expr} {op : Operator} {pos : Pos} {env : Env} (h : MkS (eval l env)) : MkS (eval (.BinOp l op r pos) env) := by
  rw [arm_eval_BinOp]
  exact h.left
theorem MkS.call2 {f e1 e2 : Expr} {pos : Pos} {env : Env} (h : MkS (eval e2 env)) (hs : starEach [e1, e2] env = [(false, eval e1 env), (false, eval e2 env)] := by rfl)
    (he : eval (.Call f [e1, e2] [] pos) env = (do callWith pos (← eval f env) [] (backTo pos (starEach [e1, e2] env)) (backToKw pos (keywordEach [] env))) := by rfl) : MkS (eval (.Call f [e1, e2] [] pos) env) := by
  rw [he, hs]
  refine MkS.right fun v => ?_
  show MkS (callWith pos v [] [(false, eval e1 env), (false, eval e2 env)] [])
  unfold callWith
  refine MkS.left (MkS.hold ?_)
  unfold evalArgs
  refine MkS.left ?_
  show MkS (spliced [(false, eval e1 env), (false, eval e2 env)])
  unfold spliced
  refine MkS.right fun a => ?_
  refine MkS.right fun b => ?_
  refine MkS.left (MkS.hold ?_)
  unfold spliced
  exact h.left
end
end L2
namespace L2
open PySem PySem.Spec PySem.W PyProof.Rows
section
variable {X : Cx}
def tReplL (y z : Str) (to : TE) : TE := fun σ H Q => to σ H fun x H1 => ∃ a, x = .str a ∧ a.length ≤ 1048576 ∧ Q (.str (Txt.replace a y z)) H1
theorem pe_replL {o : Expr} {to : TE} {y z : Str} {j1 j2 : Nat} {p1 p2 apos cpos : Pos} (ho : PE X o to) (hk : MkS (eval o X.env)) (hyz : (y == z) = false) (hz : z.length ≤ 14) (m : M2 X o "replace" apos (.Constant (.str y) j1 p1) (.Constant (.str z) j2 p2) cpos) :
    PE X (.Call (.Attribute o "replace" apos) [.Constant (.str y) j1 p1, .Constant (.str z) j2 p2] [] cpos) (tReplL y z to) := by
  constructor
  intro pins s σ H Q I h
  refine wpAny_Call_method m.base m.few m.line PySem.F.plainAttrs_str PySem.F.slot_str_replace PySem.F.type_str_replace ?_
  have w := ho pins s σ H _ I h
  have w2 : wpAny (model X.prog X.w) X.A (eval o X.env) (fun v s' => 1 ≤ s'.toks ∧ EP X pins σ (fun x H1 => ∃ a, x = .str a ∧ a.length ≤ 1048576 ∧ Q (.str (Txt.replace a y z)) H1) v s') X.xe s := fun Γ p hΓ => hk _ Γ _ _ p s (w Γ p hΓ)
  refine thn w2 fun u s1 ⟨ht, x, H1, I1, rx, a, ex, hl, q⟩ => ?_
  subst ex
  obtain ⟨t, rfl⟩ := rx
  refine ⟨typeIs_str _ _ _, (fun _ e => nomatch e), ?_⟩
  rw [m.trees]
  refine Calls.callWith_builtin rfl (Calls.evalArgs_plain (Calls.spliced_cons (Calls.Constant_str (Calls.spliced_cons (Calls.Constant_str (Calls.spliced_nil ?_))))))
  exact SC.replaceW (Nat.ne_of_gt ht) (Nat.succ_ne_zero _) (Nat.ne_of_lt (Nat.lt_succ_self _)) hyz hl hz fun t' k => ⟨.str _, H1, I1.tok _, ⟨_, rfl⟩, q⟩
end
structure OwnLen (K : PySem.W.Frag) (C N f : Addr) : Prop where
  cls : ∃ nm q bs hd sn sub ab col dd k0 k1 k2 k3 k5 newId, K.lookup C = some (excClassObj nm q C N bs [.type "object"] hd sn sub ab col dd k0 k1 k2 k3 k5 newId)
  ok : PySem.W.nsOkIn K N = true
  len : PySem.W.nsIn K N "__len__" = some (some (.ref f))
  fn : PySem.W.isFn K (.ref f) = true
theorem look_len : typeLookup (.type "object") "__len__" = pure none := by rw [typeLookup_type, builtinLookup_eq_fast]; kernel_rfl
section
variable {K : PySem.W.Frag} {C N f x : Addr}
theorem OwnLen.at_ {h : Heap} {o : Obj} (c : OwnLen K C N f) (X : K.In h) (hx : h.get? x = some o) (hc : o.cls = .ref C) : h.OwnSpecial x C f "object" "__len__" := by
  obtain ⟨nm, q, bs, hd, sn, sub, ab, col, dd, k0, k1, k2, k3, k5, newId, lk⟩ := c.cls
  have hn : h.Ns N (h.nsMap N) := .of_isNs (PySem.W.isNs_of_in X c.ok)
  have e1 : PySem.W.typeIn K (.ref f) = some (.type "function") := beq_iff_eq.mp c.fn
  obtain ⟨of, l1, l2⟩ := Option.map_eq_some_iff.mp (show (K.lookup f).map (·.cls) = some (.type "function") from e1)
  exact ⟨o, of, nm, q, N, bs, _, hd, sn, sub, ab, col, dd, k0, k1, k2, k3, k5, newId, h.nsMap N, _, hx, hc, X _ _ lk, hn, ns_val X hn c.len, X _ _ l1, l2, PySem.F.cmp_object.mro, look_len⟩
end
section
variable {X : Cx} {k : Nat} {f C N : Addr} {fd : FuncData} {ps : List Str} {sp : Sp}
def rLenOwn (C : Addr) (sp : Sp) : List V → Hp → VK → Prop := fun xs H Q => ∃ p dx fs, xs = [.ref p] ∧ H p = some (.ins C dx fs) ∧ sp [.ref p] H (fun v H2 => ∃ n : Int, v = .int n ∧ 0 ≤ n ∧ n < 2 ^ 63 ∧ Q (.int n) H2) E0
theorem call_lenOwn (c : OwnLen X.K C N f) (F : FnOk X.prog X.w X.K X.mg X.base CX0 k f fd ps sp) (hr : Room (k + 1) X.A) (hb : Binds X.K fd ps []) : CallR X (.builtin "len") (rLenOwn C sp) := by
  intro pins s σ H xs us Q I r h
  obtain ⟨p, dx, fs, rfl, hp, w⟩ := h
  obtain ⟨u, rfl, r1⟩ := vals1 r
  obtain rfl : u = Value.ref p := r1
  obtain ⟨op, p1, p2⟩ := ins_obj I hp
  have r2 : Vals [V.ref p] [Value.ref p] := .cons rfl .nil
  have hl : ([Value.ref p] ++ []).length = ps.length := by
    rw [List.append_nil, ← r2.length]; exact F.len _ _ _ _ w
  have bnd := hb s [.ref p] I.kIn hl
  rw [List.append_nil] at bnd
  have go := F.run X.A.in1 X.stack s H ⟨[.ref p], []⟩ [.ref p] [.ref p] _ E0 hr.in1 I.env0.in1 bnd r2 w
  have hsp := c.at_ I.kIn p1 p2
  obtain ⟨hh, g, dr, t, os⟩ := s
  refine len_own hsp (wpAny_call (codeAny_mono go fun r s' z => ?_))
  cases r with
  | error e => exact z.elim
  | ok fl =>
    cases fl with
    | ret u =>
      obtain ⟨x, H2, I2, r, n, e, h0, h1, q3⟩ := I.after z
      subst e
      obtain ⟨t, rfl⟩ := r
      exact ⟨n, t, rfl, h0, h1, ⟨.int n, H2, I2.tok _, ⟨_, rfl⟩, q3⟩⟩
    | next => exact False.elim z
    | brk => exact False.elim z
    | cont => exact False.elim z
end
end L2
namespace L2
open PySem PySem.Spec PySem.W PyProof.Rows
def tLenR (ta : TA) : TE := fun σ H Q => ta σ H fun vs H1 => ∃ j : Int, vs = [.int j] ∧ (-(2 ^ 62) ≤ j ∧ j < 2 ^ 62) ∧ Q (.int j.toNat) H1
theorem pe_lenR {X : Cx} {a : Expr} {ta : TA} {p p2 pos pos2 : Pos} (hgl : Gl X "len") (hml : X.mg "len" = none) (hg : Gl X "range") (hm : X.mg "range" = none) (ha : PA X [a] ta) (hs : starEach [a] X.env = [(false, eval a X.env)] := by rfl)
    (hs3 : starEach [.Call (.Name "range" p2) [a] [] pos2] X.env = [(false, eval (.Call (.Name "range" p2) [a] [] pos2) X.env)] := by rfl) :
    PE X (.Call (.Name "len" p) [.Call (.Name "range" p2) [a] [] pos2] [] pos) (tLenR ta) := by
  constructor
  intro pins s σ H Q I h
  refine wpAny_Call_Name_kw (ld_blt I hgl hml (by decide +kernel : bootBuiltins "len" = some (.builtin "len")) ?_)
  refine PyProof.Rows.callWith_builtin1 ?_ hs3 rfl
  rw [hs3]
  show wpAny _ _ (spliced ((false, eval (.Call (.Name "range" p2) [a] [] pos2) X.env) :: backTo pos [])) _ _ s
  refine Calls.spliced_cons ?_
  refine Call_ (ld_blt I hg hm boot_range (PyProof.Rows.callWith_type1 (thn (ha pos2 pins s σ H _ I h) fun us s1 ⟨vs, H1, I1, r1, q1⟩ => ?_) hs rfl))
  obtain ⟨j, e, ⟨q3, q4⟩, q⟩ := q1
  subst e
  cases r1 with
  | cons r rr =>
    cases rr
    obtain ⟨t, rfl⟩ := r
    refine call_range_1 ?_
    refine Calls.spliced_nil ?_
    have e2 : Builtin.Range.rangeSize 0 j 1 = ((j.toNat : Nat) : Int) := by rw [rangeSize_one]; split <;> omega
    have I2 : Inv X pins σ H1 { s1 with heap := s1.heap.push { cls := .type "range", data := .fields #[.int 0 s1.toks, .int j t, .int 1 (s1.toks + 1)] }, toks := s1.toks + 1 + 1 } := I1.kept fun b o e => Heap.get?_push_of_some _ e
    exact call_len_range (IsRange.new ..) e2 (by omega) ⟨.int _, H1, I2.tok _, ⟨_, rfl⟩, q⟩
end L2
namespace L2
open PySem PySem.Spec PySem.W PyProof.Rows
section
variable {prog : Program} {w : World} {A : Around} {E : Value → Shared → Prop} {s : Shared}
theorem collect_tup {t : Addr} {ws : List Value} {Q : List Value → Shared → Prop} (ht : IsTup s.heap t ws.toArray) (hw : ws.length ≤ 1000)
    (h : Q ws { s with heap := (s.heap.push (seqObj "list" #[] 0)).update s.heap.objs.size (Obj.mapSeq (· ++ ws.toArray)) }) : wpAny (model prog w) A (collect (.ref t)) Q E s := by
  obtain ⟨ob, hob, hcl, m, hdt⟩ := id ht
  have line := sizeLine_eq
  unfold collect
  have ob' : (s.heap.push (seqObj "list" #[] 0)).get? t = some ob := Heap.get?_push_of_some _ hob
  have tt : (Value.type "tuple" == Value.type "tuple") = true := by rfl
  refine wpAny_bind (wpAny_runValue (codeAny_builtin entry_proto_collect' ?_))
  show wpAny _ _ (newList [] >>= fun y => again (.builtin "list.__iadd__" ⟨[y, .ref t], []⟩)) _ _ s
  refine wpAny_bind (wpAny_newList ?_)
  refine wpAny_pure ⟨Code.quiet_builtin _ (by decide +kernel), ?_⟩
  refine codeAny_builtin entry_list_iadd' ?_
  show wpAny _ _ (Builtin.List.listExtendWith (.ref s.heap.objs.size) (.ref t) (.ref s.heap.objs.size)) _ _ { s with heap := s.heap.push (seqObj "list" #[] 0) }
  unfold Builtin.List.listExtendWith
  refine wpAny_bind (wpAny_typeOf (T := "tuple") ⟨ob, ob', hcl⟩ ?_)
  rw [if_pos (by rw [tt]; simp)]
  refine wpAny_bind (listItems_at ob' hdt (wpAny_bind (listItems_at (xs := #[]) (n := 0) (Heap.get?_push_size _ rfl) rfl ?_)))
  rw [if_neg (by simp)]
  refine wpAny_bind (listUpdate_at (xs := #[]) (n := 0) (Heap.get?_push_size _ rfl) rfl (wpAny_pure ?_) (Nat.zero_le _) (by show (#[] ++ ws.toArray).size ≤ sizeLine + 1; simp only [Array.size_append, List.size_toArray, List.length_nil]; omega))
  show wpAny (model prog w) A (load s.heap.objs.size >>= fun u => match u.data with
      | .seq ys _ => pure ys.toList
      | _ => unsupported "internal:collect") Q E { s with heap := (s.heap.push (seqObj "list" #[] 0)).update s.heap.objs.size (Obj.mapSeq (· ++ ws.toArray)) }
  refine wpAny_bind (wpAny_load (get?_update_seq (Heap.get?_push_size _ rfl) _) ?_)
  show wpAny _ _ (pure ((#[] : Array Value) ++ ws.toArray).toList) Q E _
  have e : ((#[] : Array Value) ++ ws.toArray).toList = ws := by simp
  rw [e]
  exact wpAny_pure h
end
end L2
namespace L2
open PySem PySem.Spec PySem.W PyProof.Rows
section
variable {prog : Program} {w : World} {A : Around} {E : Value → Shared → Prop} {s : Shared}
theorem sorted_anyT {l : Addr} {vs : List Value} {κ : SortKind} {lt : Nat → Nat → Bool} {Q : Value → Shared → Prop} (or : Ts.Ord lt) (hl : IsTup s.heap l vs.toArray) (few : vs.length < 64)
    (qu : Quiet prog w A.in1.in1 s (fun g => ∀ b o, s.heap.get? b = some o → g.get? b = some o) vs κ lt)
    (fin : ∀ p : Array Nat, Ts.Pm vs.length p → Ts.Asc lt p vs.length → Q (.ref (s.heap.objs.size + 1)) { s with heap := sortedAll s.heap vs (List.toArray (p.toList.map fun i => vs.getD i Value.none)) }) :
    wpAny (model prog w) A (call (.builtin "sorted") [.ref l]) Q E s := by
  refine Calls.call_function_entry kind_sorted plain_sorted entry_sorted (args_sorted1 _) ?_
  unfold Builtin.«sorted»
  refine wpAny_bind (m := checkCount "sorted" 1 1 _) (wpAny_pure (wpAny_bind (collect_tup hl (by omega) (wpAny_bind (wpAny_newList ?_)))))
  have up : ((s.heap.push (seqObj "list" #[] 0)).update s.heap.objs.size (Obj.mapSeq (· ++ vs.toArray))).objs.size = s.heap.objs.size + 1 := (Heap.size_update ..).trans (size_push' ..)
  have own : (((s.heap.push (seqObj "list" #[] 0)).update s.heap.objs.size (Obj.mapSeq (· ++ vs.toArray))).push (seqObj "list" vs.toArray 0)).get? (s.heap.objs.size + 1) = some (seqObj "list" vs.toArray 0) := by
    rw [← up]
    exact Heap.get?_push_size _ rfl
  have old : ∀ b o, s.heap.get? b = some o → (((s.heap.push (seqObj "list" #[] 0)).update s.heap.objs.size (Obj.mapSeq (· ++ vs.toArray))).push (seqObj "list" vs.toArray 0)).get? b = some o := fun b o q => by
    have low : b < s.heap.objs.size := Heap.lt_size q
    refine Heap.get?_push_of_some _ ?_
    rw [Heap.get?_update_ne _ _ _ _ (Nat.ne_of_lt low)]
    exact Heap.get?_push_of_some _ q
  show wpAny _ _ _ _ _ { s with heap := (((s.heap.push (seqObj "list" #[] 0)).update s.heap.objs.size (Obj.mapSeq (· ++ vs.toArray))).push (seqObj "list" vs.toArray 0)) }
  rw [up]
  refine wpAny_bind (wpAny_holding (wpAny_call_entry slot_list_sort ⟨_, own, rfl⟩ entry_list_sort (srt_body (Kp := fun g => ∀ b o, s.heap.get? b = some o → g.get? b = some o) or own few ⟨fun h2 g kg Q' q => qu.knd h2 g kg Q' q, fun g kg i j C hi hj q => qu.cmp g kg i j C hi hj q⟩ ?_ fun p h1 h2 => ⟨_, rfl, wpAny_pure ⟨_, rfl, fin p h1 h2⟩⟩) (args_list_sort _)))
  intro b o q
  have low : b < s.heap.objs.size := Heap.lt_size q
  refine Heap.get?_push_of_some _ (Heap.get?_push_of_some _ ?_)
  rw [Heap.get?_update_ne _ _ _ _ (Nat.ne_of_lt (Nat.lt_succ_of_lt low))]
  exact old b o q
end
def rSortedTT (K : PySem.W.Frag) : List V → Hp → VK → Prop := fun vs H Q => ∃ (a : Addr) (L : List (Addr × List V)) (b : Bool) (ts : List (Option Bool)), vs = [V.ref a] ∧ SqT K H a (L.map fun x => V.ref x.1) ∧ L.length < 64 ∧ none ∉ ts ∧
  (∀ x ∈ L, SqT K H x.1 x.2 ∧ x.2.map tgV = some b :: ts) ∧
  ∀ (L' : List (Addr × List V)) (p : Addr), L'.Perm L → L'.Pairwise (fun x y => lexV y.2 x.2 = false) → H p = none → Q (.ref p) (upd H p (.lst (L'.map fun x => V.ref x.1)))
section
variable {X : Cx}
theorem cr_sortedTT : CallR X (.builtin "sorted") (rSortedTT X.K) := by
  intro pins s σ H vs us Q I r h
  obtain ⟨a, L, b, ts, rfl, hs, few, nn, hL, q⟩ := h
  obtain ⟨its, rv, hl, room⟩ := I.tuple hs
  rw [Vals.ref1 r]
  have e := refs_of rv
  subst e
  have at0 : ∀ x ∈ L, TupAt s.heap x := fun x hx => by
    obtain ⟨is, ri, ⟨o, e1, e2, n, e3⟩, _⟩ := I.tuple (hL x hx).1
    exact ⟨is, ri, o, n, e1, e2, e3⟩
  have mv : ∀ {g : Heap} (_ : ∀ b o, s.heap.get? b = some o → g.get? b = some o), ∀ x ∈ L, TupAt g x := fun kg x hx => by
    obtain ⟨is, ri, o, n, e1, e2, e3⟩ := at0 x hx
    exact ⟨is, ri, o, n, kg _ _ e1, e2, e3⟩
  have many : (L.map fun x => Value.ref x.1).length = L.length := List.length_map ..
  refine sorted_anyT (κ := tuples' (tyB b != Value.type "tuple")) (lt := fun i j => lexV (L.getD i (0, [])).2 (L.getD j (0, [])).2) (ltK_ord fun i => (L.getD i (0, [])).2.map okV) hl (by rw [many]; exact few) ⟨fun h2 g kg Q' q' => ?_, fun g kg i j C hi hj q' => ?_⟩ fun p h1 h2 => ?_
  · obtain ⟨fs, k, hlen, hf⟩ := firsts_of L (mv kg) fun x hx => (hL x hx).2
    exact kat_kind k (by rw [hlen]; rw [many] at h2; omega) (fun v hv => by obtain ⟨y, h3, h4⟩ := hf v hv; exact ty_of h3 h4) (by cases b <;> rfl) q'
  · rw [many] at hi hj
    rw [getD_map _ (0, []) _ L i hi, getD_map _ (0, []) _ L j hj]
    have mi := getD_in (0, []) L i hi
    have mj := getD_in (0, []) L j hj
    obtain ⟨is, ri, o, n, e1, e2, e3⟩ := mv kg _ mi
    obtain ⟨js, rj, o', n', f1, f2, f3⟩ := mv kg _ mj
    have ti := (hL _ mi).2
    have tj := (hL _ mj).2
    refine kat_lt (s := { s with heap := g }) e1 e3 f1 f3 ?_
    have sz : decide (is.toArray.size < js.toArray.size) = false := by
      refine decide_eq_false ?_
      have l1 := congrArg List.length (ti.trans tj.symm)
      rw [List.length_map, List.length_map, ri.length, rj.length] at l1
      simp [l1]
    rw [sz]
    refine lex_ok _ _ _ _ 0 ri rj (ti.trans tj.symm) (fun x hx z => ?_) q'
    have : tgV x ∈ some b :: ts := ti ▸ List.mem_map_of_mem hx
    rw [z] at this
    rcases List.mem_cons.mp this with w | w
    · cases w
    · exact nn w
  · obtain ⟨ep, he⟩ := sortedAll_at s.heap (L.map fun x => Value.ref x.1) (List.toArray (p.toList.map fun i => (L.map fun x => Value.ref x.1).getD i Value.none))
    have h1' : p.toList.Perm (List.range L.length) := by rw [← many]; exact h1.2
    have pe := perm_of (0, []) L h1'
    have out : (p.toList.map fun i => (L.map fun x => Value.ref x.1).getD i Value.none) = (p.toList.map fun i => L.getD i (0, [])).map fun x => Value.ref x.1 := by
      rw [List.map_map]
      refine List.map_congr_left fun i hi => ?_
      exact getD_map _ _ _ L i (List.mem_range.mp (h1'.mem_iff.mp hi))
    rw [out] at he ⊢
    refine ⟨.ref _, upd H (s.heap.objs.size + 1) (.lst ((p.toList.map fun i => L.getD i (0, [])).map fun x => V.ref x.1)), I.laid (t' := s.toks) (fun _ _ => sortedAll_old) (Nat.le_succ _) ⟨by rw [List.length_map, pe.length_eq]; exact small64 few, _, ep, of_refs _, he⟩, rfl, q _ _ pe ?_ (I.hok.fresh (Nat.le_succ _))⟩
    rw [List.pairwise_map, List.pairwise_iff_getElem]
    intro i j hi hj hij
    have ps : p.size = L.length := by rw [← many]; exact h1.1
    have := h2 i j hij (by rw [many, ← ps]; simpa using hj)
    have ei : Ts.e p i = p.toList[i] := by
      show p.getD i 0 = _
      have : i < p.size := by simpa using hi
      simp [Array.getD, this]
    have ej : Ts.e p j = p.toList[j] := by
      show p.getD j 0 = _
      have : j < p.size := by simpa using hj
      simp [Array.getD, this]
    rw [ei, ej] at this
    exact this
end
end L2
set_option Elab.async false
set_option linter.all false
set_option maxRecDepth 100000
namespace HT
open PySem PySem.Spec PyProof.Rows
section
variable {prog : Program} {w : World} {A : Around} {E : Value → Shared → Prop} {s : Shared}
theorem cat_tupE {t b : Addr} {ws : List Value} {Q : Value → Shared → Prop} (ht : IsTup s.heap t (([] : List Value)).toArray) (hb : IsTup s.heap b ws.toArray) (h1 : Q (.ref b) s) : wpAny (model prog w) A (binaryOp .Add (.ref t) (.ref b)) Q E s := by
  obtain ⟨⟨cls, dd, data, sl⟩, ho, hc, n, hd⟩ := id ht
  obtain ⟨⟨cls2, dd2, data2, sl2⟩, ho2, hc2, n2, hd2⟩ := id hb
  simp only at hc hd hc2 hd2
  subst hc hd hc2 hd2
  exact concat_meets ⟨_, ho, rfl⟩ ⟨_, ho2, rfl⟩ noFill_tuple_add seq_tuple_add PySem.F.slot_tuple_add PySem.F.entry_tuple_add (PySem.F.args_tuple_add_2 _ _)
      (tuple_addW0 t b (([] : List Value)).toArray ws.toArray n n2 dd dd2 sl sl2 (by simp)) ⟨ho, ho2, h1⟩
end
end HT
namespace L2
open PySem PySem.Spec PyProof.Rows
section
variable {X : Cx}
def rCatG (K : PySem.W.Frag) : R2 := fun x y H Q => ∃ a b xs ys, x = .ref a ∧ y = .ref b ∧ H a = some (.tup xs) ∧ H b = some (.tup ys) ∧ xs.length + ys.length ≤ sizeLine ∧
  ∀ p H', H' p = some (.tup (xs ++ ys)) → Same H H' → Q (.ref p) H'
theorem op_catG : OpR X (binaryOp .Add) (rCatG X.K) := by
  intro pins s σ H x y v u Q I rx ry h
  obtain ⟨a, b, xs, ys, rfl, rfl, ha, hb, hz, q⟩ := h
  by_cases hx : xs = []
  · subst hx
    cases rx
    cases ry
    obtain ⟨its, r1, p1, _⟩ := I.tuple (SqT.of ha)
    obtain ⟨its2, r2, p2, _⟩ := I.tuple (SqT.of hb)
    cases r1
    exact HT.cat_tupE p1 p2 ⟨.ref b, H, I, rfl, q b H hb (fun _ _ e => e)⟩
  · refine op_catT pins s σ H _ _ v u Q I rx ry ⟨a, b, xs, ys, rfl, rfl, SqT.of ha, SqT.of hb, hx, hz, fun e => ?_, fun _ p hp => q p _ upd_same (Same.new hp)⟩
    subst e
    exact q a H (by rw [List.append_nil]; exact ha) (fun _ _ e => e)
theorem cutV_whole {xs : List V} {lo hi : Option Int} (h : HT.sIx xs.length 0 lo = 0 ∧ HT.sIx xs.length xs.length hi = xs.length) : cutV xs lo hi = xs := by
  unfold cutV
  rw [h.1, h.2, Nat.sub_zero, List.drop_zero, List.take_length]
def rSlG (K : PySem.W.Frag) : V → Option Int → Option Int → Hp → VK → Prop := fun x lo hi H Q => ∃ a xs, x = .ref a ∧ H a = some (.tup xs) ∧ ∀ p H', H' p = some (.tup (cutV xs lo hi)) → Same H H' → Q (.ref p) H'
theorem sl_tupG : SlR X (rSlG X.K) := by
  intro pins s σ H x v vl vu lo hi sl Q I rx hs pl pu h
  obtain ⟨a, xs, rfl, hx, q⟩ := h
  exact sl_tupW pins s σ H _ v vl vu lo hi sl Q I rx hs pl pu ⟨a, xs, rfl, SqT.of hx, fun e => q a H (by rw [cutV_whole e]; exact hx) (fun _ _ e => e), fun _ p hp => q p _ upd_same (Same.new hp)⟩
end
end L2
set_option Elab.async false
set_option linter.all false
set_option maxRecDepth 100000
namespace K33
open PySem PySem.Spec PyProof.Rows L2
abbrev TSG : Str := Str.ofString " !\"#$&'()*+,-./0123456789:;<=>?@ABCDEFGHIJKLMNOPQRSTUVWXYZ[\\]^_`abcdefghijklmnopqrstuvwxyz{|}~"
def g_Machine_init_ends_steps_begins_many {α : Type} : List α → List α → List α
  | [p0], [w0, w1, w2, w3] => [p0, w3, w2, w1, w0]
  | _, _ => []
theorem g_Machine_init_ends_steps_begins_many_len {α : Type} : ∀ {us ws : List α}, (g_Machine_init_ends_steps_begins_many us ws).length = 5 → ∃ p0 w0 w1 w2 w3, us = [p0] ∧ ws = [w0, w1, w2, w3] := by
  intro us ws h
  unfold g_Machine_init_ends_steps_begins_many at h
  split at h
  · exact ⟨_, _, _, _, _, rfl, rfl⟩
  · cases h
theorem g_Machine_init_ends_steps_begins_many_rel {vs zs : List V} {us ws : List Value} (h1 : Vals vs us) (h2 : Vals zs ws) : Vals (g_Machine_init_ends_steps_begins_many vs zs) (g_Machine_init_ends_steps_begins_many us ws) := by
  cases h1 with
  | nil => exact .nil
  | cons r0 h1 =>
  cases h1 with
  | cons _ _ => exact .nil
  | nil =>
  cases h2 with
  | nil => exact .nil
  | cons s0 h2 =>
  cases h2 with
  | nil => exact .nil
  | cons s1 h2 =>
  cases h2 with
  | nil => exact .nil
  | cons s2 h2 =>
  cases h2 with
  | nil => exact .nil
  | cons s3 h2 =>
  cases h2 with
  | cons _ _ => exact .nil
  | nil =>
  exact .cons r0 (.cons s3 (.cons s2 (.cons s1 (.cons s0 .nil))))
def top (i : Nat) : Stmt := PySem.Challenge.pw_formatwords_k33_machines_as_objects.main.body.getD i (.Pass ⟨0, 0, 0, 0⟩)
abbrev s_is_whole : Stmt := top 2
abbrev s_is_within : Stmt := top 3
abbrev s_is_text : Stmt := top 4
abbrev s_is_signs : Stmt := top 5
abbrev s_is_rising : Stmt := top 6
abbrev s_Machine_init : Stmt := inClass (top 10) 0
abbrev s_Machine_eq : Stmt := inClass (top 10) 1
abbrev s_Machine_len : Stmt := inClass (top 10) 2
abbrev s_first_wrong : Stmt := top 11
abbrev s_are_places : Stmt := top 12
abbrev s_are_steps : Stmt := top 13
abbrev s_is_step : Stmt := top 14
abbrev s__law_feed : Stmt := top 16
abbrev s__law_draw : Stmt := top 17
abbrev s__law_signs : Stmt := top 18
abbrev s__law_some : Stmt := top 19
abbrev s__law_raw : Stmt := top 20
abbrev s__law_made : Stmt := top 21
abbrev s__law_otherwise : Stmt := top 22
abbrev s_law : Stmt := top 23
theorem sc_is_whole : FnScope ["thing"] ["thing"] (defScope s_is_whole) := ⟨rfl, rfl, rfl, by decide +kernel, rfl, by decide +kernel, by decide +kernel⟩
theorem sc_is_within : FnScope ["thing", "least", "most"] ["thing", "least", "most"] (defScope s_is_within) := ⟨rfl, rfl, rfl, by decide +kernel, rfl, by decide +kernel, by decide +kernel⟩
theorem sc_is_text : FnScope ["thing", "sign"] ["thing"] (defScope s_is_text) := ⟨rfl, rfl, rfl, by decide +kernel, rfl, by decide +kernel, by decide +kernel⟩
theorem sc_is_signs : FnScope ["thing"] ["thing"] (defScope s_is_signs) := ⟨rfl, rfl, rfl, by decide +kernel, rfl, by decide +kernel, by decide +kernel⟩
theorem sc_is_rising : FnScope ["row", "one", "other"] ["row"] (defScope s_is_rising) := ⟨rfl, rfl, rfl, by decide +kernel, rfl, by decide +kernel, by decide +kernel⟩
theorem sc_Machine_init : FnScope ["self", "many", "begins", "steps", "ends", "field"] ["self", "many", "begins", "steps", "ends"] (defScope s_Machine_init) := ⟨rfl, rfl, rfl, by decide +kernel, rfl, by decide +kernel, by decide +kernel⟩
theorem sc_Machine_eq : FnScope ["self", "other"] ["self", "other"] (defScope s_Machine_eq) := ⟨rfl, rfl, rfl, by decide +kernel, rfl, by decide +kernel, by decide +kernel⟩
theorem sc_Machine_len : FnScope ["self"] ["self"] (defScope s_Machine_len) := ⟨rfl, rfl, rfl, by decide +kernel, rfl, by decide +kernel, by decide +kernel⟩
theorem sc_first_wrong : FnScope ["many", "begins", "steps", "ends"] ["many", "begins", "steps", "ends"] (defScope s_first_wrong) := ⟨rfl, rfl, rfl, by decide +kernel, rfl, by decide +kernel, by decide +kernel⟩
theorem sc_are_places : FnScope ["thing", "many", "one"] ["thing", "many"] (defScope s_are_places) := ⟨rfl, rfl, rfl, by decide +kernel, rfl, by decide +kernel, by decide +kernel⟩
theorem sc_are_steps : FnScope ["thing", "many", "one", "place", "signs", "target"] ["thing", "many"] (defScope s_are_steps) := ⟨rfl, rfl, rfl, by decide +kernel, rfl, by decide +kernel, by decide +kernel⟩
theorem sc_is_step : FnScope ["thing", "many"] ["thing", "many"] (defScope s_is_step) := ⟨rfl, rfl, rfl, by decide +kernel, rfl, by decide +kernel, by decide +kernel⟩
theorem sc__law_feed : FnScope ["_law_script", "_law_cell"] ["_law_script"] (defScope s__law_feed) := ⟨rfl, rfl, rfl, by decide +kernel, rfl, by decide +kernel, by decide +kernel⟩
theorem sc__law_draw : FnScope ["_law_feed_here", "_law_a_many", "_law_digit", "_law_at", "_law_cell", "_law_number", "_law_turn"] ["_law_feed_here", "_law_a_many"] (defScope s__law_draw) := ⟨rfl, rfl, rfl, by decide +kernel, rfl, by decide +kernel, by decide +kernel⟩
theorem sc__law_signs : FnScope ["_law_feed_here", "_law_a_many", "_law_signs_here", "_law_first", "_law_step", "_law_k"] ["_law_feed_here", "_law_a_many"] (defScope s__law_signs) := ⟨rfl, rfl, rfl, by decide +kernel, rfl, by decide +kernel, by decide +kernel⟩
theorem sc__law_some : FnScope ["_law_feed_here", "_law_things", "_law_thing"] ["_law_feed_here", "_law_things"] (defScope s__law_some) := ⟨rfl, rfl, rfl, by decide +kernel, rfl, by decide +kernel, by decide +kernel⟩
theorem sc__law_raw : FnScope ["_law_feed_here", "_law_signs_here", "_law_most", "_law_a_many", "_law_a_steps", "_law_place", "_law_other", "_law_by", "_law_a_begins", "_law_a_ends"] ["_law_feed_here", "_law_signs_here", "_law_most"] (defScope s__law_raw) := ⟨rfl, rfl, rfl, by decide +kernel, rfl, by decide +kernel, by decide +kernel⟩
theorem sc__law_made : FnScope ["_law_raw_here"] ["_law_raw_here"] (defScope s__law_made) := ⟨rfl, rfl, rfl, by decide +kernel, rfl, by decide +kernel, by decide +kernel⟩
theorem sc__law_otherwise : FnScope ["_law_feed_here", "_law_raw_here", "_law_a_many", "_law_a_begins", "_law_a_steps", "_law_a_ends", "_law_way", "_law_at", "_law_step"] ["_law_feed_here", "_law_raw_here"] (defScope s__law_otherwise) := ⟨rfl, rfl, rfl, by decide +kernel, rfl, by decide +kernel, by decide +kernel⟩
theorem sc_law : FnScope ["_law_script", "_law_feed_here", "_law_signs_here", "_law_raws", "_law_turn", "_law_some_here", "_law_raw_here", "_law_k", "_law_one", "_law_named", "_law_j"] ["_law_script"] (defScope s_law) := ⟨rfl, rfl, rfl, by decide +kernel, rfl, by decide +kernel, by decide +kernel⟩
set_option genInjectivity false in
structure Ad where
  C_Machine : Addr
  N_Machine : Addr
  f_is_whole : Addr
  d_is_whole : FuncData
  f_is_within : Addr
  d_is_within : FuncData
  f_is_text : Addr
  d_is_text : FuncData
  f_is_signs : Addr
  d_is_signs : FuncData
  f_is_rising : Addr
  d_is_rising : FuncData
  f_Machine_init : Addr
  d_Machine_init : FuncData
  f_Machine_eq : Addr
  d_Machine_eq : FuncData
  f_Machine_len : Addr
  d_Machine_len : FuncData
  f_first_wrong : Addr
  d_first_wrong : FuncData
  f_are_places : Addr
  d_are_places : FuncData
  f_are_steps : Addr
  d_are_steps : FuncData
  f_is_step : Addr
  d_is_step : FuncData
  f__law_feed : Addr
  d__law_feed : FuncData
  f__law_draw : Addr
  d__law_draw : FuncData
  f__law_signs : Addr
  d__law_signs : FuncData
  f__law_some : Addr
  d__law_some : FuncData
  f__law_raw : Addr
  d__law_raw : FuncData
  f__law_made : Addr
  d__law_made : FuncData
  f__law_otherwise : Addr
  d__law_otherwise : FuncData
  f_law : Addr
  d_law : FuncData
  t_TEXT_SIGNS : Tok
set_option genInjectivity false in
structure Txt (K : PySem.W.Frag) (mg : Str → Option Value) (a : Ad) : Prop where
  m_Machine : mg "Machine" = some (.ref a.C_Machine)
  m_is_whole : mg "is_whole" = some (.ref a.f_is_whole)
  F_is_whole : Fun K "is_whole" "is_whole" s_is_whole a.f_is_whole a.d_is_whole
  k_is_whole : PySem.W.keepIn K (.ref a.f_is_whole) = true
  b_is_whole : Binds K a.d_is_whole ["thing"] []
  m_is_within : mg "is_within" = some (.ref a.f_is_within)
  F_is_within : Fun K "is_within" "is_within" s_is_within a.f_is_within a.d_is_within
  k_is_within : PySem.W.keepIn K (.ref a.f_is_within) = true
  b_is_within : Binds K a.d_is_within ["thing", "least", "most"] []
  m_is_text : mg "is_text" = some (.ref a.f_is_text)
  F_is_text : Fun K "is_text" "is_text" s_is_text a.f_is_text a.d_is_text
  k_is_text : PySem.W.keepIn K (.ref a.f_is_text) = true
  b_is_text : Binds K a.d_is_text ["thing"] []
  m_is_signs : mg "is_signs" = some (.ref a.f_is_signs)
  F_is_signs : Fun K "is_signs" "is_signs" s_is_signs a.f_is_signs a.d_is_signs
  k_is_signs : PySem.W.keepIn K (.ref a.f_is_signs) = true
  b_is_signs : Binds K a.d_is_signs ["thing"] []
  m_is_rising : mg "is_rising" = some (.ref a.f_is_rising)
  F_is_rising : Fun K "is_rising" "is_rising" s_is_rising a.f_is_rising a.d_is_rising
  k_is_rising : PySem.W.keepIn K (.ref a.f_is_rising) = true
  b_is_rising : Binds K a.d_is_rising ["row"] []
  F_Machine_init : Fun K "__init__" "Machine.__init__" s_Machine_init a.f_Machine_init a.d_Machine_init
  F_Machine_eq : Fun K "__eq__" "Machine.__eq__" s_Machine_eq a.f_Machine_eq a.d_Machine_eq
  b_Machine_eq : Binds K a.d_Machine_eq ["self", "other"] []
  me_Machine_eq : Meth K a.C_Machine "__eq__" a.f_Machine_eq
  F_Machine_len : Fun K "__len__" "Machine.__len__" s_Machine_len a.f_Machine_len a.d_Machine_len
  b_Machine_len : Binds K a.d_Machine_len ["self"] []
  me_Machine_len : Meth K a.C_Machine "__len__" a.f_Machine_len
  m_first_wrong : mg "first_wrong" = some (.ref a.f_first_wrong)
  F_first_wrong : Fun K "first_wrong" "first_wrong" s_first_wrong a.f_first_wrong a.d_first_wrong
  k_first_wrong : PySem.W.keepIn K (.ref a.f_first_wrong) = true
  b_first_wrong : Binds K a.d_first_wrong ["many", "begins", "steps", "ends"] []
  m_are_places : mg "are_places" = some (.ref a.f_are_places)
  F_are_places : Fun K "are_places" "are_places" s_are_places a.f_are_places a.d_are_places
  k_are_places : PySem.W.keepIn K (.ref a.f_are_places) = true
  b_are_places : Binds K a.d_are_places ["thing", "many"] []
  m_are_steps : mg "are_steps" = some (.ref a.f_are_steps)
  F_are_steps : Fun K "are_steps" "are_steps" s_are_steps a.f_are_steps a.d_are_steps
  k_are_steps : PySem.W.keepIn K (.ref a.f_are_steps) = true
  b_are_steps : Binds K a.d_are_steps ["thing", "many"] []
  m_is_step : mg "is_step" = some (.ref a.f_is_step)
  F_is_step : Fun K "is_step" "is_step" s_is_step a.f_is_step a.d_is_step
  k_is_step : PySem.W.keepIn K (.ref a.f_is_step) = true
  b_is_step : Binds K a.d_is_step ["thing", "many"] []
  m__law_feed : mg "_law_feed" = some (.ref a.f__law_feed)
  F__law_feed : Fun K "_law_feed" "_law_feed" s__law_feed a.f__law_feed a.d__law_feed
  k__law_feed : PySem.W.keepIn K (.ref a.f__law_feed) = true
  b__law_feed : Binds K a.d__law_feed ["_law_script"] []
  m__law_draw : mg "_law_draw" = some (.ref a.f__law_draw)
  F__law_draw : Fun K "_law_draw" "_law_draw" s__law_draw a.f__law_draw a.d__law_draw
  k__law_draw : PySem.W.keepIn K (.ref a.f__law_draw) = true
  b__law_draw : Binds K a.d__law_draw ["_law_feed_here", "_law_a_many"] []
  m__law_signs : mg "_law_signs" = some (.ref a.f__law_signs)
  F__law_signs : Fun K "_law_signs" "_law_signs" s__law_signs a.f__law_signs a.d__law_signs
  k__law_signs : PySem.W.keepIn K (.ref a.f__law_signs) = true
  b__law_signs : Binds K a.d__law_signs ["_law_feed_here", "_law_a_many"] []
  m__law_some : mg "_law_some" = some (.ref a.f__law_some)
  F__law_some : Fun K "_law_some" "_law_some" s__law_some a.f__law_some a.d__law_some
  k__law_some : PySem.W.keepIn K (.ref a.f__law_some) = true
  b__law_some : Binds K a.d__law_some ["_law_feed_here", "_law_things"] []
  m__law_raw : mg "_law_raw" = some (.ref a.f__law_raw)
  F__law_raw : Fun K "_law_raw" "_law_raw" s__law_raw a.f__law_raw a.d__law_raw
  k__law_raw : PySem.W.keepIn K (.ref a.f__law_raw) = true
  b__law_raw : Binds K a.d__law_raw ["_law_feed_here", "_law_signs_here", "_law_most"] []
  m__law_made : mg "_law_made" = some (.ref a.f__law_made)
  F__law_made : Fun K "_law_made" "_law_made" s__law_made a.f__law_made a.d__law_made
  k__law_made : PySem.W.keepIn K (.ref a.f__law_made) = true
  b__law_made : Binds K a.d__law_made ["_law_raw_here"] []
  m__law_otherwise : mg "_law_otherwise" = some (.ref a.f__law_otherwise)
  F__law_otherwise : Fun K "_law_otherwise" "_law_otherwise" s__law_otherwise a.f__law_otherwise a.d__law_otherwise
  k__law_otherwise : PySem.W.keepIn K (.ref a.f__law_otherwise) = true
  b__law_otherwise : Binds K a.d__law_otherwise ["_law_feed_here", "_law_raw_here"] []
  m_law : mg "law" = some (.ref a.f_law)
  F_law : Fun K "law" "law" s_law a.f_law a.d_law
  k_law : PySem.W.keepIn K (.ref a.f_law) = true
  b_law : Binds K a.d_law ["_law_script"] []
  ap_Machine : Apart K a.C_Machine
  ap2_Machine : Apart2 K a.C_Machine
  su_Machine : PySem.W.subIn K (.type "str") (.ref a.C_Machine) = some false
  len_Machine : OwnLen K a.C_Machine a.N_Machine a.f_Machine_len
  cl_Machine : Cls K a.C_Machine
  mk_Machine : Mk K a.C_Machine a.f_Machine_init
  eq_Machine : OwnEq K a.C_Machine a.N_Machine a.f_Machine_eq
  na_Machine_many : NoAttr K a.C_Machine "many"
  na_Machine_begins : NoAttr K a.C_Machine "begins"
  na_Machine_steps : NoAttr K a.C_Machine "steps"
  na_Machine_ends : NoAttr K a.C_Machine "ends"
  ty1_Machine : PySem.W.findIn K (.ref a.C_Machine) "__class__" = some (some (.builtin "object.__class__"))
  ty2_Machine : PySem.W.specialIn K (.builtin "object.__class__") "__get__" = some (some (.builtin "getset_descriptor.__get__"))
  ty3_Machine : PySem.W.takesIn K (.builtin "object.__class__") = some true
  ty4_Machine : PySem.W.mroIn K a.C_Machine (.type "object") = some true
  ki1_Machine : PySem.W.kitOne K (.ref a.C_Machine) (.ref a.C_Machine) = some true
  b_Machine_init : Binds K a.d_Machine_init ["self", "many", "begins", "steps", "ends"] []
  dv_Machine_init : Vals [] []
  kb_Machine_init_ends_steps_begins_many : KBinds K a.d_Machine_init ["self", "many", "begins", "steps", "ends"] ["ends", "steps", "begins", "many"] g_Machine_init_ends_steps_begins_many g_Machine_init_ends_steps_begins_many
  c_TEXT_SIGNS : mg "TEXT_SIGNS" = some (Value.str TSG a.t_TEXT_SIGNS)
  n_len : mg "len" = none
  n_abs : mg "abs" = none
  n_range : mg "range" = none
  n_str : mg "str" = none
  n_isinstance : mg "isinstance" = none
  n_tuple : mg "tuple" = none
  n_list : mg "list" = none
  n_repr : mg "repr" = none
  n_int : mg "int" = none
  n_bool : mg "bool" = none
  n_zip : mg "zip" = none
  n_all : mg "all" = none
  n_sum : mg "sum" = none
  n_sorted : mg "sorted" = none
  ki_int_int : PySem.W.kitOne K (.type "int") (.type "int") = some true
  ki_int_bool : PySem.W.kitOne K (.type "int") (.type "bool") = some false
  ki_str_str : PySem.W.kitOne K (.type "str") (.type "str") = some true
  ki_tuple_tuple : PySem.W.kitOne K (.type "tuple") (.type "tuple") = some true
  ko_NoneType : PySem.W.kitOne K (.type "NoneType") (.ref a.C_Machine) = some false
  ko_int : PySem.W.kitOne K (.type "int") (.ref a.C_Machine) = some false
  ko_str : PySem.W.kitOne K (.type "str") (.ref a.C_Machine) = some false
  ko_list : PySem.W.kitOne K (.type "list") (.ref a.C_Machine) = some false
  ko_tuple : PySem.W.kitOne K (.type "tuple") (.ref a.C_Machine) = some false
end K33
set_option Elab.async false
set_option linter.all false
set_option maxRecDepth 100000
namespace K33
open PySem PySem.Spec PyProof.Rows L2
section
variable {P : Program} {w : World} {K : PySem.W.Frag} {mg : Str → Option Value} {base : Heap} {a : Ad}
set_option maxHeartbeats 4000000
theorem dpInts {H : Hp} : ∀ ns : List Int, DpAll K H (ns.map V.int) (ns.map PyData.int)
  | [] => .nil
  | n :: r => .cons (.int n) (dpInts r)
theorem ok_draw (T : Txt K mg a) : FnOk P w K mg base CX0 1 a.f__law_draw a.d__law_draw ["_law_feed_here", "_law_a_many"] spDrawC := by
  refine T.F__law_draw.ok sc__law_draw (fun vs H Q E h => ?_) (fun cdv A outer s H vs Q E hr h => ?_)
  · obtain ⟨f, m, ns, n, rfl, _⟩ := h
    rfl
  · obtain ⟨f, m, ⟨c, ns⟩, n, rfl, hm0, hm1, ⟨at_, l, hf, hc, ha0, han, hl0⟩, hn, k⟩ := h
    dsimp only at hf hc
    have hu := hu_of hr
    have ncf : c ≠ f := ne_of hc hf (by intro z; cases z)
    refine ⟨_, (pss_cons (ps_if (pt_cmpR op_gt (pe_dget hu (pv 0) pe_str (fun _ _ => rfl)) pe_int (nomark _))
 (pss_cons (ps_set (i := 2) sc__law_draw.nd rfl (Or.inl rfl) (pe_op op_mod (pe_dget hu (pv 0) pe_str (fun _ _ => rfl)) (pv 1)))
 (pss_cons (ps_dput hu (pv 0) pe_str (pe_op op_fdiv (pe_dget hu (pv 0) pe_str (fun _ _ => rfl)) (pv 1)) rfl)
 (pss_one (ps_ret (pv 2)))))
 pss_nil)
 (pss_cons (ps_set (i := 3) sc__law_draw.nd rfl (Or.inl rfl) (pe_dget hu (pv 0) pe_str (fun _ _ => rfl)))
 (pss_cons (ps_dput hu (pv 0) pe_str (pe_op op_add (pv 3) pe_int) rfl)
 (pss_cons (ps_set (i := 4) sc__law_draw.nd rfl (Or.inl rfl) (pe_op op_add (pe_op op_mul (pv 3) (pv 3)) pe_int))
 (pss_cons (ps_if (pt_cmpR (op_neD hr.units) (pe_dget hu (pv 0) pe_str (fun _ _ => rfl)) (pe_lst pa_nil) (nomark _))
 (pss_one (ps_set (i := 4) sc__law_draw.nd rfl (Or.inl rfl) (pe_ix ix_list (pe_dget hu (pv 0) pe_str (fun _ _ => rfl)) (pe_op op_mod (pv 3) (pe_callB call_len_seq (by rfl) T.n_len (by decide +kernel) (pa_sub (pe_dget hu (pv 0) pe_str (fun _ _ => rfl)) pa_nil))) (fun _ _ => rfl))))
 pss_nil)
 (pss_cons (ps_if (PW.pt (pw_and (pt_cmpR op_lt (pv 3) (pe_callB call_len_seq (by rfl) T.n_len (by decide +kernel) (pa_sub (pe_dget hu (pv 0) pe_str (fun _ _ => rfl)) pa_nil)) (nomark _)) (pw_and1 (pt_cmpR op_ge (pe_callB call_abs (by rfl) T.n_abs (by decide +kernel) (pa_nam (pv 4) pa_nil)) (pe_op op_pow pe_int pe_int) (nomark _)))))
 (pss_cons (ps_dput hu (pv 0) pe_str (pe_op op_fdiv (pe_callB call_abs (by rfl) T.n_abs (by decide +kernel) (pa_nam (pv 4) pa_nil)) (pv 1)) rfl)
 (pss_one (ps_ret (pe_op op_mod (pe_callB call_abs (by rfl) T.n_abs (by decide +kernel) (pa_nam (pv 4) pa_nil)) (pv 1)))))
 pss_nil)
 (pss_cons (ps_set (i := 5) sc__law_draw.nd rfl (Or.inl rfl) (pe_op op_mod (pe_op op_mul (pe_op op_add (pe_op op_add (pe_op op_mod (pv 4) pe_int) (pe_op op_mul pe_int (pv 3))) pe_int) pe_int) pe_int))
 (pss_cons (ps_for PassesOwn.never rfl (pi_range1 rfl T.n_range (pa_con pe_int pa_nil)) (pg_name (i := 6) sc__law_draw.nd rfl (Or.inl rfl))
 (pss_cons (ps_set (i := 5) sc__law_draw.nd rfl (Or.inl rfl) (pe_op op_add (pe_op op_add (pe_op op_add (pe_op op_mul (pv 5) (pv 5)) (pe_op op_mul pe_int (pv 5))) (pv 3)) (pv 6)))
 (pss_one (ps_set (i := 5) sc__law_draw.nd rfl (Or.inl rfl) (pe_op op_mod (pv 5) pe_int)))))
 (pss_one (ps_ret (pe_op op_mod (pe_op op_fdiv (pv 5) pe_int) (pv 1)))))))))))), ?_⟩
    refine ⟨_, rfl, _, _, rfl, feed_left hf, _, _, rfl, rfl, _, rfl, ?_⟩
    refine ite2 (fun hl => ?_) (fun hl => ?_)
    · 
      refine ⟨_, rfl, _, _, rfl, feed_left hf, _, rfl, _, _, rfl, rfl, hm0, ?_⟩
      refine ⟨_, rfl, _, _, rfl, feed_left hf, _, rfl, _, _, rfl, rfl, ⟨hm0, hm1⟩, _, rfl, _, _, rfl, feed_put_left _ hf, _, rfl, ?_⟩
      refine k _ _ (Int.emod_nonneg _ (by omega)) (Int.emod_lt_of_pos _ hm0) ⟨at_, l / m, upd_same, by rw [upd_ne ncf]; exact hc, ha0, by omega, Int.ediv_nonneg hl0 (by omega)⟩ Kp.own
    · 
      refine ⟨_, rfl, _, _, rfl, feed_at hf, ?_⟩
      refine ⟨_, rfl, _, _, rfl, rfl, _, rfl, _, _, rfl, feed_put_at _ hf, ?_⟩
      have cm : CMul at_ at_ := .inl ⟨by omega, by omega⟩
      refine ⟨_, rfl, _, rfl, _, _, rfl, rfl, cm, _, _, rfl, rfl, ?_⟩
      generalize hH1 : upd H f (.dK (feedKV c (at_ + 1) l)) = H1
      have hf1 : H1 f = some (.dK (feedKV c (at_ + 1) l)) := by rw [← hH1]; exact upd_same
      have hc1 : H1 c = some (.lst (ns.map V.int)) := by rw [← hH1, upd_ne ncf]; exact hc
      have k1 : Kp f H H1 := by rw [← hH1]; exact Kp.own
      refine ⟨_, rfl, _, _, rfl, feed_cells hf1, by show 0 ≤ sizeLine; decide, fun p hp => ?_⟩
      refine ⟨.list (ns.map PyData.int), .list [], .lst (SqL.of (by rw [upd_ne (ne_of_none hc1 hp)]; exact hc1)) (dpInts ns), .lst (SqL.of upd_same) .nil, PySem.W.ke_shaped_ints ns, rfl, _, rfl, ?_⟩
      generalize hH2 : upd H1 p (.lst []) = H2
      have hf2 : H2 f = some (.dK (feedKV c (at_ + 1) l)) := by rw [← hH2, upd_ne (ne_of_none hf1 hp)]; exact hf1
      have hc2 : H2 c = some (.lst (ns.map V.int)) := by rw [← hH2, upd_ne (ne_of_none hc1 hp)]; exact hc1
      have k2 : Kp f H H2 := k1.trans (by rw [← hH2]; exact Kp.new hp)
      refine ite2 (fun hne => ?_) (fun hne => ?_)
      · 
        have hpos : 0 < ns.length := by
          cases ns with
          | nil => exact absurd hne (by decide)
          | cons _ _ => exact Nat.succ_pos _
        have hlen : ((ns.map V.int).length : Int) = (ns.length : Int) := by rw [List.length_map]
        have h1 : 0 ≤ at_ % ((ns.map V.int).length : Int) := Int.emod_nonneg _ (by omega)
        have h2 : at_ % ((ns.map V.int).length : Int) < ((ns.map V.int).length : Int) := Int.emod_lt_of_pos _ (by omega)
        obtain ⟨j, hj⟩ : ∃ j : Nat, at_ % ((ns.map V.int).length : Int) = (j : Int) := ⟨_, (Int.toNat_of_nonneg h1).symm⟩
        have hjl : j < ns.length := by omega
        refine ⟨_, rfl, _, _, rfl, feed_cells hf2, _, rfl, _, rfl, _, _, rfl, feed_cells hf2, _, _, rfl, .inl (SqL.of hc2), _, _, rfl, rfl, by omega, ?_⟩
        refine ⟨_, _, _, .int ns[j], rfl, rfl, SqL.of hc2, by rw [hj]; exact atI_nat (by simp [hjl]), ?_⟩
        skip
        refine ⟨_, rfl, _, rfl, _, _, rfl, feed_cells hf2, _, _, rfl, .inl (SqL.of hc2), _, _, rfl, rfl, _, rfl, ?_⟩
        refine ite2 (fun hlt => ?_) (fun hlt => ?_)
        · refine ⟨_, rfl, _, rfl, _, _, rfl, rfl, ⟨by decide, by decide, by decide⟩, _, _, rfl, rfl, _, rfl, ?_⟩
          refine ite2 (fun hbig => ?_) (fun hbig => ?_)
          · refine ⟨_, rfl, _, rfl, _, rfl, _, _, rfl, rfl, ⟨hm0, hm1⟩, _, rfl, _, _, rfl, feed_put_left _ hf2, ?_⟩
            refine ⟨_, rfl, _, rfl, _, rfl, _, _, rfl, rfl, hm0, ?_⟩
            refine k _ _ (Int.emod_nonneg _ (by omega)) (Int.emod_lt_of_pos _ hm0) ⟨at_ + 1, _, upd_same, by rw [upd_ne ncf]; exact hc2, by omega, by omega, Int.ediv_nonneg (by split <;> omega) (by omega)⟩ (k2.trans Kp.own)
          · refine ⟨_, rfl, _, _, rfl, rfl, (by show (0 : Int) < 4294967311; decide), _, rfl, _, _, rfl, rfl, .inl ⟨by decide, by decide⟩, _, _, rfl, rfl, _, _, rfl, rfl, _, _, rfl, rfl, .inr ⟨by decide, by decide⟩, _, _, rfl, rfl, (by show (0 : Int) < 4294967311; decide), ?_⟩
            refine ⟨3, rfl, by decide, by decide, for_range (n := 3) (fun i σ H3 => ∃ (num : Int) (tv : Option V), σ = [some (V.ref f), some (.int m), none, some (.int at_), some (.int ns[j]), some (.int num), tv] ∧ H3 = H2 ∧ 0 ≤ num ∧ num < 4294967311) ⟨_, none, rfl, rfl, Int.emod_nonneg _ (by decide), Int.emod_lt_of_pos _ (by decide)⟩ ?_ ?_⟩
            · rintro i σ H3 hi ⟨num, tv, rfl, rfl, hn0, hn1⟩
              refine ⟨_, rfl, _, rfl, _, _, rfl, rfl, .inl ⟨by omega, by omega⟩, _, rfl, _, _, rfl, rfl, .inl ⟨by decide, by decide⟩, _, _, rfl, rfl, _, rfl, _, _, rfl, rfl, _, rfl, _, _, rfl, rfl, ?_⟩
              refine ⟨_, rfl, _, _, rfl, rfl, (by show (0 : Int) < 4294967311; decide), ?_⟩
              exact ⟨_, _, rfl, rfl, Int.emod_nonneg _ (by decide), Int.emod_lt_of_pos _ (by decide)⟩
            · rintro σ H3 ⟨num, tv, rfl, rfl, hn0, hn1⟩
              refine ⟨_, rfl, _, _, rfl, rfl, ⟨by decide, by decide⟩, _, rfl, _, _, rfl, rfl, hm0, ?_⟩
              exact k _ _ (Int.emod_nonneg _ (by omega)) (Int.emod_lt_of_pos _ hm0) ⟨at_ + 1, l, hf2, hc2, by omega, by omega, hl0⟩ k2
        · refine ⟨_, rfl, _, _, rfl, rfl, (by show (0 : Int) < 4294967311; decide), _, rfl, _, _, rfl, rfl, .inl ⟨by decide, by decide⟩, _, _, rfl, rfl, _, _, rfl, rfl, _, _, rfl, rfl, .inr ⟨by decide, by decide⟩, _, _, rfl, rfl, (by show (0 : Int) < 4294967311; decide), ?_⟩
          refine ⟨3, rfl, by decide, by decide, for_range (n := 3) (fun i σ H3 => ∃ (num : Int) (tv : Option V), σ = [some (V.ref f), some (.int m), none, some (.int at_), some (.int ns[j]), some (.int num), tv] ∧ H3 = H2 ∧ 0 ≤ num ∧ num < 4294967311) ⟨_, none, rfl, rfl, Int.emod_nonneg _ (by decide), Int.emod_lt_of_pos _ (by decide)⟩ ?_ ?_⟩
          · rintro i σ H3 hi ⟨num, tv, rfl, rfl, hn0, hn1⟩
            refine ⟨_, rfl, _, rfl, _, _, rfl, rfl, .inl ⟨by omega, by omega⟩, _, rfl, _, _, rfl, rfl, .inl ⟨by decide, by decide⟩, _, _, rfl, rfl, _, rfl, _, _, rfl, rfl, _, rfl, _, _, rfl, rfl, ?_⟩
            refine ⟨_, rfl, _, _, rfl, rfl, (by show (0 : Int) < 4294967311; decide), ?_⟩
            exact ⟨_, _, rfl, rfl, Int.emod_nonneg _ (by decide), Int.emod_lt_of_pos _ (by decide)⟩
          · rintro σ H3 ⟨num, tv, rfl, rfl, hn0, hn1⟩
            refine ⟨_, rfl, _, _, rfl, rfl, ⟨by decide, by decide⟩, _, rfl, _, _, rfl, rfl, hm0, ?_⟩
            exact k _ _ (Int.emod_nonneg _ (by omega)) (Int.emod_lt_of_pos _ hm0) ⟨at_ + 1, l, hf2, hc2, by omega, by omega, hl0⟩ k2
      · skip
        refine ⟨_, rfl, _, rfl, _, _, rfl, feed_cells hf2, _, _, rfl, .inl (SqL.of hc2), _, _, rfl, rfl, _, rfl, ?_⟩
        refine ite2 (fun hlt => ?_) (fun hlt => ?_)
        · refine ⟨_, rfl, _, rfl, _, _, rfl, rfl, ⟨by decide, by decide, by decide⟩, _, _, rfl, rfl, _, rfl, ?_⟩
          refine ite2 (fun hbig => ?_) (fun hbig => ?_)
          · refine ⟨_, rfl, _, rfl, _, rfl, _, _, rfl, rfl, ⟨hm0, hm1⟩, _, rfl, _, _, rfl, feed_put_left _ hf2, ?_⟩
            refine ⟨_, rfl, _, rfl, _, rfl, _, _, rfl, rfl, hm0, ?_⟩
            refine k _ _ (Int.emod_nonneg _ (by omega)) (Int.emod_lt_of_pos _ hm0) ⟨at_ + 1, _, upd_same, by rw [upd_ne ncf]; exact hc2, by omega, by omega, Int.ediv_nonneg (by split <;> omega) (by omega)⟩ (k2.trans Kp.own)
          · refine ⟨_, rfl, _, _, rfl, rfl, (by show (0 : Int) < 4294967311; decide), _, rfl, _, _, rfl, rfl, .inl ⟨by decide, by decide⟩, _, _, rfl, rfl, _, _, rfl, rfl, _, _, rfl, rfl, .inr ⟨by decide, by decide⟩, _, _, rfl, rfl, (by show (0 : Int) < 4294967311; decide), ?_⟩
            refine ⟨3, rfl, by decide, by decide, for_range (n := 3) (fun i σ H3 => ∃ (num : Int) (tv : Option V), σ = [some (V.ref f), some (.int m), none, some (.int at_), some (.int (at_ * at_ + 5)), some (.int num), tv] ∧ H3 = H2 ∧ 0 ≤ num ∧ num < 4294967311) ⟨_, none, rfl, rfl, Int.emod_nonneg _ (by decide), Int.emod_lt_of_pos _ (by decide)⟩ ?_ ?_⟩
            · rintro i σ H3 hi ⟨num, tv, rfl, rfl, hn0, hn1⟩
              refine ⟨_, rfl, _, rfl, _, _, rfl, rfl, .inl ⟨by omega, by omega⟩, _, rfl, _, _, rfl, rfl, .inl ⟨by decide, by decide⟩, _, _, rfl, rfl, _, rfl, _, _, rfl, rfl, _, rfl, _, _, rfl, rfl, ?_⟩
              refine ⟨_, rfl, _, _, rfl, rfl, (by show (0 : Int) < 4294967311; decide), ?_⟩
              exact ⟨_, _, rfl, rfl, Int.emod_nonneg _ (by decide), Int.emod_lt_of_pos _ (by decide)⟩
            · rintro σ H3 ⟨num, tv, rfl, rfl, hn0, hn1⟩
              refine ⟨_, rfl, _, _, rfl, rfl, ⟨by decide, by decide⟩, _, rfl, _, _, rfl, rfl, hm0, ?_⟩
              exact k _ _ (Int.emod_nonneg _ (by omega)) (Int.emod_lt_of_pos _ hm0) ⟨at_ + 1, l, hf2, hc2, by omega, by omega, hl0⟩ k2
        · refine ⟨_, rfl, _, _, rfl, rfl, (by show (0 : Int) < 4294967311; decide), _, rfl, _, _, rfl, rfl, .inl ⟨by decide, by decide⟩, _, _, rfl, rfl, _, _, rfl, rfl, _, _, rfl, rfl, .inr ⟨by decide, by decide⟩, _, _, rfl, rfl, (by show (0 : Int) < 4294967311; decide), ?_⟩
          refine ⟨3, rfl, by decide, by decide, for_range (n := 3) (fun i σ H3 => ∃ (num : Int) (tv : Option V), σ = [some (V.ref f), some (.int m), none, some (.int at_), some (.int (at_ * at_ + 5)), some (.int num), tv] ∧ H3 = H2 ∧ 0 ≤ num ∧ num < 4294967311) ⟨_, none, rfl, rfl, Int.emod_nonneg _ (by decide), Int.emod_lt_of_pos _ (by decide)⟩ ?_ ?_⟩
          · rintro i σ H3 hi ⟨num, tv, rfl, rfl, hn0, hn1⟩
            refine ⟨_, rfl, _, rfl, _, _, rfl, rfl, .inl ⟨by omega, by omega⟩, _, rfl, _, _, rfl, rfl, .inl ⟨by decide, by decide⟩, _, _, rfl, rfl, _, rfl, _, _, rfl, rfl, _, rfl, _, _, rfl, rfl, ?_⟩
            refine ⟨_, rfl, _, _, rfl, rfl, (by show (0 : Int) < 4294967311; decide), ?_⟩
            exact ⟨_, _, rfl, rfl, Int.emod_nonneg _ (by decide), Int.emod_lt_of_pos _ (by decide)⟩
          · rintro σ H3 ⟨num, tv, rfl, rfl, hn0, hn1⟩
            refine ⟨_, rfl, _, _, rfl, rfl, ⟨by decide, by decide⟩, _, rfl, _, _, rfl, rfl, hm0, ?_⟩
            exact k _ _ (Int.emod_nonneg _ (by omega)) (Int.emod_lt_of_pos _ hm0) ⟨at_ + 1, l, hf2, hc2, by omega, by omega, hl0⟩ k2
theorem merge_feed (c : Addr) : mergeK [] [(kC, V.ref c), (kA, .int 0), (kL, .int 0)] = feedKV c 0 0 := by
  have e1 : putK ([] : List (Key × V)) kC (V.ref c) = [(kC, V.ref c)] := putK_new _ rfl
  have e2 : putK [(kC, V.ref c)] kA (.int 0) = [(kC, V.ref c), (kA, .int 0)] := putK_new _ (valV_neg kne2)
  have e3 : putK [(kC, V.ref c), (kA, .int 0)] kL (.int 0) = feedKV c 0 0 := putK_new _ ((valV_neg kne3).trans (valV_neg kne4))
  show putK (putK (putK [] kC (V.ref c)) kA (.int 0)) kL (.int 0) = _
  rw [e1, e2, e3]
theorem cut63 (ns : List Int) : cutV (ns.map V.int) none (some 63) = (ns.take 63).map V.int := by
  unfold cutV
  rw [HT.sIx_none]
  have : HT.sIx (ns.map V.int).length (ns.map V.int).length (some 63) = min 63 (ns.map V.int).length := HT.sIx_nat _ _ 63
  rw [this, List.drop_zero, Nat.sub_zero, ← List.take_take, List.take_length, List.map_take]
theorem take_snoc {l : List V} {i : Nat} {x : V} (h : l[i]? = some x) : l.take (i + 1) = l.take i ++ [x] := by rw [List.take_succ, h]; rfl
theorem ok_feed (T : Txt K mg a) : FnOk P w K mg base CX0 1 a.f__law_feed a.d__law_feed ["_law_script"] (spFeedC K) := by
  refine T.F__law_feed.ok sc__law_feed (fun vs H Q E h => ?_) (fun cdv A outer s H vs Q E hr h => ?_)
  · obtain ⟨c, ns, rfl, _⟩ := h
    rfl
  · obtain ⟨c, ns, rfl, hS, k⟩ := h
    refine ⟨_, (pss_one (ps_ret (pe_disp (pps_cons pe_str (pe_lc (own := [("_law_cell", 1)]) (g := gName 1) (by rfl) sc__law_feed.nd (pi_list (pe_slice sl_list (pv 0) po_none (po_some pe_int))) (blkOk_by (own := [("_law_cell", 1)]) (N := ["_law_script", "_law_cell"]) (sc := defScope s__law_feed) (by decide +kernel)) (fun _ _ _ _ _ => (pg_name (i := 1) sc__law_feed.nd rfl (Or.inl rfl))) (fun _ _ _ _ _ => pts_nil) (fun _ _ _ _ _ => (pv 1))) (pps_cons pe_str pe_int (pps_cons pe_str pe_int pps_nil))) (by rfl) (by rfl) (fun z => by cases z) (by decide)))), ?_⟩
    intro p hp
    have sp : Same H (upd H p (.dK [])) := Same.new hp
    refine ⟨_, rfl, _, rfl, _, _, rfl, sp.seq hS, fun p2 hp2 => ⟨_, rfl, ⟨_, SqL.of upd_same⟩, fun D hD => ?_⟩⟩
    rw [cut63] at hD ⊢
    generalize hH2 : upd (upd H p (.dK [])) p2 (.lst ((ns.take 63).map V.int)) = H2 at hD ⊢
    have hl2 : H2 p2 = some (.lst ((ns.take 63).map V.int)) := by rw [← hH2]; exact upd_same
    have hpp : p ≠ p2 := ne_of_none (upd_same) hp2
    have hp3 : H2 p = some (.dK []) := by rw [← hH2, upd_ne hpp]; exact upd_same
    have s2 : Same H H2 := by rw [← hH2]; exact sp.trans (Same.new hp2)
    refine lc_list (K := K) (a := p2) (xs := (ns.take 63).map V.int) (fun i H' => Same H2 H' ∧ H' D = some (.lst (((ns.take 63).map V.int).take i))) ⟨Same.new hD, upd_same⟩ (fun i H' _ hv => SqL.of (hv.1 _ _ hl2)) ?_ ?_
    · rintro i x H' hx ⟨sm, hDD⟩
      refine ⟨rfl, ?_⟩
      refine ⟨_, rfl, _, hDD, ?_, fun b' o z => ?_, ?_⟩
      · rw [List.length_take, List.length_map, List.length_take]
        have : 100 ≤ sizeLine := by decide
        omega
      · rw [upd_ne (ne_of_none z hD)]; exact sm _ _ z
      · rw [upd_same, take_snoc hx]
    · rintro H' ⟨sm, hDD⟩
      rw [List.take_length] at hDD
      refine ⟨sm _ _ hp3, [(kC, V.ref D), (kA, .int 0), (kL, .int 0)], rfl, by show 3 ≤ 15; decide, ?_⟩
      have hDp : D ≠ p := (ne_of_none hp3 hD).symm
      have hDn : H D = none := by
        cases e : H D with
        | none => rfl
        | some o => rw [s2 _ _ e] at hD; cases hD
      refine k p D _ hp hDn ⟨0, 0, ?_, ?_, Int.le_refl _, Int.le_refl _, Int.le_refl _⟩ fun b' o z => ?_
      · rw [merge_feed]; exact upd_same
      · rw [upd_ne hDp]; exact hDD
      · rw [upd_ne (ne_of_none z hp)]; exact sm _ _ (s2 _ _ z)
end
end K33
set_option Elab.async false
set_option linter.all false
set_option maxRecDepth 100000
namespace K33
open PySem PySem.Spec PyProof.Rows L2
section
variable {P : Program} {w : World} {K : PySem.W.Frag} {mg : Str → Option Value} {base : Heap} {a : Ad}
set_option maxHeartbeats 4000000
theorem acc_same {H H' : Hp} {p D : Addr} {o o2 : HO} (sm : Same H H') (hp : H' p = none) (hD : H D = none) : Same H (upd (upd H' p o) D o2) := fun b x z => by
  rw [upd_ne (ne_of_none z hD)]
  exact (Same.new hp) _ _ (sm _ _ z)
theorem acc_rep (H' : Hp) (D : Addr) (i : Nat) : upd H' D (.lst (List.replicate i (V.bl true) ++ [V.bl true])) D = some (.lst (List.replicate (i + 1) (V.bl true))) := by
  rw [upd_same, ← List.replicate_succ']
theorem all_rep {H' : Hp} {D : Addr} {n : Nat} {Q : VK} (hD : H' D = some (.lst (List.replicate n (V.bl true)))) (q : Q (.bl true) H') : rAll K [.ref D] H' Q := by
  refine ⟨D, List.replicate n true, rfl, SqL.of (by rw [List.map_replicate]; exact hD), ?_⟩
  have : (List.replicate n true).all id = true := by simp
  rw [this]
  exact q
def RisL (l : List Nat) : Prop := l.Pairwise (· < ·)
def spRiseS : Sp := fun vs H Q _ => ∃ m : Str, vs = [.str m] ∧ m.length ≤ 100 ∧ m.cps.all (· < 128) = true ∧ RisL m.cps.toList ∧ ∀ H', Same H H' → Q (.bl true) H'
theorem cut1_list (z : Str) : (cutS z (some 1) none).cps.toList = z.cps.toList.drop 1 := by
  have hl : z.length = z.cps.toList.length := by simp [PySem.Str.length]
  unfold cutS
  rw [hl]
  generalize z.cps.toList = l
  cases l with
  | nil => simp [HT.sIx]
  | cons c r => simp [HT.sIx]
theorem ok_riseS (T : Txt K mg a) : FnOk P w K mg base CX0 1 a.f_is_rising a.d_is_rising ["row"] spRiseS := by
  refine T.F_is_rising.ok sc_is_rising (fun vs H Q E h => ?_) (fun cdv A outer s H vs Q E hr h => ?_)
  · obtain ⟨m, rfl, _⟩ := h
    rfl
  · obtain ⟨m, rfl, hl, hm, hR, k⟩ := h
    have hsz : 10000 ≤ sizeLine := by decide
    refine ⟨_, (pss_one (ps_ret (pe_callB (cr_all rfl) (by rfl) T.n_all (by decide +kernel) (pa_lcm (pe_lc (own := [("one", 1), ("other", 2)]) (g := gTup K 2 (gCons (gName 1) (gCons (gName 2) gNil))) (by rfl) sc_is_rising.nd (pi_zipS rfl T.n_zip (pa_nam (pv 0) (pa_sub (pe_slice sl_str (pv 0) (po_some pe_int) po_none) pa_nil))) (blkOk_by (own := [("one", 1), ("other", 2)]) (N := ["row", "one", "other"]) (sc := defScope s_is_rising) (by decide +kernel)) (fun _ _ _ _ _ => (show PG _ _ (gTup K 2 (gCons (gName 1) (gCons (gName 2) gNil))) from pg_tup rfl (pgs_cons (pg_name (i := 1) sc_is_rising.nd rfl (Or.inl rfl)) (pgs_cons (pg_name (i := 2) sc_is_rising.nd rfl (Or.inl rfl)) pgs_nil)))) (fun _ _ _ _ _ => pts_nil) (fun _ _ _ _ _ => (pe_cmpR op_lt_str (pv 1) (pv 2) (nomark _)))) pa_nil)))), ?_⟩
    have hl2 : m.cps.size ≤ 100 := by simpa [PySem.Str.length] using hl
    have ct := cut1_list m
    have hm2 : (cutS m (some 1) none).cps.all (· < 128) = true := by
      rw [← Array.all_toList, ct, List.all_eq_true]
      rw [← Array.all_toList, List.all_eq_true] at hm
      exact fun x hx => hm x (List.mem_of_mem_drop hx)
    refine ⟨_, rfl, _, rfl, _, rfl, m, rfl, by show m.cps.size ≤ sizeLine; omega, m, _, rfl, hm, hm2, fun D hD => ?_⟩
    refine lc_zipS (fun i H' => Same H H' ∧ H' D = some (.lst (List.replicate i (V.bl true)))) ⟨Same.new hD, upd_same⟩ ?_ ?_
    · rintro i c d H' p hc hd ⟨sm, hDD⟩ hp
      refine ⟨p, _, rfl, SqT.of upd_same, rfl, _, _, rfl, _, _, rfl, rfl, rfl, ?_⟩
      have hi : i < m.cps.size := (Array.getElem?_eq_some_iff.mp hc).1
      have h1 : m.cps.toList[i]? = some c := by rw [Array.getElem?_toList]; exact hc
      have h2 : m.cps.toList[i + 1]? = some d := by
        have : (cutS m (some 1) none).cps.toList[i]? = some d := by rw [Array.getElem?_toList]; exact hd
        rw [ct, List.getElem?_drop] at this
        rw [Nat.add_comm]
        exact this
      obtain ⟨l1, e1⟩ := List.getElem?_eq_some_iff.mp h1
      obtain ⟨l2, e2⟩ := List.getElem?_eq_some_iff.mp h2
      have hlt : c < d := by
        have := List.pairwise_iff_getElem.mp hR i (i + 1) l1 l2 (by omega)
        rw [e1, e2] at this
        exact this
      have hD2 : upd H' p (.tup [V.str ⟨#[c]⟩, V.str ⟨#[d]⟩]) D = some (.lst (List.replicate i (V.bl true))) := (Same.new hp) _ _ hDD
      have e3 : decide ((⟨#[c]⟩ : Str).cps.toList < (⟨#[d]⟩ : Str).cps.toList) = true := decide_eq_true (List.cons_lt_cons_iff.mpr (.inl hlt))
      refine ⟨_, rfl, _, rfl, _, _, rfl, rfl, _, hD2, by rw [List.length_replicate]; omega, acc_same sm hp hD, ?_⟩
      rw [e3]
      exact acc_rep _ _ _
    · rintro H' ⟨sm, hDD⟩
      exact all_rep hDD (k _ sm)
def spRiseI (K : PySem.W.Frag) : Sp := fun vs H Q _ => ∃ (r : Addr) (ns : List Int), vs = [.ref r] ∧ SqT K H r (ns.map V.int) ∧ ns.length ≤ 100 ∧ ns.Pairwise (· < ·) ∧ ∀ H', Same H H' → Q (.bl true) H'
theorem cut1_V (xs : List V) : cutV xs (some 1) none = xs.drop 1 := by
  unfold cutV
  cases xs with
  | nil => simp [HT.sIx]
  | cons c r => simp [HT.sIx]
theorem whole1 {xs : List V} (h : HT.sIx xs.length 0 (some 1) = 0 ∧ HT.sIx xs.length xs.length none = xs.length) : xs = [] := by
  cases xs with
  | nil => rfl
  | cons c r => simp [HT.sIx] at h
theorem SqT.mv {H H' : Hp} {r : Addr} {xs : List V} (h : SqT K H r xs) (s : Same H H') : SqT K H' r xs :=
  h.imp (fun z => z.imp (s _ _) fun ⟨o, z⟩ => ⟨o, s _ _ z⟩) id
theorem ok_riseI (T : Txt K mg a) : FnOk P w K mg base CX0 1 a.f_is_rising a.d_is_rising ["row"] (spRiseI K) := by
  refine T.F_is_rising.ok sc_is_rising (fun vs H Q E h => ?_) (fun cdv A outer s H vs Q E hr h => ?_)
  · obtain ⟨m, _, rfl, _⟩ := h
    rfl
  · obtain ⟨r, ns, rfl, hr0, hl, hR, k⟩ := h
    have hsz : 10000 ≤ sizeLine := by decide
    refine ⟨_, (pss_one (ps_ret (pe_callB (cr_all rfl) (by rfl) T.n_all (by decide +kernel) (pa_lcm (pe_lc (own := [("one", 1), ("other", 2)]) (g := gTup K 2 (gCons (gName 1) (gCons (gName 2) gNil))) (by rfl) sc_is_rising.nd (pi_zipT rfl T.n_zip (pa_nam (pv 0) (pa_sub (pe_slice sl_tupW (pv 0) (po_some pe_int) po_none) pa_nil))) (blkOk_by (own := [("one", 1), ("other", 2)]) (N := ["row", "one", "other"]) (sc := defScope s_is_rising) (by decide +kernel)) (fun _ _ _ _ _ => (show PG _ _ (gTup K 2 (gCons (gName 1) (gCons (gName 2) gNil))) from pg_tup rfl (pgs_cons (pg_name (i := 1) sc_is_rising.nd rfl (Or.inl rfl)) (pgs_cons (pg_name (i := 2) sc_is_rising.nd rfl (Or.inl rfl)) pgs_nil)))) (fun _ _ _ _ _ => pts_nil) (fun _ _ _ _ _ => (pe_cmpR op_lt (pv 1) (pv 2) (nomark _)))) pa_nil)))), ?_⟩
    refine ⟨_, rfl, _, rfl, _, rfl, r, _, rfl, hr0, fun hw => ?_, fun _ q hq => ?_⟩
    · have e := whole1 hw
      rw [e] at hr0
      refine ⟨r, r, _, _, rfl, hr0, hr0, fun D hD => ?_⟩
      refine lc_zipT (K := K) (xs := []) (ys := []) (fun i H' => Same H H' ∧ H' D = some (.lst (List.replicate i (V.bl true)))) ⟨Same.new hD, upd_same⟩ (fun i H' _ hv => ⟨SqT.mv hr0 hv.1, SqT.mv hr0 hv.1⟩) ?_ ?_
      · rintro i c d H' p hc
        cases hc
      · rintro H' ⟨sm, hDD⟩
        exact all_rep hDD (k _ sm)
    · rw [cut1_V]
      have s1 : Same H (upd H q (.tup ((ns.map V.int).drop 1))) := Same.new hq
      refine ⟨r, q, _, _, rfl, SqT.mv hr0 s1, SqT.of upd_same, fun D hD => ?_⟩
      refine lc_zipT (K := K) (xs := ns.map V.int) (ys := (ns.map V.int).drop 1) (fun i H' => Same (upd H q (.tup ((ns.map V.int).drop 1))) H' ∧ H' D = some (.lst (List.replicate i (V.bl true)))) ⟨Same.new hD, upd_same⟩ (fun i H' _ hv => ⟨SqT.mv (SqT.mv hr0 s1) hv.1, SqT.of (hv.1 _ _ upd_same)⟩) ?_ ?_
      · rintro i c d H' p hc hd ⟨sm, hDD⟩ hp
        refine ⟨p, _, rfl, SqT.of upd_same, rfl, _, _, rfl, _, _, rfl, rfl, rfl, ?_⟩
        rw [List.getElem?_drop, Nat.add_comm] at hd
        obtain ⟨l1, e1⟩ := List.getElem?_eq_some_iff.mp hc
        obtain ⟨l2, e2⟩ := List.getElem?_eq_some_iff.mp hd
        rw [List.length_map] at l1 l2
        rw [List.getElem_map] at e1 e2
        subst e1 e2
        have hlt : ns[i] < ns[i + 1] := List.pairwise_iff_getElem.mp hR i (i + 1) l1 l2 (by omega)
        have hD2 : upd H' p (.tup [V.int ns[i], V.int ns[i + 1]]) D = some (.lst (List.replicate i (V.bl true))) := (Same.new hp) _ _ hDD
        refine ⟨_, rfl, _, rfl, _, _, rfl, rfl, _, hD2, by rw [List.length_replicate]; omega, acc_same sm hp hD, ?_⟩
        dsimp only
        rw [decide_eq_true hlt]
        exact acc_rep _ _ _
      · rintro H' ⟨sm, hDD⟩
        exact all_rep hDD (k _ (s1.trans sm))
def spRiseR (K : PySem.W.Frag) : Sp := fun vs H Q _ => ∃ (r : Addr) (L : List (Addr × List V)) (ts : List (Option Bool)), vs = [.ref r] ∧ SqT K H r (L.map fun x => V.ref x.1) ∧ L.length ≤ 100 ∧ none ∉ ts ∧ (∀ x ∈ L, SqT K H x.1 x.2 ∧ x.2.map tgV = ts) ∧
  L.Pairwise (fun x y => lexV x.2 y.2 = true) ∧ ∀ H', Same H H' → Q (.bl true) H'
theorem ok_riseR (T : Txt K mg a) : FnOk P w K mg base CX0 1 a.f_is_rising a.d_is_rising ["row"] (spRiseR K) := by
  refine T.F_is_rising.ok sc_is_rising (fun vs H Q E h => ?_) (fun cdv A outer s H vs Q E hr h => ?_)
  · obtain ⟨m, _, _, rfl, _⟩ := h
    rfl
  · obtain ⟨r, L, ts, rfl, hr0, hl, hn, hL, hR, k⟩ := h
    have hsz : 10000 ≤ sizeLine := by decide
    refine ⟨_, (pss_one (ps_ret (pe_callB (cr_all rfl) (by rfl) T.n_all (by decide +kernel) (pa_lcm (pe_lc (own := [("one", 1), ("other", 2)]) (g := gTup K 2 (gCons (gName 1) (gCons (gName 2) gNil))) (by rfl) sc_is_rising.nd (pi_zipT rfl T.n_zip (pa_nam (pv 0) (pa_sub (pe_slice sl_tupW (pv 0) (po_some pe_int) po_none) pa_nil))) (blkOk_by (own := [("one", 1), ("other", 2)]) (N := ["row", "one", "other"]) (sc := defScope s_is_rising) (by decide +kernel)) (fun _ _ _ _ _ => (show PG _ _ (gTup K 2 (gCons (gName 1) (gCons (gName 2) gNil))) from pg_tup rfl (pgs_cons (pg_name (i := 1) sc_is_rising.nd rfl (Or.inl rfl)) (pgs_cons (pg_name (i := 2) sc_is_rising.nd rfl (Or.inl rfl)) pgs_nil)))) (fun _ _ _ _ _ => pts_nil) (fun _ _ _ _ _ => (pe_cmpR (show OpR _ _ (rLtV K) from op_ltV (Nat.lt_of_le_of_lt (Nat.le_add_right _ 64) hr.units)) (pv 1) (pv 2) (nomark _)))) pa_nil)))), ?_⟩
    refine ⟨_, rfl, _, rfl, _, rfl, r, _, rfl, hr0, fun hw => ?_, fun _ q hq => ?_⟩
    · have e := whole1 hw
      rw [e] at hr0
      refine ⟨r, r, _, _, rfl, hr0, hr0, fun D hD => ?_⟩
      refine lc_zipT (K := K) (xs := []) (ys := []) (fun i H' => Same H H' ∧ H' D = some (.lst (List.replicate i (V.bl true)))) ⟨Same.new hD, upd_same⟩ (fun i H' _ hv => ⟨SqT.mv hr0 hv.1, SqT.mv hr0 hv.1⟩) ?_ ?_
      · rintro i c d H' p hc
        cases hc
      · rintro H' ⟨sm, hDD⟩
        exact all_rep hDD (k _ sm)
    · rw [cut1_V]
      have s1 : Same H (upd H q (.tup ((L.map fun x : Addr × List V => V.ref x.1).drop 1))) := Same.new hq
      refine ⟨r, q, _, _, rfl, SqT.mv hr0 s1, SqT.of upd_same, fun D hD => ?_⟩
      refine lc_zipT (K := K) (xs := L.map fun x : Addr × List V => V.ref x.1) (ys := (L.map fun x : Addr × List V => V.ref x.1).drop 1) (fun i H' => Same (upd H q (.tup ((L.map fun x : Addr × List V => V.ref x.1).drop 1))) H' ∧ H' D = some (.lst (List.replicate i (V.bl true)))) ⟨Same.new hD, upd_same⟩ (fun i H' _ hv => ⟨SqT.mv (SqT.mv hr0 s1) hv.1, SqT.of (hv.1 _ _ upd_same)⟩) ?_ ?_
      · rintro i c d H' p hc hd ⟨sm, hDD⟩ hp
        refine ⟨p, _, rfl, SqT.of upd_same, rfl, _, _, rfl, _, _, rfl, rfl, rfl, ?_⟩
        rw [List.getElem?_drop, Nat.add_comm] at hd
        obtain ⟨l1, e1⟩ := List.getElem?_eq_some_iff.mp hc
        obtain ⟨l2, e2⟩ := List.getElem?_eq_some_iff.mp hd
        rw [List.length_map] at l1 l2
        rw [List.getElem_map] at e1 e2
        subst e1 e2
        have hlt := List.pairwise_iff_getElem.mp hR i (i + 1) l1 l2 (by omega)
        have hD2 : upd H' p (.tup [V.ref L[i].1, V.ref L[i + 1].1]) D = some (.lst (List.replicate i (V.bl true))) := (Same.new hp) _ _ hDD
        have s3 := (s1.trans sm).trans (Same.new (o := .tup [V.ref L[i].1, V.ref L[i + 1].1]) hp)
        obtain ⟨g1, t1⟩ := hL _ (List.getElem_mem l1)
        obtain ⟨g2, t2⟩ := hL _ (List.getElem_mem l2)
        refine ⟨_, rfl, _, rfl, _, _, _, _, rfl, rfl, SqT.mv g1 s3, SqT.mv g2 s3, t1.trans t2.symm, fun x hx z => hn (by rw [← t1, ← z]; exact List.mem_map_of_mem hx), _, hD2, by rw [List.length_replicate]; omega, acc_same sm hp hD, ?_⟩
        rw [hlt]
        exact acc_rep _ _ _
      · rintro H' ⟨sm, hDD⟩
        exact all_rep hDD (k _ (s1.trans sm))
end
end K33
set_option Elab.async false
set_option linter.all false
set_option maxRecDepth 100000
namespace K33
open PySem PySem.Spec PyProof.Rows L2
section
variable {P : Program} {w : World} {K : PySem.W.Frag} {mg : Str → Option Value} {base : Heap} {a : Ad}
set_option maxHeartbeats 4000000
def spWhole : Sp := fun vs H Q _ => ∃ n : Int, vs = [.int n] ∧ Q (.bl true) H
theorem ok_whole (T : Txt K mg a) : FnOk P w K mg base CX0 1 a.f_is_whole a.d_is_whole ["thing"] spWhole := by
  refine T.F_is_whole.ok sc_is_whole (fun vs H Q E h => ?_) (fun cdv A outer s H vs Q E hr h => ?_)
  · obtain ⟨n, rfl, _⟩ := h
    rfl
  · obtain ⟨n, rfl, k⟩ := h
    refine ⟨_, (pss_one (ps_ret (pe_and (pe_callB isi_any (by rfl) T.n_isinstance (by decide +kernel) (pa_nam (pv 0) (pa_nam (pe_bltn (by rfl) T.n_int (by decide +kernel) (v := .ty "int") rfl) pa_nil))) (pe_one (pe_not (pe_callB isi_any (by rfl) T.n_isinstance (by decide +kernel) (pa_nam (pv 0) (pa_nam (pe_bltn (by rfl) T.n_bool (by decide +kernel) (v := .ty "bool") rfl) pa_nil)))))))), ?_⟩
    refine ⟨_, rfl, _, _, _, _, _, rfl, .int n, rfl, T.ki_int_int, _, rfl, ite2 (fun _ => ?_) fun h => absurd rfl h⟩
    exact ⟨_, rfl, _, _, _, _, _, rfl, .int n, rfl, T.ki_int_bool, _, rfl, k⟩
def spWithin : Sp := fun vs H Q _ => ∃ n lo hi : Int, vs = [.int n, .int lo, .int hi] ∧ lo ≤ n ∧ n ≤ hi ∧ Q (.bl true) H
theorem ok_within (T : Txt K mg a) : FnOk P w K mg base CX0 2 a.f_is_within a.d_is_within ["thing", "least", "most"] spWithin := by
  have G_is_whole : FnOk P w K mg base CX0 1 _ _ _ spWhole := ok_whole T
  refine T.F_is_within.ok sc_is_within (fun vs H Q E h => ?_) (fun cdv A outer s H vs Q E hr h => ?_)
  · obtain ⟨n, lo, hi, rfl, _⟩ := h
    rfl
  · obtain ⟨n, lo, hi, rfl, h1, h2, k⟩ := h
    refine ⟨_, (pss_one (ps_ret (pe_and (pe_call G_is_whole hr rfl T.m_is_whole T.k_is_whole T.b_is_whole .nil pass0 (pa_nam (pv 0) pa_nil)) (pe_one (pe_chain op_le op_le (pv 1) (pv 0) (pv 2)))))), ?_⟩
    refine ⟨_, rfl, n, rfl, _, rfl, ite2 (fun _ => ?_) fun h => absurd rfl h⟩
    refine ⟨_, rfl, _, rfl, _, _, rfl, rfl, _, rfl, ite2 (fun _ => ?_) fun h => absurd (decide_eq_true h1) h⟩
    refine ⟨_, rfl, _, _, rfl, rfl, ?_⟩
    show Q (.bl (decide (n ≤ hi))) H
    rw [decide_eq_true h2]
    exact k
theorem all_true (n : Nat) : (List.replicate n true).all id = true := by simp
theorem rep_bl (n : Nat) : (List.replicate n true).map V.bl = List.replicate n (V.bl true) := by rw [List.map_replicate]
def spText : Sp := fun vs H Q _ => ∃ m : Str, vs = [.str m] ∧ m.length ≤ 100 ∧ (∀ c ∈ m.cps.toList, c ∈ TSG.cps.toList) ∧ ∀ H', Same H H' → Q (.bl true) H'
theorem ok_text (T : Txt K mg a) : FnOk P w K mg base CX0 1 a.f_is_text a.d_is_text ["thing"] spText := by
  refine T.F_is_text.ok sc_is_text (fun vs H Q E h => ?_) (fun cdv A outer s H vs Q E hr h => ?_)
  · obtain ⟨m, rfl, _⟩ := h
    rfl
  · obtain ⟨m, rfl, hl, hm, k⟩ := h
    have hsz : 10000 ≤ sizeLine := by decide
    have hl2 : m.cps.toList.length ≤ 100 := by simpa [PySem.Str.length] using hl
    refine ⟨_, (pss_one (ps_ret (pe_and (pe_callB call_isi_str (by rfl) T.n_isinstance (by decide +kernel) (pa_nam (pv 0) (pa_nam (pe_bltn (by rfl) T.n_str (by decide +kernel) (v := .ty "str") rfl) pa_nil))) (pe_one (pe_callB (cr_all rfl) (by rfl) T.n_all (by decide +kernel) (pa_lcm (pe_lc (own := [("sign", 1)]) (g := gName 1) (by rfl) sc_is_text.nd (pi_str (pv 0)) (blkOk_by (own := [("sign", 1)]) (N := ["thing", "sign"]) (sc := defScope s_is_text) (by decide +kernel)) (fun _ _ _ _ _ => (pg_name (i := 1) sc_is_text.nd rfl (Or.inl rfl))) (fun _ _ _ _ _ => pts_nil) (fun _ _ _ _ _ => (pe_cmpR op_in_sign (pv 1) (pe_glob (v := .str TSG) rfl T.c_TEXT_SIGNS ⟨_, rfl⟩) rfl))) pa_nil)))))), ?_⟩
    refine ⟨_, rfl, m, rfl, _, rfl, ite2 (fun _ => ?_) fun h => absurd rfl h⟩
    refine ⟨_, rfl, m, rfl, fun D hD => ?_⟩
    refine lc_by (walk_str m) (fun i H' => Same H H' ∧ H' D = some (.lst (List.replicate i (V.bl true)))) ⟨Same.new hD, upd_same⟩ (fun _ _ _ _ => trivial) ?_ ?_
    · rintro i x H' hx ⟨sm, hDD⟩
      rw [List.getElem?_map] at hx
      cases e : m.cps.toList[i]? with
      | none => rw [e] at hx; cases hx
      | some c =>
        rw [e] at hx
        obtain rfl : x = V.str ⟨#[c]⟩ := (Option.some.inj hx).symm
        have hi := (List.getElem?_eq_some_iff.mp e).1
        refine ⟨rfl, ?_⟩
        refine ⟨_, rfl, c, TSG, rfl, rfl, _, hDD, ?_, fun b o z => ?_, ?_⟩
        · rw [List.length_replicate]; omega
        · rw [upd_ne (ne_of_none z hD)]; exact sm _ _ z
        · rw [upd_same, decide_eq_true (hm c (List.mem_of_getElem? e)), List.replicate_succ']
    · rintro H' ⟨sm, hDD⟩
      refine ⟨D, List.replicate _ true, rfl, SqL.of (by rw [rep_bl]; exact hDD), ?_⟩
      rw [all_true]
      exact k _ sm
theorem tsg_low : ∀ c ∈ TSG.cps.toList, c < 128 := by
  have : TSG.cps.toList.all (fun c => decide (c < 128)) = true := by decide +kernel
  exact fun c hc => of_decide_eq_true (List.all_eq_true.mp this c hc)
def SgOk (m : Str) : Prop := 0 < m.length ∧ m.length ≤ 100 ∧ (∀ c ∈ m.cps.toList, c ∈ TSG.cps.toList) ∧ RisL m.cps.toList
theorem SgOk.low {m : Str} (h : SgOk m) : m.cps.all (· < 128) = true := by
  rw [← Array.all_toList, List.all_eq_true]
  exact fun c hc => decide_eq_true (tsg_low c (h.2.2.1 c hc))
def spSigns : Sp := fun vs H Q _ => ∃ m : Str, vs = [.str m] ∧ SgOk m ∧ ∀ H', Same H H' → Q (.bl true) H'
theorem ok_signs (T : Txt K mg a) : FnOk P w K mg base CX0 2 a.f_is_signs a.d_is_signs ["thing"] spSigns := by
  have G_is_text : FnOk P w K mg base CX0 1 _ _ _ spText := ok_text T
  have G_is_rising : FnOk P w K mg base CX0 1 _ _ _ spRiseS := ok_riseS T
  refine T.F_is_signs.ok sc_is_signs (fun vs H Q E h => ?_) (fun cdv A outer s H vs Q E hr h => ?_)
  · obtain ⟨n, rfl, _⟩ := h
    rfl
  · obtain ⟨m, rfl, hS, k⟩ := h
    refine ⟨_, (pss_one (ps_ret (pe_and (pe_call G_is_text hr rfl T.m_is_text T.k_is_text T.b_is_text .nil pass0 (pa_nam (pv 0) pa_nil)) (pe_and (pe_cmpR op_gt (pe_callB call_len_str (by rfl) T.n_len (by decide +kernel) (pa_nam (pv 0) pa_nil)) pe_int (nomark _)) (pe_one (pe_call G_is_rising hr rfl T.m_is_rising T.k_is_rising T.b_is_rising .nil pass0 (pa_nam (pv 0) pa_nil))))))), ?_⟩
    refine ⟨_, rfl, m, rfl, hS.2.1, hS.2.2.1, fun H1 s1 => ⟨_, rfl, ite2 (fun _ => ?_) fun h => absurd rfl h⟩⟩
    have h0 : (0 : Int) < (m.length : Int) := by have := hS.1; omega
    have hz : m.length ≤ sizeLine := Nat.le_trans hS.2.1 (by decide)
    refine ⟨_, rfl, m, rfl, hz, _, _, rfl, rfl, _, rfl, ite2 (fun _ => ?_) fun h => absurd (decide_eq_true h0) h⟩
    exact ⟨_, rfl, m, rfl, hS.2.1, hS.low, hS.2.2.2, fun H2 s2 => k _ (s1.trans s2)⟩
def StOk (n : Int) (xs : List V) : Prop := ∃ (p : Int) (m : Str) (t : Int), xs = [.int p, .str m, .int t] ∧ 0 ≤ p ∧ p < n ∧ 0 ≤ t ∧ t < n ∧ SgOk m
def spStep : Sp := fun vs H Q _ => ∃ (r : Addr) (xs : List V) (n : Int), vs = [.ref r, .int n] ∧ H r = some (.tup xs) ∧ StOk n xs ∧ ∀ H', Same H H' → Q (.bl true) H'
theorem ok_step (T : Txt K mg a) : FnOk P w K mg base CX0 3 a.f_is_step a.d_is_step ["thing", "many"] spStep := by
  have G_is_within : FnOk P w K mg base CX0 2 _ _ _ spWithin := ok_within T
  have G_is_signs : FnOk P w K mg base CX0 2 _ _ _ spSigns := ok_signs T
  refine T.F_is_step.ok sc_is_step (fun vs H Q E h => ?_) (fun cdv A outer s H vs Q E hr h => ?_)
  · obtain ⟨r, xs, n, rfl, _⟩ := h
    rfl
  · obtain ⟨r, _, n, rfl, hx, ⟨p, m, t, rfl, p0, p1, t0, t1, hS⟩, k⟩ := h
    refine ⟨_, (pss_one (ps_ret (pe_and (pe_callB isi_any (by rfl) T.n_isinstance (by decide +kernel) (pa_nam (pv 0) (pa_nam (pe_bltn (by rfl) T.n_tuple (by decide +kernel) (v := .ty "tuple") rfl) pa_nil))) (pe_and (pe_cmpR op_eq (pe_callB call_len_seq (by rfl) T.n_len (by decide +kernel) (pa_nam (pv 0) pa_nil)) pe_int (nomark _)) (pe_and (pe_call G_is_within hr rfl T.m_is_within T.k_is_within T.b_is_within .nil pass0 (pa_sub (pe_ix ix_tup (pv 0) pe_int (fun _ _ => rfl)) (pa_con pe_int (pa_bin (pe_op op_sub (pv 1) pe_int) pa_nil)))) (pe_and (pe_call G_is_signs hr rfl T.m_is_signs T.k_is_signs T.b_is_signs .nil pass0 (pa_sub (pe_ix ix_tup (pv 0) pe_int (fun _ _ => rfl)) pa_nil)) (pe_one (pe_call G_is_within hr rfl T.m_is_within T.k_is_within T.b_is_within .nil pass0 (pa_sub (pe_ix ix_tup (pv 0) pe_int (fun _ _ => rfl)) (pa_con pe_int (pa_bin (pe_op op_sub (pv 1) pe_int) pa_nil))))))))))), ?_⟩
    refine ⟨_, rfl, _, _, _, _, _, rfl, .tup hx, rfl, T.ki_tuple_tuple, _, rfl, ite2 (fun _ => ?_) fun h => absurd rfl h⟩
    refine ⟨_, rfl, r, _, rfl, .inr (SqT.of hx), rfl, _, rfl, ite2 (fun _ => ?_) fun h => absurd rfl h⟩
    refine ⟨_, rfl, r, _, 0, _, rfl, rfl, SqT.of hx, rfl, _, rfl, _, _, rfl, rfl, p, 0, n - 1, rfl, p0, by omega, _, rfl, ite2 (fun _ => ?_) fun h => absurd rfl h⟩
    refine ⟨_, rfl, r, _, 1, _, rfl, rfl, SqT.of hx, rfl, m, rfl, hS, fun H1 s1 => ⟨_, rfl, ite2 (fun _ => ?_) fun h => absurd rfl h⟩⟩
    exact ⟨_, rfl, r, _, 2, _, rfl, rfl, SqT.of (s1 _ _ hx), rfl, _, rfl, _, _, rfl, rfl, t, 0, n - 1, rfl, t0, by omega, k _ s1⟩
theorem same_put {H H' : Hp} {D : Addr} {o : HO} (sm : Same H H') (hD : H D = none) : Same H (upd H' D o) := fun b x z => by
  rw [upd_ne (ne_of_none z hD)]
  exact sm _ _ z
def PlOk (n : Int) (ns : List Int) : Prop := (∀ i ∈ ns, 0 ≤ i ∧ i < n) ∧ ns.Pairwise (· < ·) ∧ ns.length ≤ 60
def spPlaces : Sp := fun vs H Q _ => ∃ (r : Addr) (ns : List Int) (n : Int), vs = [.ref r, .int n] ∧ H r = some (.tup (ns.map V.int)) ∧ PlOk n ns ∧ ∀ H', Same H H' → Q (.bl true) H'
theorem ok_places (T : Txt K mg a) : FnOk P w K mg base CX0 3 a.f_are_places a.d_are_places ["thing", "many"] spPlaces := by
  have G_is_within : FnOk P w K mg base CX0 2 _ _ _ spWithin := ok_within T
  have G_is_rising : FnOk P w K mg base CX0 2 _ _ _ (spRiseI K) := (ok_riseI T).mono (by decide)
  refine T.F_are_places.ok sc_are_places (fun vs H Q E h => ?_) (fun cdv A outer s H vs Q E hr h => ?_)
  · obtain ⟨r, xs, n, rfl, _⟩ := h
    rfl
  · obtain ⟨r, ns, n, rfl, hx, ⟨h1, h2, h3⟩, k⟩ := h
    have hsz : 10000 ≤ sizeLine := by decide
    refine ⟨_, (pss_one (ps_ret (pe_and (pe_callB isi_any (by rfl) T.n_isinstance (by decide +kernel) (pa_nam (pv 0) (pa_nam (pe_bltn (by rfl) T.n_tuple (by decide +kernel) (v := .ty "tuple") rfl) pa_nil))) (pe_and (pe_callB (cr_all rfl) (by rfl) T.n_all (by decide +kernel) (pa_lcm (pe_lc (own := [("one", 2)]) (g := gName 2) (by rfl) sc_are_places.nd (pi_tup (pv 0)) (blkOk_by (own := [("one", 2)]) (N := ["thing", "many", "one"]) (sc := defScope s_are_places) (by decide +kernel)) (fun _ _ _ _ _ => (pg_name (i := 2) sc_are_places.nd rfl (Or.inl rfl))) (fun _ _ _ _ _ => pts_nil) (fun _ _ _ _ _ => (pe_call G_is_within hr rfl T.m_is_within T.k_is_within T.b_is_within .nil pass0 (pa_nam (pv 2) (pa_con pe_int (pa_bin (pe_op op_sub (pv 1) pe_int) pa_nil)))))) pa_nil)) (pe_one (pe_call G_is_rising hr rfl T.m_is_rising T.k_is_rising T.b_is_rising .nil pass0 (pa_nam (pv 0) pa_nil))))))), ?_⟩
    refine ⟨_, rfl, _, _, _, _, _, rfl, .tup hx, rfl, T.ki_tuple_tuple, _, rfl, ite2 (fun _ => ?_) fun h => absurd rfl h⟩
    refine ⟨_, rfl, r, rfl, ⟨_, SqT.of hx⟩, fun D hD => ?_⟩
    refine lc_by (walk_tup (ns.map V.int)) (fun i H' => Same H H' ∧ H' D = some (.lst (List.replicate i (V.bl true)))) ⟨Same.new hD, upd_same⟩ (fun _ H' _ hv => SqT.of (hv.1 _ _ hx)) ?_ ?_
    · rintro i x H' hx' ⟨sm, hDD⟩
      rw [List.getElem?_map] at hx'
      cases e : ns[i]? with
      | none => rw [e] at hx'; cases hx'
      | some v =>
        rw [e] at hx'
        obtain rfl : x = V.int v := (Option.some.inj hx').symm
        have hv := h1 v (List.mem_of_getElem? e)
        have hi := (List.getElem?_eq_some_iff.mp e).1
        refine ⟨rfl, ?_⟩
        exact ⟨_, rfl, _, rfl, _, _, rfl, rfl, v, 0, n - 1, rfl, hv.1, by omega, _, hDD, by rw [List.length_replicate]; omega, same_put sm hD, acc_rep _ _ _⟩
    · rintro H' ⟨sm, hDD⟩
      refine ⟨D, List.replicate _ true, rfl, SqL.of (by rw [rep_bl]; exact hDD), ?_⟩
      rw [all_true]
      refine ⟨_, rfl, ite2 (fun _ => ?_) fun h => absurd rfl h⟩
      exact ⟨_, rfl, r, ns, rfl, SqT.of (sm _ _ hx), by omega, h2, fun H2 s2 => k _ (sm.trans s2)⟩
end
end K33
set_option Elab.async false
set_option linter.all false
set_option maxRecDepth 100000
namespace K33
open PySem PySem.Spec PyProof.Rows L2
section
variable {P : Program} {w : World} {K : PySem.W.Frag} {mg : Str → Option Value} {base : Heap} {a : Ad}
set_option maxHeartbeats 4000000
theorem sc_by {J : It} {S : Hp → Prop} {xs : List V} {g : TG} {tt : TT} {em : Addr → TM} {vs : List Nat} {σ : L2.St} {H1 : Hp} {D : Addr} {Qd : Hp → Prop} (hW : Walk J S xs) (Pv : Nat → Hp → Prop) (h0 : Pv 0 (upd H1 D (.ext (SetB D [] 0)))) (hS : ∀ i H, i ≤ xs.length → Pv i H → S H)
    (hs : ∀ i x H, xs[i]? = some x → Pv i H → g x (wipe σ vs) H fun σ2 H2 => tt σ2 H2 fun b H3 => if b = true then em D σ2 H3 (fun σ4 H4 => wipe σ4 vs = wipe σ vs ∧ Pv (i + 1) H4) else wipe σ2 vs = wipe σ vs ∧ Pv (i + 1) H3) (hd : ∀ H, Pv xs.length H → Qd H) :
    ∃ W : Nat → Nat → Hp → Prop, (∃ m, W 0 m (upd H1 D (.ext (SetB D [] 0)))) ∧ ∀ i m H, W i m H →
      (J.stop i H ∧ Qd H) ∨ (J.go i H ∧ ∃ Nx : Hp → Prop, (∀ H', Nx H' → ∃ m', m' < m ∧ W (i + 1) m' H') ∧ ∀ x H', J.yld i H x H' → g x (wipe σ vs) H' fun σ2 H2 => tt σ2 H2 fun b H3 =>
        if b = true then em D σ2 H3 (fun σ4 H4 => wipe σ4 vs = wipe σ vs ∧ Nx H4) else wipe σ2 vs = wipe σ vs ∧ Nx H3) := by
  refine ⟨fun i m H => m = xs.length - i ∧ i ≤ xs.length ∧ Pv i H, ⟨_, rfl, Nat.zero_le _, h0⟩, ?_⟩
  rintro i m H ⟨rfl, hi, p⟩
  by_cases hlt : i < xs.length
  · have hx : xs[i]? = some xs[i] := by simp [hlt]
    obtain ⟨hg, hy⟩ := (hW i H (hS i H hi p)).1 _ hx
    refine .inr ⟨hg, Pv (i + 1), fun H' p' => ⟨xs.length - (i + 1), by omega, rfl, hlt, p'⟩, fun v H' yl => ?_⟩
    obtain ⟨rfl, rfl⟩ := hy v H' yl
    exact hs i _ _ hx p
  · have e : i = xs.length := by omega
    subst e
    exact .inl ⟨(hW _ H (hS _ H hi p)).2 (Nat.le_refl _), hd H p⟩
def keyR (xs : List V) : List V := [xs.getD 0 .non, xs.getD 2 .non]
def StsOk (H : Hp) (n : Int) (L : List (Addr × List V)) : Prop := L.length ≤ 60 ∧ (∀ x ∈ L, H x.1 = some (.tup x.2) ∧ StOk n x.2) ∧ L.Pairwise (fun x y => lexV x.2 y.2 = true) ∧ L.Pairwise fun x y => keyR x.2 ≠ keyR y.2
theorem StsOk.mv {H H' : Hp} {n : Int} {L : List (Addr × List V)} (h : StsOk H n L) (s : Same H H') : StsOk H' n L := ⟨h.1, fun x hx => ⟨s _ _ (h.2.1 x hx).1, (h.2.1 x hx).2⟩, h.2.2⟩
abbrev refL (L : List (Addr × List V)) : List V := L.map fun x : Addr × List V => V.ref x.1
def spSteps : Sp := fun vs H Q _ => ∃ (r : Addr) (L : List (Addr × List V)) (n : Int), vs = [.ref r, .int n] ∧ H r = some (.tup (refL L)) ∧ StsOk H n L ∧ ∀ H', Same H H' → Q (.bl true) H'
theorem ok_steps (T : Txt K mg a) : FnOk P w K mg base CX0 4 a.f_are_steps a.d_are_steps ["thing", "many"] spSteps := by
  have G_is_step : FnOk P w K mg base CX0 3 _ _ _ spStep := ok_step T
  have G_is_rising : FnOk P w K mg base CX0 3 _ _ _ (spRiseR K) := (ok_riseR T).mono (by decide)
  refine T.F_are_steps.ok sc_are_steps (fun vs H Q E h => ?_) (fun cdv A outer s H vs Q E hr h => ?_)
  · obtain ⟨r, xs, n, rfl, _⟩ := h
    rfl
  · obtain ⟨r, L, n, rfl, hx, hS, k⟩ := h
    have hsz : 10000 ≤ sizeLine := by decide
    have hl := hS.1
    have hu := hu_of hr
    refine ⟨_, (pss_cons (ps_if (PW.pt (pw_or (pt_not (pt_val (pe_callB isi_any (by rfl) T.n_isinstance (by decide +kernel) (pa_nam (pv 0) (pa_nam (pe_bltn (by rfl) T.n_tuple (by decide +kernel) (v := .ty "tuple") rfl) pa_nil))))) (pw_or1 (pt_not (pt_val (pe_callB (cr_all rfl) (by rfl) T.n_all (by decide +kernel) (pa_lcm (pe_lc (own := [("one", 2)]) (g := gName 2) (by rfl) sc_are_steps.nd (pi_tup (pv 0)) (blkOk_by (own := [("one", 2)]) (N := ["thing", "many", "one", "place", "signs", "target"]) (sc := defScope s_are_steps) (by decide +kernel)) (fun _ _ _ _ _ => (pg_name (i := 2) sc_are_steps.nd rfl (Or.inl rfl))) (fun _ _ _ _ _ => pts_nil) (fun _ _ _ _ _ => (pe_call G_is_step hr rfl T.m_is_step T.k_is_step T.b_is_step .nil pass0 (pa_nam (pv 2) (pa_nam (pv 1) pa_nil))))) pa_nil)))))))
 (pss_one (ps_ret pe_bl))
 pss_nil)
 (pss_one (ps_ret (pe_and (pe_call G_is_rising hr rfl T.m_is_rising T.k_is_rising T.b_is_rising .nil pass0 (pa_nam (pv 0) pa_nil)) (pe_one (pe_cmpR op_eq (pe_callB call_len_setB (by rfl) T.n_len (by decide +kernel) (pa_scm (pe_sc (own := [("place", 3), ("signs", 4), ("target", 5)]) (g := gTup K 3 (gCons (gName 3) (gCons (gName 4) (gCons (gName 5) gNil)))) hu (by rfl) sc_are_steps.nd (pi_tup (pv 0)) (blkOk_by (own := [("place", 3), ("signs", 4), ("target", 5)]) (N := ["thing", "many", "one", "place", "signs", "target"]) (sc := defScope s_are_steps) (by decide +kernel)) (fun _ _ _ _ _ => (show PG _ _ (gTup K 3 (gCons (gName 3) (gCons (gName 4) (gCons (gName 5) gNil)))) from pg_tup rfl (pgs_cons (pg_name (i := 3) sc_are_steps.nd rfl (Or.inl rfl)) (pgs_cons (pg_name (i := 4) sc_are_steps.nd rfl (Or.inl rfl)) (pgs_cons (pg_name (i := 5) sc_are_steps.nd rfl (Or.inl rfl)) pgs_nil))))) (fun _ _ _ _ _ => pts_nil) (fun _ _ _ _ _ => (pe_tup (pa_nam (pv 3) (pa_nam (pv 5) pa_nil))))) pa_nil)) (pe_callB call_len_seq (by rfl) T.n_len (by decide +kernel) (pa_nam (pv 0) pa_nil)) (nomark _))))))), ?_⟩
    refine ⟨_, rfl, _, _, _, _, _, rfl, .tup hx, rfl, T.ki_tuple_tuple, _, rfl, ite2 (fun h => by cases h) fun _ => ?_⟩
    refine ⟨_, rfl, r, rfl, ⟨_, SqT.of hx⟩, fun D hD => ?_⟩
    refine lc_by (walk_tup (refL L)) (fun i H' => Same H H' ∧ H' D = some (.lst (List.replicate i (V.bl true)))) ⟨Same.new hD, upd_same⟩ (fun _ H' _ hv => SqT.of (hv.1 _ _ hx)) ?_ ?_
    · rintro i x H' hx' ⟨sm, hDD⟩
      rw [List.getElem?_map] at hx'
      cases e : L[i]? with
      | none => rw [e] at hx'; cases hx'
      | some v =>
        rw [e] at hx'
        obtain rfl : x = V.ref v.1 := (Option.some.inj hx').symm
        obtain ⟨hv, ho⟩ := hS.2.1 v (List.mem_of_getElem? e)
        have hi := (List.getElem?_eq_some_iff.mp e).1
        refine ⟨rfl, ?_⟩
        exact ⟨_, rfl, _, rfl, v.1, v.2, n, rfl, sm _ _ hv, ho, fun H3 s3 => ⟨_, s3 _ _ hDD, by rw [List.length_replicate]; omega, same_put (sm.trans s3) hD, acc_rep _ _ _⟩⟩
    rintro H1 ⟨s1, hDD⟩
    refine ⟨D, List.replicate _ true, rfl, SqL.of (by rw [rep_bl]; exact hDD), ?_⟩
    rw [all_true]
    refine ⟨_, rfl, ite2 (fun h => by cases h) fun _ => ?_⟩
    have hx1 := s1 _ _ hx
    have hS1 := hS.mv s1
    refine ⟨_, rfl, r, L, [some true, some false, some true], rfl, SqT.of hx1, by omega, by decide, fun x hx => ⟨SqT.of (hS1.2.1 x hx).1, ?_⟩, hS.2.2.1, fun H2 s2 => ⟨_, rfl, ite2 (fun _ => ?_) fun h => absurd rfl h⟩⟩
    · obtain ⟨p, m, t, e, _⟩ := (hS1.2.1 x hx).2
      rw [e]
      rfl
    have hx2 := s2 _ _ hx1
    have hS2 := hS1.mv s2
    refine ⟨_, rfl, r, rfl, ⟨_, SqT.of hx2⟩, fun D2 hD2 => ?_⟩
    refine sc_by (em := fun D => tAddS D (tTup (tCons (tVar 3) (tCons (tVar 5) tNil)))) (tt := tYes) (walk_tup (K := K) (refL L)) (fun i H' => Same H2 H' ∧ ∃ ps, H' D2 = some (.ext (SetB D2 ps i)) ∧ ∀ p ∈ ps, ∃ (k : List Key) (j : Nat) (x : Addr × List V), L[j]? = some x ∧ j < i ∧ H' p = some (.tup (k.map kV)) ∧ k.map kV = keyR x.2) ⟨Same.new hD2, [], upd_same, fun p h => by cases h⟩ (fun _ H' _ hv => SqT.of (hv.1 _ _ hx2)) ?_ ?_
    · rintro i x H' hx' ⟨sm, ps, hDD, hps⟩
      rw [List.getElem?_map] at hx'
      cases e : L[i]? with
      | none => rw [e] at hx'; cases hx'
      | some v =>
        rw [e] at hx'
        obtain rfl : x = V.ref v.1 := (Option.some.inj hx').symm
        obtain ⟨hv, p, m, t, ev, _⟩ := hS2.2.1 v (List.mem_of_getElem? e)
        have hi := (List.getElem?_eq_some_iff.mp e).1
        have hv' := sm _ _ hv
        rw [ev] at hv'
        refine ⟨v.1, _, rfl, SqT.of hv', rfl, _, _, rfl, _, _, rfl, _, _, rfl, rfl, ?_⟩
        have dist : ∀ (j : Nat) (x : Addr × List V), L[j]? = some x → j < i → keyR x.2 ≠ keyR v.2 := fun j x hj hji z => by
          obtain ⟨l1, e1⟩ := List.getElem?_eq_some_iff.mp hj
          obtain ⟨l2, e2⟩ := List.getElem?_eq_some_iff.mp e
          have := List.pairwise_iff_getElem.mp hS.2.2.2 j i l1 l2 hji
          rw [e1, e2] at this
          exact this z
        have kv : [V.int p, V.int t] = keyR v.2 := by rw [ev]; rfl
        refine ⟨_, rfl, _, rfl, by show 2 ≤ sizeLine; omega, fun q hq => ?_⟩
        have sq : Same H' (upd H' q (.tup [V.int p, V.int t])) := Same.new hq
        have qD : q ≠ D2 := fun z => by rw [z, hDD] at hq; cases hq
        refine ⟨q, [.inl p, .inl t], ps, i, rfl, upd_same, sq _ _ hDD, fun p' hp' => ?_, by omega, rfl, acc_same sm hq hD2, ps ++ [q], upd_same, fun p' hp' => ?_⟩
        · obtain ⟨k', j, x, hj, hji, hk, ek⟩ := hps p' hp'
          exact ⟨k', sq _ _ hk, fun z => dist j x hj hji (by rw [← ek, z]; exact kv)⟩
        · rcases List.mem_append.mp hp' with h | h
          · obtain ⟨k', j, x, hj, hji, hk, ek⟩ := hps p' h
            have pD : p' ≠ D2 := ne_of hk hDD (by intro z; cases z)
            exact ⟨k', j, x, hj, by omega, (upd_ne pD).trans (sq _ _ hk), ek⟩
          · obtain rfl : p' = q := by simpa using h
            exact ⟨[.inl p, .inl t], i, v, e, by omega, (upd_ne qD).trans upd_same, kv⟩
    · rintro H3 ⟨sm, ps, hDD, _⟩
      refine ⟨D2, ps, _, rfl, hDD, by rw [List.length_map]; omega, _, rfl, r, _, rfl, .inr (SqT.of (sm _ _ hx2)), rfl, ?_⟩
      show Q (.bl (decide (V.int _ = V.int _))) H3
      rw [decide_eq_true rfl]
      exact k _ (s1.trans (s2.trans sm))
end
end K33
set_option Elab.async false
set_option linter.all false
set_option maxRecDepth 100000
namespace K33
open PySem PySem.Spec PyProof.Rows L2
section
variable {P : Program} {w : World} {K : PySem.W.Frag} {mg : Str → Option Value} {base : Heap} {a : Ad}
set_option maxHeartbeats 4000000
def spFw : Sp := fun vs H Q _ => ∃ (n : Int) (rb rs re : Addr) (bs es : List Int) (L : List (Addr × List V)), vs = [.int n, .ref rb, .ref rs, .ref re] ∧ 0 ≤ n ∧ H rb = some (.tup (bs.map V.int)) ∧ H rs = some (.tup (refL L)) ∧ H re = some (.tup (es.map V.int)) ∧
  PlOk n bs ∧ StsOk H n L ∧ PlOk n es ∧ ∀ H', Same H H' → Q .non H'
theorem ok_fw (T : Txt K mg a) : FnOk P w K mg base CX0 5 a.f_first_wrong a.d_first_wrong ["many", "begins", "steps", "ends"] spFw := by
  have G_is_whole : FnOk P w K mg base CX0 4 _ _ _ spWhole := (ok_whole T).mono (by decide)
  have G_are_places : FnOk P w K mg base CX0 4 _ _ _ spPlaces := (ok_places T).mono (by decide)
  have G_are_steps : FnOk P w K mg base CX0 4 _ _ _ spSteps := ok_steps T
  refine T.F_first_wrong.ok sc_first_wrong (fun vs H Q E h => ?_) (fun cdv A outer s H vs Q E hr h => ?_)
  · obtain ⟨n, rb, rs, re, bs, es, L, rfl, _⟩ := h
    rfl
  · obtain ⟨n, rb, rs, re, bs, es, L, rfl, h0, hb, hs, he, pb, ps, pe, k⟩ := h
    refine ⟨_, (pss_cons (ps_if (PW.pt (pw_or (pt_not (pt_val (pe_call G_is_whole hr rfl T.m_is_whole T.k_is_whole T.b_is_whole .nil pass0 (pa_nam (pv 0) pa_nil)))) (pw_or1 (pt_cmpR op_lt (pv 0) pe_int (nomark _)))))
 (pss_one (ps_ret pe_str))
 pss_nil)
 (pss_cons (ps_if (pt_not (pt_val (pe_call G_are_places hr rfl T.m_are_places T.k_are_places T.b_are_places .nil pass0 (pa_nam (pv 1) (pa_nam (pv 0) pa_nil)))))
 (pss_one (ps_ret pe_str))
 pss_nil)
 (pss_cons (ps_if (pt_not (pt_val (pe_call G_are_steps hr rfl T.m_are_steps T.k_are_steps T.b_are_steps .nil pass0 (pa_nam (pv 2) (pa_nam (pv 0) pa_nil)))))
 (pss_one (ps_ret pe_str))
 pss_nil)
 (pss_cons (ps_if (pt_not (pt_val (pe_call G_are_places hr rfl T.m_are_places T.k_are_places T.b_are_places .nil pass0 (pa_nam (pv 3) (pa_nam (pv 0) pa_nil)))))
 (pss_one (ps_ret pe_str))
 pss_nil)
 (pss_one (ps_ret pe_non)))))), ?_⟩
    refine ⟨_, rfl, n, rfl, _, rfl, ite2 (fun h => by cases h) fun _ => ?_⟩
    refine ⟨_, rfl, _, _, rfl, rfl, _, rfl, ite2 (fun h => absurd (of_decide_eq_true h) (by omega)) fun _ => ?_⟩
    refine ⟨_, rfl, _, rfl, rb, bs, n, rfl, hb, pb, fun H1 s1 => ⟨_, rfl, ite2 (fun h => by cases h) fun _ => ?_⟩⟩
    refine ⟨_, rfl, _, rfl, rs, L, n, rfl, s1 _ _ hs, ps.mv s1, fun H2 s2 => ⟨_, rfl, ite2 (fun h => by cases h) fun _ => ?_⟩⟩
    refine ⟨_, rfl, _, rfl, re, es, n, rfl, s2 _ _ (s1 _ _ he), pe, fun H3 s3 => ⟨_, rfl, ite2 (fun h => by cases h) fun _ => ?_⟩⟩
    exact k _ ((s1.trans s2).trans s3)
def MaAt (C : Addr) (H : Hp) (y : Addr) (n : Int) (bs es : List Int) (L : List (Addr × List V)) : Prop := ∃ dx rb rs re, H y = some (.ins C dx [("many", .int n), ("begins", .ref rb), ("steps", .ref rs), ("ends", .ref re)]) ∧
  H rb = some (.tup (bs.map V.int)) ∧ H rs = some (.tup (refL L)) ∧ H re = some (.tup (es.map V.int)) ∧ ∀ x ∈ L, H x.1 = some (.tup x.2)
theorem MaAt.mv {C : Addr} {H H' : Hp} {y : Addr} {n : Int} {bs es : List Int} {L : List (Addr × List V)} (h : MaAt C H y n bs es L) (s : Same H H') : MaAt C H' y n bs es L := by
  obtain ⟨dx, rb, rs, re, h1, h2, h3, h4, h5⟩ := h
  exact ⟨dx, rb, rs, re, s _ _ h1, s _ _ h2, s _ _ h3, s _ _ h4, fun x hx => s _ _ (h5 x hx)⟩
def spMi (C : Addr) : Sp := fun vs H Q _ => ∃ (y dx : Addr) (n : Int) (rb rs re : Addr) (bs es : List Int) (L : List (Addr × List V)), vs = [.ref y, .int n, .ref rb, .ref rs, .ref re] ∧ H y = some (.ins C dx []) ∧ 0 ≤ n ∧ H rb = some (.tup (bs.map V.int)) ∧ H rs = some (.tup (refL L)) ∧ H re = some (.tup (es.map V.int)) ∧
  PlOk n bs ∧ StsOk H n L ∧ PlOk n es ∧ ∀ H', MaAt C H' y n bs es L → (∀ b o, H b = some o → b ≠ y → H' b = some o) → Q .non H'
theorem ok_minit (T : Txt K mg a) : FnOk P w K mg base CX0 6 a.f_Machine_init a.d_Machine_init ["self", "many", "begins", "steps", "ends"] (spMi a.C_Machine) := by
  have G_first_wrong : FnOk P w K mg base CX0 5 _ _ _ spFw := ok_fw T
  refine T.F_Machine_init.ok sc_Machine_init (fun vs H Q E h => ?_) (fun cdv A outer s H vs Q E hr h => ?_)
  · obtain ⟨y, dx, n, rb, rs, re, bs, es, L, rfl, _⟩ := h
    rfl
  · obtain ⟨y, dx, n, rb, rs, re, bs, es, L, rfl, hy, h0, hb, hs, he, pb, ps, pe, k⟩ := h
    refine ⟨_, (pss_cons (ps_set (i := 5) sc_Machine_init.nd rfl (Or.inl rfl) (pe_call G_first_wrong hr rfl T.m_first_wrong T.k_first_wrong T.b_first_wrong .nil pass0 (pa_nam (pv 1) (pa_nam (pv 2) (pa_nam (pv 3) (pa_nam (pv 4) pa_nil))))))
 (pss_cons (ps_if (pt_cmp (pc_notN (pv 5)))
 (pss_one ps_never)
 pss_nil)
 (pss_cons (ps_fld (pv 0) (pv 1) rfl)
 (pss_cons (ps_fld (pv 0) (pv 2) rfl)
 (pss_cons (ps_fld (pv 0) (pv 3) rfl)
 (pss_one (ps_fld (pv 0) (pv 4) rfl))))))), ?_⟩
    refine ⟨_, rfl, _, rfl, _, rfl, _, rfl, n, rb, rs, re, bs, es, L, rfl, h0, hb, hs, he, pb, ps, pe, fun H1 s1 => ?_⟩
    refine ⟨_, rfl, _, rfl, ite2 (fun h => by cases h) fun _ => ?_⟩
    have hy1 := s1 _ _ hy
    refine ⟨_, rfl, _, rfl, y, a.C_Machine, dx, _, rfl, hy1, T.cl_Machine, T.na_Machine_many, by show 0 < 1000; decide, ?_⟩
    have u0 : upd H1 y (.ins a.C_Machine dx [("many", .int n)]) y = some (.ins a.C_Machine dx [("many", .int n)]) := upd_same
    refine ⟨_, rfl, _, rfl, y, a.C_Machine, dx, [("many", .int n)], rfl, u0, T.cl_Machine, T.na_Machine_begins, by show 1 < 1000; decide, ?_⟩
    have o1 : ∀ b o, H b = some o → b ≠ y → upd (upd H1 y (.ins a.C_Machine dx [("many", .int n)])) y (.ins a.C_Machine dx [("many", .int n), ("begins", .ref rb)]) b = some o := fun b o z m => (upd_ne m).trans ((upd_ne m).trans (s1 _ _ z))
    have u1 : upd (upd H1 y (.ins a.C_Machine dx [("many", .int n)])) y (.ins a.C_Machine dx [("many", .int n), ("begins", .ref rb)]) y = some (.ins a.C_Machine dx [("many", .int n), ("begins", .ref rb)]) := upd_same
    refine ⟨_, rfl, _, rfl, y, a.C_Machine, dx, [("many", .int n), ("begins", .ref rb)], rfl, u1, T.cl_Machine, T.na_Machine_steps, by show 2 < 1000; decide, ?_⟩
    have u2 : upd (upd (upd H1 y (.ins a.C_Machine dx [("many", .int n)])) y (.ins a.C_Machine dx [("many", .int n), ("begins", .ref rb)])) y (.ins a.C_Machine dx [("many", .int n), ("begins", .ref rb), ("steps", .ref rs)]) y = some (.ins a.C_Machine dx [("many", .int n), ("begins", .ref rb), ("steps", .ref rs)]) := upd_same
    refine ⟨_, rfl, _, rfl, y, a.C_Machine, dx, [("many", .int n), ("begins", .ref rb), ("steps", .ref rs)], rfl, u2, T.cl_Machine, T.na_Machine_ends, by show 3 < 1000; decide, ?_⟩
    have kk : ∀ b o, H b = some o → b ≠ y → upd (upd (upd (upd H1 y (.ins a.C_Machine dx [("many", .int n)])) y (.ins a.C_Machine dx [("many", .int n), ("begins", .ref rb)])) y (.ins a.C_Machine dx [("many", .int n), ("begins", .ref rb), ("steps", .ref rs)])) y (.ins a.C_Machine dx [("many", .int n), ("begins", .ref rb), ("steps", .ref rs), ("ends", .ref re)]) b = some o := fun b o z m => (upd_ne m).trans ((upd_ne m).trans (o1 _ _ z m))
    have ny : ∀ (b : Addr) (xs : List V), H b = some (.tup xs) → b ≠ y := fun b xs z => ne_of z hy (by intro q; cases q)
    exact k _ ⟨dx, rb, rs, re, upd_same, kk _ _ hb (ny _ _ hb), kk _ _ hs (ny _ _ hs), kk _ _ he (ny _ _ he), fun x hx => kk _ _ (ps.2.1 x hx).1 (ny _ _ (ps.2.1 x hx).1)⟩ kk
end
end K33
set_option Elab.async false
set_option linter.all false
set_option maxRecDepth 100000
namespace K33
open PySem PySem.Spec PyProof.Rows L2
section
variable {P : Program} {w : World} {K : PySem.W.Frag} {mg : Str → Option Value} {base : Heap} {a : Ad}
set_option maxHeartbeats 4000000
theorem ins_in {H : Hp} {x dx C : Addr} (n1 : H x = none) (n2 : H dx = none) : Same H (upd (upd H dx (.own x)) x (.ins C dx [])) := fun b o e => by
  rw [upd_ne (ne_of_none e n1), upd_ne (ne_of_none e n2)]; exact e
theorem mk_same {H : Hp} {x dx : Addr} {H' : Hp} {C : Addr} (n1 : H x = none) (n2 : H dx = none) (f : ∀ b o, upd (upd H dx (.own x)) x (.ins C dx []) b = some o → b ≠ x → H' b = some o) : Same H H' := fun b o e => by
  have h1 : b ≠ x := ne_of_none e n1
  have h2 : b ≠ dx := ne_of_none e n2
  exact f b o (by rw [upd_ne h1, upd_ne h2]; exact e) h1
def RwAt (H : Hp) (p : Addr) (n : Int) (bs es : List Int) (L : List (Addr × List V)) : Prop := ∃ rb rs re, H p = some (.tup [.int n, .ref rb, .ref rs, .ref re]) ∧
  H rb = some (.tup (bs.map V.int)) ∧ H rs = some (.tup (refL L)) ∧ H re = some (.tup (es.map V.int)) ∧ ∀ x ∈ L, H x.1 = some (.tup x.2)
theorem RwAt.mv {H H' : Hp} {p : Addr} {n : Int} {bs es : List Int} {L : List (Addr × List V)} (h : RwAt H p n bs es L) (s : Same H H') : RwAt H' p n bs es L := by
  obtain ⟨rb, rs, re, h1, h2, h3, h4, h5⟩ := h
  exact ⟨rb, rs, re, s _ _ h1, s _ _ h2, s _ _ h3, s _ _ h4, fun x hx => s _ _ (h5 x hx)⟩
def spMade (C : Addr) : Sp := fun vs H Q _ => ∃ (p : Addr) (n : Int) (bs es : List Int) (L : List (Addr × List V)), vs = [.ref p] ∧ RwAt H p n bs es L ∧ 0 ≤ n ∧ PlOk n bs ∧ StsOk H n L ∧ PlOk n es ∧ ∀ y H', MaAt C H' y n bs es L → Same H H' → Q (.ref y) H'
theorem ok_made (T : Txt K mg a) : FnOk P w K mg base CX0 8 a.f__law_made a.d__law_made ["_law_raw_here"] (spMade a.C_Machine) := by
  have G_Machine_init : FnOk P w K mg base CX0 6 _ _ _ (spMi a.C_Machine) := ok_minit T
  refine T.F__law_made.ok sc__law_made (fun vs H Q E h => ?_) (fun cdv A outer s H vs Q E hr h => ?_)
  · obtain ⟨p, n, bs, es, L, rfl, _⟩ := h
    rfl
  · obtain ⟨p, n, bs, es, L, rfl, hp, h0, pb, ps, pe, k⟩ := h
    obtain ⟨rb, rs, re, hp, hb, hs, he, hL⟩ := hp
    refine ⟨_, (pss_one (ps_ret (pe_make T.mk_Machine G_Machine_init hr rfl T.m_Machine T.b_Machine_init T.dv_Machine_init pass0 (pa_sub (pe_ix ix_tup (pv 0) pe_int (fun _ _ => rfl)) (pa_sub (pe_ix ix_tup (pv 0) pe_int (fun _ _ => rfl)) (pa_sub (pe_ix ix_tup (pv 0) pe_int (fun _ _ => rfl)) (pa_sub (pe_ix ix_tup (pv 0) pe_int (fun _ _ => rfl)) pa_nil))))))), ?_⟩
    refine ⟨_, rfl, p, _, 0, _, rfl, rfl, SqT.of hp, rfl, _, rfl, p, _, 1, _, rfl, rfl, SqT.of hp, rfl, _, rfl, p, _, 2, _, rfl, rfl, SqT.of hp, rfl, _, rfl, p, _, 3, _, rfl, rfl, SqT.of hp, rfl, ?_⟩
    intro y dx n1 n2 n3
    have si := ins_in (C := a.C_Machine) n1 n2
    refine ⟨y, dx, n, rb, rs, re, bs, es, L, rfl, upd_same, h0, si _ _ hb, si _ _ hs, si _ _ he, pb, ps.mv si, pe, fun H' hM f => ⟨rfl, ?_⟩⟩
    exact k y H' hM (mk_same n1 n2 f)
end
end K33
set_option Elab.async false
set_option linter.all false
set_option maxRecDepth 100000
namespace K33
open PySem PySem.Spec PyProof.Rows L2
section
variable {P : Program} {w : World} {K : PySem.W.Frag} {mg : Str → Option Value} {base : Heap} {a : Ad}
set_option maxHeartbeats 4000000
def sgV (c : Nat) : V := .str ⟨#[c]⟩
theorem sub_step {α : Type} {l xs : List α} {i : Nat} {c : α} (h : l.Sublist (xs.take i)) (e : xs[i]? = some c) : (l ++ [c]).Sublist (xs.take (i + 1)) ∧ l.Sublist (xs.take (i + 1)) := by
  have e2 : xs.take (i + 1) = xs.take i ++ [c] := by rw [List.take_succ, e]; rfl
  rw [e2]
  exact ⟨h.append (List.Sublist.refl _), h.trans (List.sublist_append_left _ _)⟩
theorem sub_len {α : Type} {l xs : List α} {i : Nat} (h : l.Sublist (xs.take i)) : l.length ≤ xs.length := Nat.le_trans h.length_le (by rw [List.length_take]; omega)
theorem feed_put {H H' : Hp} {f D : Addr} {d : Fd} {n m : Nat} {o : HO} (F : FeedC H f d n) (hD : H D = none) (F' : FeedC H' f d m) : FeedC (upd H' D o) f d m := by
  obtain ⟨a, l, h1, h2, h3⟩ := F
  obtain ⟨a', l', g1, g2, g3⟩ := F'
  exact ⟨a', l', (upd_ne (ne_of_none h1 hD)).trans g1, (upd_ne (ne_of_none h2 hD)).trans g2, g3⟩
theorem kp_put {H H' H3 : Hp} {f D : Addr} {o : HO} (k : Kp f H H') (k3 : Kp f H' H3) (hD : H D = none) : Kp f H (upd H3 D o) := fun b x z n => (upd_ne (ne_of_none z hD)).trans (k3 _ _ (k _ _ z n) n)
def spSomeS : Sp := fun vs H Q _ => ∃ (f : Addr) (m : Str) (d : Fd) (n : Nat), vs = [.ref f, .str m] ∧ m.length ≤ 100 ∧ FeedC H f d n ∧ n + 100 < 1000000 ∧
  ∀ (q : Addr) (l : List Nat) (H' : Hp), l.Sublist m.cps.toList → H' q = some (.lst (l.map sgV)) → q ≠ f → FeedC H' f d (n + m.length) → Kp f H H' → Q (.ref q) H'
theorem ok_someS (T : Txt K mg a) : FnOk P w K mg base CX0 2 a.f__law_some a.d__law_some ["_law_feed_here", "_law_things"] spSomeS := by
  have G__law_draw : FnOk P w K mg base CX0 1 _ _ _ spDrawC := ok_draw T
  refine T.F__law_some.ok sc__law_some (fun vs H Q E h => ?_) (fun cdv A outer s H vs Q E hr h => ?_)
  · obtain ⟨f, m, d, n, rfl, _⟩ := h
    rfl
  · obtain ⟨f, m, d, n, rfl, hl, F, hn, k⟩ := h
    have hsz : 10000 ≤ sizeLine := by decide
    have hl2 : m.cps.toList.length ≤ 100 := by simpa [PySem.Str.length] using hl
    have hl3 : m.cps.toList.length = m.length := by simp [PySem.Str.length]
    refine ⟨_, (pss_one (ps_ret (pe_lc (own := [("_law_thing", 2)]) (g := gName 2) (by rfl) sc__law_some.nd (pi_str (pv 1)) (blkOk_by (own := [("_law_thing", 2)]) (N := ["_law_feed_here", "_law_things", "_law_thing"]) (sc := defScope s__law_some) (by decide +kernel)) (fun _ _ _ _ _ => (pg_name (i := 2) sc__law_some.nd rfl (Or.inl rfl))) (fun _ _ _ _ _ => (pts_one (pt_cmpR op_eq (pe_call G__law_draw hr rfl T.m__law_draw T.k__law_draw T.b__law_draw .nil pass0 (pa_nam (pv 0) (pa_con pe_int pa_nil))) pe_int (nomark _)))) (fun _ _ _ _ _ => (pv 2))))), ?_⟩
    refine ⟨_, rfl, m, rfl, fun D hD => ?_⟩
    have Df : D ≠ f := F.ne_f hD
    refine lc_by (walk_str m) (fun i H' => FeedC H' f d (n + i) ∧ Kp f H H' ∧ ∃ l : List Nat, l.Sublist (m.cps.toList.take i) ∧ H' D = some (.lst (l.map sgV))) ⟨F.same (Same.new hD), Kp.new hD, [], List.nil_sublist _, upd_same⟩ (fun _ _ _ _ => trivial) ?_ ?_
    · rintro i x H' hx ⟨F', k', l, hs, hDD⟩
      rw [List.getElem?_map] at hx
      cases e : m.cps.toList[i]? with
      | none => rw [e] at hx; cases hx
      | some c =>
        rw [e] at hx
        obtain rfl : x = sgV c := (Option.some.inj hx).symm
        have hi := (List.getElem?_eq_some_iff.mp e).1
        have hs2 := sub_step hs e
        have hll := sub_len hs
        refine ⟨rfl, ?_⟩
        refine ⟨_, rfl, f, 2, d, _, rfl, by decide, by decide, F', by omega, fun rr H3 r0 r1 F3 k3 => ?_⟩
        have hD3 := k3 _ _ hDD Df
        refine ⟨rfl, _, rfl, ite2 (fun _ => ?_) fun _ => ?_⟩
        · exact ⟨_, rfl, _, hD3, by rw [List.length_map]; omega, (feed_put F hD F3).mono (by omega), kp_put k' k3 hD, l ++ [c], hs2.1, by rw [upd_same, List.map_append]; rfl⟩
        · exact ⟨F3.mono (by omega), k'.trans k3, l, hs2.2, hD3⟩
    · rintro H' ⟨F', k', l, hs, hDD⟩
      rw [List.length_map, hl3] at F'
      refine k D l H' (hs.trans (List.take_sublist _ _)) hDD Df F' k'
def spSomeI : Sp := fun vs H Q _ => ∃ (f r : Addr) (ns : List Int) (d : Fd) (n : Nat), vs = [.ref f, .ref r] ∧ H r = some (.lst (ns.map V.int)) ∧ r ≠ f ∧ ns.length ≤ 100 ∧ FeedC H f d n ∧ n + 100 < 1000000 ∧
  ∀ (q : Addr) (l : List Int) (H' : Hp), l.Sublist ns → H' q = some (.lst (l.map V.int)) → q ≠ f → FeedC H' f d (n + ns.length) → Kp f H H' → Q (.ref q) H'
theorem ok_someI (T : Txt K mg a) : FnOk P w K mg base CX0 2 a.f__law_some a.d__law_some ["_law_feed_here", "_law_things"] spSomeI := by
  have G__law_draw : FnOk P w K mg base CX0 1 _ _ _ spDrawC := ok_draw T
  refine T.F__law_some.ok sc__law_some (fun vs H Q E h => ?_) (fun cdv A outer s H vs Q E hr h => ?_)
  · obtain ⟨f, r, ns, d, n, rfl, _⟩ := h
    rfl
  · obtain ⟨f, r, ns, d, n, rfl, hx0, rf, hl, F, hn, k⟩ := h
    have hsz : 10000 ≤ sizeLine := by decide
    refine ⟨_, (pss_one (ps_ret (pe_lc (own := [("_law_thing", 2)]) (g := gName 2) (by rfl) sc__law_some.nd (pi_list (pv 1)) (blkOk_by (own := [("_law_thing", 2)]) (N := ["_law_feed_here", "_law_things", "_law_thing"]) (sc := defScope s__law_some) (by decide +kernel)) (fun _ _ _ _ _ => (pg_name (i := 2) sc__law_some.nd rfl (Or.inl rfl))) (fun _ _ _ _ _ => (pts_one (pt_cmpR op_eq (pe_call G__law_draw hr rfl T.m__law_draw T.k__law_draw T.b__law_draw .nil pass0 (pa_nam (pv 0) (pa_con pe_int pa_nil))) pe_int (nomark _)))) (fun _ _ _ _ _ => (pv 2))))), ?_⟩
    refine ⟨_, rfl, r, rfl, ⟨_, SqL.of hx0⟩, fun D hD => ?_⟩
    have Df : D ≠ f := F.ne_f hD
    refine lc_by (walk_list (K := K) (ns.map V.int)) (fun i H' => FeedC H' f d (n + i) ∧ Kp f H H' ∧ ∃ l : List Int, l.Sublist (ns.take i) ∧ H' D = some (.lst (l.map V.int))) ⟨F.same (Same.new hD), Kp.new hD, [], List.nil_sublist _, upd_same⟩ (fun _ _ _ hv => SqL.of (hv.2.1 _ _ hx0 rf)) ?_ ?_
    · rintro i x H' hx ⟨F', k', l, hs, hDD⟩
      rw [List.getElem?_map] at hx
      cases e : ns[i]? with
      | none => rw [e] at hx; cases hx
      | some c =>
        rw [e] at hx
        obtain rfl : x = V.int c := (Option.some.inj hx).symm
        have hi := (List.getElem?_eq_some_iff.mp e).1
        have hs2 := sub_step hs e
        have hll := sub_len hs
        refine ⟨rfl, ?_⟩
        refine ⟨_, rfl, f, 2, d, _, rfl, by decide, by decide, F', by omega, fun rr H3 r0 r1 F3 k3 => ?_⟩
        have hD3 := k3 _ _ hDD Df
        refine ⟨rfl, _, rfl, ite2 (fun _ => ?_) fun _ => ?_⟩
        · exact ⟨_, rfl, _, hD3, by rw [List.length_map]; omega, (feed_put F hD F3).mono (by omega), kp_put k' k3 hD, l ++ [c], hs2.1, by rw [upd_same, List.map_append]; rfl⟩
        · exact ⟨F3.mono (by omega), k'.trans k3, l, hs2.2, hD3⟩
    · rintro H' ⟨F', k', l, hs, hDD⟩
      rw [List.length_map] at F'
      refine k D l H' (hs.trans (List.take_sublist _ _)) hDD Df F' k'
end
end K33
set_option Elab.async false
set_option linter.all false
set_option maxRecDepth 100000
namespace K33
open PySem PySem.Spec PyProof.Rows L2
section
variable {P : Program} {w : World} {K : PySem.W.Frag} {mg : Str → Option Value} {base : Heap} {a : Ad}
set_option maxHeartbeats 4000000
section
variable {α : Type} (P T : α → Int) (hit : α → Bool)
def stepF (f g : Int → Int) (x : α) : Int → Int := if hit x = true then (fun o => if o = T x then g o + f (P x) else g o) else g
def con (f : Int → Int) (o : Int) (x : α) : Int := if hit x = true ∧ o = T x then f (P x) else 0
theorem fold_con (f : Int → Int) (o : Int) : ∀ (M : List α) (g : Int → Int), M.foldl (stepF P T hit f) g o = g o + (M.map (con P T hit f o)).sum
  | [], g => by simp
  | x :: M, g => by
    rw [List.foldl_cons, fold_con f o M, List.map_cons, List.sum_cons]
    have : stepF P T hit f g x o = g o + con P T hit f o x := by
      unfold stepF con
      by_cases h : hit x = true <;> by_cases e : o = T x <;> simp [h, e]
    rw [this]; omega
def turnF (M : List α) (f : Int → Int) : Int → Int := M.foldl (stepF P T hit f) fun _ => 0
theorem sum_bd {B : Int} (h0 : 0 ≤ B) : ∀ l : List Int, (∀ x ∈ l, 0 ≤ x ∧ x ≤ B) → 0 ≤ l.sum ∧ l.sum ≤ l.length * B
  | [], _ => by simp
  | x :: l, h => by
    obtain ⟨a, b⟩ := sum_bd h0 l fun y hy => h y (List.mem_cons_of_mem _ hy)
    obtain ⟨c, d⟩ := h x List.mem_cons_self
    rw [List.sum_cons, List.length_cons]
    have : ((l.length + 1 : Nat) : Int) * B = l.length * B + B := by rw [Int.natCast_add, Int.add_mul]; simp
    rw [this]
    omega
def BdF (B : Int) (f : Int → Int) : Prop := ∀ o, 0 ≤ f o ∧ f o ≤ B
theorem BdF.turn {B : Int} {f : Int → Int} (h : BdF B f) {M : List α} (hM : M.length ≤ 60) : BdF (60 * B) (turnF P T hit M f) := fun o => by
  have h0 : 0 ≤ B := by have := h 0; omega
  unfold turnF
  rw [fold_con]
  obtain ⟨a, b⟩ := sum_bd h0 (M.map (con P T hit f o)) fun x hx => by
    obtain ⟨y, _, rfl⟩ := List.mem_map.mp hx
    unfold con
    split
    · exact h _
    · exact ⟨Int.le_refl _, h0⟩
  rw [List.length_map] at b
  have : (M.length : Int) * B ≤ 60 * B := Int.mul_le_mul_of_nonneg_right (by omega) h0
  omega
end
def stP : List V → Int
  | [.int p, .str _, .int _] => p
  | _ => 0
def stT : List V → Int
  | [.int _, .str _, .int t] => t
  | _ => 0
theorem nodup_leI {n : Nat} {ks : List Int} (nd : ks.Nodup) (h : ∀ p ∈ ks, 0 ≤ p ∧ p < n) : ks.length ≤ n := by
  have := SPr.nodup_le n (ks.map Int.toNat) (by
    rw [List.nodup_iff_pairwise_ne, List.pairwise_map]
    exact nd.imp_of_mem fun {a b} ha hb z e => z (by have := h a ha; have := h b hb; omega)) fun x hx => by
      obtain ⟨p, hp, rfl⟩ := List.mem_map.mp hx
      have := h p hp
      omega
  rwa [List.length_map] at this
abbrev Sts := List (Addr × List V)
def DcF (n : Nat) (kv : List (Key × V)) (ks : List Int) (f : Int → Int) : Prop := kv = ks.map (fun p => ((Sum.inl p : Key), V.int (f p))) ∧ ks.Nodup ∧ (∀ p ∈ ks, 0 ≤ p ∧ p < n) ∧ ∀ p, p ∉ ks → f p = 0
theorem dc_val (f : Int → Int) (o : Int) : ∀ ks : List Int, valV (ks.map fun p => ((Sum.inl p : Key), V.int (f p))) (.inl o) = if o ∈ ks then some (.int (f o)) else none
  | [] => rfl
  | k :: ks => by
    rw [List.map_cons]
    by_cases e : k = o
    · subst e
      rw [valV_pos (p := ((Sum.inl k : Key), V.int (f k))) rfl, if_pos List.mem_cons_self]
    · rw [valV_neg (p := ((Sum.inl k : Key), V.int (f k))) (fun z => e (Sum.inl.inj z)), dc_val f o ks]
      by_cases m : o ∈ ks
      · rw [if_pos m, if_pos (List.mem_cons_of_mem _ m)]
      · rw [if_neg m, if_neg fun z => (List.mem_cons.mp z).elim (fun q => e q.symm) m]
theorem DcF.get {n : Nat} {kv : List (Key × V)} {ks : List Int} {f : Int → Int} (h : DcF n kv ks f) (o : Int) : (valV kv (.inl o)).getD (.int 0) = .int (f o) := by
  obtain ⟨rfl, _, _, hz⟩ := h
  rw [dc_val]
  by_cases m : o ∈ ks
  · rw [if_pos m]; rfl
  · rw [if_neg m, hz o m]; rfl
theorem DcF.has {n : Nat} {kv : List (Key × V)} {ks : List Int} {f : Int → Int} (h : DcF n kv ks f) {o : Int} (m : o ∈ ks) : valV kv (.inl o) = some (.int (f o)) := by
  obtain ⟨rfl, _⟩ := h
  rw [dc_val, if_pos m]
theorem DcF.len {n : Nat} {kv : List (Key × V)} {ks : List Int} {f : Int → Int} (h : DcF n kv ks f) : kv.length ≤ n := by
  obtain ⟨rfl, nd, hr, _⟩ := h
  rw [List.length_map]
  have := nodup_leI nd hr
  exact this
theorem DcF.put {n : Nat} {kv : List (Key × V)} {ks : List Int} {f : Int → Int} (h : DcF n kv ks f) {t : Int} (t0 : 0 ≤ t) (t1 : t < n) (v : Int) : ∃ ks', DcF n (putK kv (.inl t) (.int v)) ks' fun o => if o = t then v else f o := by
  obtain ⟨rfl, nd, hr, hz⟩ := h
  by_cases m : t ∈ ks
  · refine ⟨ks, ?_, nd, hr, fun p hp => ?_⟩
    · have : ((ks.map fun p => ((Sum.inl p : Key), V.int (f p))).any fun kv => decide (kv.1 = Sum.inl t)) = true := by rw [valV_any, dc_val, if_pos m]; rfl
      unfold putK
      rw [if_pos this, List.map_map]
      refine List.map_congr_left fun p hp => ?_
      show (if (Sum.inl p : Key) = Sum.inl t then ((Sum.inl p : Key), V.int v) else (Sum.inl p, V.int (f p))) = (Sum.inl p, V.int (if p = t then v else f p))
      by_cases e : p = t
      · rw [if_pos e, if_pos (by rw [e])]
      · rw [if_neg e, if_neg (fun z => e (Sum.inl.inj z))]
    · exact (if_neg (fun z => hp (by rw [z]; exact m))).trans (hz p hp)
  · refine ⟨ks ++ [t], ?_, ?_, fun p hp => ?_, fun p hp => ?_⟩
    · rw [putK_new _ (by rw [dc_val, if_neg m]), List.map_append]
      congr 1
      · refine List.map_congr_left fun p hp => ?_
        show _ = (Sum.inl p, V.int (if p = t then v else f p))
        rw [if_neg (fun z => m (by rw [← z]; exact hp))]
      · show _ = [((Sum.inl t : Key), V.int (if t = t then v else f t))]
        rw [if_pos rfl]
    · rw [List.nodup_append]
      exact ⟨nd, by simp, fun a ha b hb => by rw [List.mem_singleton.mp hb]; exact fun z => m (by rw [← z]; exact ha)⟩
    · rcases List.mem_append.mp hp with h | h
      · exact hr p h
      · rw [List.mem_singleton.mp h]; exact ⟨t0, t1⟩
    · have h1 : p ∉ ks := fun z => hp (List.mem_append.mpr (.inl z))
      have h2 : p ≠ t := fun z => hp (List.mem_append.mpr (.inr (by rw [z]; exact List.mem_singleton.mpr rfl)))
      exact (if_neg h2).trans (hz p h1)
def sgS (c : Nat) : Str := ⟨#[c]⟩
def txtL (l : List Nat) : Str := ⟨l.toArray⟩
theorem txtL_list (l : List Nat) : (txtL l).cps.toList = l := by simp [txtL]
theorem txtL_len (l : List Nat) : (txtL l).length = l.length := by simp [txtL, PySem.Str.length]
theorem join_sg (l : List Nat) : Txt.join (Str.ofString "") (l.map sgS) = txtL l := by
  rw [TL.join_eq]
  apply TL.ext_tl
  rw [TL.tl_join]
  induction l with
  | nil => rfl
  | cons d r ih =>
    cases r with
    | nil => rfl
    | cons e r =>
      show TL.tl (sgS d) ++ (TL.tl (Str.ofString "") ++ TL.joinL (TL.tl (Str.ofString "")) (((e :: r).map sgS).map TL.tl)) = _
      rw [ih]
      show TL.tl (sgS d) ++ (TL.tl (Str.ofString "") ++ (txtL (e :: r)).cps.toList) = (txtL (d :: e :: r)).cps.toList
      rw [txtL_list, txtL_list]
      rfl
theorem srt_sg : ∀ l : List Nat, sortedS (l.map sgS) = true → l.Pairwise (· ≤ ·) := by
  have key : ∀ (l : List Nat) (p : Nat), risingS (sgS p) (l.map sgS) = true → (p :: l).Pairwise (· ≤ ·) := by
    intro l
    induction l with
    | nil => intro p _; exact List.pairwise_singleton _ _
    | cons x r ih =>
      intro p h
      rw [List.map_cons] at h
      simp only [risingS, Bool.and_eq_true, Bool.not_eq_true'] at h
      have h1 : p ≤ x := by
        have : ltCps [x] [p] = false := h.1
        simp [ltCps] at this
        omega
      have h2 := ih x h.2
      refine List.pairwise_cons.mpr ⟨fun y hy => ?_, h2⟩
      rcases List.mem_cons.mp hy with e | e
      · rw [e]; exact h1
      · exact Nat.le_trans h1 ((List.pairwise_cons.mp h2).1 y e)
  intro l h
  cases l with
  | nil => exact List.Pairwise.nil
  | cons x r => exact key r x h
theorem perm_sg {ys : List Str} {l : List Nat} (h : ys.Perm (l.map sgS)) : ∃ l' : List Nat, ys = l'.map sgS ∧ l'.Perm l := by
  have e : ∀ zs : List Nat, (zs.map sgS).map (fun y : Str => y.cps.toList.headD 0) = zs := fun zs => by
    rw [List.map_map]
    exact (List.map_congr_left fun c _ => rfl).trans (List.map_id zs)
  refine ⟨ys.map fun y => y.cps.toList.headD 0, ?_, ?_⟩
  · have : ∀ y ∈ ys, sgS (y.cps.toList.headD 0) = y := fun y hy => by
      obtain ⟨c, _, rfl⟩ := List.mem_map.mp (h.mem_iff.mp hy)
      rfl
    rw [List.map_map]
    exact ((List.map_congr_left (f := sgS ∘ fun y : Str => y.cps.toList.headD 0) (g := id) fun y hy => this y hy).trans (List.map_id ys)).symm
  · have := h.map fun y : Str => y.cps.toList.headD 0
    rwa [e] at this
theorem ris_of {l : List Nat} (h : l.Pairwise (· ≤ ·)) (nd : l.Nodup) : l.Pairwise (· < ·) := (h.and nd).imp fun ⟨a, b⟩ => by omega
theorem lex_of {x y : List V} (h : lexV y x = false) (n : x.map okV ≠ y.map okV) : lexV x y = true := by
  cases e : lexV x y with
  | true => rfl
  | false => exact absurd (ltK_eq _ _ e h) n
theorem StOk.key {n : Int} {x : List V} (h : StOk n x) : keyR x = [.int (stP x), .int (stT x)] := by
  obtain ⟨p, m, t, rfl, _⟩ := h
  rfl
theorem okV_key {n : Int} {x y : List V} (hx : StOk n x) (hy : StOk n y) (h : x.map okV = y.map okV) : keyR x = keyR y := by
  obtain ⟨p, m, t, rfl, _⟩ := hx
  obtain ⟨p', m', t', rfl, _⟩ := hy
  simp [okV] at h
  show [V.int p, V.int t] = [V.int p', V.int t']
  rw [h.1, h.2.2]
theorem sts_of {L0 L' : Sts} {n : Int} {H : Hp} (perm : L'.Perm L0) (asc : L'.Pairwise fun x y => lexV y.2 x.2 = false) (h0 : ∀ x ∈ L0, H x.1 = some (.tup x.2) ∧ StOk n x.2) (hk : L0.Pairwise fun x y => keyR x.2 ≠ keyR y.2) (hl : L0.length ≤ 60) : StsOk H n L' := by
  have hk' : L'.Pairwise fun x y => keyR x.2 ≠ keyR y.2 := (perm.pairwise_iff (fun {x y} h => h.symm)).mpr hk
  have hm : ∀ x ∈ L', H x.1 = some (.tup x.2) ∧ StOk n x.2 := fun x hx => h0 x (perm.mem_iff.mp hx)
  exact ⟨by rw [perm.length_eq]; exact hl, hm, (asc.and hk').imp_of_mem fun {x y} hx hy ⟨u, v⟩ => lex_of u fun e => v (okV_key (hm x hx).2 (hm y hy).2 e), hk'⟩
def Bel (i j : Int) (L : Sts) : Prop := ∀ x ∈ L, stP x.2 < i ∨ (stP x.2 = i ∧ stT x.2 < j)
theorem Bel.put {i j : Int} {L : Sts} (h : Bel i j L) (q : Addr) (m : Str) : Bel i (j + 1) (L ++ [(q, [.int i, .str m, .int j])]) := fun x hx => by
  rcases List.mem_append.mp hx with z | z
  · rcases h x z with z | ⟨z, y⟩
    · exact .inl z
    · exact .inr ⟨z, by omega⟩
  · rw [List.mem_singleton.mp z]
    exact .inr ⟨rfl, by show j < j + 1; omega⟩
theorem Bel.up {i j j' : Int} {L : Sts} (h : Bel i j L) (l : j ≤ j') : Bel i j' L := fun x hx => (h x hx).imp id fun ⟨a, b⟩ => ⟨a, by omega⟩
theorem Bel.next {i j : Int} {L : Sts} (h : Bel i j L) : Bel (i + 1) 0 L := fun x hx => .inl (by rcases h x hx with z | ⟨z, _⟩ <;> omega)
theorem key_put {n i j : Int} {L : Sts} {H : Hp} (hb : Bel i j L) (hS : ∀ x ∈ L, H x.1 = some (.tup x.2) ∧ StOk n x.2) (hk : L.Pairwise fun x y => keyR x.2 ≠ keyR y.2) (q : Addr) (m : Str) :
    (L ++ [(q, [V.int i, V.str m, V.int j])]).Pairwise fun x y => keyR x.2 ≠ keyR y.2 := by
  rw [List.pairwise_append]
  refine ⟨hk, List.pairwise_singleton _ _, fun x hx y hy e => ?_⟩
  rw [List.mem_singleton.mp hy, (hS x hx).2.key] at e
  have e : [V.int (stP x.2), V.int (stT x.2)] = [V.int i, V.int j] := e
  injection e with e1 e2
  injection e2 with e2 _
  injection e1 with e1
  injection e2 with e2
  rcases hb x hx with z | ⟨_, z⟩ <;> omega
end
end K33
set_option Elab.async false
set_option linter.all false
set_option maxRecDepth 100000
namespace K33
open PySem PySem.Spec PyProof.Rows L2
section
variable {P : Program} {w : World} {K : PySem.W.Frag} {mg : Str → Option Value} {base : Heap} {a : Ad}
set_option maxHeartbeats 4000000
theorem take_put {α : Type} {xs : List α} {i : Nat} {c : α} (e : xs[i]? = some c) : xs.take (i + 1) = xs.take i ++ [c] := by rw [List.take_succ, e]; rfl
theorem tsg_len : TSG.cps.toList.length = 94 := by decide +kernel
theorem tsg_nd : TSG.cps.toList.Nodup := by decide +kernel
def sgAt (i : Int) : Nat := TSG.cps.toList.getD i.toNat 0
theorem sgAt_eq {i : Int} (h0 : 0 ≤ i) (h1 : i < 94) : TSG.cps.toList[i.toNat]? = some (sgAt i) := by
  unfold sgAt
  have h : i.toNat < TSG.cps.toList.length := by rw [tsg_len]; omega
  rw [List.getD_eq_getElem?_getD, List.getElem?_eq_getElem h]
  rfl
theorem tsg_at {i : Int} (h0 : 0 ≤ i) (h1 : i < 94) : atI TSG.cps.toList i = some (sgAt i) := by
  obtain ⟨j, rfl⟩ : ∃ j : Nat, i = j := ⟨i.toNat, by omega⟩
  exact atI_nat (sgAt_eq h0 h1)
theorem sgAt_in {i : Int} (h0 : 0 ≤ i) (h1 : i < 94) : sgAt i ∈ TSG.cps.toList := List.mem_of_getElem? (sgAt_eq h0 h1)
theorem sgAt_inj {i j : Int} (h0 : 0 ≤ i) (h1 : i < 94) (g0 : 0 ≤ j) (g1 : j < 94) (e : sgAt i = sgAt j) : i = j := by
  have a := sgAt_eq h0 h1
  rw [e, ← sgAt_eq g0 g1] at a
  obtain ⟨l1, e1⟩ := List.getElem?_eq_some_iff.mp (sgAt_eq h0 h1)
  obtain ⟨l2, e2⟩ := List.getElem?_eq_some_iff.mp (sgAt_eq g0 g1)
  have nd := List.pairwise_iff_getElem.mp (List.nodup_iff_pairwise_ne.mp tsg_nd)
  rcases Nat.lt_trichotomy i.toNat j.toNat with h | h | h
  · exact absurd (by rw [e1, e2, e]) (nd _ _ l1 l2 h)
  · omega
  · exact absurd (by rw [e1, e2, e]) (nd _ _ l2 l1 h)
def drawnL (a b : Int) (m : Nat) : List Nat := (List.range m).map fun k : Nat => sgAt ((a + b * (0 + (k : Int))) % 94)
theorem drawn_nd {a b : Int} {m : Nat} (hb : b = 1 ∨ b = 3 ∨ b = 5 ∨ b = 7 ∨ b = 9 ∨ b = 11) (hm : m ≤ 5) : (drawnL a b m).Nodup := by
  unfold drawnL
  rw [List.nodup_iff_pairwise_ne, List.pairwise_map]
  refine List.pairwise_lt_range.imp_of_mem fun {j k} hj hk hlt e => ?_
  have hk := List.mem_range.mp hk
  have := sgAt_inj (Int.emod_nonneg _ (by decide)) (Int.emod_lt_of_pos _ (by decide)) (Int.emod_nonneg _ (by decide)) (Int.emod_lt_of_pos _ (by decide)) e
  rcases hb with rfl | rfl | rfl | rfl | rfl | rfl <;> omega
theorem drawn_in {a b : Int} {m : Nat} : ∀ c ∈ drawnL a b m, c ∈ TSG.cps.toList := fun c hc => by
  obtain ⟨k, _, rfl⟩ := List.mem_map.mp hc
  exact sgAt_in (Int.emod_nonneg _ (by decide)) (Int.emod_lt_of_pos _ (by decide))
def spLsg : Sp := fun vs H Q _ => ∃ (f : Addr) (m : Nat) (d : Fd) (n : Nat), vs = [.ref f, .int m] ∧ 1 ≤ m ∧ m ≤ 5 ∧ FeedC H f d n ∧ n + 10 < 1000000 ∧
  ∀ (S : Str) (H' : Hp), SgOk S → S.length = m → FeedC H' f d (n + 2) → Kp f H H' → Q (.str S) H'
theorem ok_lsg (T : Txt K mg a) : FnOk P w K mg base CX0 2 a.f__law_signs a.d__law_signs ["_law_feed_here", "_law_a_many"] spLsg := by
  have G__law_draw : FnOk P w K mg base CX0 1 _ _ _ spDrawC := ok_draw T
  refine T.F__law_signs.ok sc__law_signs (fun vs H Q E h => ?_) (fun cdv A outer s H vs Q E hr h => ?_)
  · obtain ⟨f, m, d, n, rfl, _⟩ := h
    rfl
  · obtain ⟨f, m, d, n, rfl, hm1, hm4, F, hn, k⟩ := h
    have hsz : 10000 ≤ sizeLine := by decide
    refine ⟨_, (pss_cons (ps_set (i := 2) sc__law_signs.nd rfl (Or.inr rfl) pe_str)
 (pss_cons (ps_set (i := 3) sc__law_signs.nd rfl (Or.inr rfl) (pe_call G__law_draw hr rfl T.m__law_draw T.k__law_draw T.b__law_draw .nil pass0 (pa_nam (pv 0) (pa_con pe_int pa_nil))))
 (pss_cons (ps_set (i := 4) sc__law_signs.nd rfl (Or.inr rfl) (pe_ix ix_list (pe_lst (pa_con pe_int (pa_con pe_int (pa_con pe_int (pa_con pe_int (pa_con pe_int (pa_con pe_int pa_nil))))))) (pe_call G__law_draw hr rfl T.m__law_draw T.k__law_draw T.b__law_draw .nil pass0 (pa_nam (pv 0) (pa_con pe_int pa_nil))) (fun _ _ => rfl)))
 (pss_one (ps_ret (pe_join pe_str (pe_callB cr_sortedS (by rfl) T.n_sorted (by decide +kernel) (pa_lcm (pe_lc (own := [("_law_k", 5)]) (g := gName 5) (by rfl) sc__law_signs.nd (pi_range1 rfl T.n_range (pa_nam (pv 1) pa_nil)) (blkOk_by (own := [("_law_k", 5)]) (N := ["_law_feed_here", "_law_a_many", "_law_signs_here", "_law_first", "_law_step", "_law_k"]) (sc := defScope s__law_signs) (by decide +kernel)) (fun _ _ _ _ _ => (pg_name (i := 5) sc__law_signs.nd rfl (Or.inl rfl))) (fun _ _ _ _ _ => pts_nil) (fun _ _ _ _ _ => (pe_ix ix_str (pv 2) (pe_op op_mod (pe_op op_add (pv 3) (pe_op op_mul (pv 4) (pv 5))) pe_int) (fun _ _ => rfl)))) pa_nil)))))))), ?_⟩
    refine ⟨_, rfl, f, 94, d, n, rfl, by decide, by decide, F, by omega, fun r1 H1 r10 r11 F1 k1 => ?_⟩
    refine ⟨by show 6 ≤ sizeLine; omega, fun q hq => ⟨_, rfl, f, 6, d, n + 1, rfl, by decide, by decide, F1.new hq, by omega, fun r2 H2 r20 r21 F2 k2 => ?_⟩⟩
    have hqf : q ≠ f := F1.ne_f hq
    obtain ⟨b, hb, hbv⟩ : ∃ b : Int, atI [V.int 1, V.int 3, V.int 5, V.int 7, V.int 9, V.int 11] r2 = some (.int b) ∧ (b = 1 ∨ b = 3 ∨ b = 5 ∨ b = 7 ∨ b = 9 ∨ b = 11) := by
      obtain ⟨j, rfl⟩ : ∃ j : Nat, r2 = j := ⟨r2.toNat, by omega⟩
      have : j = 0 ∨ j = 1 ∨ j = 2 ∨ j = 3 ∨ j = 4 ∨ j = 5 := by omega
      rcases this with rfl | rfl | rfl | rfl | rfl | rfl
      · exact ⟨1, atI_nat rfl, by decide⟩
      · exact ⟨3, atI_nat rfl, by decide⟩
      · exact ⟨5, atI_nat rfl, by decide⟩
      · exact ⟨7, atI_nat rfl, by decide⟩
      · exact ⟨9, atI_nat rfl, by decide⟩
      · exact ⟨11, atI_nat rfl, by decide⟩
    refine ⟨q, _, r2, _, rfl, rfl, SqL.of (k2 _ _ upd_same hqf), hb, ?_⟩
    have k3 : Kp f H H2 := (k1.trans (Kp.new hq)).trans k2
    refine ⟨⟨_, rfl⟩, ?_⟩
    refine ⟨_, rfl, m, rfl, by omega, by omega, fun D hD => ?_⟩
    have Df : D ≠ f := F2.ne_f hD
    refine lc_by (walk_range 0 m) (fun i H' => Same H2 H' ∧ H' D = some (.lst (((drawnL r1 b m).take i).map sgV))) ⟨Same.new hD, upd_same⟩ (fun _ _ _ _ => trivial) ?_ ?_
    · rintro i x H' hx ⟨sm, hDD⟩
      rw [List.getElem?_map] at hx
      cases e : (List.range m)[i]? with
      | none => rw [e] at hx; cases hx
      | some v =>
        rw [e] at hx
        obtain rfl : x = V.int (0 + v) := (Option.some.inj hx).symm
        have hi := (List.getElem?_eq_some_iff.mp e).1
        rw [List.length_range] at hi
        obtain rfl : i = v := by
          obtain ⟨l1, l2⟩ := List.getElem?_eq_some_iff.mp e
          rw [List.getElem_range] at l2
          exact l2
        have e2 : (drawnL r1 b m)[i]? = some (sgAt ((r1 + b * (0 + (i : Int))) % 94)) := by
          unfold drawnL
          rw [List.getElem?_map, e]
          rfl
        have hbm : 0 ≤ b * (0 + (i : Int)) ∧ b * (0 + (i : Int)) ≤ 44 := by
          have : i = 0 ∨ i = 1 ∨ i = 2 ∨ i = 3 ∨ i = 4 := by omega
          rcases hbv with rfl | rfl | rfl | rfl | rfl | rfl <;> omega
        refine ⟨rfl, ?_⟩
        refine ⟨_, rfl, _, rfl, _, rfl, _, rfl, _, _, rfl, rfl, .inl ⟨by omega, by omega⟩, _, _, rfl, rfl, _, _, rfl, rfl, (by show (0 : Int) < 94; decide), TSG, _, _, rfl, rfl, by decide +kernel, tsg_at (Int.emod_nonneg _ (by decide)) (Int.emod_lt_of_pos _ (by decide)), ?_⟩
        refine ⟨_, hDD, ?_, same_put sm hD, ?_⟩
        · rw [List.length_map, List.length_take]; omega
        · rw [upd_same, take_put e2, List.map_append]
          rfl
    rintro H3 ⟨s3, hDD⟩
    rw [List.length_map, List.length_range, List.take_of_length_le (by unfold drawnL; rw [List.length_map, List.length_range]; omega)] at hDD
    have hdl : (drawnL r1 b m).length = m := by unfold drawnL; rw [List.length_map, List.length_range]
    refine ⟨D, (drawnL r1 b m).map sgS, rfl, SqL.of (by rw [List.map_map]; exact hDD), by rw [List.length_map, hdl]; omega, fun ys p perm srt hp => ?_⟩
    obtain ⟨l, rfl, pl⟩ := perm_sg perm
    have hll : l.length = m := pl.length_eq.trans hdl
    refine ⟨_, p, _, rfl, rfl, .inl (SqL.of upd_same), ?_, ?_⟩
    · rw [List.map_map, List.length_map, hll]
      have : (List.map ((fun x : Str => x.length) ∘ sgS) l).sum = l.length := by
        rw [show ((fun x : Str => x.length) ∘ sgS) = fun _ => 1 from rfl, List.map_const', List.sum_replicate_nat]
        omega
      rw [this, hll]
      have : (Str.ofString "").length = 0 := by decide +kernel
      rw [this]; omega
    · rw [join_sg]
      have s4 : Same H3 (upd H3 p (.lst ((l.map sgS).map V.str))) := Same.new hp
      refine k _ _ ⟨by rw [txtL_len, hll]; omega, by rw [txtL_len, hll]; omega, fun c hc => ?_, ?_⟩ (by rw [txtL_len, hll]) ((F2.same s3).same s4) (k3.trans (Kp.of_same (s3.trans s4)))
      · rw [txtL_list] at hc
        exact drawn_in c (pl.mem_iff.mp hc)
      · rw [txtL_list]
        exact ris_of (srt_sg l srt) (pl.nodup_iff.mpr (drawn_nd hbv hm4))
end
end K33
set_option Elab.async false
set_option linter.all false
set_option maxRecDepth 100000
namespace K33
open PySem PySem.Spec PyProof.Rows L2
section
variable {P : Program} {w : World} {K : PySem.W.Frag} {mg : Str → Option Value} {base : Heap} {a : Ad}
set_option maxHeartbeats 4000000
theorem ts_r {ts : TS} {D : Ends} {σ : L2.St} {H : Hp} (R : L2.St → Hp → Prop) (h : ∀ D' : Ends, (∀ σ' H', R σ' H' → D'.nx σ' H') → ts D' σ H) (k : ∀ σ' H', R σ' H' → D.nx σ' H') : ts D σ H := h D k
theorem nx_st {ts rest : TS} {D : Ends} {σ : L2.St} {H : Hp} {rt : VK} {bk ct : L2.St → Hp → Prop} (h : ts { D with nx := rest D } σ H) : Ends.nx { nx := tSeq ts rest D, rt := rt, bk := bk, ct := ct } σ H := h
theorem rngL_map (z : Nat) : rngL 0 z = ((List.range z).map fun k : Nat => (0 : Int) + k).map V.int := by unfold rngL; rw [List.map_map]; rfl
theorem rng_pl {z : Nat} {l : List Int} (hz : z ≤ 6) (h : l.Sublist ((List.range z).map fun k : Nat => (0 : Int) + k)) : PlOk z l := by
  refine ⟨fun i hi => ?_, List.Pairwise.sublist h ?_, ?_⟩
  · obtain ⟨k, hk, rfl⟩ := List.mem_map.mp (h.mem hi)
    have := List.mem_range.mp hk
    omega
  · rw [List.pairwise_map]
    exact List.pairwise_lt_range.imp fun {a b} hab => by omega
  · have := h.length_le
    rw [List.length_map, List.length_range] at this
    omega
theorem one_pl {z : Nat} {r : Int} (h0 : 0 ≤ r) (h1 : r < z) : PlOk z [r] := ⟨fun i hi => by rw [List.mem_singleton.mp hi]; exact ⟨h0, h1⟩, List.pairwise_singleton _ _, by show 1 ≤ 60; decide⟩
def RmS (H0 : Hp) (f D : Addr) (d : Fd) (z : Nat) (L : Sts) (a8 a9 : Addr) (bs es : List Int) (n : Nat) (H' : Hp) : Prop := FeedC H' f d n ∧ Kp f H0 H' ∧ H' D = some (.lst (refL L)) ∧ (∀ x ∈ L, H' x.1 = some (.tup x.2) ∧ StOk z x.2) ∧
  H' a8 = some (.lst (bs.map V.int)) ∧ PlOk z bs ∧ H' a9 = some (.lst (es.map V.int)) ∧ PlOk z es ∧ D ≠ f ∧ a8 ≠ f ∧ a9 ≠ f
theorem feed_ne {H : Hp} {f p : Addr} {d : Fd} {n : Nat} {xs : List V} (h : FeedC H f d n) (e : H p = some (.tup xs)) (z : p = f) : False := by
  obtain ⟨kv, h1⟩ := h.at_f
  rw [z, h1] at e
  cases e
theorem join_fit {l : List Nat} (h : l.length ≤ 1000) : ((l.map sgS).map (·.length)).sum + (l.map sgS).length * (Str.ofString "").length ≤ 16777216 := by
  rw [List.map_map, List.length_map]
  have : (List.map ((fun x : Str => x.length) ∘ sgS) l).sum = l.length := by
    rw [show ((fun x : Str => x.length) ∘ sgS) = fun _ => 1 from rfl, List.map_const', List.sum_replicate_nat]
    omega
  rw [this]
  have : (Str.ofString "").length = 0 := by decide +kernel
  rw [this]; omega
theorem RmS.go {H0 H' H2 : Hp} {f D a8 a9 : Addr} {d : Fd} {z n m : Nat} {L : Sts} {bs es : List Int} (h : RmS H0 f D d z L a8 a9 bs es n H') (F : FeedC H2 f d m) (k : Kp f H' H2) : RmS H0 f D d z L a8 a9 bs es m H2 := by
  obtain ⟨F0, k0, hD, hS, h8, p8, h9, p9, n1, n2, n3⟩ := h
  exact ⟨F, k0.trans k, k _ _ hD n1, fun x hx => ⟨k _ _ (hS x hx).1 fun e => feed_ne F0 (hS x hx).1 e, (hS x hx).2⟩, k _ _ h8 n2, p8, k _ _ h9 n3, p9, n1, n2, n3⟩
def spRaw : Sp := fun vs H Q _ => ∃ (f : Addr) (m : Str) (d : Fd) (n : Nat), vs = [.ref f, .str m, .int 6] ∧ m.length ≤ 5 ∧ (∀ c ∈ m.cps.toList, c ∈ TSG.cps.toList) ∧ RisL m.cps.toList ∧ FeedC H f d n ∧ n + 600 < 1000000 ∧
  ∀ (p : Addr) (z : Nat) (bs es : List Int) (L : Sts) (H' : Hp), z ≤ 6 → RwAt H' p z bs es L → PlOk z bs → StsOk H' z L → PlOk z es → p ≠ f → FeedC H' f d (n + 300) → Kp f H H' → Q (.ref p) H'
theorem ok_raw (T : Txt K mg a) : FnOk P w K mg base CX0 3 a.f__law_raw a.d__law_raw ["_law_feed_here", "_law_signs_here", "_law_most"] spRaw := by
  have G__law_draw : FnOk P w K mg base CX0 2 _ _ _ spDrawC := (ok_draw T).mono (by decide)
  have G__law_some : FnOk P w K mg base CX0 2 _ _ _ (fun vs H Q E => spSomeS vs H Q E ∨ spSomeI vs H Q E) := (ok_someS T).or (ok_someI T)
  refine T.F__law_raw.ok sc__law_raw (fun vs H Q E h => ?_) (fun cdv A outer s H vs Q E hr h => ?_)
  · obtain ⟨f, m, d, n, rfl, _⟩ := h
    rfl
  · obtain ⟨f, m, d, n, rfl, hl, hm, hR, F, hn, k⟩ := h
    have hsz : 10000 ≤ sizeLine := by decide
    refine ⟨_, (pss_cons (ps_set (i := 3) sc__law_raw.nd rfl (Or.inl rfl) (pe_op op_add pe_int (pe_call G__law_draw hr rfl T.m__law_draw T.k__law_draw T.b__law_draw .nil pass0 (pa_nam (pv 0) (pa_nam (pv 2) pa_nil)))))
 (pss_cons (ps_set (i := 4) sc__law_raw.nd rfl (Or.inl rfl) (pe_lst pa_nil))
 (pss_cons (ps_for PassesOwn.never rfl (pi_range1 rfl T.n_range (pa_nam (pv 3) pa_nil)) (pg_name (i := 5) sc__law_raw.nd rfl (Or.inl rfl))
 (pss_one (ps_for PassesOwn.never rfl (pi_range1 rfl T.n_range (pa_nam (pv 3) pa_nil)) (pg_name (i := 6) sc__law_raw.nd rfl (Or.inl rfl))
 (pss_cons (ps_set (i := 7) sc__law_raw.nd rfl (Or.inl rfl) (pe_join pe_str (pe_call G__law_some hr rfl T.m__law_some T.k__law_some T.b__law_some .nil pass0 (pa_nam (pv 0) (pa_nam (pv 1) pa_nil)))))
 (pss_one (ps_if (PW.pt (pw_and (pt_cmpR op_ne (pv 7) pe_str (nomark _)) (pw_and1 (pt_cmpR op_lt (pe_call G__law_draw hr rfl T.m__law_draw T.k__law_draw T.b__law_draw .nil pass0 (pa_nam (pv 0) (pa_con pe_int pa_nil))) pe_int (nomark _)))))
 (pss_one (ps_expr (pe_bm PySem.F.plainAttrs_list PySem.F.slot_list_append PySem.F.type_list_append mt_append (pv 4) (pa_tpl (pe_tup (pa_nam (pv 5) (pa_nam (pv 7) (pa_nam (pv 6) pa_nil)))) pa_nil))))
 pss_nil))))))
 (pss_cons (ps_par (i := 8) (j := 9) (by rfl) sc__law_raw.nd rfl rfl (by decide) rfl rfl (pa_cal (pe_call G__law_some hr rfl T.m__law_some T.k__law_some T.b__law_some .nil pass0 (pa_nam (pv 0) (pa_cal (pe_lrng1 rfl (by rfl) T.n_list (by rfl) T.n_range (pa_nam (pv 3) pa_nil)) pa_nil))) (pa_cal (pe_call G__law_some hr rfl T.m__law_some T.k__law_some T.b__law_some .nil pass0 (pa_nam (pv 0) (pa_cal (pe_lrng1 rfl (by rfl) T.n_list (by rfl) T.n_range (pa_nam (pv 3) pa_nil)) pa_nil))) pa_nil)) (by rfl))
 (pss_cons (ps_if (pt_cmpR (op_eqD hr.units) (pv 8) (pe_lst pa_nil) (nomark _))
 (pss_one (ps_set (i := 8) sc__law_raw.nd rfl (Or.inl rfl) (pe_lst (pa_cal (pe_call G__law_draw hr rfl T.m__law_draw T.k__law_draw T.b__law_draw .nil pass0 (pa_nam (pv 0) (pa_nam (pv 3) pa_nil))) pa_nil))))
 pss_nil)
 (pss_cons (ps_if (PW.pt (pw_and (pt_cmpR (op_eqD hr.units) (pv 9) (pe_lst pa_nil) (nomark _)) (pw_and1 (pt_cmpR op_gt (pe_call G__law_draw hr rfl T.m__law_draw T.k__law_draw T.b__law_draw .nil pass0 (pa_nam (pv 0) (pa_con pe_int pa_nil))) pe_int (nomark _)))))
 (pss_one (ps_set (i := 9) sc__law_raw.nd rfl (Or.inl rfl) (pe_lst (pa_cal (pe_call G__law_draw hr rfl T.m__law_draw T.k__law_draw T.b__law_draw .nil pass0 (pa_nam (pv 0) (pa_nam (pv 3) pa_nil))) pa_nil))))
 pss_nil)
 (pss_one (ps_ret (pe_tup (pa_nam (pv 3) (pa_cal (pe_callTy call_tuple_of (by rfl) T.n_tuple (by decide +kernel) (pa_nam (pv 8) pa_nil)) (pa_cal (pe_callTy call_tuple_of (by rfl) T.n_tuple (by decide +kernel) (pa_cal (pe_callB cr_sortedT (by rfl) T.n_sorted (by decide +kernel) (pa_nam (pv 4) pa_nil)) pa_nil)) (pa_cal (pe_callTy call_tuple_of (by rfl) T.n_tuple (by decide +kernel) (pa_nam (pv 9) pa_nil)) pa_nil))))))))))))), ?_⟩
    refine ⟨_, rfl, _, rfl, f, 6, d, n, rfl, by decide, by decide, F, by omega, fun r1 H1 r10 r11 F1 k1 => ?_⟩
    obtain ⟨z, hz⟩ : ∃ z : Nat, 1 + r1 = (z : Int) := ⟨(1 + r1).toNat, by omega⟩
    refine ⟨_, _, rfl, rfl, ?_⟩
    show gName 3 (V.int (1 + r1)) _ H1 _
    rw [hz]
    have z1 : 1 ≤ z := by omega
    have z5 : z ≤ 6 := by omega
    refine ⟨by show 0 ≤ sizeLine; omega, fun D hD => ?_⟩
    have Df : D ≠ f := F1.ne_f hD
    have Dc : D ≠ d.c := F1.ne_c hD
    have hD0 : H D = none := by
      cases e : H D with
      | none => rfl
      | some o => rw [k1 _ _ e Df] at hD; cases hD
    have F2 := F1.new (o := .lst []) hD
    have k2 : Kp f H (upd H1 D (.lst [])) := k1.put hD0
    have w2 : upd H1 D (.lst []) D = some (.lst (refL [])) := upd_same
    generalize upd H1 D (.lst []) = H2 at F2 k2 w2 ⊢
    refine ⟨_, rfl, z, rfl, by omega, by omega, ?_⟩
    refine for_range (n := z) (fun i σ H' => FeedC H' f d (n + 1 + 36 * i) ∧ Kp f H H' ∧ ∃ (L : Sts) (o5 o6 o7 : Option V), σ = [some (.ref f), some (.str m), some (.int 6), some (.int z), some (.ref D), o5, o6, o7, none, none] ∧ H' D = some (.lst (refL L)) ∧
        (∀ x ∈ L, H' x.1 = some (.tup x.2) ∧ StOk z x.2) ∧ L.Pairwise (fun x y => keyR x.2 ≠ keyR y.2) ∧ Bel i 0 L ∧ L.length ≤ 6 * i)
      ⟨F2.mono (by omega), k2, ([] : Sts), _, _, _, rfl, w2, (fun x hx => absurd hx List.not_mem_nil), List.Pairwise.nil, (fun x hx => absurd hx List.not_mem_nil), Nat.zero_le _⟩ ?_ ?_
    · rintro i σ H3 hi ⟨F3, k3, L, o5, o6, o7, rfl, w3, hS, hK, hB, hL⟩
      refine ⟨_, rfl, z, rfl, by omega, by omega, ?_⟩
      refine for_range (n := z) (fun j σ H' => FeedC H' f d (n + 1 + 36 * i + 6 * j) ∧ Kp f H H' ∧ ∃ (L : Sts) (o6 o7 : Option V), σ = [some (.ref f), some (.str m), some (.int 6), some (.int z), some (.ref D), some (.int (0 + (i : Int))), o6, o7, none, none] ∧ H' D = some (.lst (refL L)) ∧
          (∀ x ∈ L, H' x.1 = some (.tup x.2) ∧ StOk z x.2) ∧ L.Pairwise (fun x y => keyR x.2 ≠ keyR y.2) ∧ Bel (0 + (i : Int)) (0 + (j : Int)) L ∧ L.length ≤ 6 * i + j)
        ⟨F3.mono (by omega), k3, L, _, _, rfl, w3, hS, hK, by rw [Int.zero_add]; exact hB, by omega⟩ ?_ ?_
      · rintro j σ H4 hj ⟨F4, k4, L, o6, o7, rfl, w4, hS, hK, hB, hL⟩
        refine ⟨⟨_, rfl⟩, _, rfl, _, rfl, .inl ⟨f, m, d, _, rfl, by omega, F4, by omega, fun q l H5 sub hq qf F5 k5 => ?_⟩⟩
        have hln : l.length ≤ 5 := by
          have := sub.length_le
          have : m.cps.toList.length = m.length := by simp [PySem.Str.length]
          omega
        refine ⟨_, q, l.map sgS, rfl, rfl, .inl (SqL.of (by rw [List.map_map]; exact hq)), ?_, ?_⟩
        · exact join_fit (by omega)
        · rw [join_sg]
          have D5 := k5 _ _ w4 Df
          have hS5 : ∀ x ∈ L, H5 x.1 = some (.tup x.2) ∧ StOk z x.2 := fun x hx => ⟨k5 _ _ (hS x hx).1 (fun e => feed_ne F4 (hS x hx).1 e), (hS x hx).2⟩
          have k50 := k4.trans k5
          have F5 : FeedC H5 f d (n + 1 + 36 * i + 6 * j + 5) := F5.mono (by omega)
          refine ⟨_, rfl, rfl, _, rfl, ite2 (fun hne => ?_) fun heq => ?_⟩
          · have lne : l ≠ [] := fun z => by
              rw [z] at hne
              exact absurd hne (by decide +kernel)
            refine ⟨_, rfl, f, 3, d, _, rfl, by decide, by decide, F5, by omega, fun r6 H6 r60 r61 F6 k6 => ?_⟩
            have D6 := k6 _ _ D5 Df
            have hS6 : ∀ x ∈ L, H6 x.1 = some (.tup x.2) ∧ StOk z x.2 := fun x hx => ⟨k6 _ _ (hS5 x hx).1 (fun e => feed_ne F5 (hS5 x hx).1 e), (hS5 x hx).2⟩
            have k60 := k50.trans k6
            refine ⟨_, _, rfl, rfl, _, rfl, ite2 (fun hlt => ?_) fun hge => ?_⟩
            · have sg : SgOk (txtL l) := by
                refine ⟨by rw [txtL_len]; exact List.length_pos_iff.mpr lne, by rw [txtL_len]; omega, fun c hc => ?_, ?_⟩
                · rw [txtL_list] at hc
                  exact hm c (sub.mem hc)
                · rw [txtL_list]
                  exact hR.sublist sub
              refine ⟨_, rfl, .inl ⟨rfl, _, SqL.of D6⟩, _, rfl, _, rfl, _, rfl, by show 3 ≤ sizeLine; omega, fun q7 h7 => ?_⟩
              have s7 : Same H6 (upd H6 q7 (.tup [.int (0 + (i : Int)), .str (txtL l), .int (0 + (j : Int))])) := Same.new h7
              have q7f : q7 ≠ f := F6.ne_f h7
              have q7D : q7 ≠ D := fun e => by rw [e, D6] at h7; cases h7
              have h70 : H q7 = none := by
                cases e : H q7 with
                | none => rfl
                | some o => rw [k60 _ _ e q7f] at h7; cases h7
              refine ⟨D, _, _, rfl, rfl, s7 _ _ D6, by rw [List.length_map]; omega, ?_⟩
              refine ⟨?_, (k60.put h70).put hD0, L ++ [(q7, [.int (0 + (i : Int)), .str (txtL l), .int (0 + (j : Int))])], _, _, rfl, ?_, ?_, key_put hB hS6 hK _ _, ?_, ?_⟩
              · exact ((F6.new h7).off Df Dc).mono (by omega)
              · rw [upd_same]; show _ = some (HO.lst ((L ++ [_]).map _)); rw [List.map_append]; rfl
              · intro x hx
                rcases List.mem_append.mp hx with e | e
                · refine ⟨(upd_ne (ne_of (hS6 x e).1 D6 (by intro z; cases z))).trans (s7 _ _ (hS6 x e).1), (hS6 x e).2⟩
                · rw [List.mem_singleton.mp e]
                  exact ⟨(upd_ne q7D).trans upd_same, _, _, _, rfl, by omega, by omega, by omega, by omega, sg⟩
              · have := hB.put q7 (txtL l)
                rw [show (0 : Int) + ((j + 1 : Nat) : Int) = 0 + (j : Int) + 1 by omega]
                exact this
              · rw [List.length_append]
                show L.length + 1 ≤ 6 * i + (j + 1)
                omega
            · exact ⟨F6.mono (by omega), k60, L, _, _, rfl, D6, hS6, hK, hB.up (by omega), by omega⟩
          · exact ⟨F5.mono (by omega), k50, L, _, _, rfl, D5, hS5, hK, hB.up (by omega), by omega⟩
      · rintro σ H4 ⟨F4, k4, L, o6, o7, rfl, w4, hS, hK, hB, hL⟩
        refine ⟨F4.mono (by omega), k4, L, _, _, _, rfl, w4, hS, hK, ?_, by omega⟩
        have := hB.next
        rw [show ((i + 1 : Nat) : Int) = 0 + (i : Int) + 1 by omega]
        exact this
    · rintro σ H3 ⟨F3, k3, L, o5, o6, o7, rfl, w3, hS, hK, hB, hL⟩
      have hS' : ∀ {H' : Hp}, Kp f H3 H' → ∀ x ∈ L, H' x.1 = some (.tup x.2) ∧ StOk z x.2 := fun {H'} kk x hx => ⟨kk _ _ (hS x hx).1 fun e => feed_ne F3 (hS x hx).1 e, (hS x hx).2⟩
      refine ⟨_, rfl, _, rfl, z, rfl, by omega, by omega, fun q4 h4 => ?_⟩
      rw [Int.toNat_natCast, rngL_map]
      have q4f : q4 ≠ f := F3.ne_f h4
      refine .inr ⟨f, q4, _, d, _, rfl, upd_same, q4f, by rw [List.length_map, List.length_range]; omega, F3.new h4, by omega, fun q8 bs H5 sub8 h8 n8 F5 k5 => ?_⟩
      rw [List.length_map, List.length_range] at F5
      have k35 : Kp f H3 H5 := (Kp.new h4).trans k5
      refine ⟨_, rfl, _, rfl, z, rfl, by omega, by omega, fun q5 h5 => ?_⟩
      rw [Int.toNat_natCast, rngL_map]
      have q5f : q5 ≠ f := F5.ne_f h5
      refine .inr ⟨f, q5, _, d, _, rfl, upd_same, q5f, by rw [List.length_map, List.length_range]; omega, F5.new h5, by omega, fun q9 es H7 sub9 h9 n9 F7 k7 => ?_⟩
      rw [List.length_map, List.length_range] at F7
      have k57 : Kp f H5 H7 := (Kp.new h5).trans k7
      have R7 : RmS H f D d z L q8 q9 bs es (n + 240) H7 := ⟨F7.mono (by omega), k3.trans (k35.trans k57), (k35.trans k57) _ _ w3 Df, hS' (k35.trans k57), k57 _ _ h8 n8, rng_pl z5 sub8, h9, rng_pl z5 sub9, Df, n8, n9⟩
      refine ⟨_, _, rfl, ?_⟩
      refine nx_st (ts_r (ts := tIfS _ _ _) (fun σ' H' => ∃ q8 bs, σ' = [some (.ref f), some (.str m), some (.int 6), some (.int z), some (.ref D), o5, o6, o7, some (.ref q8), some (.ref q9)] ∧ RmS H f D d z L q8 q9 bs es (n + 241) H') (fun D' q' => ?_) ?_)
      · refine ⟨_, rfl, by show 0 ≤ sizeLine; omega, fun p hp => ?_⟩
        have R8 := R7.go (R7.1.new hp) (Kp.new (o := .lst []) hp)
        refine ⟨.list (bs.map PyData.int), .list [], .lst (SqL.of R8.2.2.2.2.1) (dpInts bs), .lst (SqL.of upd_same) .nil, PySem.W.ke_shaped_ints bs, rfl, _, rfl, ite2 (fun _ => ?_) fun _ => ?_⟩
        · refine ⟨_, rfl, _, rfl, f, z, d, _, rfl, by omega, by omega, R8.1, by omega, fun r H9 r0 r1 F9 k9 => ⟨by show 1 ≤ sizeLine; omega, fun q hq => q' _ _ ?_⟩⟩
          have R9 := (R8.go F9 k9).go (F9.new hq) (Kp.new (o := .lst [.int r]) hq)
          obtain ⟨a1, a2, a3, a4, _, _, a7, a8, a9, _, a11⟩ := R9
          exact ⟨q, [r], rfl, a1, a2, a3, a4, upd_same, one_pl r0 r1, a7, a8, a9, F9.ne_f hq, a11⟩
        · exact q' _ _ ⟨q8, bs, rfl, R8.go (R8.1.mono (by omega)) (Kp.refl _ _)⟩
      rintro σ' H' ⟨q8', bs', rfl, R8⟩
      refine nx_st (ts_r (ts := tIfS _ _ _) (fun σ' H' => ∃ q9 es, σ' = [some (.ref f), some (.str m), some (.int 6), some (.int z), some (.ref D), o5, o6, o7, some (.ref q8'), some (.ref q9)] ∧ RmS H f D d z L q8' q9 bs' es (n + 243) H') (fun D' q' => ?_) ?_)
      · refine ⟨_, rfl, by show 0 ≤ sizeLine; omega, fun p hp => ?_⟩
        have R9 := R8.go (R8.1.new hp) (Kp.new (o := .lst []) hp)
        refine ⟨.list (es.map PyData.int), .list [], .lst (SqL.of R9.2.2.2.2.2.2.1) (dpInts es), .lst (SqL.of upd_same) .nil, PySem.W.ke_shaped_ints es, rfl, _, rfl, ite2 (fun _ => ?_) fun _ => ?_⟩
        · refine ⟨_, rfl, f, 4, d, _, rfl, by decide, by decide, R9.1, by omega, fun r6 H9 r60 r61 F9 k9 => ?_⟩
          have R10 := R9.go F9 k9
          refine ⟨_, _, rfl, rfl, _, rfl, ite2 (fun hlt => ?_) fun hge => ?_⟩
          · refine ⟨_, rfl, _, rfl, f, z, d, _, rfl, by omega, by omega, R10.1, by omega, fun r H11 r0 r1 F11 k11 => ⟨by show 1 ≤ sizeLine; omega, fun q hq => q' _ _ ?_⟩⟩
            have R12 := (R10.go F11 k11).go (F11.new hq) (Kp.new (o := .lst [.int r]) hq)
            obtain ⟨a1, a2, a3, a4, a5, a6, _, _, a9, a10, _⟩ := R12
            exact ⟨q, [r], rfl, a1.mono (by omega), a2, a3, a4, a5, a6, upd_same, one_pl r0 r1, a9, a10, F11.ne_f hq⟩
          · exact q' _ _ ⟨q9, es, rfl, R10.go (R10.1.mono (by omega)) (Kp.refl _ _)⟩
        · exact q' _ _ ⟨q9, es, rfl, R9.go (R9.1.mono (by omega)) (Kp.refl _ _)⟩
      rintro σ' H' ⟨q9', es', rfl, R9⟩
      refine ⟨_, rfl, _, rfl, q8', _, rfl, .inl ⟨SqL.of R9.2.2.2.2.1, fun rb hrb => ?_⟩⟩
      have R10 := R9.go (R9.1.new hrb) (Kp.new (o := .tup (bs'.map V.int)) hrb)
      have b10 : upd H' rb (.tup (bs'.map V.int)) rb = some (.tup (bs'.map V.int)) := upd_same
      generalize upd H' rb (.tup (bs'.map V.int)) = H10 at R10 b10 ⊢
      have rbf : rb ≠ f := fun e => feed_ne R10.1 b10 e
      refine ⟨_, rfl, D, L, true, [some false, some true], rfl, SqL.of R10.2.2.1, by omega, by decide, fun x hx => ⟨SqT.of (R10.2.2.2.1 x hx).1, ?_⟩, fun L' p' perm asc hp' => ?_⟩
      · obtain ⟨_, p0, m0, t0, e0, _⟩ := R10.2.2.2.1 x hx
        rw [e0]
        rfl
      have R11 := R10.go (R10.1.new hp') (Kp.new (o := .lst (L'.map fun x : Addr × List V => V.ref x.1)) hp')
      have b11 := (Same.new (o := .lst (L'.map fun x : Addr × List V => V.ref x.1)) hp') _ _ b10
      have w11 : upd H10 p' (.lst (L'.map fun x : Addr × List V => V.ref x.1)) p' = some (.lst (refL L')) := upd_same
      generalize upd H10 p' (.lst (L'.map fun x : Addr × List V => V.ref x.1)) = H11 at R11 b11 w11 ⊢
      refine ⟨p', _, rfl, .inl ⟨SqL.of w11, fun rs hrs => ?_⟩⟩
      have R12 := R11.go (R11.1.new hrs) (Kp.new (o := .tup (refL L')) hrs)
      have b12 := (Same.new (o := .tup (refL L')) hrs) _ _ b11
      have s12 : upd H11 rs (.tup (refL L')) rs = some (.tup (refL L')) := upd_same
      generalize upd H11 rs (.tup (refL L')) = H12 at R12 b12 s12 ⊢
      refine ⟨_, rfl, q9', _, rfl, .inl ⟨SqL.of R12.2.2.2.2.2.2.1, fun re hre => ?_⟩⟩
      have R13 := R12.go (R12.1.new hre) (Kp.new (o := .tup (es'.map V.int)) hre)
      have b13 := (Same.new (o := .tup (es'.map V.int)) hre) _ _ b12
      have s13 := (Same.new (o := .tup (es'.map V.int)) hre) _ _ s12
      have e13 : upd H12 re (.tup (es'.map V.int)) re = some (.tup (es'.map V.int)) := upd_same
      generalize upd H12 re (.tup (es'.map V.int)) = H13 at R13 b13 s13 e13 ⊢
      refine ⟨by show 4 ≤ sizeLine; omega, fun p hp => ?_⟩
      have sp : Same H13 (upd H13 p (.tup [.int z, .ref rb, .ref rs, .ref re])) := Same.new hp
      obtain ⟨F14, k14, _, hS14, _, p8, _, p9, _, _, _⟩ := R13.go (R13.1.new hp) (Kp.new (o := .tup [.int z, .ref rb, .ref rs, .ref re]) hp)
      have st := sts_of perm asc hS14 hK (by omega)
      exact k p z bs' es' L' _ z5 ⟨rb, rs, re, upd_same, sp _ _ b13, sp _ _ s13, sp _ _ e13, fun x hx => (st.2.1 x hx).1⟩ p8 st p9 (R13.1.ne_f hp) (F14.mono (by omega)) k14
end
end K33
set_option Elab.async false
set_option linter.all false
set_option maxRecDepth 100000
namespace K33
set_option pp.deepTerms false
set_option pp.deepTerms.threshold 6
set_option pp.proofs false
open PySem PySem.Spec PyProof.Rows L2
section
variable {P : Program} {w : World} {K : PySem.W.Frag} {mg : Str → Option Value} {base : Heap} {a : Ad}
set_option maxHeartbeats 4000000
def spMlen (C : Addr) : Sp := fun vs H Q _ => ∃ (y : Addr) (n : Nat) (bs es : List Int) (L : Sts), vs = [.ref y] ∧ MaAt C H y n bs es L ∧ n ≤ 100 ∧ Q (.int n) H
theorem ok_mlen (T : Txt K mg a) : FnOk P w K mg base CX0 1 a.f_Machine_len a.d_Machine_len ["self"] (spMlen a.C_Machine) := by
  refine T.F_Machine_len.ok sc_Machine_len (fun vs H Q E h => ?_) (fun cdv A outer s H vs Q E hr h => ?_)
  · obtain ⟨y, n, bs, es, L, rfl, _⟩ := h
    rfl
  · obtain ⟨y, n, bs, es, L, rfl, ⟨dx, rb, rs, re, hy, _⟩, hn, k⟩ := h
    refine ⟨_, (pss_one (ps_ret (pe_lenR rfl T.n_len rfl T.n_range (pa_att (pe_fld (pv 0) rfl) pa_nil)))), ?_⟩
    refine ⟨_, rfl, y, _, dx, _, _, rfl, hy, T.cl_Machine, T.na_Machine_many, rfl, n, rfl, ⟨by omega, by omega⟩, ?_⟩
    rw [Int.toNat_natCast]
    exact k
def vD : V → PyData
  | .int i => .int i
  | .str s => .str s
  | _ => .none
def FD (k b : Nat) (d : PyData) : Prop := d.canLay0 = true ∧ d.depth ≤ k ∧ d.showable = true ∧ d.leavesShort 20 = true ∧ d.bulk ≤ b
theorem fd_all {k b : Nat} : ∀ {l : List PyData}, (∀ d ∈ l, FD k b d) → PyData.canLayAll0 l = true ∧ PyData.depthAll l ≤ k ∧ PyData.showableAll l = true ∧ PyData.leavesShortAll 20 l = true ∧ PyData.bulkAll l ≤ (b + 1) * l.length
  | [], _ => ⟨rfl, by simp only [PyData.depthAll]; omega, by simp only [PyData.showableAll], by simp only [PyData.leavesShortAll], by simp only [PyData.bulkAll]; exact Nat.zero_le _⟩
  | d :: l, h => by
    obtain ⟨h1, h2, h3, h4, h5⟩ := fd_all fun u hu => h u (List.mem_cons_of_mem _ hu)
    obtain ⟨g1, g2, g3, g4, g5⟩ := h d (List.mem_cons_self ..)
    refine ⟨?_, ?_, ?_, ?_, ?_⟩
    · simp only [PyData.canLayAll0, g1, h1, Bool.and_self]
    · simp only [PyData.depthAll]; omega
    · simp only [PyData.showableAll, g3, h3, Bool.and_self]
    · simp only [PyData.leavesShortAll, g4, h4, Bool.and_self]
    · simp only [PyData.bulkAll, List.length_cons, Nat.mul_add, Nat.mul_one]
      omega
theorem fd_tup {k b n : Nat} {l : List PyData} (h : ∀ d ∈ l, FD k b d) (hl : l.length ≤ n) : FD (k + 1) ((b + 1) * n) (.tuple l) := by
  obtain ⟨h1, h2, h3, h4, h5⟩ := fd_all h
  refine ⟨?_, ?_, ?_, ?_, ?_⟩
  · simp only [PyData.canLay0, h1]
  · simp only [PyData.depth]; omega
  · simp only [PyData.showable, h3]
  · simp only [PyData.leavesShort, h4]
  · simp only [PyData.bulk]; exact Nat.le_trans h5 (Nat.mul_le_mul_left _ hl)
theorem fd_lst {k b n : Nat} {l : List PyData} (h : ∀ d ∈ l, FD k b d) (hl : l.length ≤ n) : FD (k + 1) ((b + 1) * n) (.list l) := by
  obtain ⟨h1, h2, h3, h4, h5⟩ := fd_all h
  refine ⟨?_, ?_, ?_, ?_, ?_⟩
  · simp only [PyData.canLay0, h1]
  · simp only [PyData.depth]; omega
  · simp only [PyData.showable, h3]
  · simp only [PyData.leavesShort, h4]
  · simp only [PyData.bulk]; exact Nat.le_trans h5 (Nat.mul_le_mul_left _ hl)
theorem FD.mono {k b k' b' : Nat} {d : PyData} (h : FD k b d) (hk : k ≤ k') (hb : b ≤ b') : FD k' b' d := ⟨h.1, Nat.le_trans h.2.1 hk, h.2.2.1, h.2.2.2.1, Nat.le_trans h.2.2.2.2 hb⟩
theorem FD.shaped {k b : Nat} {d : PyData} (h : FD k b d) (hk : k ≤ 64) : SeqAt.shaped d = true := by
  simp only [SeqAt.shaped, h.1, Bool.true_and]
  exact decide_eq_true (Nat.le_trans h.2.1 hk)
theorem FD.shown {k b : Nat} {d : PyData} (h : FD k b d) (hb : 22 * b + 20 ≤ sizeLine) : d.shown.length ≤ sizeLine := by
  have := PyData.shown_le_bulk 20 (by decide) d h.2.2.2.1
  have : 22 * d.bulk ≤ 22 * b := Nat.mul_le_mul_left _ h.2.2.2.2
  omega
theorem int_short : ∀ i : Nat, i < 20 → (PyData.shown (.int i)).length ≤ 20 := by decide +kernel
theorem fd_int {i : Int} (h0 : 0 ≤ i) (h1 : i < 20) : FD 0 0 (.int i) := by
  obtain ⟨n, rfl⟩ : ∃ n : Nat, i = n := ⟨i.toNat, by omega⟩
  have hl := int_short n (by omega)
  have hlog : (n : Int).natAbs.log2 < 1920 := Nat.lt_of_le_of_lt (Nat.log2_le_self _) (by omega)
  refine ⟨?_, ?_, ?_, ?_, ?_⟩
  · simp only [PyData.canLay0]
  · simp only [PyData.depth]; omega
  · simp only [PyData.showable, decide_eq_true hlog]
  · simp only [PyData.leavesShort, decide_eq_true hl]
  · simp only [PyData.bulk]; omega
theorem fd_str {m : Str} (h : SgOk m) : FD 0 100 (.str m) := by
  have lo : ∀ c ∈ m.cps.toList, c < 128 := fun c hc => tsg_low c (h.2.2.1 c hc)
  refine ⟨?_, ?_, ?_, ?_, ?_⟩
  · simp only [PyData.canLay0, PyData.strOk]
    rw [← Array.all_toList, List.all_eq_true]
    exact fun c hc => decide_eq_true (by have := lo c hc; omega)
  · simp only [PyData.depth]; omega
  · simp only [PyData.showable]
  · simp only [PyData.leavesShort]
    rw [List.all_eq_true]
    exact fun c hc => decide_eq_true (by have := lo c hc; omega)
  · simp only [PyData.bulk]; exact h.2.1
def plD (ns : List Int) : PyData := .tuple (ns.map PyData.int)
def stsD (L : Sts) : PyData := .tuple (L.map fun x => .tuple (x.2.map vD))
def rwL (n : Int) (bs es : List Int) (L : Sts) : List PyData := [.int n, plD bs, stsD L, plD es]
def Gd (H : Hp) (n : Nat) (bs es : List Int) (L : Sts) : Prop := n ≤ 19 ∧ PlOk n bs ∧ StsOk H n L ∧ PlOk n es
theorem fd_pl {n : Nat} {ns : List Int} (hn : n ≤ 19) (h : PlOk n ns) : FD 1 60 (plD ns) := by
  refine (fd_tup (k := 0) (b := 0) (n := 60) (fun d hd => ?_) (by rw [List.length_map]; exact h.2.2)).mono (by omega) (by omega)
  obtain ⟨i, hi, rfl⟩ := List.mem_map.mp hd
  have := h.1 i hi
  exact fd_int this.1 (by omega)
theorem fd_sts {H : Hp} {n : Nat} {L : Sts} (hn : n ≤ 19) (h : StsOk H n L) : FD 2 18240 (stsD L) := by
  refine (fd_tup (k := 1) (b := 303) (n := 60) (fun d hd => ?_) (by rw [List.length_map]; exact h.1)).mono (by omega) (by omega)
  obtain ⟨x, hx, rfl⟩ := List.mem_map.mp hd
  obtain ⟨p, m, t, e, p0, p1, t0, t1, sg⟩ := (h.2.1 x hx).2
  rw [e]
  refine (fd_tup (k := 0) (b := 100) (n := 3) (fun d hd => ?_) (Nat.le_refl _)).mono (by omega) (by omega)
  rcases List.mem_cons.mp hd with rfl | hd
  · exact (fd_int p0 (by omega)).mono (by omega) (by omega)
  rcases List.mem_cons.mp hd with rfl | hd
  · exact fd_str sg
  rcases List.mem_cons.mp hd with rfl | hd
  · exact (fd_int t0 (by omega)).mono (by omega) (by omega)
  cases hd
theorem fd_rw {H : Hp} {n : Nat} {bs es : List Int} {L : Sts} (g : Gd H n bs es L) : ∀ d ∈ rwL n bs es L, FD 2 18240 d := by
  intro d hd
  rcases List.mem_cons.mp hd with rfl | hd
  · exact (fd_int (by omega) (by have := g.1; omega)).mono (by omega) (by omega)
  rcases List.mem_cons.mp hd with rfl | hd
  · exact (fd_pl g.1 g.2.1).mono (by omega) (by omega)
  rcases List.mem_cons.mp hd with rfl | hd
  · exact fd_sts g.1 g.2.2.1
  rcases List.mem_cons.mp hd with rfl | hd
  · exact (fd_pl g.1 g.2.2.2).mono (by omega) (by omega)
  cases hd
theorem dp_pl {H : Hp} {r : Addr} {ns : List Int} (h : H r = some (.tup (ns.map V.int))) : Dp K H (.ref r) (plD ns) := .tup (SqT.of h) (dpInts ns)
theorem dp_st {H : Hp} {n : Int} {x : Addr × List V} (h : H x.1 = some (.tup x.2)) (s : StOk n x.2) : Dp K H (.ref x.1) (.tuple (x.2.map vD)) := by
  obtain ⟨p, m, t, e, _⟩ := s
  rw [e] at h ⊢
  exact .tup (SqT.of h) (.cons (.int _) (.cons (.str _) (.cons (.int _) .nil)))
theorem dp_all {H : Hp} {n : Int} : ∀ {L : Sts}, (∀ x ∈ L, H x.1 = some (.tup x.2) ∧ StOk n x.2) → DpAll K H (refL L) (L.map fun x => .tuple (x.2.map vD))
  | [], _ => .nil
  | x :: L, h => .cons (dp_st (h x (List.mem_cons_self ..)).1 (h x (List.mem_cons_self ..)).2) (dp_all fun y hy => h y (List.mem_cons_of_mem _ hy))
theorem dp_sts {H : Hp} {n : Int} {r : Addr} {L : Sts} (h : H r = some (.tup (refL L))) (s : StsOk H n L) : Dp K H (.ref r) (stsD L) := .tup (SqT.of h) (dp_all s.2.1)
theorem dp_rw {H : Hp} {p : Addr} {n : Nat} {bs es : List Int} {L : Sts} (h : RwAt H p n bs es L) (s : StsOk H n L) : Dp K H (.ref p) (.tuple (rwL n bs es L)) := by
  obtain ⟨rb, rs, re, h1, h2, h3, h4, _⟩ := h
  exact .tup (SqT.of h1) (.cons (.int _) (.cons (dp_pl h2) (.cons (dp_sts h3 s) (.cons (dp_pl h4) .nil))))
def maB (n : Int) (bs es : List Int) (L : Sts) (n' : Int) (bs' es' : List Int) (L' : Sts) : Bool := PyData.eqv (.tuple (rwL n bs es L)) (.tuple (rwL n' bs' es' L'))
theorem maB_eq (n : Int) (bs es : List Int) (L : Sts) (n' : Int) (bs' es' : List Int) (L' : Sts) : maB n bs es L n' bs' es' L' = (PyData.eqv (.int n) (.int n') && (PyData.eqv (plD bs) (plD bs') && (PyData.eqv (stsD L) (stsD L') && PyData.eqv (plD es) (plD es')))) := by
  unfold maB rwL
  simp only [PyData.eqv, PyData.eqvAll, Bool.and_true]
theorem Gd.tup {H : Hp} {n : Nat} {bs es : List Int} {L : Sts} (g : Gd H n bs es L) : FD 3 72964 (.tuple (rwL n bs es L)) := (fd_tup (fd_rw g) (n := 4) (Nat.le_refl _)).mono (by omega) (by omega)
theorem maB_self {H : Hp} {n : Nat} {bs es : List Int} {L : Sts} (g : Gd H n bs es L) : maB n bs es L n bs es L = true := SeqAt.eqv_refl _ (SeqAt.canLay_of_shaped (g.tup.shaped (by decide)))
def spMeq (K : PySem.W.Frag) (C : Addr) : Sp := fun vs H Q _ => (∃ (p q : Addr) (n n' : Nat) (bs es bs' es' : List Int) (L L' : Sts), vs = [.ref p, .ref q] ∧ MaAt C H p n bs es L ∧ MaAt C H q n' bs' es' L' ∧ Gd H n bs es L ∧ Gd H n' bs' es' L' ∧ Q (.bl (maB n bs es L n' bs' es' L')) H) ∨
  ∃ (p : Addr) (v : V) (t : Value), vs = [.ref p, v] ∧ TyOf K H v t ∧ PySem.W.kitOne K t (.ref C) = some false ∧ Q (.bl false) H
theorem iteB {c : Bool} {P Q : Prop} (h1 : c = true → P) (h2 : c = false → Q) : if c = true then P else Q := by
  cases c
  · exact h2 rfl
  · exact h1 rfl
theorem ok_meq (T : Txt K mg a) : FnOk P w K mg base CX0 1 a.f_Machine_eq a.d_Machine_eq ["self", "other"] (spMeq K a.C_Machine) := by
  refine T.F_Machine_eq.ok sc_Machine_eq (fun vs H Q E h => ?_) (fun cdv A outer s H vs Q E hr h => ?_)
  · rcases h with ⟨p, q, n, n', bs, es, bs', es', L, L', rfl, _⟩ | ⟨p, v, t, rfl, _⟩
    · rfl
    · rfl
  · rcases h with ⟨p, q, n, n', bs, es, bs', es', L, L', rfl, ⟨dp, rb, rs, re, hp, hb, hs, he, _⟩, ⟨dq, rb', rs', re', hq, hb', hs', he', _⟩, g, g', k⟩ | ⟨p, v, t, rfl, ty, kt, k⟩
    rotate_left
    · refine ⟨_, (pss_one (ps_ret (pe_and (pe_callB isi_any (by rfl) T.n_isinstance (by decide +kernel) (pa_nam (pv 1) (pa_nam (pe_glob (v := .ref a.C_Machine) rfl T.m_Machine rfl) pa_nil))) (pe_and (pe_cmpR (op_eqD hr.units) (pe_fld (pv 0) rfl) (pe_fld (pv 1) rfl) (nomark _)) (pe_and (pe_cmpR (op_eqD hr.units) (pe_fld (pv 0) rfl) (pe_fld (pv 1) rfl) (nomark _)) (pe_and (pe_cmpR (op_eqD hr.units) (pe_fld (pv 0) rfl) (pe_fld (pv 1) rfl) (nomark _)) (pe_one (pe_cmpR (op_eqD hr.units) (pe_fld (pv 0) rfl) (pe_fld (pv 1) rfl) (nomark _))))))))), ?_⟩
      refine ⟨_, rfl, _, _, _, _, false, rfl, ty, rfl, kt, _, rfl, ?_⟩
      exact ite2 (fun h => Bool.noConfusion h) fun _ => k
    refine ⟨_, (pss_one (ps_ret (pe_and (pe_callB isi_any (by rfl) T.n_isinstance (by decide +kernel) (pa_nam (pv 1) (pa_nam (pe_glob (v := .ref a.C_Machine) rfl T.m_Machine rfl) pa_nil))) (pe_and (pe_cmpR (op_eqD hr.units) (pe_fld (pv 0) rfl) (pe_fld (pv 1) rfl) (nomark _)) (pe_and (pe_cmpR (op_eqD hr.units) (pe_fld (pv 0) rfl) (pe_fld (pv 1) rfl) (nomark _)) (pe_and (pe_cmpR (op_eqD hr.units) (pe_fld (pv 0) rfl) (pe_fld (pv 1) rfl) (nomark _)) (pe_one (pe_cmpR (op_eqD hr.units) (pe_fld (pv 0) rfl) (pe_fld (pv 1) rfl) (nomark _))))))))), ?_⟩
    refine ⟨_, rfl, _, _, _, _, true, rfl, .ins hq T.cl_Machine T.ty1_Machine T.ty2_Machine T.ty3_Machine T.ty4_Machine, rfl, T.ki1_Machine, _, rfl, ?_⟩
    refine ite2 (fun _ => ?_) (fun h => absurd rfl h)
    rw [maB_eq] at k
    refine ⟨_, rfl, p, _, dp, _, _, rfl, hp, T.cl_Machine, T.na_Machine_many, rfl, _, rfl, q, _, dq, _, _, rfl, hq, T.cl_Machine, T.na_Machine_many, rfl, _, _, .int _, .int _, (fd_int (by omega) (by have := g.1; omega)).shaped (by decide), (fd_int (by omega) (by have := g'.1; omega)).shaped (by decide), _, rfl, iteB (fun h1 => ?_) (fun h1 => by rw [h1, Bool.false_and] at k; exact k)⟩
    rw [h1, Bool.true_and] at k
    clear h1
    refine ⟨_, rfl, p, _, dp, _, _, rfl, hp, T.cl_Machine, T.na_Machine_begins, rfl, _, rfl, q, _, dq, _, _, rfl, hq, T.cl_Machine, T.na_Machine_begins, rfl, _, _, dp_pl hb, dp_pl hb', (fd_pl g.1 g.2.1).shaped (by decide), (fd_pl g'.1 g'.2.1).shaped (by decide), _, rfl, iteB (fun h1 => ?_) (fun h1 => by rw [h1, Bool.false_and] at k; exact k)⟩
    rw [h1, Bool.true_and] at k
    clear h1
    refine ⟨_, rfl, p, _, dp, _, _, rfl, hp, T.cl_Machine, T.na_Machine_steps, rfl, _, rfl, q, _, dq, _, _, rfl, hq, T.cl_Machine, T.na_Machine_steps, rfl, _, _, dp_sts hs g.2.2.1, dp_sts hs' g'.2.2.1, (fd_sts g.1 g.2.2.1).shaped (by decide), (fd_sts g'.1 g'.2.2.1).shaped (by decide), _, rfl, iteB (fun h1 => ?_) (fun h1 => by rw [h1, Bool.false_and] at k; exact k)⟩
    rw [h1, Bool.true_and] at k
    clear h1
    exact ⟨_, rfl, p, _, dp, _, _, rfl, hp, T.cl_Machine, T.na_Machine_ends, rfl, _, rfl, q, _, dq, _, _, rfl, hq, T.cl_Machine, T.na_Machine_ends, rfl, _, _, dp_pl he, dp_pl he', (fd_pl g.1 g.2.2.2).shaped (by decide), (fd_pl g'.1 g'.2.2.2).shaped (by decide), k⟩
end
end K33
set_option Elab.async false
set_option linter.all false
set_option maxRecDepth 100000
namespace K33
set_option pp.deepTerms false
set_option pp.deepTerms.threshold 6
set_option pp.proofs false
open PySem PySem.Spec PyProof.Rows L2
section
variable {P : Program} {w : World} {K : PySem.W.Frag} {mg : Str → Option Value} {base : Heap} {a : Ad}
set_option maxHeartbeats 4000000
def KpT (H H' : Hp) : Prop := (∀ b xs, H b = some (.tup xs) → H' b = some (.tup xs)) ∧ ∀ b C dx fs, H b = some (.ins C dx fs) → H' b = some (.ins C dx fs)
theorem KpT.trans {H H' H2 : Hp} (h : KpT H H') (g : KpT H' H2) : KpT H H2 := ⟨fun b xs e => g.1 b xs (h.1 b xs e), fun b C dx fs e => g.2 b C dx fs (h.2 b C dx fs e)⟩
theorem kt_kp {H H' : Hp} {f : Addr} {d : Fd} {n : Nat} (F : FeedC H f d n) (k : Kp f H H') : KpT H H' := by
  obtain ⟨kv, h1⟩ := F.at_f
  exact ⟨fun b xs e => k _ _ e fun z => by rw [z, h1] at e; (cases e), fun b C dx fs e => k _ _ e fun z => by rw [z, h1] at e; (cases e)⟩
theorem kt_same {H H' : Hp} (s : Same H H') : KpT H H' := ⟨fun b xs e => s _ _ e, fun b C dx fs e => s _ _ e⟩
theorem kt_put {H : Hp} {q : Addr} {xs : List V} {o : HO} (hq : H q = some (.lst xs)) : KpT H (upd H q o) := ⟨fun b ys e => (upd_ne (ne_of e hq (by intro z; cases z))).trans e, fun b C dx fs e => (upd_ne (ne_of e hq (by intro z; cases z))).trans e⟩
theorem StsOk.kt {H H' : Hp} {n : Int} {L : Sts} (h : StsOk H n L) (t : KpT H H') : StsOk H' n L := ⟨h.1, fun x hx => ⟨t.1 _ _ (h.2.1 x hx).1, (h.2.1 x hx).2⟩, h.2.2⟩
theorem RwAt.kt {H H' : Hp} {p : Addr} {n : Int} {bs es : List Int} {L : Sts} (h : RwAt H p n bs es L) (t : KpT H H') : RwAt H' p n bs es L := by
  obtain ⟨rb, rs, re, h1, h2, h3, h4, h5⟩ := h
  exact ⟨rb, rs, re, t.1 _ _ h1, t.1 _ _ h2, t.1 _ _ h3, t.1 _ _ h4, fun x hx => t.1 _ _ (h5 x hx)⟩
theorem MaAt.kt {C : Addr} {H H' : Hp} {y : Addr} {n : Int} {bs es : List Int} {L : Sts} (h : MaAt C H y n bs es L) (t : KpT H H') : MaAt C H' y n bs es L := by
  obtain ⟨dx, rb, rs, re, h1, h2, h3, h4, h5⟩ := h
  exact ⟨dx, rb, rs, re, t.2 _ _ _ _ h1, t.1 _ _ h2, t.1 _ _ h3, t.1 _ _ h4, fun x hx => t.1 _ _ (h5 x hx)⟩
theorem strikeL (m : Str) : (Txt.replace m (Str.ofString "~") (Str.ofString "")).cps.toList = m.cps.toList.filter (· != 126) := by
  rw [show Str.ofString "~" = ⟨#[126]⟩ from by decide +kernel, show Str.ofString "" = ⟨#[]⟩ from by decide +kernel]
  exact PyProof.Rows.replace_strikes m 126
theorem str_len (m : Str) : m.length = m.cps.toList.length := by simp [PySem.Str.length]
theorem tsg_top : ∀ c ∈ TSG.cps.toList, 32 ≤ c ∧ c ≤ 126 := by
  have : TSG.cps.toList.all (fun c => decide (32 ≤ c ∧ c ≤ 126)) = true := by decide +kernel
  exact fun c hc => of_decide_eq_true (List.all_eq_true.mp this c hc)
theorem tsg_til : 126 ∈ TSG.cps.toList := by decide +kernel
theorem ris_len {l : List Nat} (h : RisL l) (m : ∀ c ∈ l, c ∈ TSG.cps.toList) : l.length ≤ 95 := by
  have := SPr.nodup_le 95 (l.map (· - 32)) (by
    rw [List.nodup_iff_pairwise_ne, List.pairwise_map]
    exact h.imp_of_mem fun {a b} ha hb z e => by have := tsg_top a (m a ha); have := tsg_top b (m b hb); have : a - 32 = b - 32 := e; omega) fun x hx => by
      obtain ⟨p, hp, rfl⟩ := List.mem_map.mp hx
      have := tsg_top p (m p hp)
      omega
  rwa [List.length_map] at this
def tilS (m : Str) : Str := Txt.replace m (Str.ofString "~") (Str.ofString "") ++ Str.ofString "~"
theorem tilS_list (m : Str) : (tilS m).cps.toList = m.cps.toList.filter (· != 126) ++ [126] := by
  unfold tilS
  rw [PySem.Str.cps_append, Array.toList_append, strikeL, show (Str.ofString "~").cps.toList = [126] from by decide +kernel]
theorem tilS_ok {m : Str} (h : SgOk m) : SgOk (tilS m) := by
  have hm : ∀ c ∈ (tilS m).cps.toList, c ∈ TSG.cps.toList := fun c hc => by
    rw [tilS_list] at hc
    rcases List.mem_append.mp hc with z | z
    · exact h.2.2.1 c (List.mem_filter.mp z).1
    · rw [List.mem_singleton.mp z]; exact tsg_til
  have hr : RisL (tilS m).cps.toList := by
    rw [tilS_list]
    unfold RisL
    rw [List.pairwise_append]
    refine ⟨h.2.2.2.sublist List.filter_sublist, List.pairwise_singleton _ _, fun x hx y hy => ?_⟩
    rw [List.mem_singleton.mp hy]
    obtain ⟨h1, h2⟩ := List.mem_filter.mp hx
    have := (tsg_top x (h.2.2.1 x h1)).2
    have : x ≠ 126 := by simpa using h2
    omega
  refine ⟨?_, ?_, hm, hr⟩
  · rw [str_len, tilS_list, List.length_append]; show 0 < _ + 1; omega
  · rw [str_len]; exact Nat.le_trans (ris_len hr hm) (by decide)
theorem PlOk.up {n n' : Int} {ns : List Int} (h : PlOk n ns) (l : n ≤ n') : PlOk n' ns := ⟨fun i hi => by have := h.1 i hi; omega, h.2⟩
theorem PlOk.sub {n : Int} {ns ms : List Int} (h : PlOk n ns) (l : ms.Sublist ns) : PlOk n ms := ⟨fun i hi => h.1 i (l.mem hi), h.2.1.sublist l, Nat.le_trans l.length_le h.2.2⟩
theorem StOk.up {n n' : Int} {x : List V} (h : StOk n x) (l : n ≤ n') : StOk n' x := by
  obtain ⟨p, m, t, e, p0, p1, t0, t1, sg⟩ := h
  exact ⟨p, m, t, e, p0, by omega, t0, by omega, sg⟩
theorem StsOk.up {H : Hp} {n n' : Int} {L : Sts} (h : StsOk H n L) (l : n ≤ n') : StsOk H n' L := ⟨h.1, fun x hx => ⟨(h.2.1 x hx).1, (h.2.1 x hx).2.up l⟩, h.2.2⟩
theorem StsOk.sub {H : Hp} {n : Int} {L M : Sts} (h : StsOk H n L) (l : M.Sublist L) : StsOk H n M := ⟨Nat.le_trans l.length_le h.1, fun x hx => h.2.1 x (l.mem hx), h.2.2.1.sublist l, h.2.2.2.sublist l⟩
theorem cutV_sub {α : Type} (f : α → V) (ns : List α) (lo hi : Option Int) : ∃ ms : List α, cutV (ns.map f) lo hi = ms.map f ∧ ms.Sublist ns := by
  refine ⟨(ns.drop (HT.sIx (ns.map f).length 0 lo)).take (HT.sIx (ns.map f).length (ns.map f).length hi - HT.sIx (ns.map f).length 0 lo), ?_, (List.take_sublist _ _).trans (List.drop_sublist _ _)⟩
  unfold cutV
  rw [List.map_take, List.map_drop]
theorem cutV_take {xs : List V} {k : Nat} (h : k ≤ xs.length) : cutV xs none (some (k : Int)) = xs.take k := by
  unfold cutV
  rw [HT.sIx_none, HT.sIx_nat, Nat.min_eq_left h, Nat.sub_zero, List.drop_zero]
theorem cutV_drop {xs : List V} {k : Nat} (h : k ≤ xs.length) : cutV xs (some (k : Int)) none = xs.drop k := by
  unfold cutV
  rw [HT.sIx_none, HT.sIx_nat, Nat.min_eq_left h, List.take_of_length_le (by rw [List.length_drop]; omega)]
theorem refL_map (L : Sts) : refL L = L.map fun x => V.ref x.1 := rfl
theorem ref_take (L : Sts) (k : Nat) : (refL L).take k = refL (L.take k) := by rw [refL_map, refL_map, List.map_take]
theorem ref_drop (L : Sts) (k : Nat) : (refL L).drop k = refL (L.drop k) := by rw [refL_map, refL_map, List.map_drop]
theorem ref_app (L M : Sts) : refL L ++ refL M = refL (L ++ M) := by rw [refL_map, refL_map, refL_map, List.map_append]
theorem without_sub (L : Sts) (k : Nat) : (L.take k ++ L.drop (k + 1)).Sublist L := by
  have h : (L.take k ++ L.drop k).Sublist L := by rw [List.take_append_drop]; exact List.Sublist.refl _
  refine List.Sublist.trans (List.Sublist.append (List.Sublist.refl _) ?_) h
  rw [← List.drop_drop]
  exact List.drop_sublist _ _
theorem split_at {L : Sts} {k : Nat} {x : Addr × List V} (h : L[k]? = some x) : L = L.take k ++ [x] ++ L.drop (k + 1) := by
  obtain ⟨hk, e⟩ := List.getElem?_eq_some_iff.mp h
  rw [List.append_assoc, List.singleton_append, ← e, List.getElem_cons_drop, List.take_append_drop]
theorem key_set {L : Sts} {k : Nat} {x : Addr × List V} (y : Addr × List V) (h : L[k]? = some x) (e : keyR y.2 = keyR x.2) (hk : L.Pairwise fun u v => keyR u.2 ≠ keyR v.2) : (L.take k ++ [y] ++ L.drop (k + 1)).Pairwise fun u v => keyR u.2 ≠ keyR v.2 := by
  have a : (L.map fun u => keyR u.2).Pairwise (· ≠ ·) := by rw [List.pairwise_map]; exact hk
  rw [split_at h, List.map_append, List.map_append] at a
  have b : ((L.take k ++ [y] ++ L.drop (k + 1)).map fun u => keyR u.2).Pairwise (· ≠ ·) := by
    rw [List.map_append, List.map_append]
    show ((L.take k).map _ ++ [keyR y.2] ++ _).Pairwise _
    rw [e]
    exact a
  rw [List.pairwise_map] at b
  exact b
end
end K33
set_option Elab.async false
set_option linter.all false
set_option maxRecDepth 100000
namespace K33
set_option pp.deepTerms false
set_option pp.deepTerms.threshold 6
set_option pp.proofs false
open PySem PySem.Spec PyProof.Rows L2
section
variable {P : Program} {w : World} {K : PySem.W.Frag} {mg : Str → Option Value} {base : Heap} {a : Ad}
set_option maxHeartbeats 4000000
theorem tn_st {ts rest : TS} {D : Ends} {σ : L2.St} {H : Hp} {rt : VK} {bk ct : L2.St → Hp → Prop} (h : ts { nx := rest D, rt := D.rt, bk := D.bk, ct := D.ct } σ H) : tNext { nx := tSeq ts rest D, rt := rt, bk := bk, ct := ct } σ H := h
theorem ts_rr {ts : TS} {D : Ends} {σ : L2.St} {H : Hp} (R : L2.St → Hp → Prop) (h : ∀ nx' : L2.St → Hp → Prop, (∀ σ' H', R σ' H' → nx' σ' H') → ts { nx := nx', rt := D.rt, bk := D.bk, ct := D.ct } σ H) (k : ∀ σ' H', R σ' H' → D.nx σ' H') : ts D σ H := h D.nx k
def spOth : Sp := fun vs H Q _ => ∃ (f p : Addr) (d : Fd) (n : Nat) (bs es : List Int) (L : Sts) (i : Nat), vs = [.ref f, .ref p] ∧ RwAt H p n bs es L ∧ Gd H n bs es L ∧ n ≤ 18 ∧ FeedC H f d i ∧ i + 10 < 1000000 ∧
  ∀ (p' : Addr) (n' : Nat) (bs' es' : List Int) (L' : Sts) (H' : Hp), n' ≤ n + 1 → RwAt H' p' n' bs' es' L' → Gd H' n' bs' es' L' → FeedC H' f d (i + 2) → Kp f H H' → Q (.ref p') H'
theorem ok_oth (T : Txt K mg a) : FnOk P w K mg base CX0 2 a.f__law_otherwise a.d__law_otherwise ["_law_feed_here", "_law_raw_here"] spOth := by
  have G__law_draw : FnOk P w K mg base CX0 1 _ _ _ spDrawC := ok_draw T
  refine T.F__law_otherwise.ok sc__law_otherwise (fun vs H Q E h => ?_) (fun cdv A outer s H vs Q E hr h => ?_)
  · obtain ⟨f, p, d, n, bs, es, L, i, rfl, _⟩ := h
    rfl
  · obtain ⟨f, p, d, n, bs, es, L, i, rfl, hR, hG, hn, F, hi, k⟩ := h
    have hsz : 10000 ≤ sizeLine := by decide
    obtain ⟨rb, rs, re, hp, hb, hs, he, hL⟩ := id hR
    refine ⟨_, (pss_cons (ps_asg (pv 1) (pg_tup (by rfl) (pgs_cons (pg_name (i := 2) sc__law_otherwise.nd rfl (Or.inl rfl)) (pgs_cons (pg_name (i := 3) sc__law_otherwise.nd rfl (Or.inl rfl)) (pgs_cons (pg_name (i := 4) sc__law_otherwise.nd rfl (Or.inl rfl)) (pgs_cons (pg_name (i := 5) sc__law_otherwise.nd rfl (Or.inl rfl)) pgs_nil))))))
 (pss_cons (ps_set (i := 6) sc__law_otherwise.nd rfl (Or.inl rfl) (pe_call G__law_draw hr rfl T.m__law_draw T.k__law_draw T.b__law_draw .nil pass0 (pa_nam (pv 0) (pa_con pe_int pa_nil))))
 (pss_cons (ps_if (pt_cmpR op_eq (pv 6) pe_int (nomark _))
 (pss_one (ps_ret (pe_tup (pa_bin (pe_op op_add (pv 2) pe_int) (pa_nam (pv 3) (pa_nam (pv 4) (pa_nam (pv 5) pa_nil)))))))
 pss_nil)
 (pss_cons (ps_if (pt_cmpR op_eq (pv 6) pe_int (nomark _))
 (pss_one (ps_ret (pe_tup (pa_nam (pv 2) (pa_sub (pe_slice sl_tupG (pv 3) (po_some pe_int) po_none) (pa_nam (pv 4) (pa_nam (pv 5) pa_nil)))))))
 pss_nil)
 (pss_cons (ps_if (pt_cmpR op_eq (pv 6) pe_int (nomark _))
 (pss_one (ps_ret (pe_tup (pa_nam (pv 2) (pa_nam (pv 3) (pa_nam (pv 4) (pa_sub (pe_slice sl_tupG (pv 5) po_none (po_some (pe_op op_sub (pe_callB call_len_seq (by rfl) T.n_len (by decide +kernel) (pa_nam (pv 5) pa_nil)) pe_int))) pa_nil)))))))
 pss_nil)
 (pss_cons (ps_if (PW.pt (pw_and (pt_cmpR op_eq (pv 6) pe_int (nomark _)) (pw_and1 (pt_cmpR (op_neD hr.units) (pv 4) (pe_tup pa_nil) (nomark _)))))
 (pss_cons (ps_set (i := 7) sc__law_otherwise.nd rfl (Or.inl rfl) (pe_call G__law_draw hr rfl T.m__law_draw T.k__law_draw T.b__law_draw .nil pass0 (pa_nam (pv 0) (pa_cal (pe_callB call_len_seq (by rfl) T.n_len (by decide +kernel) (pa_nam (pv 4) pa_nil)) pa_nil))))
 (pss_one (ps_ret (pe_tup (pa_nam (pv 2) (pa_nam (pv 3) (pa_bin (pe_op op_catG (pe_slice sl_tupG (pv 4) po_none (po_some (pv 7))) (pe_slice sl_tupG (pv 4) (po_some (pe_op op_add (pv 7) pe_int)) po_none)) (pa_nam (pv 5) pa_nil))))))))
 pss_nil)
 (pss_cons (ps_if (PW.pt (pw_and (pt_cmpR op_eq (pv 6) pe_int (nomark _)) (pw_and1 (pt_cmpR (op_neD hr.units) (pv 4) (pe_tup pa_nil) (nomark _)))))
 (pss_cons (ps_set (i := 7) sc__law_otherwise.nd rfl (Or.inl rfl) (pe_call G__law_draw hr rfl T.m__law_draw T.k__law_draw T.b__law_draw .nil pass0 (pa_nam (pv 0) (pa_cal (pe_callB call_len_seq (by rfl) T.n_len (by decide +kernel) (pa_nam (pv 4) pa_nil)) pa_nil))))
 (pss_cons (ps_set (i := 8) sc__law_otherwise.nd rfl (Or.inl rfl) (pe_tup (pa_sub (pe_ix ix_tup (pe_ix ix_tup (pv 4) (pv 7) (fun _ _ => rfl)) pe_int (fun _ _ => rfl)) (pa_bin (pe_op op_add_str (pe_replL (pe_ix ix_tup (pe_ix ix_tup (pv 4) (pv 7) (fun _ _ => rfl)) pe_int (fun _ _ => rfl)) MkS.subI (by decide +kernel) (by decide) ⟨rfl, rfl, rfl, rfl⟩) pe_str) (pa_sub (pe_ix ix_tup (pe_ix ix_tup (pv 4) (pv 7) (fun _ _ => rfl)) pe_int (fun _ _ => rfl)) pa_nil)))))
 (pss_one (ps_ret (pe_tup (pa_nam (pv 2) (pa_nam (pv 3) (pa_cal (pe_callTy call_tuple_of (by rfl) T.n_tuple (by decide +kernel) (pa_cal (pe_callB cr_sortedTT (by rfl) T.n_sorted (by decide +kernel) (pa_bin (pe_op op_catG (pe_op op_catG (pe_slice sl_tupG (pv 4) po_none (po_some (pv 7))) (pe_tup (pa_nam (pv 8) pa_nil))) (pe_slice sl_tupG (pv 4) (po_some (pe_op op_add (pv 7) pe_int)) po_none)) pa_nil)) pa_nil)) (pa_nam (pv 5) pa_nil)))))))))
 pss_nil)
 (pss_one (ps_ret (pv 1)))))))))), ?_⟩
    refine ⟨_, rfl, p, _, rfl, SqT.of hp, rfl, ?_⟩
    refine ⟨_, _, rfl, _, _, rfl, _, _, rfl, _, _, rfl, rfl, ?_⟩
    refine ⟨_, rfl, f, 6, d, i, rfl, by decide, by decide, F, by omega, fun r1 H1 r10 r11 F1 k1 => ?_⟩
    have t1 := kt_kp F k1
    have hb1 := t1.1 _ _ hb
    have hs1 := t1.1 _ _ hs
    have he1 := t1.1 _ _ he
    have hS1 := hG.2.2.1.kt t1
    have hR1 := hR.kt t1
    have fin2 : ∀ {H' : Hp} {q rb' rs' re' : Addr} {n' : Nat} {bs' es' : List Int} {L' : Sts}, FeedC H' f d (i + 2) → Kp f H H' → n' ≤ n + 1 → H' q = some (.tup [.int n', .ref rb', .ref rs', .ref re']) → H' rb' = some (.tup (bs'.map V.int)) → H' rs' = some (.tup (refL L')) → H' re' = some (.tup (es'.map V.int)) → PlOk n' bs' → StsOk H' n' L' → PlOk n' es' → Q (.ref q) H' := fun {H' q rb' rs' re' n' bs' es' L'} F' k' hn' h1 h2 h3 h4 pb ps pe =>
      k q n' bs' es' L' H' hn' ⟨rb', rs', re', h1, h2, h3, h4, fun x hx => (ps.2.1 x hx).1⟩ ⟨by omega, pb, ps, pe⟩ F' k'
    have fin : ∀ {H' : Hp} {q rb' rs' re' : Addr} {n' : Nat} {bs' es' : List Int} {L' : Sts}, Same H1 H' → n' ≤ n + 1 → H' q = some (.tup [.int n', .ref rb', .ref rs', .ref re']) → H' rb' = some (.tup (bs'.map V.int)) → H' rs' = some (.tup (refL L')) → H' re' = some (.tup (es'.map V.int)) → PlOk n' bs' → StsOk H' n' L' → PlOk n' es' → Q (.ref q) H' := fun {H' q rb' rs' re' n' bs' es' L'} sm =>
      fin2 ((F1.same sm).mono (by omega)) (k1.trans (Kp.of_same sm))
    refine ⟨_, rfl, rfl, _, rfl, ite2 (fun _ => ?_) fun _ => ?_⟩
    · refine ⟨_, rfl, _, _, rfl, rfl, _, rfl, _, rfl, _, rfl, by show 4 ≤ sizeLine; omega, fun q hq => ?_⟩
      have sq := Same.new (o := .tup [.int ((n : Int) + 1), .ref rb, .ref rs, .ref re]) hq
      exact fin (n' := n + 1) sq (Nat.le_refl _) upd_same (sq _ _ hb1) (sq _ _ hs1) (sq _ _ he1) (hG.2.1.up (by omega)) ((hS1.mv sq).up (by omega)) (hG.2.2.2.up (by omega))
    refine ⟨_, rfl, rfl, _, rfl, ite2 (fun _ => ?_) fun _ => ?_⟩
    · refine ⟨_, rfl, _, rfl, _, rfl, rb, _, rfl, hb1, fun q1 H2 h2 s2 => ⟨_, rfl, _, rfl, by show 4 ≤ sizeLine; omega, fun q hq => ?_⟩⟩
      obtain ⟨ms, e, sub⟩ := cutV_sub V.int bs (some 1) none
      rw [e] at h2
      have sq := Same.new (o := .tup [.int (n : Int), .ref q1, .ref rs, .ref re]) hq
      exact fin (s2.trans sq) (Nat.le_succ _) upd_same (sq _ _ h2) (sq _ _ (s2 _ _ hs1)) (sq _ _ (s2 _ _ he1)) (hG.2.1.sub sub) (hS1.mv (s2.trans sq)) hG.2.2.2
    refine ⟨_, rfl, rfl, _, rfl, ite2 (fun _ => ?_) fun _ => ?_⟩
    · refine ⟨_, rfl, _, rfl, _, rfl, _, rfl, ?_⟩
      refine ⟨_, rfl, re, _, rfl, .inr (SqT.of he1), _, _, rfl, rfl, _, rfl, re, _, rfl, he1, fun q1 H2 h2 s2 => ?_⟩
      refine ⟨by show 4 ≤ sizeLine; omega, fun q hq => ?_⟩
      obtain ⟨ms, e, sub⟩ := cutV_sub V.int es none (some (((es.map V.int).length : Int) - 1))
      rw [e] at h2
      have sq := Same.new (o := .tup [.int (n : Int), .ref rb, .ref rs, .ref q1]) hq
      exact fin (s2.trans sq) (Nat.le_succ _) upd_same (sq _ _ (s2 _ _ hb1)) (sq _ _ (s2 _ _ hs1)) (sq _ _ h2) hG.2.1 (hS1.mv (s2.trans sq)) (hG.2.2.2.sub sub)
    refine tn_st (ts_rr (ts := tIfS _ _ _) (fun σ' H' => σ' = [some (.ref f), some (.ref p), some (.int n), some (.ref rb), some (.ref rs), some (.ref re), some (.int r1), none, none] ∧ Same H1 H') (fun nx' q' => ?_) ?_)
    · refine ⟨_, rfl, rfl, _, rfl, ite2 (fun _ => ?_) fun _ => q' _ _ ⟨rfl, fun _ _ e => e⟩⟩
      refine ⟨_, rfl, by show 0 ≤ sizeLine; omega, fun z hz => ?_⟩
      have sz : Same H1 (upd H1 z (.tup [])) := Same.new hz
      refine ⟨stsD L, .tuple [], dp_sts (sz _ _ hs1) (hS1.mv sz), .tup (SqT.of upd_same) .nil, (fd_sts hG.1 hG.2.2.1).shaped (by decide), rfl, _, rfl, ite2 (fun hne => ?_) fun _ => q' _ _ ⟨rfl, sz⟩⟩
      have lne : 0 < L.length := by
        cases L with
        | nil => exact absurd hne (by decide)
        | cons _ _ => exact Nat.succ_pos _
      have hl60 := hG.2.2.1.1
      have rl : (refL L).length = L.length := by rw [refL_map, List.length_map]
      refine ⟨_, rfl, _, rfl, rs, _, rfl, .inr (SqT.of (sz _ _ hs1)), ?_⟩
      refine ⟨f, ((refL L).length : Int), d, _, rfl, by omega, by omega, F1.same sz, by omega, fun at_ H3 a0 a1 F3 k3 => ?_⟩
      have F2 : FeedC H3 f d (i + 2) := F3.mono (by omega)
      have kz : Kp f H H3 := (k1.trans (Kp.of_same sz)).trans k3
      have t3 : KpT H1 H3 := (kt_same sz).trans (kt_kp (F1.same sz) k3)
      have hb3 := t3.1 _ _ hb1
      have hs3 := t3.1 _ _ hs1
      have he3 := t3.1 _ _ he1
      have hS3 := hS1.kt t3
      obtain ⟨j, rfl⟩ : ∃ j : Nat, at_ = j := ⟨at_.toNat, by omega⟩
      have hj : j < L.length := by omega
      refine ⟨_, rfl, _, rfl, _, rfl, _, rfl, _, rfl, rs, _, rfl, hs3, fun q1 H4 h4 s4 => ?_⟩
      refine ⟨_, rfl, _, rfl, _, _, rfl, rfl, _, rfl, rs, _, rfl, s4 _ _ hs3, fun q2 H5 h5 s5 => ?_⟩
      rw [cutV_take (by omega), ref_take] at h4
      rw [show ((j : Int) + 1) = ((j + 1 : Nat) : Int) from rfl, cutV_drop (by omega), ref_drop] at h5
      refine ⟨q1, q2, _, _, rfl, rfl, s5 _ _ h4, h5, ?_, fun q3 H6 h6 s6 => ?_⟩
      · rw [refL_map, refL_map, List.length_map, List.length_map, List.length_take, List.length_drop]; omega
      rw [ref_app] at h6
      refine ⟨_, rfl, by show 4 ≤ sizeLine; omega, fun q hq => ?_⟩
      have sq := Same.new (o := .tup [.int (n : Int), .ref rb, .ref q3, .ref re]) hq
      have s36 := (s4.trans s5).trans s6
      have s37 := s36.trans sq
      exact fin2 (F2.same s37) (kz.trans (Kp.of_same s37)) (Nat.le_succ _) upd_same (s37 _ _ hb3) (sq _ _ h6) (s37 _ _ he3) hG.2.1 ((hS3.mv s37).sub (without_sub L j)) hG.2.2.2
    rintro σ' H2 ⟨rfl, s12⟩
    have hs2 := s12 _ _ hs1
    have hS2 := hS1.mv s12
    refine nx_st (ts_rr (ts := tIfS _ _ _) (fun σ' H' => σ' = [some (.ref f), some (.ref p), some (.int n), some (.ref rb), some (.ref rs), some (.ref re), some (.int r1), none, none] ∧ Same H2 H') (fun nx' q' => ?_) ?_)
    · refine ⟨_, rfl, rfl, _, rfl, ite2 (fun _ => ?_) fun _ => q' _ _ ⟨rfl, fun _ _ e => e⟩⟩
      refine ⟨_, rfl, by show 0 ≤ sizeLine; omega, fun z hz => ?_⟩
      have sz2 : Same H2 (upd H2 z (.tup [])) := Same.new hz
      refine ⟨stsD L, .tuple [], dp_sts (sz2 _ _ hs2) (hS2.mv sz2), .tup (SqT.of upd_same) .nil, (fd_sts hG.1 hG.2.2.1).shaped (by decide), rfl, _, rfl, ite2 (fun hne => ?_) fun _ => q' _ _ ⟨rfl, sz2⟩⟩
      have lne : 0 < L.length := by
        cases L with
        | nil => exact absurd hne (by decide)
        | cons _ _ => exact Nat.succ_pos _
      have hl60 := hG.2.2.1.1
      have rl : (refL L).length = L.length := by rw [refL_map, List.length_map]
      have sz := s12.trans sz2
      generalize upd H2 z (.tup []) = H2z at sz ⊢
      refine ⟨_, rfl, _, rfl, rs, _, rfl, .inr (SqT.of (sz _ _ hs1)), ?_⟩
      refine ⟨f, ((refL L).length : Int), d, _, rfl, by omega, by omega, F1.same sz, by omega, fun at_ H3 a0 a1 F3 k3 => ?_⟩
      have F2 : FeedC H3 f d (i + 2) := F3.mono (by omega)
      have kz : Kp f H H3 := (k1.trans (Kp.of_same sz)).trans k3
      have t3 : KpT H1 H3 := (kt_same sz).trans (kt_kp (F1.same sz) k3)
      have hb3 := t3.1 _ _ hb1
      have hs3 := t3.1 _ _ hs1
      have he3 := t3.1 _ _ he1
      have hS3 := hS1.kt t3
      obtain ⟨j, rfl⟩ : ∃ j : Nat, at_ = j := ⟨at_.toNat, by omega⟩
      have hj : j < L.length := by omega
      obtain ⟨x, hx⟩ : ∃ x, L[j]? = some x := ⟨_, List.getElem?_eq_getElem hj⟩
      have hxm := List.mem_of_getElem? hx
      obtain ⟨hx3, xp, m, xt, ex, xp0, xp1, xt0, xt1, sg⟩ := hS3.2.1 x hxm
      rw [ex] at hx3
      have hat : atI (refL L) (j : Int) = some (.ref x.1) := atI_nat (by rw [refL_map, List.getElem?_map, hx]; rfl)
      refine ⟨_, rfl, _, rfl, rs, _, _, _, rfl, rfl, SqT.of hs3, hat, x.1, _, 0, _, rfl, rfl, SqT.of hx3, rfl, ?_⟩
      refine ⟨_, rfl, _, rfl, rs, _, _, _, rfl, rfl, SqT.of hs3, hat, x.1, _, 1, _, rfl, rfl, SqT.of hx3, rfl, ?_⟩
      have ml : m.length ≤ 100 := sg.2.1
      have rpl : (Txt.replace m (Str.ofString "~") (Str.ofString "")).length ≤ 100 := by
        rw [str_len, strikeL]
        exact Nat.le_trans (List.length_filter_le _ _) (by rw [← str_len]; exact ml)
      have til1 : (Str.ofString "~").length = 1 := by decide +kernel
      refine ⟨m, rfl, by omega, _, _, rfl, rfl, by rw [til1]; omega, ?_⟩
      refine ⟨_, rfl, _, rfl, rs, _, _, _, rfl, rfl, SqT.of hs3, hat, x.1, _, 2, _, rfl, rfl, SqT.of hx3, rfl, ?_⟩
      refine ⟨by show 3 ≤ sizeLine; omega, fun y hy => ?_⟩
      generalize hH4 : upd H3 y _ = H4
      have sy : Same H3 H4 := by rw [← hH4]; exact Same.new hy
      have hyy : H4 y = some (.tup [.int xp, .str (tilS m), .int xt]) := by rw [← hH4]; exact upd_same
      have hs4 := sy _ _ hs3
      refine ⟨_, rfl, _, rfl, _, rfl, _, rfl, _, rfl, rs, _, rfl, hs4, fun q1 H5 h5 s5 => ?_⟩
      refine ⟨_, rfl, by show 1 ≤ sizeLine; omega, fun q2 hq2 => ?_⟩
      have s6 : Same H5 (upd H5 q2 (.tup [.ref y])) := Same.new hq2
      have h6 : upd H5 q2 (.tup [.ref y]) q2 = some (.tup [.ref y]) := upd_same
      generalize upd H5 q2 (.tup [.ref y]) = H6 at s6 h6 ⊢
      rw [cutV_take (by omega), ref_take] at h5
      refine ⟨q1, q2, _, _, rfl, rfl, s6 _ _ h5, h6, ?_, fun q3 H7 h7 s7 => ?_⟩
      · rw [refL_map, List.length_map, List.length_take]; show _ + 1 ≤ _; omega
      refine ⟨_, rfl, _, rfl, _, _, rfl, rfl, _, rfl, rs, _, rfl, s7 _ _ (s6 _ _ (s5 _ _ hs4)), fun q4 H8 h8 s8 => ?_⟩
      rw [show ((j : Int) + 1) = ((j + 1 : Nat) : Int) from rfl, cutV_drop (by omega), ref_drop] at h8
      refine ⟨q3, q4, _, _, rfl, rfl, s8 _ _ h7, h8, ?_, fun q5 H9 h9 s9 => ?_⟩
      · rw [List.length_append, refL_map, refL_map, List.length_map, List.length_map, List.length_take, List.length_drop]; show _ + 1 + _ ≤ _; omega
      rw [show [V.ref y] = refL [(y, [V.int xp, V.str (tilS m), V.int xt])] from rfl, ref_app, ref_app] at h9
      have s49 : Same H4 H9 := (((s5.trans s6).trans s7).trans s8).trans s9
      have s39 : Same H3 H9 := sy.trans s49
      have hM : ∀ z ∈ L.take j ++ [(y, [V.int xp, V.str (tilS m), V.int xt])] ++ L.drop (j + 1), H9 z.1 = some (.tup z.2) ∧ StOk n z.2 := fun z hz => by
        rcases List.mem_append.mp hz with hz | hz
        · rcases List.mem_append.mp hz with hz | hz
          · have := hS3.2.1 z (List.mem_of_mem_take hz)
            exact ⟨s39 _ _ this.1, this.2⟩
          · rw [List.mem_singleton.mp hz]
            exact ⟨s49 _ _ hyy, xp, tilS m, xt, rfl, xp0, xp1, xt0, xt1, tilS_ok sg⟩
        · have := hS3.2.1 z (List.mem_of_mem_drop hz)
          exact ⟨s39 _ _ this.1, this.2⟩
      have hMl : (L.take j ++ [(y, [V.int xp, V.str (tilS m), V.int xt])] ++ L.drop (j + 1)).length = L.length := by
        rw [List.length_append, List.length_append, List.length_take, List.length_drop]; show _ + 1 + _ = _; omega
      have hMk := key_set (y, [V.int xp, V.str (tilS m), V.int xt]) hx (by rw [ex]; rfl) hS3.2.2.2
      generalize L.take j ++ [(y, [V.int xp, V.str (tilS m), V.int xt])] ++ L.drop (j + 1) = M at h9 hM hMl hMk
      refine ⟨q5, M, true, [some false, some true], rfl, SqT.of h9, by omega, by decide, fun z hz => ⟨SqT.of (hM z hz).1, ?_⟩, fun L' p' perm asc hp' => ?_⟩
      · obtain ⟨_, p0, m0, t0, e0, _⟩ := hM z hz
        rw [e0]
        rfl
      have s10 := Same.new (o := .lst (L'.map fun x : Addr × List V => V.ref x.1)) hp'
      have w10 : upd H9 p' (.lst (L'.map fun x : Addr × List V => V.ref x.1)) p' = some (.lst (refL L')) := upd_same
      generalize upd H9 p' (.lst (L'.map fun x : Addr × List V => V.ref x.1)) = H10 at s10 w10 ⊢
      refine ⟨p', _, rfl, .inl ⟨SqL.of w10, fun rs' hrs => ?_⟩⟩
      have s11 := Same.new (o := .tup (refL L')) hrs
      have w11 : upd H10 rs' (.tup (refL L')) rs' = some (.tup (refL L')) := upd_same
      generalize upd H10 rs' (.tup (refL L')) = H11 at s11 w11 ⊢
      refine ⟨_, rfl, by show 4 ≤ sizeLine; omega, fun q hq => ?_⟩
      have sq := Same.new (o := .tup [.int (n : Int), .ref rb, .ref rs', .ref re]) hq
      have s9q := (s10.trans s11).trans sq
      have s3q := s39.trans s9q
      exact fin2 (F2.same s3q) (kz.trans (Kp.of_same s3q)) (Nat.le_succ _) upd_same (s3q _ _ hb3) (sq _ _ w11) (s3q _ _ he3) hG.2.1 (sts_of perm asc (fun z hz => ⟨s9q _ _ (hM z hz).1, (hM z hz).2⟩) hMk (by omega)) hG.2.2.2
    rintro σ' H3 ⟨rfl, s23⟩
    have s13 := s12.trans s23
    exact ⟨_, rfl, k p n bs es L H3 (Nat.le_succ _) (hR1.mv s13) ⟨hG.1, hG.2.1, hS1.mv s13, hG.2.2.2⟩ ((F1.same s13).mono (by omega)) (k1.trans (Kp.of_same s13))⟩
end
end K33
set_option Elab.async false
set_option linter.all false
set_option maxRecDepth 100000
namespace K33
set_option pp.deepTerms false
set_option pp.deepTerms.threshold 6
set_option pp.proofs false
open PySem PySem.Spec PyProof.Rows L2
section
variable {P : Program} {w : World} {K : PySem.W.Frag} {mg : Str → Option Value} {base : Heap} {a : Ad}
set_option maxHeartbeats 4000000
mutual
theorem eqv_sym : ∀ d e : PyData, PyData.eqv d e = PyData.eqv e d
  | .none, e => by cases e <;> simp only [PyData.eqv]
  | .bool x, e => by cases e <;> simp only [PyData.eqv] <;> exact BEq.comm
  | .int x, e => by cases e <;> simp only [PyData.eqv] <;> exact BEq.comm
  | .str x, e => by cases e <;> simp only [PyData.eqv] <;> exact BEq.comm
  | .list xs, e => by
    cases e with
    | list ys => simp only [PyData.eqv]; exact eqvAll_sym xs ys
    | _ => simp only [PyData.eqv]
  | .tuple xs, e => by
    cases e with
    | tuple ys => simp only [PyData.eqv]; exact eqvAll_sym xs ys
    | _ => simp only [PyData.eqv]
  | .dict xs, e => by cases e <;> simp only [PyData.eqv]
theorem eqvAll_sym : ∀ ds es : List PyData, PyData.eqvAll ds es = PyData.eqvAll es ds
  | [], [] => rfl
  | [], _ :: _ => by simp only [PyData.eqvAll]
  | _ :: _, [] => by simp only [PyData.eqvAll]
  | d :: ds, e :: es => by simp only [PyData.eqvAll]; rw [eqv_sym d e, eqvAll_sym ds es]
end
theorem ne_self (b : Bool) : ¬ ((!decide (V.bl b = V.bl b)) = true) := by rw [decide_eq_true rfl]; decide
theorem not_self (b : Bool) : ¬ (decide (V.bl (!b) = V.bl b) = true) := by cases b <;> decide
theorem pl0 : PlOk 0 [] := ⟨fun i hi => absurd hi List.not_mem_nil, List.Pairwise.nil, by decide⟩
theorem st0 (H : Hp) : StsOk H 0 [] := ⟨by decide, fun x hx => absurd hx List.not_mem_nil, List.Pairwise.nil, List.Pairwise.nil⟩
theorem gd0 (H : Hp) : Gd H 0 [] [] [] := ⟨by decide, pl0, st0 H, pl0⟩
theorem three {H : Hp} {b1 b2 b3 : Addr} (g1 : H b1 = none) (g2 : upd H b1 (.tup []) b2 = none) (g3 : upd (upd H b1 (.tup [])) b2 (.tup []) b3 = none) : Same H (upd (upd (upd H b1 (.tup [])) b2 (.tup [])) b3 (.tup [])) ∧
    upd (upd (upd H b1 (.tup [])) b2 (.tup [])) b3 (.tup []) b1 = some (.tup []) ∧ upd (upd (upd H b1 (.tup [])) b2 (.tup [])) b3 (.tup []) b2 = some (.tup []) ∧ upd (upd (upd H b1 (.tup [])) b2 (.tup [])) b3 (.tup []) b3 = some (.tup []) :=
  ⟨((Same.new g1).trans (Same.new g2)).trans (Same.new g3), (Same.new g3) _ _ ((Same.new g2) _ _ upd_same), (Same.new g3) _ _ upd_same, upd_same⟩
theorem spMi0 {C y dx b1 b2 b3 : Addr} {H : Hp} {Q : VK} {E : XK} (hy : H y = some (.ins C dx [])) (h1 : H b1 = some (.tup [])) (h2 : H b2 = some (.tup [])) (h3 : H b3 = some (.tup []))
    (k : ∀ H', MaAt C H' y 0 [] [] [] → (∀ b o, H b = some o → b ≠ y → H' b = some o) → Q .non H') : spMi C [.ref y, .int 0, .ref b1, .ref b2, .ref b3] H Q E := ⟨y, dx, 0, b1, b2, b3, [], [], [], rfl, hy, by decide, h1, h2, h3, pl0, st0 H, pl0, k⟩
structure Rp where
  p : Addr
  n : Nat
  bs : List Int
  es : List Int
  L : Sts
def RpOk (H : Hp) (r : Rp) : Prop := RwAt H r.p r.n r.bs r.es r.L ∧ Gd H r.n r.bs r.es r.L
theorem Gd.kt {H H' : Hp} {n : Nat} {bs es : List Int} {L : Sts} (h : Gd H n bs es L) (t : KpT H H') : Gd H' n bs es L := ⟨h.1, h.2.1, h.2.2.1.kt t, h.2.2.2⟩
theorem RpOk.kt {H H' : Hp} {r : Rp} (h : RpOk H r) (t : KpT H H') : RpOk H' r := ⟨h.1.kt t, h.2.kt t⟩
def refR (rs : List Rp) : List V := rs.map fun r => V.ref r.p
theorem Gd.lst {H : Hp} {n : Nat} {bs es : List Int} {L : Sts} (g : Gd H n bs es L) : FD 3 72964 (.list (rwL n bs es L)) := (fd_lst (fd_rw g) (n := 4) (Nat.le_refl _)).mono (by omega) (by omega)
def spLaw (K : PySem.W.Frag) : Sp := fun vs H Q _ => ∃ (c : Addr) (ns : List Int), vs = [.ref c] ∧ SqL K H c (ns.map V.int) ∧ ns.length ≤ 63 ∧ ∀ H2, Q (.bl true) H2
theorem ok_law (T : Txt K mg a) : FnOk P w K mg base CX0 10 a.f_law a.d_law ["_law_script"] (spLaw K) := by
  have G__law_feed : FnOk P w K mg base CX0 9 _ _ _ (spFeedC K) := (ok_feed T).mono (by decide)
  have G__law_draw : FnOk P w K mg base CX0 9 _ _ _ spDrawC := (ok_draw T).mono (by decide)
  have G__law_signs : FnOk P w K mg base CX0 9 _ _ _ spLsg := (ok_lsg T).mono (by decide)
  have G__law_raw : FnOk P w K mg base CX0 9 _ _ _ spRaw := (ok_raw T).mono (by decide)
  have G__law_made : FnOk P w K mg base CX0 9 _ _ _ (spMade a.C_Machine) := (ok_made T).mono (by decide)
  have G__law_otherwise : FnOk P w K mg base CX0 9 _ _ _ spOth := (ok_oth T).mono (by decide)
  have G_Machine_init : FnOk P w K mg base CX0 8 _ _ _ (spMi a.C_Machine) := (ok_minit T).mono (by decide)
  have G_Machine_eq : FnOk P w K mg base CX0 9 _ _ _ (spMeq K a.C_Machine) := (ok_meq T).mono (by decide)
  have G1_Machine_eq : FnOk P w K mg base CX0 8 _ _ _ (spMeq K a.C_Machine) := (ok_meq T).mono (by decide)
  have G_Machine_len : FnOk P w K mg base CX0 8 _ _ _ (spMlen a.C_Machine) := (ok_mlen T).mono (by decide)
  refine T.F_law.ok sc_law (fun vs H Q E h => ?_) (fun cdv A outer s H vs Q E hr h => ?_)
  · obtain ⟨c, ns, rfl, _⟩ := h
    rfl
  · obtain ⟨c, ns, rfl, hS, hl, k⟩ := h
    have hsz : 10000 ≤ sizeLine := by decide
    refine ⟨_, (pss_cons (ps_set (i := 1) sc_law.nd rfl (Or.inl rfl) (pe_call G__law_feed hr rfl T.m__law_feed T.k__law_feed T.b__law_feed .nil pass0 (pa_nam (pv 0) pa_nil)))
 (pss_cons (ps_set (i := 2) sc_law.nd rfl (Or.inl rfl) (pe_replL (pe_call G__law_signs hr rfl T.m__law_signs T.k__law_signs T.b__law_signs .nil pass0 (pa_nam (pv 1) (pa_bin (pe_op op_add pe_int (pe_call G__law_draw hr rfl T.m__law_draw T.k__law_draw T.b__law_draw .nil pass0 (pa_nam (pv 1) (pa_con pe_int pa_nil)))) pa_nil))) (MkS.call2 (MkS.binL MkS.int)) (by decide +kernel) (by decide) ⟨rfl, rfl, rfl, rfl⟩))
 (pss_cons (ps_set (i := 3) sc_law.nd rfl (Or.inl rfl) (pe_lst (pa_cal (pe_call G__law_raw hr rfl T.m__law_raw T.k__law_raw T.b__law_raw .nil pass0 (pa_nam (pv 1) (pa_nam (pv 2) (pa_con pe_int pa_nil)))) pa_nil)))
 (pss_cons (ps_for PassesOwn.never rfl (pi_range1 rfl T.n_range (pa_con pe_int pa_nil)) (pg_name (i := 4) sc_law.nd rfl (Or.inl rfl))
 (pss_one (ps_expr (pe_bm PySem.F.plainAttrs_list PySem.F.slot_list_append PySem.F.type_list_append mt_append (pv 3) (pa_cal (pe_call G__law_otherwise hr rfl T.m__law_otherwise T.k__law_otherwise T.b__law_otherwise .nil pass0 (pa_nam (pv 1) (pa_sub (pe_ix ix_list (pv 3) (pe_call G__law_draw hr rfl T.m__law_draw T.k__law_draw T.b__law_draw .nil pass0 (pa_nam (pv 1) (pa_cal (pe_callB call_len_seq (by rfl) T.n_len (by decide +kernel) (pa_nam (pv 3) pa_nil)) pa_nil))) (fun _ _ => rfl)) pa_nil))) pa_nil)))))
 (pss_cons (ps_setLc (i := 5) (own := [("_law_raw_here", 6)]) (g := gName 6) (by rfl) sc_law.nd rfl rfl (sw_true rfl rfl rfl (by decide +kernel)) (pi_list (pv 3)) (blkOk_by (own := [("_law_raw_here", 6)]) (N := ["_law_script", "_law_feed_here", "_law_signs_here", "_law_raws", "_law_turn", "_law_some_here", "_law_raw_here", "_law_k", "_law_one", "_law_named", "_law_j"]) (sc := defScope s_law) (by decide +kernel)) (fun _ _ _ _ _ => (pg_name (i := 6) sc_law.nd rfl (Or.inl rfl))) (fun _ _ _ _ _ => pts_nil) (fun _ _ _ _ _ => (pe_call G__law_made hr rfl T.m__law_made T.k__law_made T.b__law_made .nil pass0 (pa_nam (pv 6) pa_nil))))
 (pss_cons (ps_for PassesOwn.never rfl (pi_range1 rfl T.n_range (pa_con pe_int pa_nil)) (pg_name (i := 7) sc_law.nd rfl (Or.inl rfl))
 (pss_cons (ps_par (i := 8) (j := 6) (by rfl) sc_law.nd rfl rfl (by decide) rfl rfl (pa_sub (pe_ix ix_list (pv 5) (pv 7) (fun _ _ => rfl)) (pa_sub (pe_ix ix_list (pv 3) (pv 7) (fun _ _ => rfl)) pa_nil)) (by rfl))
 (pss_cons (ps_if (PW.pt (pw_or (pt_cmpR op_ne (pe_callB (call_repr_d hr) (by rfl) T.n_repr (by decide +kernel) (pa_lis (pe_lst (pa_att (pe_fld (pv 8) rfl) (pa_att (pe_fld (pv 8) rfl) (pa_att (pe_fld (pv 8) rfl) (pa_att (pe_fld (pv 8) rfl) pa_nil))))) pa_nil)) (pe_callB (call_repr_d hr) (by rfl) T.n_repr (by decide +kernel) (pa_cal (pe_callTy call_list_of (by rfl) T.n_list (by decide +kernel) (pa_nam (pv 6) pa_nil)) pa_nil)) (nomark _)) (pw_or1 (pt_cmpR op_ne (pe_callB (call_lenOwn T.len_Machine G_Machine_len hr T.b_Machine_len) (by rfl) T.n_len (by decide +kernel) (pa_nam (pv 8) pa_nil)) (pe_ix ix_tup (pv 6) pe_int (fun _ _ => rfl)) (nomark _)))))
 (pss_one (ps_ret pe_bl))
 pss_nil)
 (pss_cons (ps_set (i := 9) sc_law.nd rfl (Or.inl rfl) (pe_makeK0 T.mk_Machine G_Machine_init hr rfl T.m_Machine T.kb_Machine_init_ends_steps_begins_many pass0 (pk_cons (pe_ix ix_tup (pv 6) pe_int (fun _ _ => rfl)) (pk_cons (pe_ix ix_tup (pv 6) pe_int (fun _ _ => rfl)) (pk_cons (pe_ix ix_tup (pv 6) pe_int (fun _ _ => rfl)) (pk_cons (pe_ix ix_tup (pv 6) pe_int (fun _ _ => rfl)) pk_nil))))))
 (pss_cons (ps_if (PW.pt (pw_or (pt_cmpR (op_neOwn T.eq_Machine G1_Machine_eq hr T.b_Machine_eq) (pv 8) (pv 9) (nomark _)) (pw_or (pt_not (pt_cmpR (op_eqOwn T.eq_Machine G_Machine_eq hr T.b_Machine_eq) (pv 8) (pv 9) (nomark _))) (pw_or1 (pt_cmpR (op_inOwn2 T.eq_Machine T.ap2_Machine G1_Machine_eq hr T.b_Machine_eq) (pv 8) (pe_lst (pa_con pe_non (pa_nam (pv 6) (pa_cal (pe_callTy call_list_of (by rfl) T.n_list (by decide +kernel) (pa_nam (pv 6) pa_nil)) (pa_sub (pe_ix ix_tup (pv 6) pe_int (fun _ _ => rfl)) (pa_con pe_str pa_nil)))))) rfl)))))
 (pss_one (ps_ret pe_bl))
 pss_nil)
 (pss_one (ps_for PassesOwn.never rfl (pi_range1 rfl T.n_range (pa_con pe_int pa_nil)) (pg_name (i := 10) sc_law.nd rfl (Or.inl rfl))
 (pss_one (ps_if (PW.pt (pw_or (pt_cmpR op_ne (pe_cmpR (op_eqOwn T.eq_Machine G_Machine_eq hr T.b_Machine_eq) (pv 8) (pe_ix ix_list (pv 5) (pv 10) (fun _ _ => rfl)) (nomark _)) (pe_cmpR (op_eqD hr.units) (pv 6) (pe_ix ix_list (pv 3) (pv 10) (fun _ _ => rfl)) (nomark _)) (nomark _)) (pw_or1 (pt_cmpR op_eq (pe_cmpR (op_neOwn T.eq_Machine G1_Machine_eq hr T.b_Machine_eq) (pe_ix ix_list (pv 5) (pv 10) (fun _ _ => rfl)) (pv 8) (nomark _)) (pe_cmpR (op_eqD hr.units) (pv 6) (pe_ix ix_list (pv 3) (pv 10) (fun _ _ => rfl)) (nomark _)) (nomark _)))))
 (pss_one (ps_ret pe_bl))
 pss_nil)))))))))
 (pss_one (ps_ret (pe_and (pe_cmpR (op_eqOwn T.eq_Machine G_Machine_eq hr T.b_Machine_eq) (pe_make T.mk_Machine G_Machine_init hr rfl T.m_Machine T.b_Machine_init T.dv_Machine_init pass0 (pa_con pe_int (pa_tpl (pe_tup pa_nil) (pa_tpl (pe_tup pa_nil) (pa_tpl (pe_tup pa_nil) pa_nil))))) (pe_make T.mk_Machine G_Machine_init hr rfl T.m_Machine T.b_Machine_init T.dv_Machine_init pass0 (pa_con pe_int (pa_tpl (pe_tup pa_nil) (pa_tpl (pe_tup pa_nil) (pa_tpl (pe_tup pa_nil) pa_nil))))) (nomark _)) (pe_one (pe_cmpR op_eq (pe_callB (call_lenOwn T.len_Machine G_Machine_len hr T.b_Machine_len) (by rfl) T.n_len (by decide +kernel) (pa_cal (pe_make T.mk_Machine G_Machine_init hr rfl T.m_Machine T.b_Machine_init T.dv_Machine_init pass0 (pa_con pe_int (pa_tpl (pe_tup pa_nil) (pa_tpl (pe_tup pa_nil) (pa_tpl (pe_tup pa_nil) pa_nil))))) pa_nil)) pe_int (nomark _)))))))))))), ?_⟩
    refine ⟨_, rfl, c, ns, rfl, hS, fun f c' H1 f0 c0 F s1 => ?_⟩
    generalize (⟨c', ns.take 63⟩ : Fd) = d at F
    refine ⟨_, rfl, _, rfl, f, 5, d, _, rfl, by decide, by decide, F, by omega, fun r2 H2 r20 r21 F2 k2 => ?_⟩
    obtain ⟨m2, hm2⟩ : ∃ m2 : Nat, 1 + r2 = (m2 : Int) := ⟨(1 + r2).toNat, by omega⟩
    refine ⟨_, _, rfl, rfl, ?_⟩
    refine ⟨f, m2, d, _, (show [V.ref f, V.int (1 + r2)] = _ by rw [hm2]), by omega, by omega, F2, by omega, fun S H3 hSg hSl F3 k3 => ?_⟩
    refine ⟨S, rfl, by omega, ?_⟩
    have hcl : (Txt.replace S (Str.ofString "~") (Str.ofString "")).length ≤ 5 := by
      rw [str_len, strikeL]
      exact Nat.le_trans (List.length_filter_le _ _) (by rw [← str_len]; omega)
    have hci : ∀ c ∈ (Txt.replace S (Str.ofString "~") (Str.ofString "")).cps.toList, c ∈ TSG.cps.toList := fun c hc => by
      rw [strikeL] at hc
      exact hSg.2.2.1 c (List.mem_filter.mp hc).1
    have hcr : RisL (Txt.replace S (Str.ofString "~") (Str.ofString "")).cps.toList := by
      rw [strikeL]
      exact hSg.2.2.2.sublist List.filter_sublist
    refine ⟨_, rfl, _, rfl, f, _, d, _, rfl, hcl, hci, hcr, F3, by omega, fun p n bs es L H4 hn6 hRw pb ps pe pf F4 k4 => ?_⟩
    have hS4 : RpOk H4 ⟨p, n, bs, es, L⟩ := ⟨hRw, by show n ≤ 19; omega, pb, ps, pe⟩
    refine ⟨by show 1 ≤ sizeLine; omega, fun R hRn => ?_⟩
    have Rf : R ≠ f := F4.ne_f hRn
    have F5 := F4.new (o := .lst [.ref p]) hRn
    have hS5 := hS4.kt (kt_same (Same.new (o := .lst [.ref p]) hRn))
    have hR5 : upd H4 R (.lst [.ref p]) R = some (.lst (refR [⟨p, n, bs, es, L⟩])) := upd_same
    generalize upd H4 R (.lst [.ref p]) = H5 at F5 hS5 hR5 ⊢
    have Rc : R ≠ d.c := fun e => by
      have h1 := F5.at_c
      rw [← e, hR5] at h1
      have h2 : refR [(⟨p, n, bs, es, L⟩ : Rp)] = d.ns.map V.int := by
        have := Option.some.inj h1
        injection this
      cases hd : d.ns with
      | nil => rw [hd] at h2; cases h2
      | cons n r' => rw [hd] at h2; cases h2
    refine ⟨4, rfl, by decide, by decide, ?_⟩
    generalize hSS : Txt.replace S (Str.ofString "~") (Str.ofString "") = SS
    refine for_range (n := 4) (fun i σ H' => FeedC H' f d (310 + 3 * i) ∧ ∃ (rs : List Rp) (o3 : Option V), σ = [some (.ref c), some (.ref f), some (.str SS), some (.ref R), o3, none, none, none, none, none, none] ∧ H' R = some (.lst (refR rs)) ∧ rs.length = i + 1 ∧ ∀ r ∈ rs, RpOk H' r ∧ r.n ≤ 6 + i)
      ⟨F5.mono (by omega), [⟨p, n, bs, es, L⟩], _, rfl, hR5, rfl, fun r hr => by rw [List.mem_singleton.mp hr]; exact ⟨hS5, by show n ≤ 6; omega⟩⟩ ?_ ?_
    · rintro i σ H6 hi ⟨F6, rs, o3, rfl, hR6, hrl, hrs⟩
      have rl : (refR rs).length = i + 1 := by unfold refR; rw [List.length_map, hrl]
      refine ⟨_, rfl, .inl ⟨rfl, _, SqL.of hR6⟩, _, rfl, _, rfl, _, rfl, _, rfl, R, _, rfl, .inl (SqL.of hR6), ?_⟩
      refine ⟨f, ((refR rs).length : Int), d, _, rfl, by omega, by omega, F6, by omega, fun at_ H7 a0 a1 F7 k7 => ?_⟩
      obtain ⟨j, rfl⟩ : ∃ j : Nat, at_ = j := ⟨at_.toNat, by omega⟩
      have hR7 := k7 _ _ hR6 Rf
      obtain ⟨r, hr⟩ : ∃ r, rs[j]? = some r := ⟨_, List.getElem?_eq_getElem (by omega)⟩
      have hat : atI (refR rs) (j : Int) = some (.ref r.p) := atI_nat (by unfold refR; rw [List.getElem?_map, hr]; rfl)
      have t7 := kt_kp F6 k7
      have hr7 := hrs r (List.mem_of_getElem? hr)
      refine ⟨R, _, _, _, rfl, rfl, SqL.of hR7, hat, ?_⟩
      refine ⟨f, r.p, d, r.n, r.bs, r.es, r.L, _, rfl, (hr7.1.kt t7).1, (hr7.1.kt t7).2, by omega, F7, by omega, fun p' n' bs' es' L' H8 hn' hR' hG' F8 k8 => ?_⟩
      refine ⟨R, _, _, rfl, rfl, k8 _ _ hR7 Rf, by omega, ?_⟩
      have hR8 := k8 _ _ hR7 Rf
      have tu := kt_put (o := .lst (refR rs ++ [.ref p'])) hR8
      refine ⟨(F8.off Rf Rc).mono (by omega), rs ++ [⟨p', n', bs', es', L'⟩], _, rfl, ?_, by rw [List.length_append, hrl]; rfl, fun q hq => ?_⟩
      · rw [upd_same]; show _ = some (HO.lst ((rs ++ [_]).map _)); rw [List.map_append]; rfl
      · rcases List.mem_append.mp hq with hq | hq
        · have := hrs q hq
          exact ⟨((this.1.kt t7).kt (kt_kp F7 k8)).kt tu, by omega⟩
        · rw [List.mem_singleton.mp hq]
          exact ⟨RpOk.kt ⟨hR', hG'⟩ tu, by show n' ≤ _; omega⟩
    rintro σ H6 ⟨F6, rs, o3, rfl, hR6, hrl, hrs⟩
    refine ⟨_, rfl, R, rfl, ⟨_, SqL.of hR6⟩, fun D hD => ?_⟩
    have rl : (refR rs).length = 5 := by unfold refR; rw [List.length_map, hrl]
    refine lc_by (walk_list (K := K) (refR rs)) (fun i H' => Same H6 H' ∧ ∃ ys : List Addr, H' D = some (.lst (ys.map V.ref)) ∧ ys.length = i ∧ ∀ (j : Nat) (y : Addr) (r : Rp), ys[j]? = some y → rs[j]? = some r → MaAt a.C_Machine H' y r.n r.bs r.es r.L) ?_ (fun _ _ _ hv => SqL.of (hv.1 _ _ hR6)) ?_ ?_
    · exact ⟨Same.new hD, [], upd_same, rfl, fun j y r h => by rw [List.getElem?_nil] at h; cases h⟩
    · rintro i x H' hx ⟨sm, ys, hDD, hyl, hys⟩
      unfold refR at hx
      rw [List.getElem?_map] at hx
      cases e : rs[i]? with
      | none => rw [e] at hx; cases hx
      | some r =>
        rw [e] at hx
        obtain rfl : x = V.ref r.p := (Option.some.inj hx).symm
        have hi := (List.getElem?_eq_some_iff.mp e).1
        have hr6 := (hrs r (List.mem_of_getElem? e)).1.kt (kt_same sm)
        refine ⟨rfl, ?_⟩
        refine ⟨_, rfl, r.p, r.n, r.bs, r.es, r.L, rfl, hr6.1, by omega, hr6.2.2.1, hr6.2.2.2.1, hr6.2.2.2.2, fun y H8 hM s8 => ?_⟩
        have hD8 := s8 _ _ hDD
        refine ⟨_, hD8, by rw [List.length_map]; omega, same_put (sm.trans s8) hD, ys ++ [y], ?_, by rw [List.length_append, hyl]; rfl, fun j y' r' hy' hr' => ?_⟩
        · rw [upd_same, List.map_append]; rfl
        · have tu := (kt_put (o := .lst (ys.map V.ref ++ [V.ref y])) hD8)
          rcases Nat.lt_trichotomy j i with h | h | h
          · rw [List.getElem?_append_left (by omega)] at hy'
            exact ((hys j y' r' hy' hr').kt (kt_same s8)).kt tu
          · subst h
            rw [List.getElem?_append_right (by omega), hyl, Nat.sub_self] at hy'
            cases hy'
            rw [e] at hr'
            cases hr'
            exact hM.kt tu
          · rw [List.getElem?_eq_none (by rw [List.length_append, hyl]; show i + 1 ≤ j; omega)] at hy'
            cases hy'
    rintro H7 ⟨s7, ys, hD7, hyl, hys⟩
    rw [rl] at hyl
    have hR7 := s7 _ _ hR6
    have hrs7 : ∀ r ∈ rs, RpOk H7 r := fun r hr => (hrs r hr).1.kt (kt_same s7)
    refine ⟨5, rfl, by decide, by decide, ?_⟩
    refine for_range (n := 5) (fun i σ H' => Same H7 H' ∧ ∃ (o6 o7 o8 o9 o10 : Option V), σ = [some (.ref c), some (.ref f), some (.str SS), some (.ref R), o3, some (.ref D), o6, o7, o8, o9, o10]) ⟨fun _ _ e => e, _, _, _, _, _, rfl⟩ ?_ ?_
    · rintro i σ H8 hi ⟨s8, o6, o7, o8, o9, o10, rfl⟩
      have hD8 := s8 _ _ hD7
      have hR8 := s8 _ _ hR7
      obtain ⟨r, hr⟩ : ∃ r, rs[i]? = some r := ⟨_, List.getElem?_eq_getElem (by omega)⟩
      obtain ⟨y, hy⟩ : ∃ y, ys[i]? = some y := ⟨_, List.getElem?_eq_getElem (by omega)⟩
      have hrm := List.mem_of_getElem? hr
      have hr8 := (hrs7 r hrm).kt (kt_same s8)
      have hM8 := (hys i y r hy hr).kt (kt_same s8)
      have atD : ∀ {j : Nat} {y : Addr}, ys[j]? = some y → atI (ys.map V.ref) (0 + (j : Int)) = some (.ref y) := fun {j y} h => by rw [Int.zero_add]; exact atI_nat (by rw [List.getElem?_map, h]; rfl)
      have atR : ∀ {j : Nat} {r : Rp}, rs[j]? = some r → atI (refR rs) (0 + (j : Int)) = some (.ref r.p) := fun {j r} h => by rw [Int.zero_add]; exact atI_nat (by unfold refR; rw [List.getElem?_map, h]; rfl)
      refine ⟨_, rfl, _, rfl, D, _, _, _, rfl, rfl, SqL.of hD8, atD hy, _, rfl, _, rfl, R, _, _, _, rfl, rfl, SqL.of hR8, atR hr, ?_⟩
      refine ⟨_, _, rfl, ?_⟩
      obtain ⟨dx, rb, rst, re, hy1, hb, hs, he, hL⟩ := id hM8
      refine ⟨_, rfl, y, _, dx, _, _, rfl, hy1, T.cl_Machine, T.na_Machine_many, rfl, _, rfl, y, _, dx, _, _, rfl, hy1, T.cl_Machine, T.na_Machine_begins, rfl, _, rfl, y, _, dx, _, _, rfl, hy1, T.cl_Machine, T.na_Machine_steps, rfl, _, rfl, y, _, dx, _, _, rfl, hy1, T.cl_Machine, T.na_Machine_ends, rfl, ?_⟩
      refine ⟨by show 4 ≤ sizeLine; omega, fun q hq => ?_⟩
      have sq := Same.new (o := .lst [.int (r.n : Int), .ref rb, .ref rst, .ref re]) hq
      have hqq : upd H8 q (.lst [.int (r.n : Int), .ref rb, .ref rst, .ref re]) q = some (.lst [.int (r.n : Int), .ref rb, .ref rst, .ref re]) := upd_same
      generalize upd H8 q (.lst [.int (r.n : Int), .ref rb, .ref rst, .ref re]) = H9 at sq hqq ⊢
      have hr9 := hr8.kt (kt_same sq)
      have dpq : Dp K H9 (.ref q) (.list (rwL r.n r.bs r.es r.L)) := .lst (SqL.of hqq) (.cons (.int _) (.cons (dp_pl (sq _ _ hb)) (.cons (dp_sts (sq _ _ hs) hr9.2.2.2.1) (.cons (dp_pl (sq _ _ he)) .nil))))
      have hfl := hr9.2.lst
      have hsl : 22 * 72964 + 20 ≤ sizeLine := by decide
      refine ⟨q, _, rfl, dpq, hfl.shaped (by decide), hfl.2.2.1, hfl.shown hsl, ?_⟩
      obtain ⟨rb9, rs9, re9, p9, b9, c9, e9, _⟩ := id hr9.1
      refine ⟨_, rfl, r.p, _, rfl, .inr (SqT.of p9), fun l hl => ?_⟩
      have sl : Same H9 (upd H9 l (.lst [.int (r.n : Int), .ref rb9, .ref rs9, .ref re9])) := Same.new hl
      have hll : upd H9 l (.lst [.int (r.n : Int), .ref rb9, .ref rs9, .ref re9]) l = some (.lst [.int (r.n : Int), .ref rb9, .ref rs9, .ref re9]) := upd_same
      generalize upd H9 l (.lst [.int (r.n : Int), .ref rb9, .ref rs9, .ref re9]) = H10 at sl hll ⊢
      have hr10 := hr9.kt (kt_same sl)
      have s810 := sq.trans sl
      have dpl : Dp K H10 (.ref l) (.list (rwL r.n r.bs r.es r.L)) := .lst (SqL.of hll) (.cons (.int _) (.cons (dp_pl (sl _ _ b9)) (.cons (dp_sts (sl _ _ c9) hr10.2.2.2.1) (.cons (dp_pl (sl _ _ e9)) .nil))))
      refine ⟨l, _, rfl, dpl, hfl.shaped (by decide), hfl.2.2.1, hfl.shown hsl, ?_⟩
      refine ⟨rfl, _, rfl, ite2 (fun h => absurd h (by rw [decide_eq_true rfl]; decide)) fun _ => ?_⟩
      have hM10 := hM8.kt (kt_same s810)
      have hy10 := s810 _ _ hy1
      have hrn : r.n ≤ 10 := by have := (hrs r hrm).2; omega
      refine ⟨_, rfl, y, dx, _, rfl, hy10, ⟨y, r.n, r.bs, r.es, r.L, rfl, hM10, by omega, r.n, rfl, by omega, by omega, ?_⟩⟩
      refine ⟨_, rfl, r.p, _, 0, _, rfl, rfl, SqT.of (sl _ _ p9), rfl, ?_⟩
      refine ⟨rfl, _, rfl, ite2 (fun h => absurd h (by rw [decide_eq_true rfl]; decide)) fun _ => ?_⟩
      have p10 := sl _ _ p9
      refine ⟨_, rfl, r.p, _, 3, _, rfl, rfl, SqT.of p10, rfl, _, rfl, r.p, _, 2, _, rfl, rfl, SqT.of p10, rfl, _, rfl, r.p, _, 1, _, rfl, rfl, SqT.of p10, rfl, _, rfl, r.p, _, 0, _, rfl, rfl, SqT.of p10, rfl, ?_⟩
      intro yn dn n1 n2 n3
      have si := ins_in (C := a.C_Machine) n1 n2
      refine ⟨yn, dn, r.n, rb9, rs9, re9, r.bs, r.es, r.L, rfl, upd_same, by omega, si _ _ (sl _ _ b9), si _ _ (sl _ _ c9), si _ _ (sl _ _ e9), hr10.2.2.1, hr10.2.2.2.1.mv si, hr10.2.2.2.2, fun H11 hN fN => ⟨rfl, ?_⟩⟩
      have s11 : Same H10 H11 := mk_same n1 n2 fN
      have s811 := s810.trans s11
      have hr11 := hr10.kt (kt_same s11)
      have hM11 := hM10.kt (kt_same s11)
      have hy11 := s11 _ _ hy10
      have p11 := s11 _ _ p10
      obtain ⟨dyn, _, _, _, hyn, _⟩ := id hN
      have msf := maB_self hr11.2
      refine ⟨_, rfl, _, rfl, y, yn, dx, dyn, _, _, rfl, rfl, hy11, hyn, .inl ⟨y, yn, r.n, r.n, r.bs, r.es, r.bs, r.es, r.L, r.L, rfl, hM11, hN, hr11.2, hr11.2, _, rfl, _, rfl, ite2 (fun h => by rw [msf] at h; cases h) fun _ => ?_⟩⟩
      refine ⟨_, rfl, _, rfl, y, yn, dx, dyn, _, _, rfl, rfl, hy11, hyn, .inl ⟨y, yn, r.n, r.n, r.bs, r.es, r.bs, r.es, r.L, r.L, rfl, hM11, hN, hr11.2, hr11.2, _, rfl, _, rfl, ite2 (fun h => by rw [msf] at h; cases h) fun _ => ?_⟩⟩
      refine ⟨_, rfl, _, rfl, _, rfl, r.p, _, rfl, .inr (SqT.of p11), fun l2 hl2 => ?_⟩
      have s12 : Same H11 (upd H11 l2 (.lst [.int (r.n : Int), .ref rb9, .ref rs9, .ref re9])) := Same.new hl2
      have hll2 : upd H11 l2 (.lst [.int (r.n : Int), .ref rb9, .ref rs9, .ref re9]) l2 = some (.lst [.int (r.n : Int), .ref rb9, .ref rs9, .ref re9]) := upd_same
      generalize upd H11 l2 (.lst [.int (r.n : Int), .ref rb9, .ref rs9, .ref re9]) = H12 at s12 hll2 ⊢
      have p12 := s12 _ _ p11
      refine ⟨_, rfl, r.p, _, 0, _, rfl, rfl, SqT.of p12, rfl, ?_⟩
      refine ⟨by show 5 ≤ sizeLine; omega, fun l3 hl3 => ?_⟩
      have s13 : Same H12 (upd H12 l3 (.lst [.non, .ref r.p, .ref l2, .int (r.n : Int), .str (Str.ofString "machine")])) := Same.new hl3
      have hll3 : upd H12 l3 (.lst [.non, .ref r.p, .ref l2, .int (r.n : Int), .str (Str.ofString "machine")]) l3 = some (.lst [.non, .ref r.p, .ref l2, .int (r.n : Int), .str (Str.ofString "machine")]) := upd_same
      generalize upd H12 l3 (.lst [.non, .ref r.p, .ref l2, .int (r.n : Int), .str (Str.ofString "machine")]) = H13 at s13 hll3 ⊢
      have s813 := (s811.trans s12).trans s13
      have p13 := s13 _ _ p12
      have l13 := s13 _ _ hll2
      refine ⟨y, l3, dx, _, _, rfl, rfl, s813 _ _ hy1, hll3, fun v hv => ?_, ?_⟩
      · rcases List.mem_cons.mp hv with rfl | hv
        · exact ⟨.inl trivial, .inr ⟨y, _, _, rfl, .non, T.ko_NoneType, rfl, rfl⟩⟩
        rcases List.mem_cons.mp hv with rfl | hv
        · exact ⟨.inl (.inl ⟨_, SqT.of p13⟩), .inr ⟨y, _, _, rfl, .tup p13, T.ko_tuple, rfl, rfl⟩⟩
        rcases List.mem_cons.mp hv with rfl | hv
        · exact ⟨.inl (.inr ⟨_, SqL.of l13⟩), .inr ⟨y, _, _, rfl, .lst l13, T.ko_list, rfl, rfl⟩⟩
        rcases List.mem_cons.mp hv with rfl | hv
        · exact ⟨.inr (.inl ⟨_, rfl⟩), .inr ⟨y, _, _, rfl, .int _, T.ko_int, rfl, rfl⟩⟩
        rcases List.mem_cons.mp hv with rfl | hv
        · exact ⟨.inl trivial, .inr ⟨y, _, _, rfl, .str _, T.ko_str, rfl, rfl⟩⟩
        cases hv
      refine ⟨_, rfl, ite2 (fun h => by cases h) fun _ => ?_⟩
      refine ⟨5, rfl, by decide, by decide, ?_⟩
      refine for_range (n := 5) (fun j σ H' => Same H13 H' ∧ ∃ (o10 : Option V), σ = [some (.ref c), some (.ref f), some (.str SS), some (.ref R), o3, some (.ref D), some (.ref r.p), some (.int (0 + (i : Int))), some (.ref y), some (.ref yn), o10]) ⟨fun _ _ e => e, _, rfl⟩ ?_ ?_
      · rintro j σ H14 hj ⟨s14, o10, rfl⟩
        have s814 := s813.trans s14
        obtain ⟨r', hr'⟩ : ∃ r, rs[j]? = some r := ⟨_, List.getElem?_eq_getElem (by omega)⟩
        obtain ⟨y', hy'⟩ : ∃ y, ys[j]? = some y := ⟨_, List.getElem?_eq_getElem (by omega)⟩
        have hrm' := List.mem_of_getElem? hr'
        have hr14 := hr8.kt (kt_same s814)
        have hr14' := ((hrs7 r' hrm').kt (kt_same s8)).kt (kt_same s814)
        have hM14 := hM8.kt (kt_same s814)
        have hM14' := ((hys j y' r' hy' hr').kt (kt_same s8)).kt (kt_same s814)
        obtain ⟨dx', _, _, _, hy14', _⟩ := id hM14'
        have hy14 := s814 _ _ hy1
        have hD14 := s814 _ _ hD8
        have hR14 := s814 _ _ hR8
        have sh1 := hr14.2.tup.shaped (by decide)
        have sh2 := hr14'.2.tup.shaped (by decide)
        have dp1 := dp_rw (K := K) hr14.1 hr14.2.2.2.1
        have dp2 := dp_rw (K := K) hr14'.1 hr14'.2.2.2.1
        refine ⟨_, rfl, _, rfl, _, rfl, D, _, _, _, rfl, rfl, SqL.of hD14, atD hy', y, y', dx, dx', _, _, rfl, rfl, hy14, hy14', .inl ⟨y, y', r.n, r'.n, r.bs, r.es, r'.bs, r'.es, r.L, r'.L, rfl, hM14, hM14', hr14.2, hr14'.2, _, rfl, ?_⟩⟩
        refine ⟨_, rfl, _, rfl, _, rfl, R, _, _, _, rfl, rfl, SqL.of hR14, atR hr', _, _, dp1, dp2, sh1, sh2, ?_⟩
        refine ⟨rfl, _, rfl, ite2 (fun h => absurd h (ne_self _)) fun _ => ?_⟩
        refine ⟨_, rfl, _, rfl, D, _, _, _, rfl, rfl, SqL.of hD14, atD hy', _, rfl, y', y, dx', dx, _, _, rfl, rfl, hy14', hy14, .inl ⟨y', y, r'.n, r.n, r'.bs, r'.es, r.bs, r.es, r'.L, r.L, rfl, hM14', hM14, hr14'.2, hr14.2, _, rfl, ?_⟩⟩
        refine ⟨_, rfl, _, rfl, _, rfl, R, _, _, _, rfl, rfl, SqL.of hR14, atR hr', _, _, dp1, dp2, sh1, sh2, ?_⟩
        refine ⟨rfl, _, rfl, ite2 (fun h => absurd h ?_) fun _ => ⟨s14, _, rfl⟩⟩
        unfold maB
        rw [eqv_sym]
        exact not_self _
      · rintro σ H14 ⟨s14, o10, rfl⟩
        exact ⟨(s8.trans s813).trans s14, _, _, _, _, _, rfl⟩
    rintro σ H8 ⟨s8, o6, o7, o8, o9, o10, rfl⟩
    refine ⟨by show 0 ≤ sizeLine; omega, fun b1 g1 => ⟨by show 0 ≤ sizeLine; omega, fun b2 g2 => ⟨by show 0 ≤ sizeLine; omega, fun b3 g3 => fun y dx n1 n2 n3 => ?_⟩⟩⟩
    obtain ⟨sA, a1, a2, a3⟩ := three g1 g2 g3
    have si := ins_in (C := a.C_Machine) n1 n2
    refine spMi0 upd_same (si _ _ a1) (si _ _ a2) (si _ _ a3) fun H9 hM9 f9 => ⟨rfl, ?_⟩
    clear sA a1 a2 a3 si
    refine ⟨by show 0 ≤ sizeLine; omega, fun b1' g1 => ⟨by show 0 ≤ sizeLine; omega, fun b2' g2 => ⟨by show 0 ≤ sizeLine; omega, fun b3' g3 => fun y' dx' n1 n2 n3 => ?_⟩⟩⟩
    obtain ⟨sA, a1, a2, a3⟩ := three g1 g2 g3
    have si := ins_in (C := a.C_Machine) n1 n2
    refine spMi0 upd_same (si _ _ a1) (si _ _ a2) (si _ _ a3) fun H10 hM10 f10 => ⟨rfl, ?_⟩
    have s10 := sA.trans (mk_same n1 n2 f10)
    have hM9' := hM9.kt (kt_same s10)
    obtain ⟨e1, _, _, _, q1, _⟩ := id hM9'
    obtain ⟨e2, _, _, _, q2, _⟩ := id hM10
    clear sA a1 a2 a3 si
    refine ⟨y, y', e1, e2, _, _, rfl, rfl, q1, q2, .inl ⟨y, y', 0, 0, [], [], [], [], [], [], rfl, hM9', hM10, gd0 _, gd0 _, _, rfl, ?_⟩⟩
    rw [maB_self (gd0 H10)]
    refine ⟨_, rfl, ite2 (fun _ => ?_) fun h => absurd rfl h⟩
    refine ⟨by show 0 ≤ sizeLine; omega, fun b1 g1 => ⟨by show 0 ≤ sizeLine; omega, fun b2 g2 => ⟨by show 0 ≤ sizeLine; omega, fun b3 g3 => fun y dx n1 n2 n3 => ?_⟩⟩⟩
    obtain ⟨sA, a1, a2, a3⟩ := three g1 g2 g3
    have si := ins_in (C := a.C_Machine) n1 n2
    refine spMi0 upd_same (si _ _ a1) (si _ _ a2) (si _ _ a3) fun H11 hM11 f11 => ⟨rfl, ?_⟩
    obtain ⟨e1, _, _, _, q1, _⟩ := id hM11
    refine ⟨y, e1, _, rfl, q1, ⟨y, 0, [], [], [], rfl, hM11, by decide, 0, rfl, by decide, by decide, ?_⟩⟩
    refine ⟨rfl, ?_⟩
    show Q (.bl (decide (V.int 0 = V.int 0))) H11
    rw [decide_eq_true rfl]
    exact k _
end
end K33
set_option Elab.async false
set_option linter.all false
set_option maxRecDepth 100000
namespace K33
open PySem PySem.Spec PyProof.Rows L2 
set_option maxHeartbeats 8000000 in
theorem all_mk {l : PySem.W.OpenLaw} {w : World} {K : PySem.W.Frag} {h : Heap} {mg : Str → Option Value} {fa : Addr} (X : K.In h) (G : h.Ns mainGlobals mg) {C_Machine N_Machine f_is_whole f_is_within f_is_text f_is_signs f_is_rising f_Machine_init f_Machine_eq f_Machine_len f_first_wrong f_are_places f_are_steps f_is_step f__law_feed f__law_draw f__law_signs f__law_some f__law_raw f__law_made f__law_otherwise f_law : Addr} {t_TEXT_SIGNS : Tok} {xdd_Machine od_is_whole an_is_whole od_is_within an_is_within od_is_text an_is_text od_is_signs an_is_signs od_is_rising an_is_rising od_Machine_init an_Machine_init od_Machine_eq an_Machine_eq od_Machine_len an_Machine_len od_first_wrong an_first_wrong od_are_places an_are_places od_are_steps an_are_steps od_is_step an_is_step od__law_feed an__law_feed od__law_draw an__law_draw od__law_signs an__law_signs od__law_some an__law_some od__law_raw an__law_raw od__law_made an__law_made od__law_otherwise an__law_otherwise od_law an_law : Option Addr} {sl_is_whole sl_is_within sl_is_text sl_is_signs sl_is_rising sl_Machine_init sl_Machine_eq sl_Machine_len sl_first_wrong sl_are_places sl_are_steps sl_is_step sl__law_feed sl__law_draw sl__law_signs sl__law_some sl__law_raw sl__law_made sl__law_otherwise sl_law : Array (Option Value)} {oc_is_whole dc_is_whole pm_is_whole cd_is_whole ct_is_whole kV_is_whole oc_is_within dc_is_within pm_is_within cd_is_within ct_is_within kV_is_within oc_is_text dc_is_text pm_is_text cd_is_text ct_is_text kV_is_text oc_is_signs dc_is_signs pm_is_signs cd_is_signs ct_is_signs kV_is_signs oc_is_rising dc_is_rising pm_is_rising cd_is_rising ct_is_rising kV_is_rising oc_Machine_init dc_Machine_init pm_Machine_init cd_Machine_init ct_Machine_init kV_Machine_init oc_Machine_eq dc_Machine_eq pm_Machine_eq cd_Machine_eq ct_Machine_eq kV_Machine_eq oc_Machine_len dc_Machine_len pm_Machine_len cd_Machine_len ct_Machine_len kV_Machine_len oc_first_wrong dc_first_wrong pm_first_wrong cd_first_wrong ct_first_wrong kV_first_wrong oc_are_places dc_are_places pm_are_places cd_are_places ct_are_places kV_are_places oc_are_steps dc_are_steps pm_are_steps cd_are_steps ct_are_steps kV_are_steps oc_is_step dc_is_step pm_is_step cd_is_step ct_is_step kV_is_step oc__law_feed dc__law_feed pm__law_feed cd__law_feed ct__law_feed kV__law_feed oc__law_draw dc__law_draw pm__law_draw cd__law_draw ct__law_draw kV__law_draw oc__law_signs dc__law_signs pm__law_signs cd__law_signs ct__law_signs kV__law_signs oc__law_some dc__law_some pm__law_some cd__law_some ct__law_some kV__law_some oc__law_raw dc__law_raw pm__law_raw cd__law_raw ct__law_raw kV__law_raw oc__law_made dc__law_made pm__law_made cd__law_made ct__law_made kV__law_made oc__law_otherwise dc__law_otherwise pm__law_otherwise cd__law_otherwise ct__law_otherwise kV__law_otherwise oc_law dc_law pm_law cd_law ct_law kV_law : Value} {xnm_Machine xq_Machine : Str} {xbs_Machine xsub_Machine : List Value} {xsn_Machine : List Str} {xhd_Machine xab_Machine : Bool} {xcol_Machine : Option Bool} {xk0_Machine xk1_Machine xk2_Machine xk3_Machine xk5_Machine : Option Value} {xnew_Machine : String} (hfa : mg "law" = some (.ref fa))
    (aC_Machine : PySem.W.nsIn K mainGlobals "Machine" = some (some (.ref C_Machine)))
    (lC_Machine : K.lookup C_Machine = some (excClassObj xnm_Machine xq_Machine C_Machine N_Machine xbs_Machine [.type "object"] xhd_Machine xsn_Machine xsub_Machine xab_Machine xcol_Machine xdd_Machine xk0_Machine xk1_Machine xk2_Machine xk3_Machine xk5_Machine xnew_Machine))
    (nok_Machine : PySem.W.nsOkIn K N_Machine = true)
    (pg_Machine : PySem.W.plainGet K C_Machine Str.empty = true)
    (hd_Machine : PySem.W.hasDictIn K C_Machine = true)
    (po_Machine : PySem.W.plainOver K C_Machine = true)
    (sa_Machine : PySem.W.findIn K (.ref C_Machine) "__setattr__" = some (some (.builtin "object.__setattr__")))
    (mks_Machine : PySem.W.makesIn K C_Machine = true)
    (kpC_Machine : PySem.W.keepIn K (.ref C_Machine) = true)
    (na_Machine_many : PySem.W.findIn K (.ref C_Machine) "many" = some none)
    (na_Machine_begins : PySem.W.findIn K (.ref C_Machine) "begins" = some none)
    (na_Machine_steps : PySem.W.findIn K (.ref C_Machine) "steps" = some none)
    (na_Machine_ends : PySem.W.findIn K (.ref C_Machine) "ends" = some none)
    (ty1_Machine : PySem.W.findIn K (.ref C_Machine) "__class__" = some (some (.builtin "object.__class__")))
    (ty2_Machine : PySem.W.specialIn K (.builtin "object.__class__") "__get__" = some (some (.builtin "getset_descriptor.__get__")))
    (ty3_Machine : PySem.W.takesIn K (.builtin "object.__class__") = some true)
    (ty4_Machine : PySem.W.mroIn K C_Machine (.type "object") = some true)
    (ki1_Machine : PySem.W.kitOne K (.ref C_Machine) (.ref C_Machine) = some true)
    (neq_Machine : PySem.W.nsIn K N_Machine "__eq__" = some (some (.ref f_Machine_eq)))
    (nne_Machine : PySem.W.nsIn K N_Machine "__ne__" = some none)
    (nlen_Machine : PySem.W.nsIn K N_Machine "__len__" = some (some (.ref f_Machine_len)))
    (apint_Machine : PySem.W.mroIn K C_Machine (.type "int") = some false)
    (apdic_Machine : PySem.W.mroIn K C_Machine (.type "dict") = some false)
    (su_Machine : PySem.W.subIn K (.type "str") (.ref C_Machine) = some false)
    (apnon_Machine : PySem.W.mroIn K C_Machine (.type "NoneType") = some false)
    (apbl_Machine : PySem.W.mroIn K C_Machine (.type "bool") = some false)
    (apstr_Machine : PySem.W.mroIn K C_Machine (.type "str") = some false)
    (aptup_Machine : PySem.W.mroIn K C_Machine (.type "tuple") = some false)
    (aplst_Machine : PySem.W.mroIn K C_Machine (.type "list") = some false)
    (a_is_whole : PySem.W.nsIn K mainGlobals "is_whole" = some (some (.ref f_is_whole)))
    (l_is_whole : K.lookup f_is_whole = some ⟨oc_is_whole, od_is_whole, .func (PySem.W.fnOf "is_whole" "is_whole" (defArgs s_is_whole) (defBody s_is_whole) (defScope s_is_whole) .none kV_is_whole dc_is_whole pm_is_whole an_is_whole cd_is_whole ct_is_whole), sl_is_whole⟩)
    (cd'_is_whole : PySem.W.codeIn K cd_is_whole "is_whole" = true)
    (k_is_whole : PySem.W.keepIn K (.ref f_is_whole) = true)
    (a_is_within : PySem.W.nsIn K mainGlobals "is_within" = some (some (.ref f_is_within)))
    (l_is_within : K.lookup f_is_within = some ⟨oc_is_within, od_is_within, .func (PySem.W.fnOf "is_within" "is_within" (defArgs s_is_within) (defBody s_is_within) (defScope s_is_within) .none kV_is_within dc_is_within pm_is_within an_is_within cd_is_within ct_is_within), sl_is_within⟩)
    (cd'_is_within : PySem.W.codeIn K cd_is_within "is_within" = true)
    (k_is_within : PySem.W.keepIn K (.ref f_is_within) = true)
    (a_is_text : PySem.W.nsIn K mainGlobals "is_text" = some (some (.ref f_is_text)))
    (l_is_text : K.lookup f_is_text = some ⟨oc_is_text, od_is_text, .func (PySem.W.fnOf "is_text" "is_text" (defArgs s_is_text) (defBody s_is_text) (defScope s_is_text) .none kV_is_text dc_is_text pm_is_text an_is_text cd_is_text ct_is_text), sl_is_text⟩)
    (cd'_is_text : PySem.W.codeIn K cd_is_text "is_text" = true)
    (k_is_text : PySem.W.keepIn K (.ref f_is_text) = true)
    (a_is_signs : PySem.W.nsIn K mainGlobals "is_signs" = some (some (.ref f_is_signs)))
    (l_is_signs : K.lookup f_is_signs = some ⟨oc_is_signs, od_is_signs, .func (PySem.W.fnOf "is_signs" "is_signs" (defArgs s_is_signs) (defBody s_is_signs) (defScope s_is_signs) .none kV_is_signs dc_is_signs pm_is_signs an_is_signs cd_is_signs ct_is_signs), sl_is_signs⟩)
    (cd'_is_signs : PySem.W.codeIn K cd_is_signs "is_signs" = true)
    (k_is_signs : PySem.W.keepIn K (.ref f_is_signs) = true)
    (a_is_rising : PySem.W.nsIn K mainGlobals "is_rising" = some (some (.ref f_is_rising)))
    (l_is_rising : K.lookup f_is_rising = some ⟨oc_is_rising, od_is_rising, .func (PySem.W.fnOf "is_rising" "is_rising" (defArgs s_is_rising) (defBody s_is_rising) (defScope s_is_rising) .none kV_is_rising dc_is_rising pm_is_rising an_is_rising cd_is_rising ct_is_rising), sl_is_rising⟩)
    (cd'_is_rising : PySem.W.codeIn K cd_is_rising "is_rising" = true)
    (k_is_rising : PySem.W.keepIn K (.ref f_is_rising) = true)
    (fi_Machine_init : PySem.W.findIn K (.ref C_Machine) "__init__" = some (some (.ref f_Machine_init)))
    (is_Machine_init : PySem.W.isFn K (.ref f_Machine_init) = true)
    (l_Machine_init : K.lookup f_Machine_init = some ⟨oc_Machine_init, od_Machine_init, .func (PySem.W.fnOf "__init__" "Machine.__init__" (defArgs s_Machine_init) (defBody s_Machine_init) (defScope s_Machine_init) .none kV_Machine_init dc_Machine_init pm_Machine_init an_Machine_init cd_Machine_init ct_Machine_init), sl_Machine_init⟩)
    (cd'_Machine_init : PySem.W.codeIn K cd_Machine_init "Machine.__init__" = true)
    (k_Machine_init : PySem.W.keepIn K (.ref f_Machine_init) = true)
    (fi_Machine_eq : PySem.W.findIn K (.ref C_Machine) "__eq__" = some (some (.ref f_Machine_eq)))
    (is_Machine_eq : PySem.W.isFn K (.ref f_Machine_eq) = true)
    (l_Machine_eq : K.lookup f_Machine_eq = some ⟨oc_Machine_eq, od_Machine_eq, .func (PySem.W.fnOf "__eq__" "Machine.__eq__" (defArgs s_Machine_eq) (defBody s_Machine_eq) (defScope s_Machine_eq) .none kV_Machine_eq dc_Machine_eq pm_Machine_eq an_Machine_eq cd_Machine_eq ct_Machine_eq), sl_Machine_eq⟩)
    (cd'_Machine_eq : PySem.W.codeIn K cd_Machine_eq "Machine.__eq__" = true)
    (k_Machine_eq : PySem.W.keepIn K (.ref f_Machine_eq) = true)
    (fi_Machine_len : PySem.W.findIn K (.ref C_Machine) "__len__" = some (some (.ref f_Machine_len)))
    (is_Machine_len : PySem.W.isFn K (.ref f_Machine_len) = true)
    (l_Machine_len : K.lookup f_Machine_len = some ⟨oc_Machine_len, od_Machine_len, .func (PySem.W.fnOf "__len__" "Machine.__len__" (defArgs s_Machine_len) (defBody s_Machine_len) (defScope s_Machine_len) .none kV_Machine_len dc_Machine_len pm_Machine_len an_Machine_len cd_Machine_len ct_Machine_len), sl_Machine_len⟩)
    (cd'_Machine_len : PySem.W.codeIn K cd_Machine_len "Machine.__len__" = true)
    (k_Machine_len : PySem.W.keepIn K (.ref f_Machine_len) = true)
    (a_first_wrong : PySem.W.nsIn K mainGlobals "first_wrong" = some (some (.ref f_first_wrong)))
    (l_first_wrong : K.lookup f_first_wrong = some ⟨oc_first_wrong, od_first_wrong, .func (PySem.W.fnOf "first_wrong" "first_wrong" (defArgs s_first_wrong) (defBody s_first_wrong) (defScope s_first_wrong) .none kV_first_wrong dc_first_wrong pm_first_wrong an_first_wrong cd_first_wrong ct_first_wrong), sl_first_wrong⟩)
    (cd'_first_wrong : PySem.W.codeIn K cd_first_wrong "first_wrong" = true)
    (k_first_wrong : PySem.W.keepIn K (.ref f_first_wrong) = true)
    (a_are_places : PySem.W.nsIn K mainGlobals "are_places" = some (some (.ref f_are_places)))
    (l_are_places : K.lookup f_are_places = some ⟨oc_are_places, od_are_places, .func (PySem.W.fnOf "are_places" "are_places" (defArgs s_are_places) (defBody s_are_places) (defScope s_are_places) .none kV_are_places dc_are_places pm_are_places an_are_places cd_are_places ct_are_places), sl_are_places⟩)
    (cd'_are_places : PySem.W.codeIn K cd_are_places "are_places" = true)
    (k_are_places : PySem.W.keepIn K (.ref f_are_places) = true)
    (a_are_steps : PySem.W.nsIn K mainGlobals "are_steps" = some (some (.ref f_are_steps)))
    (l_are_steps : K.lookup f_are_steps = some ⟨oc_are_steps, od_are_steps, .func (PySem.W.fnOf "are_steps" "are_steps" (defArgs s_are_steps) (defBody s_are_steps) (defScope s_are_steps) .none kV_are_steps dc_are_steps pm_are_steps an_are_steps cd_are_steps ct_are_steps), sl_are_steps⟩)
    (cd'_are_steps : PySem.W.codeIn K cd_are_steps "are_steps" = true)
    (k_are_steps : PySem.W.keepIn K (.ref f_are_steps) = true)
    (a_is_step : PySem.W.nsIn K mainGlobals "is_step" = some (some (.ref f_is_step)))
    (l_is_step : K.lookup f_is_step = some ⟨oc_is_step, od_is_step, .func (PySem.W.fnOf "is_step" "is_step" (defArgs s_is_step) (defBody s_is_step) (defScope s_is_step) .none kV_is_step dc_is_step pm_is_step an_is_step cd_is_step ct_is_step), sl_is_step⟩)
    (cd'_is_step : PySem.W.codeIn K cd_is_step "is_step" = true)
    (k_is_step : PySem.W.keepIn K (.ref f_is_step) = true)
    (a__law_feed : PySem.W.nsIn K mainGlobals "_law_feed" = some (some (.ref f__law_feed)))
    (l__law_feed : K.lookup f__law_feed = some ⟨oc__law_feed, od__law_feed, .func (PySem.W.fnOf "_law_feed" "_law_feed" (defArgs s__law_feed) (defBody s__law_feed) (defScope s__law_feed) .none kV__law_feed dc__law_feed pm__law_feed an__law_feed cd__law_feed ct__law_feed), sl__law_feed⟩)
    (cd'__law_feed : PySem.W.codeIn K cd__law_feed "_law_feed" = true)
    (k__law_feed : PySem.W.keepIn K (.ref f__law_feed) = true)
    (a__law_draw : PySem.W.nsIn K mainGlobals "_law_draw" = some (some (.ref f__law_draw)))
    (l__law_draw : K.lookup f__law_draw = some ⟨oc__law_draw, od__law_draw, .func (PySem.W.fnOf "_law_draw" "_law_draw" (defArgs s__law_draw) (defBody s__law_draw) (defScope s__law_draw) .none kV__law_draw dc__law_draw pm__law_draw an__law_draw cd__law_draw ct__law_draw), sl__law_draw⟩)
    (cd'__law_draw : PySem.W.codeIn K cd__law_draw "_law_draw" = true)
    (k__law_draw : PySem.W.keepIn K (.ref f__law_draw) = true)
    (a__law_signs : PySem.W.nsIn K mainGlobals "_law_signs" = some (some (.ref f__law_signs)))
    (l__law_signs : K.lookup f__law_signs = some ⟨oc__law_signs, od__law_signs, .func (PySem.W.fnOf "_law_signs" "_law_signs" (defArgs s__law_signs) (defBody s__law_signs) (defScope s__law_signs) .none kV__law_signs dc__law_signs pm__law_signs an__law_signs cd__law_signs ct__law_signs), sl__law_signs⟩)
    (cd'__law_signs : PySem.W.codeIn K cd__law_signs "_law_signs" = true)
    (k__law_signs : PySem.W.keepIn K (.ref f__law_signs) = true)
    (a__law_some : PySem.W.nsIn K mainGlobals "_law_some" = some (some (.ref f__law_some)))
    (l__law_some : K.lookup f__law_some = some ⟨oc__law_some, od__law_some, .func (PySem.W.fnOf "_law_some" "_law_some" (defArgs s__law_some) (defBody s__law_some) (defScope s__law_some) .none kV__law_some dc__law_some pm__law_some an__law_some cd__law_some ct__law_some), sl__law_some⟩)
    (cd'__law_some : PySem.W.codeIn K cd__law_some "_law_some" = true)
    (k__law_some : PySem.W.keepIn K (.ref f__law_some) = true)
    (a__law_raw : PySem.W.nsIn K mainGlobals "_law_raw" = some (some (.ref f__law_raw)))
    (l__law_raw : K.lookup f__law_raw = some ⟨oc__law_raw, od__law_raw, .func (PySem.W.fnOf "_law_raw" "_law_raw" (defArgs s__law_raw) (defBody s__law_raw) (defScope s__law_raw) .none kV__law_raw dc__law_raw pm__law_raw an__law_raw cd__law_raw ct__law_raw), sl__law_raw⟩)
    (cd'__law_raw : PySem.W.codeIn K cd__law_raw "_law_raw" = true)
    (k__law_raw : PySem.W.keepIn K (.ref f__law_raw) = true)
    (a__law_made : PySem.W.nsIn K mainGlobals "_law_made" = some (some (.ref f__law_made)))
    (l__law_made : K.lookup f__law_made = some ⟨oc__law_made, od__law_made, .func (PySem.W.fnOf "_law_made" "_law_made" (defArgs s__law_made) (defBody s__law_made) (defScope s__law_made) .none kV__law_made dc__law_made pm__law_made an__law_made cd__law_made ct__law_made), sl__law_made⟩)
    (cd'__law_made : PySem.W.codeIn K cd__law_made "_law_made" = true)
    (k__law_made : PySem.W.keepIn K (.ref f__law_made) = true)
    (a__law_otherwise : PySem.W.nsIn K mainGlobals "_law_otherwise" = some (some (.ref f__law_otherwise)))
    (l__law_otherwise : K.lookup f__law_otherwise = some ⟨oc__law_otherwise, od__law_otherwise, .func (PySem.W.fnOf "_law_otherwise" "_law_otherwise" (defArgs s__law_otherwise) (defBody s__law_otherwise) (defScope s__law_otherwise) .none kV__law_otherwise dc__law_otherwise pm__law_otherwise an__law_otherwise cd__law_otherwise ct__law_otherwise), sl__law_otherwise⟩)
    (cd'__law_otherwise : PySem.W.codeIn K cd__law_otherwise "_law_otherwise" = true)
    (k__law_otherwise : PySem.W.keepIn K (.ref f__law_otherwise) = true)
    (a_law : PySem.W.nsIn K mainGlobals "law" = some (some (.ref f_law)))
    (l_law : K.lookup f_law = some ⟨oc_law, od_law, .func (PySem.W.fnOf "law" "law" (defArgs s_law) (defBody s_law) (defScope s_law) .none kV_law dc_law pm_law an_law cd_law ct_law), sl_law⟩)
    (cd'_law : PySem.W.codeIn K cd_law "law" = true)
    (k_law : PySem.W.keepIn K (.ref f_law) = true)
    (c_TEXT_SIGNS : PySem.W.nsIn K mainGlobals "TEXT_SIGNS" = some (some (Value.str TSG t_TEXT_SIGNS)))
    (n_len : PySem.W.nsIn K mainGlobals "len" = some none)
    (n_abs : PySem.W.nsIn K mainGlobals "abs" = some none)
    (n_range : PySem.W.nsIn K mainGlobals "range" = some none)
    (n_str : PySem.W.nsIn K mainGlobals "str" = some none)
    (n_isinstance : PySem.W.nsIn K mainGlobals "isinstance" = some none)
    (n_tuple : PySem.W.nsIn K mainGlobals "tuple" = some none)
    (n_list : PySem.W.nsIn K mainGlobals "list" = some none)
    (n_repr : PySem.W.nsIn K mainGlobals "repr" = some none)
    (n_int : PySem.W.nsIn K mainGlobals "int" = some none)
    (n_bool : PySem.W.nsIn K mainGlobals "bool" = some none)
    (n_zip : PySem.W.nsIn K mainGlobals "zip" = some none)
    (n_all : PySem.W.nsIn K mainGlobals "all" = some none)
    (n_sum : PySem.W.nsIn K mainGlobals "sum" = some none)
    (n_sorted : PySem.W.nsIn K mainGlobals "sorted" = some none)
    (ki_int_int : PySem.W.kitOne K (.type "int") (.type "int") = some true)
    (ki_int_bool : PySem.W.kitOne K (.type "int") (.type "bool") = some false)
    (ki_str_str : PySem.W.kitOne K (.type "str") (.type "str") = some true)
    (ki_tuple_tuple : PySem.W.kitOne K (.type "tuple") (.type "tuple") = some true)
    (ko_NoneType : PySem.W.kitOne K (.type "NoneType") (.ref C_Machine) = some false)
    (ko_int : PySem.W.kitOne K (.type "int") (.ref C_Machine) = some false)
    (ko_str : PySem.W.kitOne K (.type "str") (.ref C_Machine) = some false)
    (ko_list : PySem.W.kitOne K (.type "list") (.ref C_Machine) = some false)
    (ko_tuple : PySem.W.kitOne K (.type "tuple") (.ref C_Machine) = some false) :
    ∃ fd : FuncData, (∀ (s : Shared) (v : Value), BindsTo s fd ⟨[v], []⟩ [("_law_script", v)]) ∧ ∀ base : Heap, K.In base → base.Ns mainGlobals mg → FnOk l.prog w K mg base CX0 10 fa fd ["_law_script"] (spLaw K) := by
  have e := hfa.symm.trans (PySem.W.mg_of X G a_law)
  cases e
  have T : Txt K mg ⟨C_Machine, 
      N_Machine, 
      f_is_whole, 
      PySem.W.fnOf "is_whole" "is_whole" (defArgs s_is_whole) (defBody s_is_whole) (defScope s_is_whole) .none kV_is_whole dc_is_whole pm_is_whole an_is_whole cd_is_whole ct_is_whole, 
      f_is_within, 
      PySem.W.fnOf "is_within" "is_within" (defArgs s_is_within) (defBody s_is_within) (defScope s_is_within) .none kV_is_within dc_is_within pm_is_within an_is_within cd_is_within ct_is_within, 
      f_is_text, 
      PySem.W.fnOf "is_text" "is_text" (defArgs s_is_text) (defBody s_is_text) (defScope s_is_text) .none kV_is_text dc_is_text pm_is_text an_is_text cd_is_text ct_is_text, 
      f_is_signs, 
      PySem.W.fnOf "is_signs" "is_signs" (defArgs s_is_signs) (defBody s_is_signs) (defScope s_is_signs) .none kV_is_signs dc_is_signs pm_is_signs an_is_signs cd_is_signs ct_is_signs, 
      f_is_rising, 
      PySem.W.fnOf "is_rising" "is_rising" (defArgs s_is_rising) (defBody s_is_rising) (defScope s_is_rising) .none kV_is_rising dc_is_rising pm_is_rising an_is_rising cd_is_rising ct_is_rising, 
      f_Machine_init, 
      PySem.W.fnOf "__init__" "Machine.__init__" (defArgs s_Machine_init) (defBody s_Machine_init) (defScope s_Machine_init) .none kV_Machine_init dc_Machine_init pm_Machine_init an_Machine_init cd_Machine_init ct_Machine_init, 
      f_Machine_eq, 
      PySem.W.fnOf "__eq__" "Machine.__eq__" (defArgs s_Machine_eq) (defBody s_Machine_eq) (defScope s_Machine_eq) .none kV_Machine_eq dc_Machine_eq pm_Machine_eq an_Machine_eq cd_Machine_eq ct_Machine_eq, 
      f_Machine_len, 
      PySem.W.fnOf "__len__" "Machine.__len__" (defArgs s_Machine_len) (defBody s_Machine_len) (defScope s_Machine_len) .none kV_Machine_len dc_Machine_len pm_Machine_len an_Machine_len cd_Machine_len ct_Machine_len, 
      f_first_wrong, 
      PySem.W.fnOf "first_wrong" "first_wrong" (defArgs s_first_wrong) (defBody s_first_wrong) (defScope s_first_wrong) .none kV_first_wrong dc_first_wrong pm_first_wrong an_first_wrong cd_first_wrong ct_first_wrong, 
      f_are_places, 
      PySem.W.fnOf "are_places" "are_places" (defArgs s_are_places) (defBody s_are_places) (defScope s_are_places) .none kV_are_places dc_are_places pm_are_places an_are_places cd_are_places ct_are_places, 
      f_are_steps, 
      PySem.W.fnOf "are_steps" "are_steps" (defArgs s_are_steps) (defBody s_are_steps) (defScope s_are_steps) .none kV_are_steps dc_are_steps pm_are_steps an_are_steps cd_are_steps ct_are_steps, 
      f_is_step, 
      PySem.W.fnOf "is_step" "is_step" (defArgs s_is_step) (defBody s_is_step) (defScope s_is_step) .none kV_is_step dc_is_step pm_is_step an_is_step cd_is_step ct_is_step, 
      f__law_feed, 
      PySem.W.fnOf "_law_feed" "_law_feed" (defArgs s__law_feed) (defBody s__law_feed) (defScope s__law_feed) .none kV__law_feed dc__law_feed pm__law_feed an__law_feed cd__law_feed ct__law_feed, 
      f__law_draw, 
      PySem.W.fnOf "_law_draw" "_law_draw" (defArgs s__law_draw) (defBody s__law_draw) (defScope s__law_draw) .none kV__law_draw dc__law_draw pm__law_draw an__law_draw cd__law_draw ct__law_draw, 
      f__law_signs, 
      PySem.W.fnOf "_law_signs" "_law_signs" (defArgs s__law_signs) (defBody s__law_signs) (defScope s__law_signs) .none kV__law_signs dc__law_signs pm__law_signs an__law_signs cd__law_signs ct__law_signs, 
      f__law_some, 
      PySem.W.fnOf "_law_some" "_law_some" (defArgs s__law_some) (defBody s__law_some) (defScope s__law_some) .none kV__law_some dc__law_some pm__law_some an__law_some cd__law_some ct__law_some, 
      f__law_raw, 
      PySem.W.fnOf "_law_raw" "_law_raw" (defArgs s__law_raw) (defBody s__law_raw) (defScope s__law_raw) .none kV__law_raw dc__law_raw pm__law_raw an__law_raw cd__law_raw ct__law_raw, 
      f__law_made, 
      PySem.W.fnOf "_law_made" "_law_made" (defArgs s__law_made) (defBody s__law_made) (defScope s__law_made) .none kV__law_made dc__law_made pm__law_made an__law_made cd__law_made ct__law_made, 
      f__law_otherwise, 
      PySem.W.fnOf "_law_otherwise" "_law_otherwise" (defArgs s__law_otherwise) (defBody s__law_otherwise) (defScope s__law_otherwise) .none kV__law_otherwise dc__law_otherwise pm__law_otherwise an__law_otherwise cd__law_otherwise ct__law_otherwise, 
      fa, 
      PySem.W.fnOf "law" "law" (defArgs s_law) (defBody s_law) (defScope s_law) .none kV_law dc_law pm_law an_law cd_law ct_law, 
      t_TEXT_SIGNS⟩ := ⟨PySem.W.mg_of X G aC_Machine, 
      PySem.W.mg_of X G a_is_whole, 
      fun_mk (st := s_is_whole) l_is_whole cd'_is_whole k_is_whole, 
      k_is_whole, 
      (fun_mk (st := s_is_whole) l_is_whole cd'_is_whole k_is_whole).binds (ps := ["thing"]) fun _ _ _ _ _ _ us hl => by obtain ⟨_, rfl⟩ := len_is1 hl; rfl, 
      PySem.W.mg_of X G a_is_within, 
      fun_mk (st := s_is_within) l_is_within cd'_is_within k_is_within, 
      k_is_within, 
      (fun_mk (st := s_is_within) l_is_within cd'_is_within k_is_within).binds (ps := ["thing", "least", "most"]) fun _ _ _ _ _ _ us hl => by obtain ⟨_, _, _, rfl⟩ := len_is3 hl; rfl, 
      PySem.W.mg_of X G a_is_text, 
      fun_mk (st := s_is_text) l_is_text cd'_is_text k_is_text, 
      k_is_text, 
      (fun_mk (st := s_is_text) l_is_text cd'_is_text k_is_text).binds (ps := ["thing"]) fun _ _ _ _ _ _ us hl => by obtain ⟨_, rfl⟩ := len_is1 hl; rfl, 
      PySem.W.mg_of X G a_is_signs, 
      fun_mk (st := s_is_signs) l_is_signs cd'_is_signs k_is_signs, 
      k_is_signs, 
      (fun_mk (st := s_is_signs) l_is_signs cd'_is_signs k_is_signs).binds (ps := ["thing"]) fun _ _ _ _ _ _ us hl => by obtain ⟨_, rfl⟩ := len_is1 hl; rfl, 
      PySem.W.mg_of X G a_is_rising, 
      fun_mk (st := s_is_rising) l_is_rising cd'_is_rising k_is_rising, 
      k_is_rising, 
      (fun_mk (st := s_is_rising) l_is_rising cd'_is_rising k_is_rising).binds (ps := ["row"]) fun _ _ _ _ _ _ us hl => by obtain ⟨_, rfl⟩ := len_is1 hl; rfl, 
      fun_mk (st := s_Machine_init) l_Machine_init cd'_Machine_init k_Machine_init, 
      fun_mk (st := s_Machine_eq) l_Machine_eq cd'_Machine_eq k_Machine_eq, 
      (fun_mk (st := s_Machine_eq) l_Machine_eq cd'_Machine_eq k_Machine_eq).binds (ps := ["self", "other"]) fun _ _ _ _ _ _ us hl => by obtain ⟨_, _, rfl⟩ := len_is2 hl; rfl, 
      ⟨fi_Machine_eq, is_Machine_eq, k_Machine_eq⟩, 
      fun_mk (st := s_Machine_len) l_Machine_len cd'_Machine_len k_Machine_len, 
      (fun_mk (st := s_Machine_len) l_Machine_len cd'_Machine_len k_Machine_len).binds (ps := ["self"]) fun _ _ _ _ _ _ us hl => by obtain ⟨_, rfl⟩ := len_is1 hl; rfl, 
      ⟨fi_Machine_len, is_Machine_len, k_Machine_len⟩, 
      PySem.W.mg_of X G a_first_wrong, 
      fun_mk (st := s_first_wrong) l_first_wrong cd'_first_wrong k_first_wrong, 
      k_first_wrong, 
      (fun_mk (st := s_first_wrong) l_first_wrong cd'_first_wrong k_first_wrong).binds (ps := ["many", "begins", "steps", "ends"]) fun _ _ _ _ _ _ us hl => by obtain ⟨_, _, _, _, rfl⟩ := len_is4 hl; rfl, 
      PySem.W.mg_of X G a_are_places, 
      fun_mk (st := s_are_places) l_are_places cd'_are_places k_are_places, 
      k_are_places, 
      (fun_mk (st := s_are_places) l_are_places cd'_are_places k_are_places).binds (ps := ["thing", "many"]) fun _ _ _ _ _ _ us hl => by obtain ⟨_, _, rfl⟩ := len_is2 hl; rfl, 
      PySem.W.mg_of X G a_are_steps, 
      fun_mk (st := s_are_steps) l_are_steps cd'_are_steps k_are_steps, 
      k_are_steps, 
      (fun_mk (st := s_are_steps) l_are_steps cd'_are_steps k_are_steps).binds (ps := ["thing", "many"]) fun _ _ _ _ _ _ us hl => by obtain ⟨_, _, rfl⟩ := len_is2 hl; rfl, 
      PySem.W.mg_of X G a_is_step, 
      fun_mk (st := s_is_step) l_is_step cd'_is_step k_is_step, 
      k_is_step, 
      (fun_mk (st := s_is_step) l_is_step cd'_is_step k_is_step).binds (ps := ["thing", "many"]) fun _ _ _ _ _ _ us hl => by obtain ⟨_, _, rfl⟩ := len_is2 hl; rfl, 
      PySem.W.mg_of X G a__law_feed, 
      fun_mk (st := s__law_feed) l__law_feed cd'__law_feed k__law_feed, 
      k__law_feed, 
      (fun_mk (st := s__law_feed) l__law_feed cd'__law_feed k__law_feed).binds (ps := ["_law_script"]) fun _ _ _ _ _ _ us hl => by obtain ⟨_, rfl⟩ := len_is1 hl; rfl, 
      PySem.W.mg_of X G a__law_draw, 
      fun_mk (st := s__law_draw) l__law_draw cd'__law_draw k__law_draw, 
      k__law_draw, 
      (fun_mk (st := s__law_draw) l__law_draw cd'__law_draw k__law_draw).binds (ps := ["_law_feed_here", "_law_a_many"]) fun _ _ _ _ _ _ us hl => by obtain ⟨_, _, rfl⟩ := len_is2 hl; rfl, 
      PySem.W.mg_of X G a__law_signs, 
      fun_mk (st := s__law_signs) l__law_signs cd'__law_signs k__law_signs, 
      k__law_signs, 
      (fun_mk (st := s__law_signs) l__law_signs cd'__law_signs k__law_signs).binds (ps := ["_law_feed_here", "_law_a_many"]) fun _ _ _ _ _ _ us hl => by obtain ⟨_, _, rfl⟩ := len_is2 hl; rfl, 
      PySem.W.mg_of X G a__law_some, 
      fun_mk (st := s__law_some) l__law_some cd'__law_some k__law_some, 
      k__law_some, 
      (fun_mk (st := s__law_some) l__law_some cd'__law_some k__law_some).binds (ps := ["_law_feed_here", "_law_things"]) fun _ _ _ _ _ _ us hl => by obtain ⟨_, _, rfl⟩ := len_is2 hl; rfl, 
      PySem.W.mg_of X G a__law_raw, 
      fun_mk (st := s__law_raw) l__law_raw cd'__law_raw k__law_raw, 
      k__law_raw, 
      (fun_mk (st := s__law_raw) l__law_raw cd'__law_raw k__law_raw).binds (ps := ["_law_feed_here", "_law_signs_here", "_law_most"]) fun _ _ _ _ _ _ us hl => by obtain ⟨_, _, _, rfl⟩ := len_is3 hl; rfl, 
      PySem.W.mg_of X G a__law_made, 
      fun_mk (st := s__law_made) l__law_made cd'__law_made k__law_made, 
      k__law_made, 
      (fun_mk (st := s__law_made) l__law_made cd'__law_made k__law_made).binds (ps := ["_law_raw_here"]) fun _ _ _ _ _ _ us hl => by obtain ⟨_, rfl⟩ := len_is1 hl; rfl, 
      PySem.W.mg_of X G a__law_otherwise, 
      fun_mk (st := s__law_otherwise) l__law_otherwise cd'__law_otherwise k__law_otherwise, 
      k__law_otherwise, 
      (fun_mk (st := s__law_otherwise) l__law_otherwise cd'__law_otherwise k__law_otherwise).binds (ps := ["_law_feed_here", "_law_raw_here"]) fun _ _ _ _ _ _ us hl => by obtain ⟨_, _, rfl⟩ := len_is2 hl; rfl, 
      PySem.W.mg_of X G a_law, 
      fun_mk (st := s_law) l_law cd'_law k_law, 
      k_law, 
      (fun_mk (st := s_law) l_law cd'_law k_law).binds (ps := ["_law_script"]) fun _ _ _ _ _ _ us hl => by obtain ⟨_, rfl⟩ := len_is1 hl; rfl, 
      ⟨apnon_Machine, apbl_Machine, apstr_Machine, aptup_Machine, aplst_Machine⟩, 
      ⟨⟨apnon_Machine, apbl_Machine, apstr_Machine, aptup_Machine, aplst_Machine⟩, apint_Machine, apdic_Machine⟩, 
      su_Machine, 
      ⟨⟨_, _, _, _, _, _, _, _, _, _, _, _, _, _, _, lC_Machine⟩, nok_Machine, nlen_Machine, is_Machine_len⟩, 
      ⟨pg_Machine, hd_Machine, po_Machine, sa_Machine⟩, 
      ⟨mks_Machine, fi_Machine_init, is_Machine_init, kpC_Machine⟩, 
      ⟨⟨_, _, _, _, _, _, _, _, _, _, _, _, _, _, _, lC_Machine⟩, nok_Machine, neq_Machine, nne_Machine, is_Machine_eq⟩, 
      na_Machine_many, 
      na_Machine_begins, 
      na_Machine_steps, 
      na_Machine_ends, 
      ty1_Machine, 
      ty2_Machine, 
      ty3_Machine, 
      ty4_Machine, 
      ki1_Machine, 
      (fun_mk (st := s_Machine_init) l_Machine_init cd'_Machine_init k_Machine_init).binds (ps := ["self", "many", "begins", "steps", "ends"]) fun _ _ _ _ _ _ us hl => by obtain ⟨_, _, _, _, _, rfl⟩ := len_is5 hl; rfl, 
      .nil, 
      ⟨fun s us ws hK hl => by
      obtain ⟨u0, w0, w1, w2, w3, rfl, rfl⟩ := g_Machine_init_ends_steps_begins_many_len hl
      exact .of_eq rfl, fun h1 h2 => g_Machine_init_ends_steps_begins_many_rel h1 h2⟩, 
      PySem.W.mg_of X G c_TEXT_SIGNS, 
      PySem.W.mg_none_of X G n_len, 
      PySem.W.mg_none_of X G n_abs, 
      PySem.W.mg_none_of X G n_range, 
      PySem.W.mg_none_of X G n_str, 
      PySem.W.mg_none_of X G n_isinstance, 
      PySem.W.mg_none_of X G n_tuple, 
      PySem.W.mg_none_of X G n_list, 
      PySem.W.mg_none_of X G n_repr, 
      PySem.W.mg_none_of X G n_int, 
      PySem.W.mg_none_of X G n_bool, 
      PySem.W.mg_none_of X G n_zip, 
      PySem.W.mg_none_of X G n_all, 
      PySem.W.mg_none_of X G n_sum, 
      PySem.W.mg_none_of X G n_sorted, 
      ki_int_int, 
      ki_int_bool, 
      ki_str_str, 
      ki_tuple_tuple, 
      ko_NoneType, 
      ko_int, 
      ko_str, 
      ko_list, 
      ko_tuple⟩
  exact ⟨_, fun s v => .of_eq rfl, fun base _ _ => ok_law T⟩
theorem walk {l : PySem.W.OpenLaw} {q : Program} {loose : List Str} {XP : (Str → Option Value) → Heap → Prop} {YP : World → Heap → Prop} {d : DefRec} {K : Params → PySem.W.Frag} (hn : l.most = some 63) (hdf : d.params.defaults = [])
    (hY : ∀ (w : World) (h : Heap), YP w h → (K w.params).In h)
    (F : ∀ (w : World) (mg : Str → Option Value) (fa : Addr) (h : Heap), (K w.params).In h → h.Ns mainGlobals mg → mg d.name = some (.ref fa) →
      ∃ fd : FuncData, (∀ (s : Shared) (u : Value), BindsTo s fd ⟨[u], []⟩ [("_law_script", u)]) ∧ ∀ base : Heap, (K w.params).In base → base.Ns mainGlobals mg → FnOk l.prog w (K w.params) mg base CX0 10 fa fd ["_law_script"] (spLaw (K w.params))) :
    PySem.W.WalkO q loose XP YP l.row.toRowW d [] (fun f vs => PySem.call f vs) :=
  L2.walk_of (n := 63) (k := 10) (x := "_law_script") (CX := fun _ => CX0) (sp := fun w => spLaw (K w.params)) hn (by decide) hdf ⟨rfl, by decide, by decide, rfl⟩ hY F (fun _ _ a ns hl _ hS => ⟨a, ns, rfl, hS, hl, fun _ => rfl⟩) fun _ _ _ _ _ z => z
end K33
set_option Elab.async false
set_option linter.all false
open PySem PySem.W PyProof.Rows
set_option maxRecDepth 100000 in
set_option maxHeartbeats 0 in
theorem PySem.Challenge.cw_formatwords_k33_machines_as_objects_holds : PySem.Challenge.rw_formatwords_k33_machines_as_objects.Holds := by
  w_on; o_law; k_head; (case hw => w_witness2)
  k_fill
  refine K33.walk (l := PySem.Challenge.rw_formatwords_k33_machines_as_objects) rfl rfl (fun w h Y => PySem.W.kIn_of Y) ?F
  case F =>
    intro w mg fa h KX G hmg
    refine' K33.all_mk KX G hmg ?aC_Machine ?lC_Machine ?nok_Machine ?pg_Machine ?hd_Machine ?po_Machine ?sa_Machine ?mks_Machine ?kpC_Machine ?na_Machine_many ?na_Machine_begins ?na_Machine_steps ?na_Machine_ends ?ty1_Machine ?ty2_Machine ?ty3_Machine ?ty4_Machine ?ki1_Machine ?neq_Machine ?nne_Machine ?nlen_Machine ?apint_Machine ?apdic_Machine ?su_Machine ?apnon_Machine ?apbl_Machine ?apstr_Machine ?aptup_Machine ?aplst_Machine ?a_is_whole ?l_is_whole ?cd__is_whole ?k_is_whole ?a_is_within ?l_is_within ?cd__is_within ?k_is_within ?a_is_text ?l_is_text ?cd__is_text ?k_is_text ?a_is_signs ?l_is_signs ?cd__is_signs ?k_is_signs ?a_is_rising ?l_is_rising ?cd__is_rising ?k_is_rising ?fi_Machine_init ?is_Machine_init ?l_Machine_init ?cd__Machine_init ?k_Machine_init ?fi_Machine_eq ?is_Machine_eq ?l_Machine_eq ?cd__Machine_eq ?k_Machine_eq ?fi_Machine_len ?is_Machine_len ?l_Machine_len ?cd__Machine_len ?k_Machine_len ?a_first_wrong ?l_first_wrong ?cd__first_wrong ?k_first_wrong ?a_are_places ?l_are_places ?cd__are_places ?k_are_places ?a_are_steps ?l_are_steps ?cd__are_steps ?k_are_steps ?a_is_step ?l_is_step ?cd__is_step ?k_is_step ?a__law_feed ?l__law_feed ?cd___law_feed ?k__law_feed ?a__law_draw ?l__law_draw ?cd___law_draw ?k__law_draw ?a__law_signs ?l__law_signs ?cd___law_signs ?k__law_signs ?a__law_some ?l__law_some ?cd___law_some ?k__law_some ?a__law_raw ?l__law_raw ?cd___law_raw ?k__law_raw ?a__law_made ?l__law_made ?cd___law_made ?k__law_made ?a__law_otherwise ?l__law_otherwise ?cd___law_otherwise ?k__law_otherwise ?a_law ?l_law ?cd__law ?k_law ?c_TEXT_SIGNS ?n_len ?n_abs ?n_range ?n_str ?n_isinstance ?n_tuple ?n_list ?n_repr ?n_int ?n_bool ?n_zip ?n_all ?n_sum ?n_sorted ?ki_int_int ?ki_int_bool ?ki_str_str ?ki_tuple_tuple ?ko_NoneType ?ko_int ?ko_str ?ko_list ?ko_tuple
    (case aC_Machine => k_is)
    (case lC_Machine => k_is)
    (case nok_Machine => kernel_rfl)
    (case pg_Machine => k_is)
    (case hd_Machine => k_is)
    (case po_Machine => k_is)
    (case sa_Machine => k_is)
    (case mks_Machine => k_is)
    (case kpC_Machine => k_is)
    (case na_Machine_many => k_is)
    (case na_Machine_begins => k_is)
    (case na_Machine_steps => k_is)
    (case na_Machine_ends => k_is)
    (case ty1_Machine => k_is)
    (case ty2_Machine => k_is)
    (case ty3_Machine => k_is)
    (case ty4_Machine => k_is)
    (case ki1_Machine => kit_is)
    (case neq_Machine => k_is)
    (case nne_Machine => k_is)
    (case nlen_Machine => k_is)
    (case apint_Machine => k_is)
    (case apdic_Machine => k_is)
    (case su_Machine => k_is)
    (case apnon_Machine => k_is)
    (case apbl_Machine => k_is)
    (case apstr_Machine => k_is)
    (case aptup_Machine => k_is)
    (case aplst_Machine => k_is)
    (case a_is_whole => k_is)
    (case l_is_whole => k_is)
    (case cd__is_whole => k_is)
    (case k_is_whole => k_is)
    (case a_is_within => k_is)
    (case l_is_within => k_is)
    (case cd__is_within => k_is)
    (case k_is_within => k_is)
    (case a_is_text => k_is)
    (case l_is_text => k_is)
    (case cd__is_text => k_is)
    (case k_is_text => k_is)
    (case a_is_signs => k_is)
    (case l_is_signs => k_is)
    (case cd__is_signs => k_is)
    (case k_is_signs => k_is)
    (case a_is_rising => k_is)
    (case l_is_rising => k_is)
    (case cd__is_rising => k_is)
    (case k_is_rising => k_is)
    (case fi_Machine_init => k_is)
    (case is_Machine_init => k_is)
    (case l_Machine_init => k_is)
    (case cd__Machine_init => k_is)
    (case k_Machine_init => k_is)
    (case fi_Machine_eq => k_is)
    (case is_Machine_eq => k_is)
    (case l_Machine_eq => k_is)
    (case cd__Machine_eq => k_is)
    (case k_Machine_eq => k_is)
    (case fi_Machine_len => k_is)
    (case is_Machine_len => k_is)
    (case l_Machine_len => k_is)
    (case cd__Machine_len => k_is)
    (case k_Machine_len => k_is)
    (case a_first_wrong => k_is)
    (case l_first_wrong => k_is)
    (case cd__first_wrong => k_is)
    (case k_first_wrong => k_is)
    (case a_are_places => k_is)
    (case l_are_places => k_is)
    (case cd__are_places => k_is)
    (case k_are_places => k_is)
    (case a_are_steps => k_is)
    (case l_are_steps => k_is)
    (case cd__are_steps => k_is)
    (case k_are_steps => k_is)
    (case a_is_step => k_is)
    (case l_is_step => k_is)
    (case cd__is_step => k_is)
    (case k_is_step => k_is)
    (case a__law_feed => k_is)
    (case l__law_feed => k_is)
    (case cd___law_feed => k_is)
    (case k__law_feed => k_is)
    (case a__law_draw => k_is)
    (case l__law_draw => k_is)
    (case cd___law_draw => k_is)
    (case k__law_draw => k_is)
    (case a__law_signs => k_is)
    (case l__law_signs => k_is)
    (case cd___law_signs => k_is)
    (case k__law_signs => k_is)
    (case a__law_some => k_is)
    (case l__law_some => k_is)
    (case cd___law_some => k_is)
    (case k__law_some => k_is)
    (case a__law_raw => k_is)
    (case l__law_raw => k_is)
    (case cd___law_raw => k_is)
    (case k__law_raw => k_is)
    (case a__law_made => k_is)
    (case l__law_made => k_is)
    (case cd___law_made => k_is)
    (case k__law_made => k_is)
    (case a__law_otherwise => k_is)
    (case l__law_otherwise => k_is)
    (case cd___law_otherwise => k_is)
    (case k__law_otherwise => k_is)
    (case a_law => k_is)
    (case l_law => k_is)
    (case cd__law => k_is)
    (case k_law => k_is)
    (case c_TEXT_SIGNS => k_is)
    (case n_len => k_is)
    (case n_abs => k_is)
    (case n_range => k_is)
    (case n_str => k_is)
    (case n_isinstance => k_is)
    (case n_tuple => k_is)
    (case n_list => k_is)
    (case n_repr => k_is)
    (case n_int => k_is)
    (case n_bool => k_is)
    (case n_zip => k_is)
    (case n_all => k_is)
    (case n_sum => k_is)
    (case n_sorted => k_is)
    (case ki_int_int => kit_is)
    (case ki_int_bool => kit_is)
    (case ki_str_str => kit_is)
    (case ki_tuple_tuple => kit_is)
    (case ko_NoneType => kit_is)
    (case ko_int => kit_is)
    (case ko_str => kit_is)
    (case ko_list => kit_is)
    (case ko_tuple => kit_is)
