import PyProof.Rows.All
import Wide.All
import OpenK.AllK
import Wide.FinOn
import Lean
import PyProof.EqAt
import PyProof.EqKinds
import PyProof.TupleCall
import PySem.Challenge.RW_feedweb_k08_no_kind
set_option tactic.hygienic false
set_option Elab.async false
set_option linter.all false
set_option maxRecDepth 100000
namespace L2
open PySem PySem.Spec PyProof.Rows
noncomputable abbrev Key := Sum Int Str
noncomputable def keyIs : Key -> Value -> Bool
  | .inl k, v => Value.isInt k v
  | .inr x, v => Value.isStrOf x v
noncomputable def keyH (w : World) : Key -> Int
  | .inl k => hashInt k
  | .inr x => hashStr w x
theorem keyIs_shape : ∀ {k : Key} {v : Value}, keyIs k v = true -> (∃ i t, k = Sum.inl i /\ v = Value.int i t) \/ (∃ x t, k = Sum.inr x /\ v = Value.str x t)
  | .inl i, v, h => by
    obtain ⟨t, e⟩ := Value.isInt_shape (k := i) (v := v) h
    exact .inl ⟨i, t, rfl, e⟩
  | .inr x, v, h => by
    obtain ⟨t, e⟩ := Value.isStrOf_shape (x := x) (v := v) h
    exact .inr ⟨x, t, rfl, e⟩
theorem keyIs_int (i : Int) (t : Tok) : keyIs (.inl i) (.int i t) = true := by simp [keyIs, Value.isInt]
theorem keyIs_str (x : Str) (t : Tok) : keyIs (.inr x) (.str x t) = true := by simp [keyIs, Value.isStrOf]
theorem key_ll (a b : Int) : decide ((Sum.inl a : Key) = Sum.inl b) = (a == b) := by
  by_cases e : a = b
  · subst e; simp
  · have h : ¬ (Sum.inl a : Key) = Sum.inl b := λ q => e (Sum.inl.inj q)
    rw [decide_eq_false h]
    exact (beq_eq_false_iff_ne.mpr e).symm
theorem key_rr (a b : Str) : decide ((Sum.inr a : Key) = Sum.inr b) = decide (a = b) := by
  by_cases e : a = b
  · subst e; simp
  · have h : ¬ (Sum.inr a : Key) = Sum.inr b := λ q => e (Sum.inr.inj q)
    rw [decide_eq_false h, decide_eq_false e]
theorem key_lr (a : Int) (b : Str) : decide ((Sum.inl a : Key) = Sum.inr b) = false := decide_eq_false (λ q => nomatch q)
theorem key_rl (a : Str) (b : Int) : decide ((Sum.inr a : Key) = Sum.inl b) = false := decide_eq_false (λ q => nomatch q)
noncomputable def mixKind (prog : Program) (w : World) : PySem.KeyKind prog w Key where
  is := keyIs
  hash := keyH w
  inj := λ v a b ha hb => by
    rcases keyIs_shape ha with ⟨i, t, rfl, rfl⟩ | ⟨x, t, rfl, rfl⟩
    · rcases keyIs_shape hb with ⟨j, u, rfl, e⟩ | ⟨y, u, rfl, e⟩
      · injection e with e1 _; rw [e1]
      · exact nomatch e
    · rcases keyIs_shape hb with ⟨j, u, rfl, e⟩ | ⟨y, u, rfl, e⟩
      · exact nomatch e
      · injection e with e1 _; rw [e1]
  byValue := λ k v h => by
    rcases keyIs_shape h with ⟨i, t, rfl, rfl⟩ | ⟨x, t, rfl, rfl⟩ <;> rfl
  pyHash := λ hv h => by
    rcases keyIs_shape hv with ⟨i, t, rfl, rfl⟩ | ⟨x, t, rfl, rfl⟩
    · exact wpAny_pyHash_int h
    · exact wpAny_pyHash_str h
  eqBool := λ hu hv h => by
    rcases keyIs_shape hu with ⟨i, t, rfl, rfl⟩ | ⟨x, t, rfl, rfl⟩
    · rcases keyIs_shape hv with ⟨j, u, rfl, rfl⟩ | ⟨y, u, rfl, rfl⟩
      · rw [key_ll] at h; exact wpAny_eqBool_int h
      · rw [key_lr] at h; exact SeqAt.EqAt.int_str i t y u _ _ _ _ h
    · rcases keyIs_shape hv with ⟨j, u, rfl, rfl⟩ | ⟨y, u, rfl, rfl⟩
      · rw [key_rl] at h; exact SeqAt.EqAt.str_int x t j u _ _ _ _ h
      · rw [key_rr] at h; exact wpAny_eqBool_str h
  «strs» := λ k x t v h => by
    rcases keyIs_shape h with ⟨i, u, rfl, e⟩ | ⟨y, u, rfl, e⟩
    · exact nomatch e
    · injection e with e1 _
      subst e1
      cases v <;> rfl
theorem mixKind_int (prog : Program) (w : World) (i : Int) (t : Tok) : (mixKind prog w).is (.inl i) (.int i t) = true := keyIs_int i t
theorem mixKind_str (prog : Program) (w : World) (x : Str) (t : Tok) : (mixKind prog w).is (.inr x) (.str x t) = true := keyIs_str x t
end L2
namespace L2
open PySem PySem.Spec PyProof.Rows
inductive V where
  | non | bl (b : Bool) | int (i : Int) | str (x : Str) | byt (b : Array UInt8) | flt (b : UInt64) | ref (a : Addr) | ty (n : String)
  deriving DecidableEq
noncomputable def RelV : V -> Value -> Prop
  | .non, u => u = Value.none
  | .bl b, u => u = Value.bool b
  | .int i, u => ∃ t, u = Value.int i t
  | .str x, u => ∃ t, u = Value.str x t
  | .byt b, u => ∃ t, u = Value.bytes b t
  | .flt b, u => ∃ t, u = Value.float b t
  | .ref a, u => u = Value.ref a
  | .ty n, u => u = Value.type n
noncomputable abbrev Vals : List V -> List Value -> Prop := Paired RelV
theorem Vals.length {xs : List V} {us : List Value} (r : Vals xs us) : xs.length = us.length := Paired.length r
theorem Vals.get : ∀ {xs : List V} {us : List Value} {i : Nat} {x : V}, Vals xs us -> xs[i]? = some x -> ∃ u, us[i]? = some u /\ RelV x u
  | _, _, _, _, .nil, e => by simp at e
  | _, _, 0, _, .cons r _, e => by simp at e; subst e; exact ⟨_, rfl, r⟩
  | _, _, i + 1, x, .cons _ t, e => by
    obtain ⟨u, h1, h2⟩ := Vals.get (i := i) (x := x) t (by simpa using e)
    exact ⟨u, by simpa using h1, h2⟩
theorem Vals.set {x : V} {u : Value} (r : RelV x u) : ∀ {xs : List V} {us : List Value} (i : Nat), Vals xs us -> Vals (xs.set i x) (us.set i u)
  | _, _, _, .nil => .nil
  | _, _, 0, .cons _ t => .cons r t
  | _, _, i + 1, .cons q t => .cons q (Vals.set r i t)
theorem Vals.append : ∀ {xs ys : List V} {us ws : List Value}, Vals xs us -> Vals ys ws -> Vals (xs ++ ys) (us ++ ws)
  | _, _, _, _, .nil, s => s
  | _, _, _, _, .cons r t, s => .cons r (Vals.append t s)
theorem Vals.take : ∀ {xs : List V} {us : List Value} (n : Nat), Vals xs us -> Vals (xs.take n) (us.take n)
  | _, _, 0, _ => .nil
  | _, _, _ + 1, .nil => .nil
  | _, _, n + 1, .cons r t => .cons r (Vals.take n t)
theorem Vals.drop : ∀ {xs : List V} {us : List Value} (n : Nat), Vals xs us -> Vals (xs.drop n) (us.drop n)
  | _, _, 0, r => r
  | _, _, _ + 1, .nil => .nil
  | _, _, n + 1, .cons _ t => Vals.drop n t
noncomputable def RelO : Option V -> Option Value -> Prop
  | some v, some u => RelV v u
  | none, none => True
  | _, _ => False
noncomputable def KV {κ : Type} : List (κ × V) -> List (κ × Value) -> Prop := Paired λ (p : κ × V) (q : κ × Value) => p.1 = q.1 /\ RelV p.2 q.2
noncomputable def kV : Key -> V
  | .inl i => .int i
  | .inr x => .str x
inductive HO where
  
  | lst (xs : List V)
  
  | tup (xs : List V)
  
  | dK (kvs : List (Key × V)) | dT (kvs : List (List Key × V))
  
  | set (S : Int -> Bool) (n : Nat)
  
  | ins (C dx : Addr) (fs : List (Str × V))
  
  | own (x : Addr)
  
  | xd (fs : List (Str × V))
  
  | met (f x : Addr)
  
  | rng (lo hi : Int)
  
  | frz (o : Obj) (u : HO)
  
  | tbl (ps : Array Value)
  
  | ext (φ : Heap -> Prop)
noncomputable abbrev Hp := Addr -> Option HO
noncomputable def upd (H : Hp) (a : Addr) (o : HO) : Hp := λ b => if b = a then some o else H b
theorem upd_same {H : Hp} {a : Addr} {o : HO} : upd H a o a = some o := by unfold upd; rw [if_pos rfl]
theorem upd_ne {H : Hp} {a b : Addr} {o : HO} (h : b ≠ a) : upd H a o b = H b := by unfold upd; rw [if_neg h]
theorem ne_of {H : Hp} {a b : Addr} {o u : HO} (h : H a = some o) (h' : H b = some u) (d : o ≠ u) : a ≠ b := by
  intro e; subst e; rw [h] at h'; exact d (Option.some.inj h')
theorem ne_of_none {H : Hp} {a b : Addr} {o : HO} (h : H a = some o) (h' : H b = none) : a ≠ b := by
  intro e; subst e; rw [h] at h'; cases h'
section
variable (P : Program) (w : World)
noncomputable def ObjOk (H : Hp) (h : Heap) (a : Addr) : HO -> Prop
  | .lst xs => xs.length <= sizeLine /\ ∃ (its : List Value) (n : Nat), Vals xs its /\ h.get? a = some { cls := .type "list", data := .seq its.toArray n }
  | .tup xs => xs.length <= sizeLine /\ ∃ its : List Value, Vals xs its /\ IsTup h a its.toArray
  | .dK kvs => kvs.length <= sizeLine /\ (a == sysModules) = false /\ ∃ vs, KV kvs vs /\ h.DictOf (mixKind P w) a vs
  | .dT kvs => kvs.length <= sizeLine /\ (a == sysModules) = false /\ ∃ xs : List (List Key × Addr × Value),
      Paired (λ (p : List Key × V) (q : List Key × Addr × Value) => p.1 = q.1 /\ H q.2.1 = some (.tup (p.1.map kV)) /\ RelV p.2 q.2.2) kvs xs /\
      ∃ o es ep, h.get? a = some o /\ o.ExactDict /\ o.data = .dict es ep /\ es.toList = xs.map (entryOfKey (tupleKind (mixKind P w))) /\ (xs.map (·.1)).Nodup
  | .set S n => h.SetOf (intKind P w) a S n
  | .ins C dx fs => H dx = some (.own a) /\ fs.length <= 1000 /\ dx ≠ a /\ h.get? a = some (PySem.W.instObj C dx) /\
      ∃ mA, h.Ns1 dx mA /\ (∀ f, RelO (fs.lookup f) (mA f)) /\ PySem.Within mA (fs.map (·.1))
  | .own _ => ∃ o, h.get? a = some o
  | .xd fs => ∃ mA, h.Ns1 a mA /\ ∀ f, RelO (fs.lookup f) (mA f)
  | .rng lo hi => ∃ t u v, h.get? a = some { cls := .type "range", data := .fields #[.int lo t, .int hi u, .int 1 v] }
  | .frz o u => h.get? a = some o /\ ObjOk H h a u
  | .tbl ps => h.get? a = some { cls := .none, data := .fields ps }
  | .met f x => h.get? a = some (PySem.W.methodObj (.ref f) (.ref x))
  | .ext φ => φ h /\ (∃ o, h.get? a = some o) /\ ∀ h1 h2 : Heap, φ h1 -> (∀ o, h1.get? a = some o -> h2.get? a = some o) -> φ h2
noncomputable def HOk (H : Hp) (h : Heap) : Prop := ∀ a o, H a = some o -> ObjOk P w H h a o
end
section
variable {P : Program} {w : World} {H H' : Hp} {h h' : Heap} {a : Addr} {o : HO}
theorem ObjOk.lt (x : ObjOk P w H h a o) : a < h.objs.size := by
  cases o with
  | lst xs => obtain ⟨_, _, _, _, e⟩ := x; exact Heap.lt_size e
  | tup xs => obtain ⟨_, _, _, p⟩ := x; exact p.lt
  | dK kvs => obtain ⟨_, _, _, _, o, _, _, e, _⟩ := x; exact Heap.lt_size e
  | dT kvs => obtain ⟨_, _, _, _, o, _, _, e, _⟩ := x; exact Heap.lt_size e
  | set S n => obtain ⟨o, _, _, _, e, _⟩ := x; exact Heap.lt_size e
  | ins C dx fs => obtain ⟨_, _, _, e, _⟩ := x; exact Heap.lt_size e
  | own y => obtain ⟨_, e⟩ := x; exact Heap.lt_size e
  | xd fs => obtain ⟨_, ⟨_, _, _, e, _⟩, _⟩ := x; exact Heap.lt_size e
  | rng lo hi => obtain ⟨_, _, _, e⟩ := x; exact Heap.lt_size e
  | frz ob u => obtain ⟨e, _⟩ := x; exact Heap.lt_size e
  | tbl ps => exact Heap.lt_size (show h.get? a = some _ from x)
  | met f y => exact Heap.lt_size (show h.get? a = some _ from x)
  | ext φ => obtain ⟨_, ⟨_, e⟩, _⟩ := x; exact Heap.lt_size e
theorem Paired.mapP {α β : Type} {F G : α -> β -> Prop} : ∀ {l₁ : List α} {l₂ : List β}, Paired F l₁ l₂ -> (∀ a b, F a b -> G a b) -> Paired G l₁ l₂
  | _, _, .nil, _ => .nil
  | _, _, .cons r t, f => .cons (f _ _ r) (Paired.mapP t f)
theorem ObjOk.stay (x : ObjOk P w H h a o) (k : ∀ b u, (b = a \/ H b = some (.own a)) -> h.get? b = some u -> h'.get? b = some u)
    (ho : ∀ b, H b = some (.own a) -> H' b = some (.own a)) (ht : ∀ b xs, H b = some (.tup xs) -> H' b = some (.tup xs)) : ObjOk P w H' h' a o := by
  induction o with
  | lst xs => obtain ⟨z, its, n, r, e⟩ := x; exact ⟨z, its, n, r, k _ _ (.inl rfl) e⟩
  | tup xs => obtain ⟨z, its, r, ob, e, c⟩ := x; exact ⟨z, its, r, ob, k _ _ (.inl rfl) e, c⟩
  | dK kvs => obtain ⟨z, y, vs, r, ob, es, ep, e, c⟩ := x; exact ⟨z, y, vs, r, ob, es, ep, k _ _ (.inl rfl) e, c⟩
  | dT kvs =>
    obtain ⟨z, y, xs, r, ob, es, ep, e, c⟩ := x
    exact ⟨z, y, xs, Paired.mapP r λ p q z => ⟨z.1, ht _ _ z.2.1, z.2.2⟩, ob, es, ep, k _ _ (.inl rfl) e, c⟩
  | set S n => obtain ⟨ob, es, ep, t, e, c⟩ := x; exact ⟨ob, es, ep, t, k _ _ (.inl rfl) e, c⟩
  | ins C dx fs =>
    obtain ⟨d, z, ne, e, mA, ⟨od, es, ep, e2, c⟩, r⟩ := x
    exact ⟨ho _ d, z, ne, k _ _ (.inl rfl) e, mA, ⟨od, es, ep, k _ _ (.inr d) e2, c⟩, r⟩
  | own y => obtain ⟨ob, e⟩ := x; exact ⟨ob, k _ _ (.inl rfl) e⟩
  | xd fs => obtain ⟨mA, ⟨od, es, ep, e, c⟩, r⟩ := x; exact ⟨mA, ⟨od, es, ep, k _ _ (.inl rfl) e, c⟩, r⟩
  | rng lo hi => obtain ⟨t, u, v, e⟩ := x; exact ⟨t, u, v, k _ _ (.inl rfl) e⟩
  | frz ob u ih => obtain ⟨e, q⟩ := x; exact ⟨k _ _ (.inl rfl) e, ih q⟩
  | tbl ps =>
    have e : h.get? a = some { cls := .none, data := .fields ps } := x
    show h'.get? a = some { cls := .none, data := .fields ps }
    exact k a _ (.inl rfl) e
  | met f y =>
    have e : h.get? a = some (PySem.W.methodObj (.ref f) (.ref y)) := x
    show h'.get? a = some (PySem.W.methodObj (.ref f) (.ref y))
    exact k a _ (.inl rfl) e
  | ext φ => obtain ⟨p, ⟨o, e⟩, st⟩ := x; exact ⟨st _ _ p λ o q => k _ _ (.inl rfl) q, ⟨o, k _ _ (.inl rfl) e⟩, st⟩
theorem HOk.lt (x : HOk P w H h) (e : H a = some o) : a < h.objs.size := (x a o e).lt
theorem HOk.fresh (x : HOk P w H h) (e : h.objs.size <= a) : H a = none := by
  cases q : H a with
  | none => rfl
  | some u => exact absurd (Nat.lt_of_lt_of_le (x.lt q) e) (Nat.lt_irrefl _)
theorem HOk.kept (x : HOk P w H h) (k : ∀ b u, h.get? b = some u -> h'.get? b = some u) : HOk P w H h' := λ a o e =>
  (x a o e).stay (λ b u o_ q => k b u q) (λ o_ q => q) λ o_ o_ q => q
theorem HOk.laid (x : HOk P w H h) (k : ∀ b u, h.get? b = some u -> h'.get? b = some u) (hp : h.objs.size <= a) (new : ObjOk P w (upd H a o) h' a o) : HOk P w (upd H a o) h' := λ b u e => by
  have hn := x.fresh hp
  by_cases hb : b = a
  · subst hb; rw [upd_same] at e; cases e; exact new
  · rw [upd_ne hb] at e
    exact (x b u e).stay (λ c v o_ q => k c v q) (λ c q => by rw [upd_ne (ne_of_none q hn)]; exact q) λ c xs q => by rw [upd_ne (ne_of_none q hn)]; exact q
end
noncomputable def Rd (H : Hp) (a : Addr) (u : HO) : Prop := H a = some u \/ ∃ o, H a = some (.frz o u)
theorem Rd.ok {P : Program} {w : World} {H : Hp} {h : Heap} {a : Addr} {u : HO} (r : Rd H a u) (x : HOk P w H h) : ObjOk P w H h a u := by
  rcases r with r | ⟨o, r⟩
  · exact x a u r
  · obtain ⟨_, q⟩ := x a _ r
    exact q
noncomputable def Mut : Option HO -> Prop
  | some (.lst _) => True
  | some (.dK _) => True
  | some (.dT _) => True
  | some (.set _ _) => True
  | some (.ins _ _ _) => True
  | some (.ext _) => True
  | _ => False
section
variable {P : Program} {w : World} {H : Hp} {h h' : Heap} {x e : Addr} {o' : HO}
theorem HOk.write (ok : HOk P w H h) (mu : Mut (H x)) (he : e = x \/ H e = some (.own x)) (k : ∀ b u, b ≠ e -> h.get? b = some u -> h'.get? b = some u) (heo : ∃ u, h'.get? e = some u)
    (new : ObjOk P w (upd H x o') h' x o') : HOk P w (upd H x o') h' := λ b u q => by
  have nown : ∀ c y, H c = some (.own y) -> c ≠ x := λ c y r z => by subst z; rw [r] at mu; exact mu
  have ntup : ∀ c xs, H c = some (.tup xs) -> c ≠ x := λ c xs r z => by subst z; rw [r] at mu; exact mu
  by_cases hb : b = x
  · subst hb; rw [upd_same] at q; cases q; exact new
  · rw [upd_ne hb] at q
    by_cases hbe : b = e
    · have q' : H b = some (.own x) := by
        rcases he with z | z
        · exact absurd (hbe.trans z) hb
        · rw [hbe]; exact z
      rw [q] at q'; cases q'
      obtain ⟨v, hv⟩ := heo
      exact ⟨v, by rw [hbe]; exact hv⟩
    · refine (ok b u q).stay (λ c v hc r => k c v ?_ r) (λ c r => by rw [upd_ne (nown c b r)]; exact r) λ c xs r => by rw [upd_ne (ntup c xs r)]; exact r
      rcases hc with rfl | hc
      · exact hbe
      · rintro rfl
        rcases he with z | z
        · exact nown c b hc z
        · rw [hc] at z; cases z; exact hb rfl
end
structure Un (fs ex : List Addr) (H H' : Hp) (h h' : Heap) : Prop where
  keep : ∀ b o, h.get? b = some o -> H b = none -> b ∉ fs -> b ∉ ex -> h'.get? b = some o
  slot : ∀ b o, h.get? b = some o -> H b = none -> b ∈ fs -> b ∉ ex -> ∃ sl, h'.get? b = some { o with slots := sl }
  free : ∀ b o, h.get? b = some o -> H b = none -> b ∉ ex -> H' b = none
  there : ∀ b o, h.get? b = some o -> b ∉ ex -> ∃ o', h'.get? b = some o'
  tups : ∀ b xs, H b = some (.tup xs) -> H' b = some (.tup xs)
  frzs : ∀ b o u, H b = some (.frz o u) -> H' b = some (.frz o u)
  tbls : ∀ b ps, H b = some (.tbl ps) -> ∃ more, H' b = some (.tbl (ps ++ more))
section
variable {fs fs' ex ex' : List Addr} {H H1 H2 : Hp} {h h1 h2 h' : Heap} {a x e : Addr} {o : HO}
theorem Un.any (u : Un fs ex H H1 h h1) {b : Addr} {ob : Obj} (q : h.get? b = some ob) (n : H b = none) (hx : b ∉ ex) : ∃ sl, h1.get? b = some { ob with slots := sl } := by
  by_cases hb : b ∈ fs
  · exact u.slot b ob q n hb hx
  · exact ⟨ob.slots, u.keep b ob q n hb hx⟩
theorem Un.trans (a : Un fs ex H H1 h h1) (b : Un fs ex H1 H2 h1 h2) : Un fs ex H H2 h h2 where
  keep := λ c ob q n hc hx => b.keep c ob (a.keep c ob q n hc hx) (a.free c ob q n hx) hc hx
  slot := λ c ob q n hc hx => by
    obtain ⟨sl, e1⟩ := a.slot c ob q n hc hx
    obtain ⟨sl', e2⟩ := b.slot c _ e1 (a.free c ob q n hx) hc hx
    exact ⟨sl', e2⟩
  free := λ c ob q n hx => by
    obtain ⟨o', e1⟩ := a.there c ob q hx
    exact b.free c o' e1 (a.free c ob q n hx) hx
  there := λ c ob q hx => by
    obtain ⟨o', e1⟩ := a.there c ob q hx
    exact b.there c o' e1 hx
  tups := λ c xs q => b.tups c xs (a.tups c xs q)
  frzs := λ c ob xs q => b.frzs c ob xs (a.frzs c ob xs q)
  tbls := λ c ps q => by
    obtain ⟨m1, e1⟩ := a.tbls c ps q
    obtain ⟨m2, e2⟩ := b.tbls c _ e1
    exact ⟨m1 ++ m2, by rw [e2, Array.append_assoc]⟩
theorem Un.kept (k : ∀ b u, h.get? b = some u -> h'.get? b = some u) : Un fs ex H H h h' :=
  ⟨λ b ob q o_ o_ o_ => k b ob q, λ b ob q o_ o_ o_ => ⟨ob.slots, k b ob q⟩, λ o_ o_ o_ n o_ => n, λ b ob q o_ => ⟨ob, k b ob q⟩, λ o_ o_ q => q, λ o_ o_ o_ q => q, λ o_ ps q => ⟨#[], by rw [q]; simp⟩⟩
theorem Un.refl : Un fs ex H H h h := Un.kept λ o_ o_ q => q
theorem Un.laid (k : ∀ b u, h.get? b = some u -> h'.get? b = some u) (hp : h.objs.size <= a) (hn : H a = none) : Un fs ex H (upd H a o) h h' where
  keep := λ b u q o_ o_ o_ => k b u q
  slot := λ b u q o_ o_ o_ => ⟨u.slots, k b u q⟩
  free := λ b u q n o_ => by rw [upd_ne (Nat.ne_of_lt (Nat.lt_of_lt_of_le (Heap.lt_size q) hp))]; exact n
  there := λ b u q o_ => ⟨u, k b u q⟩
  tups := λ b xs q => by rw [upd_ne (ne_of_none q hn)]; exact q
  frzs := λ b u xs q => by rw [upd_ne (ne_of_none q hn)]; exact q
  tbls := λ b ps q => ⟨#[], by rw [upd_ne (ne_of_none q hn), q]; simp⟩
theorem Un.write (mu : Mut (H x)) (he : e = x \/ H e = some (.own x)) (k : ∀ b u, b ≠ e -> h.get? b = some u -> h'.get? b = some u) (heo : ∃ u, h'.get? e = some u) : Un fs ex H (upd H x o) h h' := by
  have hx : ∀ b, H b = none -> b ≠ x := λ b n z => by subst z; rw [n] at mu; exact mu
  have hb : ∀ b, H b = none -> b ≠ e := λ b n z => by
    subst z
    rcases he with r | r
    · exact hx b n r
    · rw [n] at r; cases r
  have hm : ∀ b u, H b = some u -> ¬ Mut (some u) -> b ≠ x := λ b u q nm z => by subst z; rw [q] at mu; exact nm mu
  refine ⟨λ b u q n o_ o_ => k b u (hb b n) q, λ b u q n o_ o_ => ⟨u.slots, k b u (hb b n) q⟩, λ b u q n o_ => by rw [upd_ne (hx b n)]; exact n, λ b u q o_ => ?_,
    λ b xs q => by rw [upd_ne (hm b _ q λ z => z)]; exact q, λ b u xs q => by rw [upd_ne (hm b _ q λ z => z)]; exact q, λ b ps q => ⟨#[], by rw [upd_ne (hm b _ q λ z => z), q]; simp⟩⟩
  by_cases hbe : b = e
  · subst hbe; exact heo
  · exact ⟨u, k b u hbe q⟩
theorem Un.mono (u : Un fs ex H H1 h h1) (hs : ∀ b ∈ fs, b ∈ fs') (hx : ∀ b ∈ ex, b ∈ ex') : Un fs' ex' H H1 h h1 :=
  ⟨λ b ob q n hb he => u.keep b ob q n (λ z => hb (hs b z)) λ z => he (hx b z), λ o_ o_ q n o_ he => u.any q n λ z => he (hx _ z), λ b ob q n he => u.free b ob q n λ z => he (hx b z), λ b ob q he => u.there b ob q λ z => he (hx b z), u.tups, u.frzs, u.tbls⟩
end
noncomputable def trk (h : Heap) (H : Hp) : List Addr := (List.range h.objs.size).filter λ a => (H a).isSome
noncomputable def hidT (h : Heap) (H : Hp) : Heap := PySem.W.hideAll h (trk h H)
theorem hidT_size (h : Heap) (H : Hp) : (hidT h H).objs.size = h.objs.size := PySem.W.hideAll_size _ _
theorem hidT_get {h : Heap} {H : Hp} {b : Addr} {o : Obj} (e : h.get? b = some o) (n : H b = none) : (hidT h H).get? b = some o :=
  PySem.W.hideAll_get _ e λ hm => by
    have q : (H b).isSome = true := (List.mem_filter.mp hm).2
    rw [n] at q; simp at q
theorem of_hidT {h : Heap} {H : Hp} {b : Addr} {o : Obj} (e : (hidT h H).get? b = some o) : h.get? b = some o /\ H b = none := by
  have e' : h.get? b = some o := PySem.W.of_hideAll (trk h H) e
  refine ⟨e', ?_⟩
  cases q : H b with
  | none => rfl
  | some x =>
    have hm : b ∈ trk h H := List.mem_filter.mpr ⟨List.mem_range.mpr (Heap.lt_size e'), by simp [q]⟩
    have z : (hidT h H).get? b = none := PySem.W.hideAll_none (trk h H) hm
    rw [z] at e; cases e
noncomputable def allNews (g h : Heap) (L : Addr) : List (Addr × Obj) := (List.range h.objs.size).filterMap λ a => if a = L \/ (g.get? a).isSome = true then none else (h.get? a).map λ o => (a, o)
noncomputable def rest (g h : Heap) (L d : Addr) : List (Addr × Obj) := (allNews g h L).filter λ p => decide (p.1 ≠ d)
end L2
namespace L2
open PySem PySem.Spec PyProof.Rows
structure Mod (K : PySem.W.Frag) (mg : Str -> Option Value) (base : Heap) : Prop where
  kin : K.In base
  glob : base.Ns mainGlobals mg
  blt : ∃ mb, base.Ns builtinsNs mb /\ ∀ x : Str, x ≠ "__name__" -> mb x = bootBuiltins x
  nolimit : base.NoLimit
structure Cx where
  prog : Program
  w : World
  K : PySem.W.Frag
  mg : Str -> Option Value
  base : Heap
  A : Around
  N : List Str
  s₀ : Shared
  H₀ : Hp
  env : Env
  outer : List Env
  stack : List Env
  ex : List Addr
  fn : Str -> Bool
  calm : Bool
  pn : List (Addr × Obj)
  xe : Value -> Shared -> Prop
noncomputable def frs (l : List Env) : List Addr := l.filterMap (·.frame)
noncomputable abbrev Cx.fs (X : Cx) : List Addr := frs X.outer
noncomputable def Vis (sc : Scope) (x : Str) : Prop := sc.names.lookup x = some .local \/ sc.names.lookup x = some .cell \/ sc.names.lookup x = some .free
noncomputable def Loc (sc : Scope) (x : Str) : Prop := sc.names.lookup x = some .local \/ sc.names.lookup x = some .cell
noncomputable def Look (env : Env) (h : Heap) (m : Str -> Option Value) (x : Str) (u : Value) : Prop :=
  (env.kindOf x = some .local /\ m x = some u) \/ ((env.kindOf x = some .cell \/ env.kindOf x = some .free) /\ ∃ c, env.cells.lookup x = some c /\ h.IsCell c (some u))
structure Cx.Ok (X : Cx) : Prop where
  mod : Mod X.K X.mg X.base
  kind : X.env.scope.kind = .function
  glob : X.env.globals = mainGlobals
  blt : X.env.builtins = builtinsNs
  above : X.s₀.heap.objs.size <= X.env.locals
  inj : ∀ x y c, X.env.cells.lookup x = some c -> X.env.cells.lookup y = some c -> x = y
  has : ∀ x, (X.env.kindOf x = some .cell \/ X.env.kindOf x = some .free) -> ∃ c, X.env.cells.lookup x = some c
  cab : ∀ x c, X.fn x = true -> X.env.cells.lookup x = some c -> X.s₀.heap.objs.size <= c
  hd : X.calm = true -> X.A.handled = none
  frames : X.A.frames = some X.stack
  stk : X.stack = X.outer \/ (X.stack = X.env :: X.outer /\ X.env.frame = some X.env.locals)
  exf : ∀ b ∈ X.ex, b ≠ X.env.locals /\ ∀ x c, X.env.cells.lookup x = some c -> c ≠ b
  bs : ∀ b o, X.base.get? b = some o -> X.s₀.heap.get? b = some o /\ X.H₀ b = none
  bsz : X.base.objs.size <= X.s₀.heap.objs.size
  noex : ∀ b o, X.base.get? b = some o -> b ∉ X.ex
  exfs : ∀ b ∈ X.ex, b ∉ X.fs
  funs : X.s₀.heap.FunFrames X.base X.outer
  frf : ∀ b ∈ X.fs, X.H₀ b = none
structure Inv (X : Cx) (pins : List (Addr × Obj)) (σ : List (Option V)) (H : Hp) (s : Shared) : Prop where
  ok : X.Ok
  os : s.os = X.s₀.os
  bare : AllBare s.gens
  base : Un X.fs X.ex X.H₀ H X.s₀.heap s.heap
  loc : ∃ m, s.heap.Ns X.env.locals m /\ ∀ (i : Nat) (x : Str) (v : V), X.N[i]? = some x -> σ[i]? = some (some v) -> Vis X.env.scope x -> ∃ u, RelV v u /\ Look X.env s.heap m x u
  cell : ∀ x c, X.env.cells.lookup x = some c -> ∃ v, s.heap.IsCell c v
  free : H X.env.locals = none
  freeC : ∀ x c, X.env.cells.lookup x = some c -> H c = none
  pin : ∀ p ∈ X.pn ++ pins, s.heap.get? p.1 = some p.2 /\ H p.1 = none /\ p.1 ≠ X.env.locals /\ p.1 ∉ X.fs /\ ∀ v, p.2.data ≠ .cell v
  hok : HOk X.prog X.w H s.heap
  len : σ.length = X.N.length
section
variable {X : Cx} {pins : List (Addr × Obj)} {σ : List (Option V)} {H H' : Hp} {s : Shared} {h' : Heap}
theorem Cx.Ok.nofr (ok : X.Ok) {b : Addr} {o : Obj} (e : X.base.get? b = some o) : b ∉ X.fs := λ hb => by
  have := (ok.funs.mem hb).1
  rw [e] at this; cases this
theorem Inv.bs (I : Inv X pins σ H s) : ∀ b o, X.base.get? b = some o -> s.heap.get? b = some o /\ H b = none := λ b o e =>
  ⟨I.base.keep b o (I.ok.bs b o e).1 (I.ok.bs b o e).2 (I.ok.nofr e) (I.ok.noex b o e), I.base.free b o (I.ok.bs b o e).1 (I.ok.bs b o e).2 (I.ok.noex b o e)⟩
theorem Inv.bk (I : Inv X pins σ H s) : ∀ b o, X.base.get? b = some o -> s.heap.get? b = some o := λ b o e => (I.bs b o e).1
theorem Inv.mod (I : Inv X pins σ H s) : Mod X.K X.mg X.base := I.ok.mod
theorem Inv.kIn (I : Inv X pins σ H s) : X.K.In s.heap := I.ok.mod.kin.keeps I.bk
theorem Inv.nolimit (I : Inv X pins σ H s) : s.heap.NoLimit := I.ok.mod.nolimit.keeps I.bk
theorem Inv.fr (I : Inv X pins σ H s) : ∃ m, Fr X.base X.env.locals s.heap m :=
  let ⟨m, hn, _⟩ := I.loc
  ⟨m, hn, I.bk, Nat.le_trans I.ok.bsz I.ok.above⟩
theorem Inv.lt (I : Inv X pins σ H s) : X.env.locals < s.heap.objs.size := let ⟨_, hn, _⟩ := I.loc; hn.lt
theorem Inv.sz (I : Inv X pins σ H s) : X.s₀.heap.objs.size <= s.heap.objs.size := Nat.le_trans I.ok.above (Nat.le_of_lt I.lt)
theorem Inv.nofs (I : Inv X pins σ H s) {a : Addr} (h : s.heap.objs.size <= a) : a ∉ X.fs := λ hb => by
  obtain ⟨_, o, ho, _⟩ := I.ok.funs.mem hb
  exact absurd (Nat.lt_of_lt_of_le (Heap.lt_size ho) (Nat.le_trans I.sz h)) (Nat.lt_irrefl _)
theorem Inv.cne (I : Inv X pins σ H s) : ∀ x c, X.env.cells.lookup x = some c -> c ≠ X.env.locals := λ x c e z => by
  obtain ⟨v, o, ho, hd⟩ := I.cell x c e
  obtain ⟨m, ⟨o', es, ep, ho', hd', _⟩, _⟩ := I.loc
  rw [z, ho'] at ho; cases ho; rw [hd'] at hd; cases hd
theorem Inv.funs (I : Inv X pins σ H s) : s.heap.FunFrames X.base X.outer := by
  have all : ∀ (l : List Env), (∀ b ∈ frs l, b ∈ X.fs) -> X.s₀.heap.FunFrames X.base l -> s.heap.FunFrames X.base l := by
    intro l
    induction l with
    | nil => intro _ _; trivial
    | cons env r ih =>
      intro hs hl
      obtain ⟨hk, ⟨L, o, hf, hn, ho, hd⟩, hr⟩ := hl
      have hL : L ∈ X.fs := hs L (by unfold frs; rw [List.filterMap_cons, hf]; exact List.mem_cons_self)
      obtain ⟨sl, e⟩ := I.base.slot L o ho (I.ok.frf L hL) hL λ z => I.ok.exfs L z hL
      exact ⟨hk, ⟨L, _, hf, hn, e, hd⟩, ih (λ b hb => hs b (by unfold frs; rw [List.filterMap_cons, hf]; exact List.mem_cons_of_mem _ hb)) hr⟩
  exact all X.outer (λ o_ hb => hb) I.ok.funs
theorem Inv.stack (I : Inv X pins σ H s) : s.heap.FunFrames X.base X.stack := by
  rcases I.ok.stk with e | ⟨e, hf⟩
  · rw [e]; exact I.funs
  · rw [e]
    obtain ⟨m, hn, _⟩ := I.loc
    refine .cons (by rw [I.ok.kind]; decide) hf hn ?_ I.funs
    exact Heap.get?_none_of_le (Nat.le_trans I.ok.bsz I.ok.above)
theorem Inv.stkSub (I : Inv X pins σ H s) : ∀ b ∈ frs X.stack, b ∈ X.env.locals :: X.fs := λ b hb => by
  rcases I.ok.stk with e | ⟨e, hf⟩
  · rw [e] at hb; exact List.mem_cons_of_mem _ hb
  · rw [e] at hb
    unfold frs at hb
    rw [List.filterMap_cons, hf] at hb
    exact hb
theorem Inv.stkFree (I : Inv X pins σ H s) : ∀ b ∈ frs X.stack, H b = none := λ b hb => by
  rcases List.mem_cons.mp (I.stkSub b hb) with e | hb
  · rw [e]; exact I.free
  · obtain ⟨_, o, ho, _⟩ := I.ok.funs.mem hb
    exact I.base.free b o ho (I.ok.frf b hb) λ z => I.ok.exfs b z hb
theorem Inv.step {g' : Array GenState} {t' : Nat} {d' : Drawn} {ch : List Addr} (I : Inv X pins σ H s)
    (hch : ∀ b ∈ ch, (b ∈ X.ex \/ X.s₀.heap.objs.size <= b) /\ b ≠ X.env.locals /\ (∀ x c, X.env.cells.lookup x = some c -> c ≠ b) /\ ∀ p ∈ X.pn ++ pins, p.1 ≠ b)
    (keep : ∀ b o, b ≠ X.env.locals -> b ∉ X.fs -> b ∉ ch -> s.heap.get? b = some o -> H b = none -> h'.get? b = some o)
    (slot : ∀ b o, b ≠ X.env.locals -> b ∈ X.fs -> b ∉ ch -> s.heap.get? b = some o -> H b = none -> ∃ sl, h'.get? b = some { o with slots := sl }) (free : ∀ b o, b ∉ ch -> s.heap.get? b = some o -> H b = none -> H' b = none)
    (there : ∀ b o, b ∉ ch -> s.heap.get? b = some o -> ∃ o', h'.get? b = some o')
    (tups : ∀ b xs, H b = some (.tup xs) -> H' b = some (.tup xs)) (frzs : ∀ b o u, H b = some (.frz o u) -> H' b = some (.frz o u)) (tbls : ∀ b ps, H b = some (.tbl ps) -> ∃ more, H' b = some (.tbl (ps ++ more)))
    (ns : ∀ m, s.heap.Ns X.env.locals m -> h'.Ns X.env.locals m) (hok : HOk X.prog X.w H' h') (hg : AllBare g') :
    Inv X pins σ H' { s with heap := h', gens := g', drawn := d', toks := t' } := by
  have neL : ∀ b o, X.s₀.heap.get? b = some o -> b ≠ X.env.locals := λ b o e => Nat.ne_of_lt (Nat.lt_of_lt_of_le (Heap.lt_size e) I.ok.above)
  have neC : ∀ b o, X.s₀.heap.get? b = some o -> b ∉ X.ex -> b ∉ ch := λ b o e hx hb => by
    rcases (hch b hb).1 with z | z
    · exact hx z
    · exact absurd (Nat.lt_of_lt_of_le (Heap.lt_size e) z) (Nat.lt_irrefl _)
  have cellK : ∀ x c, X.env.cells.lookup x = some c -> ∀ v, s.heap.IsCell c v -> h'.IsCell c v := λ x c e v ⟨o, ho, hd⟩ => by
    have nch : c ∉ ch := λ z => (hch c z).2.2.1 x c e rfl
    by_cases hc : c ∈ X.fs
    · obtain ⟨sl, q⟩ := slot c o (I.cne x c e) hc nch ho (I.freeC x c e)
      exact ⟨_, q, hd⟩
    · exact ⟨o, keep c o (I.cne x c e) hc nch ho (I.freeC x c e), hd⟩
  refine ⟨I.ok, I.os, hg, ⟨λ b o e n hb hx => ?_, λ b o e n hb hx => ?_, λ b o e n hx => ?_, λ b o e hx => ?_, λ b xs e => tups b xs (I.base.tups b xs e), λ b o xs e => frzs b o xs (I.base.frzs b o xs e), λ b ps e => ?_⟩, ?_, λ x c e => ?_, ?_, λ x c e => ?_, λ p hp => ?_, hok, I.len⟩
  · exact keep b o (neL b o e) hb (neC b o e hx) (I.base.keep b o e n hb hx) (I.base.free b o e n hx)
  · obtain ⟨sl, e1⟩ := I.base.slot b o e n hb hx
    obtain ⟨sl', e2⟩ := slot b _ (neL b o e) hb (neC b o e hx) e1 (I.base.free b o e n hx)
    exact ⟨sl', e2⟩
  · obtain ⟨o', e1⟩ := I.base.there b o e hx
    exact free b o' (neC b o e hx) e1 (I.base.free b o e n hx)
  · obtain ⟨o', e1⟩ := I.base.there b o e hx
    exact there b o' (neC b o e hx) e1
  · obtain ⟨m1, e1⟩ := I.base.tbls b ps e
    obtain ⟨m2, e2⟩ := tbls b _ e1
    exact ⟨m1 ++ m2, by rw [e2, Array.append_assoc]⟩
  · obtain ⟨m, hn, hl⟩ := I.loc
    refine ⟨m, ns m hn, λ i x v e1 e2 e3 => ?_⟩
    obtain ⟨u, r, l⟩ := hl i x v e1 e2 e3
    refine ⟨u, r, ?_⟩
    rcases l with l | ⟨k, c, e, z⟩
    · exact .inl l
    · exact .inr ⟨k, c, e, cellK x c e _ z⟩
  · obtain ⟨v, z⟩ := I.cell x c e
    exact ⟨v, cellK x c e v z⟩
  · obtain ⟨m, ⟨o, _, _, ho, _⟩, _⟩ := I.loc
    exact free _ o (λ z => (hch _ z).2.1 rfl) ho I.free
  · obtain ⟨v, o, ho, hd⟩ := I.cell x c e
    exact free c o (λ z => (hch c z).2.2.1 x c e rfl) ho (I.freeC x c e)
  · obtain ⟨e, n, ne, nf, d⟩ := I.pin p hp
    have nch : p.1 ∉ ch := λ z => (hch p.1 z).2.2.2 p hp rfl
    exact ⟨keep p.1 p.2 ne nf nch e n, free p.1 p.2 nch e n, ne, nf, d⟩
theorem Inv.un {t' : Nat} (I : Inv X pins σ H s) (u : Un X.fs [] H H' s.heap h') (hok : HOk X.prog X.w H' h') : Inv X pins σ H' { s with heap := h', toks := t' } := by
  obtain ⟨m, ⟨o, es, ep, ho, r⟩, _⟩ := id I.loc
  obtain ⟨sl, hL⟩ := u.any ho I.free (by simp)
  exact I.step (g' := s.gens) (d' := s.drawn) (ch := []) (λ o_ z => nomatch z) (λ b o o_ hb o_ e n => u.keep b o e n hb (by simp)) (λ b o o_ hb o_ e n => u.slot b o e n hb (by simp)) (λ b o o_ e n => u.free b o e n (by simp)) (λ b o o_ e => u.there b o e (by simp)) u.tups u.frzs u.tbls (λ m' hm => by
    obtain ⟨o', es', ep', ho', r'⟩ := hm
    rw [ho] at ho'; cases ho'
    exact ⟨_, es', ep', hL, r'⟩) hok I.bare
theorem Inv.call {g' : Array GenState} {t' : Nat} {d' : Drawn} {ch : List Addr} (I : Inv X pins σ H s) (u : Un (frs X.stack) ch H H' s.heap h') (hok : HOk X.prog X.w H' h') (hg : AllBare g')
    (hch : ∀ b ∈ ch, (b ∈ X.ex \/ X.s₀.heap.objs.size <= b) /\ b ≠ X.env.locals /\ (∀ x c, X.env.cells.lookup x = some c -> c ≠ b) /\ ∀ p ∈ X.pn ++ pins, p.1 ≠ b) :
    Inv X pins σ H' { s with heap := h', gens := g', drawn := d', toks := t' } := by
  obtain ⟨m, ⟨o, es, ep, ho, r⟩, _⟩ := id I.loc
  obtain ⟨sl, hL⟩ := u.any ho I.free λ z => (hch _ z).2.1 rfl
  exact I.step (ch := ch) hch (λ b o hL hb hc e n => u.keep b o e n (λ z => (List.mem_cons.mp (I.stkSub b z)).elim hL hb) hc) (λ b o o_ o_ hc e n => u.any e n hc) (λ b o hc e n => u.free b o e n hc) (λ b o hc e => u.there b o e hc) u.tups u.frzs u.tbls (λ m' hm => by
    obtain ⟨o', es', ep', ho', r'⟩ := hm
    rw [ho] at ho'; cases ho'
    exact ⟨_, es', ep', hL, r'⟩) hok hg
theorem Inv.turned {t' : Nat} {it : Addr} (I : Inv X pins σ H s) (k : ∀ b o, b ≠ it -> s.heap.get? b = some o -> h'.get? b = some o) (hn : H it = none) (hL : it ≠ X.env.locals)
    (h1 : it ∈ X.ex \/ X.s₀.heap.objs.size <= it) (h2 : ∀ x c, X.env.cells.lookup x = some c -> c ≠ it) (h3 : ∀ p ∈ X.pn ++ pins, p.1 ≠ it) : Inv X pins σ H { s with heap := h', toks := t' } := by
  have nit : ∀ b u, H b = some u -> b ≠ it := λ b u e z => by rw [z, hn] at e; cases e
  refine I.step (g' := s.gens) (d' := s.drawn) (ch := [it]) (λ b hb => ?_) (λ b o o_ o_ hc e o_ => k b o (λ z => hc (by simp [z])) e) (λ b o o_ o_ hc e o_ => ⟨o.slots, k b o (λ z => hc (by simp [z])) e⟩) (λ o_ o_ o_ o_ n => n)
    (λ b o hc e => ⟨o, k b o (λ z => hc (by simp [z])) e⟩) (λ o_ o_ e => e) (λ o_ o_ o_ e => e) (λ b ps e => ⟨#[], by rw [e]; simp⟩) (λ m hm => ?_) (λ b u e => ?_) I.bare
  · have e : b = it := by simpa using hb
    subst e
    exact ⟨h1, hL, h2, h3⟩
  · obtain ⟨o, es, ep, ho, r⟩ := hm
    exact ⟨o, es, ep, k _ o (Ne.symm hL) ho, r⟩
  · refine (I.hok b u e).stay (λ c v hc q => k c v ?_ q) (λ o_ q => q) λ o_ o_ q => q
    rcases hc with z | z
    · rw [z]; exact nit b u e
    · exact nit c _ z
theorem Inv.tok (I : Inv X pins σ H s) (t : Nat) : Inv X pins σ H { s with toks := t } := I.un (h' := s.heap) (t' := t) Un.refl I.hok
theorem Inv.kept {t' : Nat} (I : Inv X pins σ H s) (k : ∀ b u, s.heap.get? b = some u -> h'.get? b = some u) : Inv X pins σ H { s with heap := h', toks := t' } := I.un (Un.kept k) (I.hok.kept k)
theorem Inv.laid {a : Addr} {o : HO} {t' : Nat} (I : Inv X pins σ H s) (k : ∀ b u, s.heap.get? b = some u -> h'.get? b = some u) (hp : s.heap.objs.size <= a) (new : ObjOk X.prog X.w (upd H a o) h' a o) :
    Inv X pins σ (upd H a o) { s with heap := h', toks := t' } := I.un (Un.laid k hp (I.hok.fresh hp)) (I.hok.laid k hp new)
theorem Inv.write {x e : Addr} {o : HO} {t' : Nat} (I : Inv X pins σ H s) (mu : Mut (H x)) (he : e = x \/ H e = some (.own x)) (k : ∀ b u, b ≠ e -> s.heap.get? b = some u -> h'.get? b = some u) (heo : ∃ u, h'.get? e = some u)
    (new : ObjOk X.prog X.w (upd H x o) h' x o) : Inv X pins σ (upd H x o) { s with heap := h', toks := t' } := I.un (Un.write mu he k heo) (I.hok.write mu he k heo new)
theorem Inv.pins_of {pins' : List (Addr × Obj)} (I : Inv X pins σ H s) (h : ∀ p ∈ pins', s.heap.get? p.1 = some p.2 /\ H p.1 = none /\ p.1 ≠ X.env.locals /\ p.1 ∉ X.fs /\ ∀ v, p.2.data ≠ .cell v) : Inv X pins' σ H s :=
  ⟨I.ok, I.os, I.bare, I.base, I.loc, I.cell, I.free, I.freeC, λ p hp => (List.mem_append.mp hp).elim (λ z => I.pin p (List.mem_append_left _ z)) (h p), I.hok, I.len⟩
theorem nodup_ix {N : List Str} (hN : N.Nodup) {i j : Nat} {x : Str} (a : N[i]? = some x) (b : N[j]? = some x) : i = j := by
  obtain ⟨h1, e1⟩ := List.getElem?_eq_some_iff.mp a
  obtain ⟨h2, e2⟩ := List.getElem?_eq_some_iff.mp b
  exact (List.getElem_inj hN).mp (e1.trans e2.symm)
theorem store_ok2 {M : Model} {A : Around} {E : Value -> Shared -> Prop} {i : Nat} {x : Str} {v : V} {u : Value} {Q : Unit -> Shared -> Prop} (I : Inv X pins σ H s) (hN : X.N.Nodup) (hi : X.N[i]? = some x) (hx : Loc X.env.scope x) (r : RelV v u)
    (h : ∀ s', Inv X pins (σ.set i (some v)) H s' -> (∃ a, Heap.SameBut a s.heap s'.heap /\ (a = X.env.locals \/ X.env.cells.lookup x = some a)) -> Q () s') (hf : X.fn x = true \/ X.env.scope.names.lookup x = some .local := by first | exact .inl rfl | exact .inr rfl | assumption) : wpAny M A (storeName X.env x u) Q E s := by
  obtain ⟨m, hn, hl⟩ := id I.loc
  have hcls : (X.env.scope.kind == .class || (X.env.scope.kind == .module && X.env.locals != X.env.globals)) = false := by rw [I.ok.kind]; rfl
  have hiσ : i < σ.length := by rw [I.len]; exact (List.getElem?_eq_some_iff.mp hi).1
  have cne := I.cne
  have tracked : ∀ {a : Addr} {h' : Heap}, (∃ o, s.heap.get? a = some o /\ H a = none) -> Heap.SameBut a s.heap h' -> HOk X.prog X.w H h' := λ {a h'} ha hs b ob e => by
    obtain ⟨_, _, hfree⟩ := ha
    refine (I.hok b ob e).stay (λ c w' hc q => (hs.2 c ?_).trans q) (λ o_ q => q) λ o_ o_ q => q
    rintro rfl
    rcases hc with rfl | hc
    · rw [hfree] at e; cases e
    · rw [hfree] at hc; cases hc
  rcases hx with hk | hk
  · refine wpAny_storeName_local hk hn (λ h' hn' hs => ?_) hcls
    obtain ⟨oL, _, _, hoL, _⟩ := id hn
    refine h _ ⟨I.ok, I.os, I.bare, ⟨λ b o e n hb hx => ?_, λ b o e n hb hx => ?_, I.base.free, λ b o e hx => ?_, I.base.tups, I.base.frzs, I.base.tbls⟩, ⟨_, hn', λ j y v' e1 e2 e3 => ?_⟩, λ y c e => ?_, I.free, I.freeC, λ p hp => ?_, tracked ⟨oL, hoL, I.free⟩ hs, by simpa using I.len⟩ ⟨_, hs, .inl rfl⟩
    · exact (hs.2 b (Nat.ne_of_lt (Nat.lt_of_lt_of_le (Heap.lt_size e) I.ok.above))).trans (I.base.keep b o e n hb hx)
    · obtain ⟨sl, e1⟩ := I.base.slot b o e n hb hx
      exact ⟨sl, (hs.2 b (Nat.ne_of_lt (Nat.lt_of_lt_of_le (Heap.lt_size e) I.ok.above))).trans e1⟩
    · obtain ⟨o', e1⟩ := I.base.there b o e hx
      exact ⟨o', (hs.2 b (Nat.ne_of_lt (Nat.lt_of_lt_of_le (Heap.lt_size e) I.ok.above))).trans e1⟩
    · by_cases hj : j = i
      · subst hj
        rw [hi] at e1; cases e1
        rw [List.getElem?_set_self hiσ] at e2
        cases e2
        exact ⟨u, r, .inl ⟨hk, by simp⟩⟩
      · rw [List.getElem?_set_ne (Ne.symm hj)] at e2
        obtain ⟨u', r', q⟩ := hl j y v' e1 e2 e3
        refine ⟨u', r', ?_⟩
        rcases q with ⟨k, e⟩ | ⟨k, c, e, z⟩
        · refine .inl ⟨k, ?_⟩
          have : y ≠ x := λ e => hj (nodup_ix hN e1 (e ▸ hi))
          simp [this, e]
        · exact .inr ⟨k, c, e, z.sameBut hs (cne y c e)⟩
    · obtain ⟨w', z⟩ := I.cell y c e
      exact ⟨w', z.sameBut hs (cne y c e)⟩
    · obtain ⟨e, n, ne, nf, d⟩ := I.pin p hp
      exact ⟨(hs.2 p.1 ne).trans e, n, ne, nf, d⟩
  · have hfn : X.fn x = true := by
      rcases hf with z | z
      · exact z
      · rw [z] at hk; cases hk
    obtain ⟨c, hc⟩ := I.ok.has x (.inl hk)
    obtain ⟨w', z⟩ := I.cell x c hc
    refine wpAny_storeName_cell I.ok.kind hk hc z (λ h' hc' hs => ?_)
    obtain ⟨oc, hoc, hocd⟩ := id z
    refine h { s with heap := h' } ⟨I.ok, I.os, I.bare, ⟨λ b o e n hb hx => ?_, λ b o e n hb hx => ?_, I.base.free, λ b o e hx => ?_, I.base.tups, I.base.frzs, I.base.tbls⟩, ⟨m, hn.sameBut hs (Ne.symm (cne x c hc)), λ j y v' e1 e2 e3 => ?_⟩, λ y c' e => ?_, I.free, I.freeC, λ p hp => ?_, tracked ⟨oc, hoc, I.freeC x c hc⟩ hs, by simpa using I.len⟩ ⟨c, hs, .inr hc⟩
    · exact (hs.2 b (Nat.ne_of_lt (Nat.lt_of_lt_of_le (Heap.lt_size e) (I.ok.cab x c hfn hc)))).trans (I.base.keep b o e n hb hx)
    · obtain ⟨sl, e1⟩ := I.base.slot b o e n hb hx
      exact ⟨sl, (hs.2 b (Nat.ne_of_lt (Nat.lt_of_lt_of_le (Heap.lt_size e) (I.ok.cab x c hfn hc)))).trans e1⟩
    · obtain ⟨o', e1⟩ := I.base.there b o e hx
      exact ⟨o', (hs.2 b (Nat.ne_of_lt (Nat.lt_of_lt_of_le (Heap.lt_size e) (I.ok.cab x c hfn hc)))).trans e1⟩
    · by_cases hj : j = i
      · subst hj
        rw [hi] at e1; cases e1
        rw [List.getElem?_set_self hiσ] at e2
        cases e2
        exact ⟨u, r, .inr ⟨.inl hk, c, hc, hc'⟩⟩
      · rw [List.getElem?_set_ne (Ne.symm hj)] at e2
        obtain ⟨u', r', q⟩ := hl j y v' e1 e2 e3
        refine ⟨u', r', ?_⟩
        rcases q with q | ⟨k, c', e, z'⟩
        · exact .inl q
        · refine .inr ⟨k, c', e, z'.sameBut hs ?_⟩
          rintro rfl
          exact hj (nodup_ix hN e1 (I.ok.inj _ _ _ e hc ▸ hi))
    · by_cases hcc : c' = c
      · subst hcc; exact ⟨_, hc'⟩
      · obtain ⟨w2, z2⟩ := I.cell y c' e
        exact ⟨w2, z2.sameBut hs hcc⟩
    · obtain ⟨e, n, ne, nf, d⟩ := I.pin p hp
      refine ⟨(hs.2 p.1 ?_).trans e, n, ne, nf, d⟩
      intro q
      rw [q, hoc] at e
      have q' : oc = p.2 := Option.some.inj e
      exact d w' (by rw [<- q']; exact hocd)
theorem store_ok {M : Model} {A : Around} {E : Value -> Shared -> Prop} {i : Nat} {x : Str} {v : V} {u : Value} {Q : Unit -> Shared -> Prop} (I : Inv X pins σ H s) (hN : X.N.Nodup) (hi : X.N[i]? = some x) (hx : Loc X.env.scope x) (r : RelV v u)
    (h : ∀ s', Inv X pins (σ.set i (some v)) H s' -> Q () s') (hf : X.fn x = true \/ X.env.scope.names.lookup x = some .local := by first | exact .inl rfl | exact .inr rfl | assumption) : wpAny M A (storeName X.env x u) Q E s :=
  store_ok2 I hN hi hx r (λ s' I' o_ => h s' I') hf
theorem Inv.call' {s' : Shared} {ch : List Addr} (I : Inv X pins σ H s) (ho : s'.os = s.os) (u : Un (frs X.stack) ch H H' s.heap s'.heap) (hok : HOk X.prog X.w H' s'.heap) (hg : AllBare s'.gens)
    (hch : ∀ b ∈ ch, (b ∈ X.ex \/ X.s₀.heap.objs.size <= b) /\ b ≠ X.env.locals /\ (∀ x c, X.env.cells.lookup x = some c -> c ≠ b) /\ ∀ p ∈ X.pn ++ pins, p.1 ≠ b) : Inv X pins σ H' s' := by
  obtain ⟨h', g', d', t', o'⟩ := s'
  have e : o' = s.os := ho
  subst e
  exact I.call (g' := g') (t' := t') (d' := d') u hok hg hch
end
noncomputable abbrev XK := Value -> Option Addr -> Hp -> Prop
noncomputable abbrev St := List (Option V)
noncomputable abbrev VK := V -> Hp -> Prop
noncomputable abbrev TE := St -> Hp -> VK -> Prop
noncomputable abbrev TT := St -> Hp -> (Bool -> Hp -> Prop) -> Prop
noncomputable abbrev TA := St -> Hp -> (List V -> Hp -> Prop) -> Prop
structure Ends where
  nx : St -> Hp -> Prop
  rt : VK
  bk : St -> Hp -> Prop := λ o_ o_ => False
  ct : St -> Hp -> Prop := λ o_ o_ => False
noncomputable abbrev TS := Ends -> St -> Hp -> Prop
noncomputable def EP (X : Cx) (pins : List (Addr × Obj)) (σ : St) (Q : VK) (u : Value) (s' : Shared) : Prop := ∃ v H', Inv X pins σ H' s' /\ RelV v u /\ Q v H'
noncomputable def TP (X : Cx) (pins : List (Addr × Obj)) (σ : St) (Q : Bool -> Hp -> Prop) (b : Bool) (s' : Shared) : Prop := ∃ H', Inv X pins σ H' s' /\ Q b H'
noncomputable def AP (X : Cx) (pins : List (Addr × Obj)) (σ : St) (Q : List V -> Hp -> Prop) (us : List Value) (s' : Shared) : Prop := ∃ vs H', Inv X pins σ H' s' /\ Vals vs us /\ Q vs H'
noncomputable def SP (X : Cx) (pins : List (Addr × Obj)) (D : Ends) (f : Flow) (s' : Shared) : Prop :=
  match f with
  | .next => ∃ σ' H', Inv X pins σ' H' s' /\ D.nx σ' H'
  | .brk => ∃ σ' H', Inv X pins σ' H' s' /\ D.bk σ' H'
  | .cont => ∃ σ' H', Inv X pins σ' H' s' /\ D.ct σ' H'
  | .ret u => ∃ v σ' H', Inv X pins σ' H' s' /\ RelV v u /\ D.rt v H'
noncomputable def PE (X : Cx) (e : Expr) (t : TE) : Prop :=
  ∀ (pins : List (Addr × Obj)) (s : Shared) (σ : St) (H : Hp) (Q : VK), Inv X pins σ H s -> t σ H Q -> wpAny (model X.prog X.w) X.A (eval e X.env) (EP X pins σ Q) X.xe s
noncomputable def PT (X : Cx) (e : Expr) (t : TT) : Prop :=
  ∀ (pins : List (Addr × Obj)) (s : Shared) (σ : St) (H : Hp) (Q : Bool -> Hp -> Prop), Inv X pins σ H s -> t σ H Q -> wpAny (model X.prog X.w) X.A (isTrue e X.env (eval e X.env)) (TP X pins σ Q) X.xe s
noncomputable def PW (X : Cx) (e : Expr) (t : TT) : Prop :=
  ∀ (whole : Sem Value) (pins : List (Addr × Obj)) (s : Shared) (σ : St) (H : Hp) (Q : Bool -> Hp -> Prop), Inv X pins σ H s -> t σ H Q -> wpAny (model X.prog X.w) X.A (isTrue e X.env whole) (TP X pins σ Q) X.xe s
theorem PW.pt {X : Cx} {e : Expr} {t : TT} (h : PW X e t) : PT X e t := h _
noncomputable def PA (X : Cx) (es : List Expr) (t : TA) : Prop :=
  ∀ (pos : Pos) (pins : List (Addr × Obj)) (s : Shared) (σ : St) (H : Hp) (Q : List V -> Hp -> Prop), Inv X pins σ H s -> t σ H Q -> wpAny (model X.prog X.w) X.A (spliced (backTo pos (starEach es X.env))) (AP X pins σ Q) X.xe s
noncomputable def PS (X : Cx) (st : Stmt) (t : TS) : Prop :=
  ∀ (pins : List (Addr × Obj)) (s : Shared) (σ : St) (H : Hp) (D : Ends), Inv X pins σ H s -> t D σ H -> wpAny (model X.prog X.w) X.A (exec st X.env) (SP X pins D) X.xe s
noncomputable def PSs (X : Cx) (st : List Stmt) (t : TS) : Prop :=
  ∀ (pins : List (Addr × Obj)) (s : Shared) (σ : St) (H : Hp) (D : Ends), Inv X pins σ H s -> t D σ H -> wpAny (model X.prog X.w) X.A (execs st X.env) (SP X pins D) X.xe s
theorem thn {α : Type} {t : Sem α} {Q Q' : α -> Shared -> Prop} {M : Model} {A : Around} {E : Value -> Shared -> Prop} {s : Shared} (h : wpAny M A t Q E s) (hQ : ∀ a s, Q a s -> Q' a s) : wpAny M A t Q' E s := wpAny_mono h hQ λ o_ o_ x => x
end L2
namespace L2
open PySem PySem.Spec PyProof.Rows
section
variable {X : Cx}
theorem bin {a b : Expr} {ta tb : TE} (ha : PE X a ta) (hb : PE X b tb) {pins : List (Addr × Obj)} {s : Shared} {σ : St} {H : Hp} {R : V -> V -> Hp -> Prop} (I : Inv X pins σ H s) (h : ta σ H λ x H1 => tb σ H1 λ y H2 => R x y H2)
    {α : Type} {Q : α -> Shared -> Prop} {f : Value -> Value -> Sem α}
    (hf : ∀ v u s2 x y H2, Inv X pins σ H2 s2 -> RelV x v -> RelV y u -> R x y H2 -> wpAny (model X.prog X.w) X.A (f v u) Q X.xe s2) :
    wpAny (model X.prog X.w) X.A (eval a X.env) (λ v s₁ => wpAny (model X.prog X.w) X.A (eval b X.env) (λ u s₂ => wpAny (model X.prog X.w) X.A (f v u) Q X.xe s₂) X.xe s₁) X.xe s := by
  refine thn (ha pins s σ H _ I h) λ v s1 ⟨x, H1, I1, r1, q1⟩ => ?_
  refine thn (hb pins s1 σ H1 _ I1 q1) λ u s2 ⟨y, H2, I2, r2, q2⟩ => ?_
  exact hf v u s2 x y H2 I2 r1 r2 q2
noncomputable def tVar (i : Nat) : TE := λ σ H Q => ∃ v, σ[i]? = some (some v) /\ Q v H
noncomputable def tC (v : V) : TE := λ o_ H Q => Q v H
theorem pe_var {i : Nat} {x : Str} {pos : Pos} (hN : X.N[i]? = some x) (hv : Vis X.env.scope x) (hd : (x == ("__debug__" : Str)) = false := by decide) (hcd : (x == ("__classdict__" : Str)) = false := by decide) : PE X (.Name x pos) (tVar i) := by
  intro pins s σ H Q I h
  obtain ⟨v, e, h⟩ := h
  obtain ⟨m, hn, hl⟩ := I.loc
  obtain ⟨u, r, l⟩ := hl i x v hN e hv
  have fin : EP X pins σ Q u s := ⟨v, H, I, r, h⟩
  rcases l with ⟨hk, hm⟩ | ⟨hk, c, hc, hcell⟩
  · exact wpAny_Name (wpAny_loadName_local I.ok.kind hk hn hm fin) hd
  · rcases hk with hk | hk
    · exact wpAny_Name (wpAny_loadName_cell I.ok.kind hk hc hcell fin) hd
    · exact wpAny_Name (wpAny_loadName_free I.ok.kind hk hc hcell fin hcd) hd
theorem pe_int {i j pos} : PE X (.Constant (.int i) j pos) (tC (.int i)) := λ o_ o_ o_ H o_ I h => wpAny_Constant_int ⟨.int i, H, I.tok _, ⟨_, rfl⟩, h⟩
theorem pe_bl {b j pos} : PE X (.Constant (.bool b) j pos) (tC (.bl b)) := λ o_ o_ o_ H o_ I h => Constant_bool ⟨.bl b, H, I, rfl, h⟩
theorem pe_str {x j pos} : PE X (.Constant (.str x) j pos) (tC (.str x)) := λ o_ o_ o_ H o_ I h => Calls.Constant_str ⟨.str x, H, I.tok _, ⟨_, rfl⟩, h⟩
noncomputable def Gl (X : Cx) (x : Str) : Prop := X.env.kindOf x = some .globalImplicit
theorem ld_glob {E : Value -> Shared -> Prop} {pins : List (Addr × Obj)} {s : Shared} {σ : St} {H : Hp} {x : Str} {u : Value} {pos : Pos} {Q : Value -> Shared -> Prop} (I : Inv X pins σ H s) (hg : Gl X x) (hm : X.mg x = some u) (h : Q u s)
    (hd : (x == ("__debug__" : Str)) = false := by decide) : wpAny (model X.prog X.w) X.A (eval (.Name x pos) X.env) Q E s :=
  Calls.Name_function_global I.ok.kind hg (Calls.loadGlobal_global (by rw [I.ok.glob]; exact I.mod.glob.keeps I.bk) hm h) hd
theorem ld_blt {E : Value -> Shared -> Prop} {pins : List (Addr × Obj)} {s : Shared} {σ : St} {H : Hp} {x : Str} {u : Value} {pos : Pos} {Q : Value -> Shared -> Prop} (I : Inv X pins σ H s) (hg : Gl X x) (hm : X.mg x = none) (hv : bootBuiltins x = some u) (h : Q u s)
    (hn : x ≠ "__name__" := by decide) (hd : (x == ("__debug__" : Str)) = false := by decide) : wpAny (model X.prog X.w) X.A (eval (.Name x pos) X.env) Q E s := by
  obtain ⟨mb, h1, h2⟩ := I.mod.blt
  exact Calls.Name_function_global I.ok.kind hg (Calls.loadGlobal_builtin (by rw [I.ok.glob]; exact I.mod.glob.keeps I.bk) hm (by rw [I.ok.blt]; exact h1.keeps I.bk) ((h2 x hn).trans hv) h) hd
theorem pe_glob {x : Str} {v : V} {u : Value} {pos : Pos} (hg : Gl X x) (hm : X.mg x = some u) (r : RelV v u) (hd : (x == ("__debug__" : Str)) = false := by decide) : PE X (.Name x pos) (tC v) :=
  λ o_ o_ o_ H o_ I h => ld_glob I hg hm ⟨v, H, I, r, h⟩ hd
noncomputable def t2I (ta tb : TE) (k : Int -> Int -> Hp -> Prop) : St -> Hp -> Prop := λ σ H => ta σ H λ x H1 => tb σ H1 λ y H2 => ∃ i j, x = .int i /\ y = .int j /\ k i j H2
variable {a b : Expr} {ta tb : TE} {pos : Pos}
noncomputable def PC (X : Cx) (op : CmpOp) (a b : Expr) (t : TE) : Prop :=
  ∀ (pins : List (Addr × Obj)) (s : Shared) (σ : St) (H : Hp) (Q : VK), Inv X pins σ H s -> t σ H Q ->
    wpAny (model X.prog X.w) X.A (eval a X.env) (λ v s₁ => wpAny (model X.prog X.w) X.A (eval b X.env) (λ u s₂ => wpAny (model X.prog X.w) X.A (compareOp op v u) (EP X pins σ Q) X.xe s₂) X.xe s₁) X.xe s
theorem nobehind (b : Expr) {op : CmpOp} (h : op ≠ .In) (h2 : op ≠ .NotIn) : behindInMarks op b = false := by
  have e1 : (op == CmpOp.In) = false := by cases op <;> first | rfl | exact absurd rfl h
  have e2 : (op == CmpOp.NotIn) = false := by cases op <;> first | rfl | exact absurd rfl h2
  cases b <;> simp [behindInMarks, e1, e2]
noncomputable def tCmp (p : Int -> Int -> Bool) (ta tb : TE) : TE := λ σ H Q => t2I ta tb (λ i j H2 => Q (.bl (p i j)) H2) σ H
noncomputable abbrev tNeI : TE -> TE -> TE := tCmp λ i j => !decide (i = j)
theorem pc_int {op : CmpOp} {p : Int -> Int -> Bool} (ha : PE X a ta) (hb : PE X b tb)
    (rule : ∀ (i j : Int) (t u : Tok) (Q : Value -> Shared -> Prop) (s : Shared), Q (.bool (p i j)) s -> wpAny (model X.prog X.w) X.A (compareOp op (.int i t) (.int j u)) Q X.xe s) : PC X op a b (tCmp p ta tb) := by
  intro pins s σ H Q I h
  refine bin ha hb I h λ v u s2 x y H2 I2 rx ry q => ?_
  obtain ⟨i, j, rfl, rfl, q⟩ := q
  obtain ⟨t, rfl⟩ := rx
  obtain ⟨t', rfl⟩ := ry
  exact rule i j t t' _ s2 ⟨.bl _, H2, I2, rfl, q⟩
theorem pc_neI (ha : PE X a ta) (hb : PE X b tb) : PC X .NotEq a b (tNeI ta tb) := pc_int ha hb λ o_ o_ o_ o_ o_ o_ h => ne_int (by rw [bne, Bool.beq_eq_decide_eq]; exact h)
noncomputable def tB (t : TE) : TT := λ σ H Q => t σ H λ x H1 => ∃ c, x = .bl c /\ Q c H1
theorem pt_cmp {op : CmpOp} {t : TE} (h : PC X op a b t) (h1 : behindInMarks op b = false := by first | exact nobehind _ (by decide) (by decide) | rfl) : PT X (.Compare a [op] [b] pos) (tB t) := by
  intro pins s σ H Q I hw
  refine wpAny_isTrue_Compare1 (thn (h pins s σ H _ I hw) λ v s1 h1 => thn h1 λ u s2 h2 => thn h2 λ c s3 ⟨x, H1, I1, r1, q1⟩ => ?_) h1
  obtain ⟨d, rfl, q⟩ := q1
  cases r1
  exact wpAny_truthy_bool ⟨H1, I1, q⟩
theorem pt_val {e : Expr} {t : TE} (h : PE X e t) (he : ∀ whole, isTrue e X.env whole = (do let v <- whole; standAt e.pos; holding [v] (truthy v)) := by intro _; rfl) : PT X e (tB t) := by
  intro pins s σ H Q I hw
  refine isTrue_plain (thn (h pins s σ H _ I hw) λ v s1 ⟨x, H1, I1, r1, q1⟩ => ?_) (he _)
  obtain ⟨d, rfl, q⟩ := q1
  cases r1
  exact wpAny_truthy_bool ⟨H1, I1, q⟩
variable {tA tB' : TT} {rest : List Expr}
noncomputable def tOr (t u : TT) : TT := λ σ H Q => t σ H λ c H1 => if c = true then Q true H1 else u σ H1 Q
noncomputable def tNot (t : TT) : TT := λ σ H Q => t σ H λ c H1 => Q (!c) H1
theorem pw_or1 (ha : PT X a tA) : PW X (.BoolOp .Or [a] pos) tA := by
  intro wh pins s σ H Q I h
  refine isTrue_or (thn (ha pins s σ H Q I h) λ c s1 e => ?_)
  cases c with
  | false => exact isTrue_or_nil e
  | true => exact e
theorem pw_or (ha : PT X a tA) (hb : PW X (.BoolOp .Or (b :: rest) pos) tB') : PW X (.BoolOp .Or (a :: b :: rest) pos) (tOr tA tB') := by
  intro wh pins s σ H Q I h
  refine isTrue_or (thn (ha pins s σ H _ I h) λ c s1 ⟨H1, I1, q1⟩ => ?_)
  cases c with
  | true => exact ⟨H1, I1, q1⟩
  | false => exact hb wh pins s1 σ H1 Q I1 q1
theorem pt_not (ha : PT X a tA) : PT X (.UnaryOp .Not a pos) (tNot tA) := by
  intro pins s σ H Q I h
  exact isTrue_not (ha pins s σ H (λ c H1 => Q (!c) H1) I h)
end
end L2
namespace L2
open PySem PySem.Spec PyProof.Rows
noncomputable def SqL (K : PySem.W.Frag) (H : Hp) (a : Addr) (xs : List V) : Prop :=
  Rd H a (.lst xs) \/
    ∃ (o : Obj) (its : Array Value) (n : Nat), K.lookup a = some o /\ o.cls = .type "list" /\ o.dict = none /\ o.data = .seq its n /\ its.size <= sizeLine /\ Vals xs its.toList
noncomputable def SqT (K : PySem.W.Frag) (H : Hp) (a : Addr) (xs : List V) : Prop :=
  Rd H a (.tup xs) \/
    ∃ (o : Obj) (its : Array Value) (n : Nat), K.lookup a = some o /\ o.cls = .type "tuple" /\ o.data = .seq its n /\ its.size <= sizeLine /\ Vals xs its.toList
noncomputable def absV : Value -> Option V
  | .none => some .non
  | .bool b => some (.bl b)
  | .int i _ => some (.int i)
  | .str x _ => some (.str x)
  | .bytes b _ => some (.byt b)
  | .float b _ => some (.flt b)
  | .ref a => some (.ref a)
  | .type n => some (.ty n)
  | _ => none
theorem RelV.abs {x : V} {u : Value} (r : RelV x u) : absV u = some x := by
  cases x with
  | non => cases r; rfl
  | bl _ => cases r; rfl
  | int _ => obtain ⟨t, rfl⟩ := r; rfl
  | str _ => obtain ⟨t, rfl⟩ := r; rfl
  | byt _ => obtain ⟨t, rfl⟩ := r; rfl
  | flt _ => obtain ⟨t, rfl⟩ := r; rfl
  | ref _ => cases r; rfl
  | ty _ => cases r; rfl
theorem RelV.inj {x y : V} {u : Value} (r : RelV x u) (q : RelV y u) : x = y := Option.some.inj (r.abs.symm.trans q.abs)
theorem Vals.inj : ∀ {xs ys : List V} {us : List Value}, Vals xs us -> Vals ys us -> xs = ys
  | _, _, _, .nil, .nil => rfl
  | _, _, _, .cons r t, .cons r' t' => by rw [r.inj r', Vals.inj t t']
section
variable {X : Cx} {pins : List (Addr × Obj)} {σ : St} {H : Hp} {s : Shared} {a : Addr} {xs ys : List V}
theorem SqL.of {K : PySem.W.Frag} (h : H a = some (.lst xs)) : SqL K H a xs := .inl (.inl h)
theorem SqT.of {K : PySem.W.Frag} (h : H a = some (.tup xs)) : SqT K H a xs := .inl (.inl h)
theorem Inv.list (I : Inv X pins σ H s) (h : SqL X.K H a xs) : ∃ its : List Value, Vals xs its /\ PlainL s.heap a its.toArray /\ xs.length <= sizeLine := by
  rcases h with h | ⟨o, its, n, hk, hc, hd, hs, hz, r⟩
  · obtain ⟨z, its, n, r, e⟩ := h.ok I.hok
    exact ⟨its, r, ⟨_, n, e, rfl, rfl, rfl⟩, z⟩
  · refine ⟨its.toList, r, ⟨o, n, I.kIn a o hk, hc, hd, by simpa using hs⟩, ?_⟩
    have e := r.length
    simp only [Array.length_toList] at e
    omega
theorem Inv.tuple (I : Inv X pins σ H s) (h : SqT X.K H a xs) : ∃ its : List Value, Vals xs its /\ IsTup s.heap a its.toArray /\ xs.length <= sizeLine := by
  rcases h with h | ⟨o, its, n, hk, hc, hs, hz, r⟩
  · obtain ⟨z, its, r, p⟩ := h.ok I.hok
    exact ⟨its, r, p, z⟩
  · refine ⟨its.toList, r, ⟨o, I.kIn a o hk, hc, n, by simpa using hs⟩, ?_⟩
    have e := r.length
    simp only [Array.length_toList] at e
    omega
theorem Inv.list_inj (I : Inv X pins σ H s) (h : SqL X.K H a xs) (h' : SqL X.K H a ys) : xs = ys := by
  obtain ⟨its, r, ⟨o, n, e, _, _, d⟩, _⟩ := I.list h
  obtain ⟨its', r', ⟨o', n', e', _, _, d'⟩, _⟩ := I.list h'
  rw [e] at e'; cases e'
  rw [d] at d'
  injection d' with d1 _
  have : its = its' := by simpa using congrArg Array.toList d1
  subst this
  exact r.inj r'
theorem Inv.tuple_inj (I : Inv X pins σ H s) (h : SqT X.K H a xs) (h' : SqT X.K H a ys) : xs = ys := by
  obtain ⟨its, r, ⟨o, e, _, n, d⟩, _⟩ := I.tuple h
  obtain ⟨its', r', ⟨o', e', _, n', d'⟩, _⟩ := I.tuple h'
  rw [e] at e'; cases e'
  rw [d] at d'
  injection d' with d1 _
  have : its = its' := by simpa using congrArg Array.toList d1
  subst this
  exact r.inj r'
end
noncomputable abbrev Cx.wish (X : Cx) (E : Value -> Shared -> Prop) : Cx := { X with xe := E }
noncomputable abbrev Cx.nox (X : Cx) : Cx := X.wish λ o_ o_ => False
theorem Cx.Ok.wish {X : Cx} (ok : X.Ok) (E : Value -> Shared -> Prop) : (X.wish E).Ok :=
  ⟨ok.mod, ok.kind, ok.glob, ok.blt, ok.above, ok.inj, ok.has, ok.cab, ok.hd, ok.frames, ok.stk, ok.exf, ok.bs, ok.bsz, ok.noex, ok.exfs, ok.funs, ok.frf⟩
theorem Cx.Ok.unwish {X : Cx} {E : Value -> Shared -> Prop} (ok : (X.wish E).Ok) : X.Ok :=
  ⟨ok.mod, ok.kind, ok.glob, ok.blt, ok.above, ok.inj, ok.has, ok.cab, ok.hd, ok.frames, ok.stk, ok.exf, ok.bs, ok.bsz, ok.noex, ok.exfs, ok.funs, ok.frf⟩
section
variable {X : Cx} {pins : List (Addr × Obj)} {σ : St} {H : Hp} {s : Shared} {E : Value -> Shared -> Prop}
theorem Inv.wish (I : Inv X pins σ H s) (E : Value -> Shared -> Prop) : Inv (X.wish E) pins σ H s := ⟨I.ok.wish E, I.os, I.bare, I.base, I.loc, I.cell, I.free, I.freeC, I.pin, I.hok, I.len⟩
theorem Inv.unwish (I : Inv (X.wish E) pins σ H s) : Inv X pins σ H s := ⟨I.ok.unwish, I.os, I.bare, I.base, I.loc, I.cell, I.free, I.freeC, I.pin, I.hok, I.len⟩
theorem SP.unwish {D : Ends} {f : Flow} {s' : Shared} (h : SP (X.wish E) pins D f s') : SP X pins D f s' := by
  cases f with
  | next => obtain ⟨σ', H', I, q⟩ := h; exact ⟨σ', H', I.unwish, q⟩
  | brk => obtain ⟨σ', H', I, q⟩ := h; exact ⟨σ', H', I.unwish, q⟩
  | cont => obtain ⟨σ', H', I, q⟩ := h; exact ⟨σ', H', I.unwish, q⟩
  | ret u => obtain ⟨v, σ', H', I, r, q⟩ := h; exact ⟨v, σ', H', I.unwish, r, q⟩
theorem PSs.nox {st : List Stmt} {t : TS} (h : PSs X.nox st t) : PSs X st t := λ pins s σ H D I hw =>
  wpAny_mono (h pins s σ H D (I.wish _) hw) (λ o_ o_ q => q.unwish) λ o_ o_ z => False.elim z
end
section
variable {X : Cx} {st : Stmt} {rest : List Stmt} {t u : TS} {e : Expr} {te : TE} {pos : Pos}
noncomputable def tNext : TS := λ D σ H => D.nx σ H
noncomputable def tSeq (t u : TS) : TS := λ D σ H => t { D with nx := u D } σ H
theorem pss_nil : PSs X [] tNext := λ o_ o_ σ H o_ I h => wpAny_execs_nil ⟨σ, H, I, h⟩
theorem pss_cons (h1 : PS X st t) (h2 : PSs X rest u) : PSs X (st :: rest) (tSeq t u) := by
  intro pins s σ H D I h
  refine wpAny_execs_cons (thn (h1 pins s σ H { D with nx := u D } I h) λ f s1 q => ?_)
  cases f with
  | next =>
    obtain ⟨σ', H', I', q⟩ := q
    exact h2 pins s1 σ' H' D I' q
  | ret v => exact q
  | brk => exact q
  | cont => exact q
theorem pss_one (h1 : PS X st t) : PSs X [st] t := by
  intro pins s σ H D I h
  refine wpAny_execs_cons (thn (h1 pins s σ H D I h) λ f s1 q => ?_)
  cases f with
  | next => exact wpAny_execs_nil q
  | ret v => exact q
  | brk => exact q
  | cont => exact q
theorem Inv.quiet {pins : List (Addr × Obj)} {σ : St} {H : Hp} {s : Shared} (I : Inv X pins σ H s) : interactive X.env = false := by simp [interactive, I.ok.kind]
noncomputable def tDrop (te : TE) : TS := λ D σ H => te σ H λ o_ H1 => D.nx σ H1
theorem ps_expr (he : PE X e te) (hs : swapsWith e none pos.line X.env = pure false := by rfl) : PS X (.Expr e pos) (tDrop te) := by
  intro pins s σ H D I h
  exact wpAny_Expr_any (thn (he pins s σ H _ I h) λ v s1 ⟨x, H1, I1, r1, q1⟩ => ⟨σ, H1, I1, q1⟩) I.quiet hs
noncomputable def tRet (te : TE) : TS := λ D σ H => te σ H D.rt
theorem ps_ret (he : PE X e te) : PS X (.Return (some e) pos) (tRet te) := by
  intro pins s σ H D I h
  exact wpAny_Return_some (thn (he pins s σ H _ I h) λ v s1 ⟨x, H1, I1, r1, q1⟩ => ⟨x, σ, H1, I1, r1, q1⟩)
noncomputable def tIfS (c : TT) (t u : TS) : TS := λ D σ H => c σ H λ b H1 => if b = true then t D σ H1 else u D σ H1
theorem ps_if {c : Expr} {a b : List Stmt} {tc : TT} (hc : PT X c tc) (ha : PSs X a t) (hb : PSs X b u) : PS X (.If c a b pos) (tIfS tc t u) := by
  intro pins s σ H D I h
  refine wpAny_If (thn (hc pins s σ H _ I h) λ d s1 ⟨H1, I1, q1⟩ => ?_)
  cases d with
  | true => exact ha pins s1 σ H1 D I1 q1
  | false => exact hb pins s1 σ H1 D I1 q1
noncomputable def tNever : TS := λ o_ o_ o_ => False
theorem ps_never : PS X st tNever := λ o_ o_ o_ o_ o_ o_ h => h.elim
theorem pss_never {sts : List Stmt} : PSs X sts tNever := λ o_ o_ o_ o_ o_ o_ h => h.elim
end
noncomputable abbrev TG := V -> St -> Hp -> (St -> Hp -> Prop) -> Prop
noncomputable abbrev TGs := List V -> St -> Hp -> (St -> Hp -> Prop) -> Prop
noncomputable def PG (X : Cx) (target : Expr) (t : TG) : Prop :=
  ∀ (pins : List (Addr × Obj)) (s : Shared) (σ : St) (H : Hp) (v : V) (u : Value) (Q : St -> Hp -> Prop), Inv X pins σ H s -> RelV v u -> t v σ H Q ->
    wpAny (model X.prog X.w) X.A (assign target X.env u) (λ o_ s' => ∃ σ' H', Inv X pins σ' H' s' /\ Q σ' H') X.xe s
noncomputable def PGs (X : Cx) (ts : List Expr) (t : TGs) : Prop :=
  ∀ (pins : List (Addr × Obj)) (s : Shared) (σ : St) (H : Hp) (vs : List V) (us : List Value) (Q : St -> Hp -> Prop), Inv X pins σ H s -> Vals vs us -> t vs σ H Q ->
    wpAny (model X.prog X.w) X.A (assignInOrder ((assignEach ts X.env).map (·.2)) us) (λ o_ s' => ∃ σ' H', Inv X pins σ' H' s' /\ Q σ' H') X.xe s
noncomputable abbrev TSet := V -> V -> V -> Hp -> (Hp -> Prop) -> Prop
noncomputable def PSet (X : Cx) (t : TSet) : Prop :=
  ∀ (pins : List (Addr × Obj)) (s : Shared) (σ : St) (H : Hp) (o i v : V) (ov iv u : Value) (Q : Hp -> Prop), Inv X pins σ H s -> RelV o ov -> RelV i iv -> RelV v u -> t o i v H Q ->
    wpAny (model X.prog X.w) X.A (setItem ov iv u) (λ o_ s' => ∃ H', Inv X pins σ H' s' /\ Q H') X.xe s
section
variable {X : Cx} {pos : Pos}
noncomputable def gName (i : Nat) : TG := λ v σ H Q => Q (σ.set i (some v)) H
theorem pg_name {i : Nat} {x : Str} (hN : X.N.Nodup) (hi : X.N[i]? = some x) (hx : Loc X.env.scope x) (hf : X.fn x = true \/ X.env.scope.names.lookup x = some .local := by first | exact .inl rfl | exact .inr rfl | assumption) : PG X (.Name x pos) (gName i) := by
  intro pins s σ H v u Q I r h
  exact wpAny_assign_Name (store_ok I hN hi hx r (λ s' I' => ⟨_, H, I', h⟩) hf)
noncomputable def gNil : TGs := λ vs σ H Q => vs = [] /\ Q σ H
noncomputable def gCons (t : TG) (u : TGs) : TGs := λ vs σ H Q => ∃ v r, vs = v :: r /\ t v σ H λ σ' H' => u r σ' H' Q
theorem pgs_nil : PGs X [] gNil := by
  intro pins s σ H vs us Q I r h
  obtain ⟨e, h⟩ := h
  subst e
  cases r
  exact assignInOrder_nil ⟨σ, H, I, h⟩
theorem pgs_cons {e : Expr} {es : List Expr} {t : TG} {u : TGs} (h1 : PG X e t) (h2 : PGs X es u)
    (hs : (assignEach (e :: es) X.env).map (·.2) = assign e X.env :: (assignEach es X.env).map (·.2) := by rfl) : PGs X (e :: es) (gCons t u) := by
  intro pins s σ H vs us Q I r h
  obtain ⟨v, vr, e1, h⟩ := h
  subst e1
  cases r with
  | cons r rr =>
    rw [hs]
    refine assignInOrder_cons (thn (h1 pins s σ H _ _ _ I r h) λ o1_ s1 ⟨σ1, H1, I1, q1⟩ => ?_)
    exact h2 pins s1 σ1 H1 _ _ Q I1 rr q1
noncomputable def gTup (K : PySem.W.Frag) (n : Nat) (t : TGs) : TG := λ v σ H Q => ∃ a xs, v = .ref a /\ SqT K H a xs /\ xs.length = n /\ t xs σ H Q
theorem pg_tup {es : List Expr} {k : Nat} {t : TGs} {n : Nat} (hc : X.calm = true) (h : PGs X es t)
    (hn : (assignEach es X.env).length = n := by rfl) (hst : (assignEach es X.env).findIdx? (·.1) = none := by rfl) : PG X (.Tuple es k pos) (gTup X.K n t) := by
  intro pins s σ H v u Q I r hw
  obtain ⟨a, xs, e1, hq, hl, hw⟩ := hw
  subst e1
  cases r
  obtain ⟨its, rv, ht, hz⟩ := I.tuple hq
  refine assign_Tuple_tuple (I.ok.hd hc) ht (by simp [hn, <- hl, rv.length]) hst λ h' hx => ?_
  have I1 : Inv X pins σ H { s with heap := h' } := I.kept (t' := s.toks) λ b o e => hx b o (Nat.ne_of_lt (Heap.lt_size e)) e
  exact h pins _ σ H xs _ Q I1 (by simpa using rv) hw
noncomputable def gSub (to ti : TE) (t : TSet) : TG := λ v σ H Q => to σ H λ o H1 => ti σ H1 λ i H2 => t o i v H2 λ H3 => Q σ H3
theorem pg_sub {o i : Expr} {to ti : TE} {t : TSet} (ho : PE X o to) (hi : PE X i ti) (hs : PSet X t)
    (ha : ∀ v, assign (.Subscript o i pos) X.env v = (do
      let ov <- holding [v] (eval o X.env)
      let iv <- holding [v, ov] (eval i X.env)
      standAt pos
      holding [v, ov, iv] (setItem ov iv v)
      release [v, ov, iv] []) := by intro _; rfl) : PG X (.Subscript o i pos) (gSub to ti t) := by
  intro pins s σ H v u Q I r h
  rw [ha]
  refine wpAny_bind (wpAny_holding (thn (ho pins s σ H _ I h) λ ov s1 ⟨x, H1, I1, r1, q1⟩ => ?_))
  refine wpAny_bind (wpAny_holding (thn (hi pins s1 σ H1 _ I1 q1) λ iv s2 ⟨y, H2, I2, r2, q2⟩ => ?_))
  refine wpAny_bind (wpAny_standAt (wpAny_bind (wpAny_holding (thn (hs pins s2 σ H2 x y v ov iv u _ I2 r1 r2 r q2) λ o1_ s3 ⟨H3, I3, q3⟩ => ?_))))
  exact wpAny_release ⟨σ, H3, I3, q3⟩
noncomputable def tAsg (te : TE) (g : TG) : TS := λ D σ H => te σ H λ x H1 => g x σ H1 D.nx
theorem ps_asg {tg e : Expr} {te : TE} {g : TG} (he : PE X e te) (hg : PG X tg g) (hs : swapsWithSole [tg] e pos.line X.env = pure false := by rfl) (hw : swappedStores [tg] e X.env = pure none := by rfl)
    (h1 : (assignEach [tg] X.env).map (·.2) = [assign tg X.env] := by rfl) : PS X (.Assign [tg] e pos) (tAsg te g) := by
  intro pins s σ H D I h
  refine wpAny_Assign_stores (thn (he pins s σ H _ I h) λ v s1 ⟨x, H1, I1, r1, q1⟩ => ?_) hs hw
  rw [h1]
  exact thn (hg pins s1 σ H1 x v _ I1 r1 q1) λ o_ s2 q => q
theorem ps_set {i : Nat} {x : Str} {e : Expr} {te : TE} {pos' : Pos} (hN : X.N.Nodup) (hi : X.N[i]? = some x) (hx : Loc X.env.scope x) (he : PE X e te) (hs : swapsWith e (some (.Name x pos')) pos.line X.env = pure false := by rfl) (hf : X.fn x = true \/ X.env.scope.names.lookup x = some .local := by first | exact .inl rfl | exact .inr rfl | assumption) :
    PS X (.Assign [.Name x pos'] e pos) (tAsg te (gName i)) := by
  intro pins s σ H D I h
  refine wpAny_Assign_Name (thn (he pins s σ H _ I h) λ v s1 ⟨y, H1, I1, r1, q1⟩ => ?_) hs
  exact store_ok I1 hN hi hx r1 (λ s2 I2 => ⟨_, H1, I2, q1⟩) hf
end
section
variable {X : Cx} {pos : Pos}
end
structure It where
  go : Nat -> Hp -> Prop
  yld : Nat -> Hp -> V -> Hp -> Prop
  stop : Nat -> Hp -> Prop
noncomputable def FpOk (X : Cx) (pins : List (Addr × Obj)) (H : Hp) (b : Addr) : Prop :=
  H b = none /\ b ≠ X.env.locals /\ b ∉ X.fs /\ (b ∈ X.ex \/ X.s₀.heap.objs.size <= b) /\ (∀ x c, X.env.cells.lookup x = some c -> c ≠ b) /\ ∀ p ∈ X.pn ++ pins, p.1 ≠ b
theorem Inv.fpOk {X : Cx} {pins : List (Addr × Obj)} {σ : St} {H H' : Hp} {s : Shared} {b : Addr} (I : Inv X pins σ H s) (hb : s.heap.objs.size <= b) (hn : H' b = none) : FpOk X pins H' b := by
  refine ⟨hn, Nat.ne_of_gt (Nat.lt_of_lt_of_le I.lt hb), I.nofs hb, .inr (Nat.le_trans I.sz hb), λ x c e z => ?_, λ p hp z => ?_⟩
  · obtain ⟨v, q⟩ := I.cell x c e
    exact absurd (Nat.lt_of_lt_of_le q.lt (by rw [z]; exact hb)) (Nat.lt_irrefl _)
  · exact absurd (Nat.lt_of_lt_of_le (Heap.lt_size (I.pin p hp).1) (by rw [z]; exact hb)) (Nat.lt_irrefl _)
structure Turn (P : Program) (w : World) (K : PySem.W.Frag) (tg : Expr) (J : It) (fp : List Addr) (it : Addr) (tn : Nat -> Heap -> Prop) : Prop where
  mem : it ∈ fp
  obj : ∀ i h, tn i h -> ∀ b ∈ fp, ∃ o, h.get? b = some o /\ ∀ v, o.data ≠ .cell v
  keep : ∀ i h h', tn i h -> (∀ b ∈ fp, ∀ o, h.get? b = some o -> h'.get? b = some o) -> tn i h'
  item : ∀ (X : Cx), X.prog = P -> X.w = w -> X.K = K -> X.calm = true -> ∀ (i : Nat) (pins : List (Addr × Obj)) (s : Shared) (σ : St) (H : Hp) (E : Value -> Shared -> Prop), Inv X pins σ H s -> (∀ b ∈ fp, FpOk X pins H b) -> tn i s.heap -> J.go i H ->
    wpAny (model P w) X.A (pyNext (.ref it)) (λ r s1 => ∃ u, r = some u /\
      wpAny (model P w) X.A (letOwnedTupleGo tg (.ref it) u) (λ o_ s2 => ∃ x H', Inv X pins σ H' s2 /\ RelV x u /\ J.yld i H x H' /\ tn (i + 1) s2.heap /\ ∀ b ∈ fp, H' b = none) E s1) E s
  done : ∀ (X : Cx), X.prog = P -> X.w = w -> X.K = K -> X.calm = true -> ∀ (i : Nat) (pins : List (Addr × Obj)) (s : Shared) (σ : St) (H : Hp) (E : Value -> Shared -> Prop), Inv X pins σ H s -> (∀ b ∈ fp, FpOk X pins H b) -> tn i s.heap -> J.stop i H ->
    wpAny (model P w) X.A (pyNext (.ref it)) (λ r s1 => r = none /\ Inv X pins σ H s1) E s
  self : ∀ (A : Around) (i : Nat) (s : Shared) (Q : Value -> Shared -> Prop) (E : Value -> Shared -> Prop), tn i s.heap -> Q (.ref it) s -> wpAny (model P w) A (pyIter (.ref it)) Q E s
noncomputable abbrev TI := St -> Hp -> (It -> Hp -> Prop) -> Prop
noncomputable def PIE (X : Cx) (pins : List (Addr × Obj)) (σ : St) (tg : Expr) (R : It -> Hp -> Prop) (itv : Value) (s2 : Shared) : Prop :=
  ∃ (it : Addr) (fp : List Addr) (tn : Nat -> Heap -> Prop) (J : It) (H' : Hp), itv = .ref it /\ Inv X pins σ H' s2 /\ Turn X.prog X.w X.K tg J fp it tn /\ tn 0 s2.heap /\ (∀ b ∈ fp, FpOk X pins H' b) /\ R J H'
noncomputable def PI (X : Cx) (tg iter : Expr) (wi : TI) : Prop :=
  ∀ (pins : List (Addr × Obj)) (s : Shared) (σ : St) (H : Hp) (R : It -> Hp -> Prop), Inv X pins σ H s -> wi σ H R ->
    wpAny (model X.prog X.w) X.A (eval iter X.env) (λ v s1 => wpAny (model X.prog X.w) X.A (pyIter v) (PIE X pins σ tg R) X.xe s1) X.xe s
theorem go_of {M : Model} {A : Around} {E : Value -> Shared -> Prop} {s : Shared} {tg : Expr} {it : Addr} {u : Value} {o : Obj} {n : String} {vs : Array Value} {Q : Unit -> Shared -> Prop} (ho : s.heap.get? it = some o) (hc : o.cls = .type n) (hd : o.data = .fields vs)
    (hn : ["enumerate", "zip", "dict_itemiterator", "dict_reverseitemiterator", "odict_iterator", "itertools.zip_longest", "itertools.pairwise"].contains n = false) (hQ : Q () s) : wpAny M A (letOwnedTupleGo tg (.ref it) u) Q E s := by
  unfold letOwnedTupleGo
  cases tg <;> first
    | exact wpAny_pure hQ
    | (cases u <;> first
        | exact wpAny_pure hQ
        | (refine wpAny_bind (wpAny_load ho ?_)
           rw [hc, hd]
           show wpAny M A (if (["enumerate", "zip", "dict_itemiterator", "dict_reverseitemiterator", "odict_iterator", "itertools.zip_longest", "itertools.pairwise"].contains n && vs[0]? == some (rawInt _)) = true then _ else _) Q E s
           rw [if_neg (by intro h; rw [hn, Bool.false_and] at h; cases h)]
           exact wpAny_pure hQ))
noncomputable def Itl (K : PySem.W.Frag) (a : Addr) : It :=
  ⟨λ i H => ∃ xs x, SqL K H a xs /\ xs[i]? = some x, λ i H x H' => H' = H /\ ∀ xs, SqL K H a xs -> xs[i]? = some x, λ i H => ∃ xs, SqL K H a xs /\ xs.length <= i⟩
noncomputable def Itt (K : PySem.W.Frag) (a : Addr) : It :=
  ⟨λ i H => ∃ xs x, SqT K H a xs /\ xs[i]? = some x, λ i H x H' => H' = H /\ ∀ xs, SqT K H a xs -> xs[i]? = some x, λ i H => ∃ xs, SqT K H a xs /\ xs.length <= i⟩
noncomputable def Itr (lo : Int) (n : Nat) : It := ⟨λ i o_ => i < n, λ i H x H' => H' = H /\ x = .int (lo + i), λ i o_ => n <= i⟩
theorem turn_list {P : Program} {w : World} {K : PySem.W.Frag} {tg : Expr} (a it : Addr) : Turn P w K tg (Itl K a) [it] it (λ i h => h.IsListIter it a i) where
  mem := by simp
  obj := λ i h st b hb => by
    have e : b = it := by simpa using hb
    subst e
    obtain ⟨o, e, c, d⟩ := st
    exact ⟨o, e, λ v z => by rw [d] at z; cases z⟩
  keep := λ i h h' st k => st.at λ o e => k it (by simp) o e
  item := by
    intro X hP hw hK hc i pins s σ H E I hf st hg
    subst hP hw hK
    obtain ⟨xs, x, hq, hx⟩ := hg
    obtain ⟨its, rv, p, hz⟩ := I.list hq
    obtain ⟨u, hu, ru⟩ := rv.get hx
    obtain ⟨f0, f1, f2, f3, f4, f5⟩ := hf it (by simp)
    refine wpAny_pyNext_list_item st p.isList (x := u) (by simpa using hu) λ h' st' sb => ?_
    have I1 : Inv X pins σ H { s with heap := h' } := I.turned (t' := s.toks) (λ b o hb e => (sb.2 b hb).trans e) f0 f1 f3 f4 f5
    obtain ⟨o, e, c, d⟩ := id st'
    exact ⟨u, rfl, go_of (s := { s with heap := h' }) e c d (by decide) ⟨x, H, I1, ru, ⟨rfl, λ ys hy => by rw [I.list_inj hy hq]; exact hx⟩, st', λ b hb => (hf b hb).1⟩⟩
  done := by
    intro X hP hw hK hc i pins s σ H E I hf st hg
    subst hP hw hK
    obtain ⟨xs, hq, hx⟩ := hg
    obtain ⟨its, rv, p, hz⟩ := I.list hq
    obtain ⟨f0, f1, f2, f3, f4, f5⟩ := hf it (by simp)
    have hl := rv.length
    exact wpAny_pyNext_list_end (I.ok.hd hc) st p.isList (by simp; omega) λ h' eb => ⟨rfl, I.turned (t' := s.toks) (λ b o hb e => eb b o hb e) f0 f1 f3 f4 f5⟩
  self := λ o_ o_ o_ o_ o_ st h => wpAny_pyIter_listiter st h
theorem turn_tuple {P : Program} {w : World} {K : PySem.W.Frag} {tg : Expr} (a it : Addr) : Turn P w K tg (Itt K a) [it] it (λ i h => h.IsTupleIter it a i) where
  mem := by simp
  obj := λ i h st b hb => by
    have e : b = it := by simpa using hb
    subst e
    obtain ⟨o, e, c, d⟩ := st
    exact ⟨o, e, λ v z => by rw [d] at z; cases z⟩
  keep := λ i h h' st k => st.at λ o e => k it (by simp) o e
  item := by
    intro X hP hw hK hc i pins s σ H E I hf st hg
    subst hP hw hK
    obtain ⟨xs, x, hq, hx⟩ := hg
    obtain ⟨its, rv, p, hz⟩ := I.tuple hq
    obtain ⟨u, hu, ru⟩ := rv.get hx
    obtain ⟨f0, f1, f2, f3, f4, f5⟩ := hf it (by simp)
    refine wpAny_pyNext_tuple_item st (show s.heap.IsTuple a its.toArray from p) (x := u) (by simpa using hu) λ h' st' sb => ?_
    have I1 : Inv X pins σ H { s with heap := h' } := I.turned (t' := s.toks) (λ b o hb e => (sb.2 b hb).trans e) f0 f1 f3 f4 f5
    obtain ⟨o, e, c, d⟩ := id st'
    exact ⟨u, rfl, go_of (s := { s with heap := h' }) e c d (by decide) ⟨x, H, I1, ru, ⟨rfl, λ ys hy => by rw [I.tuple_inj hy hq]; exact hx⟩, st', λ b hb => (hf b hb).1⟩⟩
  done := by
    intro X hP hw hK hc i pins s σ H E I hf st hg
    subst hP hw hK
    obtain ⟨xs, hq, hx⟩ := hg
    obtain ⟨its, rv, p, hz⟩ := I.tuple hq
    obtain ⟨f0, f1, f2, f3, f4, f5⟩ := hf it (by simp)
    have hl := rv.length
    exact wpAny_pyNext_tuple_end (I.ok.hd hc) st (show s.heap.IsTuple a its.toArray from p) (by simp; omega) λ h' eb => ⟨rfl, I.turned (t' := s.toks) (λ b o hb e => eb b o hb e) f0 f1 f3 f4 f5⟩
  self := λ o_ o_ o_ o_ o_ st h => wpAny_pyIter_tupleiter st h
theorem turn_range {P : Program} {w : World} {K : PySem.W.Frag} {tg : Expr} (it : Addr) (lo : Int) (n : Nat) : Turn P w K tg (Itr lo n) [it] it (λ i h => IsRangeIter h it (lo + (i : Nat) * 1) ((n : Int) - (i : Nat)) 1) where
  mem := by simp
  obj := λ i h st b hb => by
    have e : b = it := by simpa using hb
    subst e
    exact ⟨_, st, λ v z => by
      have z' : Data.fields _ = Data.cell v := z
      cases z'⟩
  keep := λ i h h' st k => k it (by simp) _ st
  item := by
    intro X hP hw hK hc i pins s σ H E I hf st hg
    subst hP hw hK
    obtain ⟨f0, f1, f2, f3, f4, f5⟩ := hf it (by simp)
    have W := Walks.range (prog := X.prog) (w := X.w) (I.ok.hd hc) it lo 1 n
    refine W.item i s _ _ hg st λ v h' tk hv st' kk => ?_
    obtain ⟨t, rfl⟩ := hv
    have I1 : Inv X pins σ H { s with heap := h', toks := tk } := I.turned (λ b o hb e => kk b o (by simpa using hb) e) f0 f1 f3 f4 f5
    refine ⟨_, rfl, go_of (s := { s with heap := h', toks := tk }) (n := "range_iterator") st' rfl rfl (by decide) ⟨.int (lo + i), H, I1, ⟨t, ?_⟩, ⟨rfl, rfl⟩, st', λ b hb => (hf b hb).1⟩⟩
    rw [Int.mul_one]
  done := by
    intro X hP hw hK hc i pins s σ H E I hf st hg
    subst hP hw hK
    obtain ⟨f0, f1, f2, f3, f4, f5⟩ := hf it (by simp)
    exact wpAny_pyNext_range_end (I.ok.hd hc) st (by have : n <= i := hg; omega) λ h' eb => ⟨rfl, I.turned (t' := s.toks) (λ b o hb e => eb b o hb e) f0 f1 f3 f4 f5⟩
  self := λ o_ o_ o_ o_ o_ st h => wpAny_pyIter_rangeiter st h
end L2
namespace L2
open PySem PySem.Spec PyProof.Rows
section
variable {X : Cx} {tg : Expr}
noncomputable def iList (K : PySem.W.Frag) (tl : TE) : TI := λ σ H R => tl σ H λ x H1 => ∃ a, x = .ref a /\ (∃ xs, SqL K H1 a xs) /\ R (Itl K a) H1
noncomputable def iTup (K : PySem.W.Frag) (tl : TE) : TI := λ σ H R => tl σ H λ x H1 => ∃ a, x = .ref a /\ (∃ xs, SqT K H1 a xs) /\ R (Itt K a) H1
theorem pi_list {l : Expr} {tl : TE} (hl : PE X l tl) : PI X tg l (iList X.K tl) := by
  intro pins s σ H R I h
  refine thn (hl pins s σ H _ I h) λ v s1 ⟨x, H1, I1, r1, q1⟩ => ?_
  obtain ⟨a, e, ⟨xs, hq⟩, q⟩ := q1
  subst e
  cases r1
  obtain ⟨its, rv, p, hz⟩ := I1.list hq
  refine wpAny_pyIter_list p.isList ?_
  refine ⟨s1.heap.objs.size, [s1.heap.objs.size], _, _, H1, rfl, I1.kept (t' := s1.toks) λ b o e => Heap.get?_push_of_some _ e, turn_list a _, ⟨_, Heap.get?_push_size _ rfl, rfl, rfl⟩, λ b hb => ?_, q⟩
  have e : b = s1.heap.objs.size := by simpa using hb
  subst e
  exact I1.fpOk (Nat.le_refl _) (I1.hok.fresh (Nat.le_refl _))
theorem pi_tup {l : Expr} {tl : TE} (hl : PE X l tl) : PI X tg l (iTup X.K tl) := by
  intro pins s σ H R I h
  refine thn (hl pins s σ H _ I h) λ v s1 ⟨x, H1, I1, r1, q1⟩ => ?_
  obtain ⟨a, e, ⟨xs, hq⟩, q⟩ := q1
  subst e
  cases r1
  obtain ⟨its, rv, p, hz⟩ := I1.tuple hq
  refine wpAny_pyIter_tuple (show s1.heap.IsTuple a its.toArray from p) ?_
  refine ⟨s1.heap.objs.size, [s1.heap.objs.size], _, _, H1, rfl, I1.kept (t' := s1.toks) λ b o e => Heap.get?_push_of_some _ e, turn_tuple a _, ⟨_, Heap.get?_push_size _ rfl, rfl, rfl⟩, λ b hb => ?_, q⟩
  have e : b = s1.heap.objs.size := by simpa using hb
  subst e
  exact I1.fpOk (Nat.le_refl _) (I1.hok.fresh (Nat.le_refl _))
theorem range_it {pins : List (Addr × Obj)} {σ : St} {H : Hp} {s : Shared} {R : It -> Hp -> Prop} {E : Value -> Shared -> Prop} {lo hi : Int} {t u v : Tok} {tk : Nat} (I : Inv X pins σ H s) (h1 : -(2 ^ 62) <= lo) (h2 : lo < 2 ^ 62) (h3 : -(2 ^ 62) <= hi) (h4 : hi < 2 ^ 62)
    (q : R (Itr lo (hi - lo).toNat) H) : wpAny (model X.prog X.w) X.A (pyIter (.ref s.heap.objs.size)) (PIE X pins σ tg R) E { s with heap := s.heap.push { cls := .type "range", data := .fields #[.int lo t, .int hi u, .int 1 v] }, toks := tk } := by
  refine wpAny_pyIter_range (IsRange.new ..) (small_one h1 h2 h3 h4) ?_
  have I1 : Inv X pins σ H { s with heap := s.heap.push { cls := .type "range", data := .fields #[.int lo t, .int hi u, .int 1 v] }, toks := tk } := I.kept λ b o e => Heap.get?_push_of_some _ e
  refine ⟨(s.heap.push { cls := .type "range", data := .fields #[.int lo t, .int hi u, .int 1 v] }).objs.size, [(s.heap.push { cls := .type "range", data := .fields #[.int lo t, .int hi u, .int 1 v] }).objs.size], _, _, H, rfl,
    I1.kept (t' := tk) λ b o e => Heap.get?_push_of_some _ e, turn_range _ lo (hi - lo).toNat, ?_, λ b hb => ?_, q⟩
  · have e1 : lo + ((0 : Nat) : Int) * 1 = lo := by simp
    have e2 : (((hi - lo).toNat : Nat) : Int) - ((0 : Nat) : Int) = Builtin.Range.rangeSize lo hi 1 := by rw [rangeSize_one]; split <;> omega
    show IsRangeIter _ _ (lo + ((0 : Nat) : Int) * 1) ((((hi - lo).toNat : Nat) : Int) - ((0 : Nat) : Int)) 1
    rw [e1, e2]
    exact Heap.get?_push_size _ rfl
  · have e : b = (s.heap.push { cls := .type "range", data := .fields #[.int lo t, .int hi u, .int 1 v] }).objs.size := by simpa using hb
    subst e
    exact I1.fpOk (Nat.le_refl _) (I1.hok.fresh (Nat.le_refl _))
noncomputable def iRng1 (ta : TA) : TI := λ σ H R => ta σ H λ vs H1 => ∃ j : Int, vs = [.int j] /\ -(2 ^ 62) <= j /\ j < 2 ^ 62 /\ R (Itr 0 j.toNat) H1
theorem pi_range1 {a : Expr} {ta : TA} {p pos : Pos} (hg : Gl X "range") (hm : X.mg "range" = none) (ha : PA X [a] ta) (hs : starEach [a] X.env = [(false, eval a X.env)] := by rfl) : PI X tg (.Call (.Name "range" p) [a] [] pos) (iRng1 ta) := by
  intro pins s σ H R I h
  refine Call_ (ld_blt I hg hm boot_range (PyProof.Rows.callWith_type1 (thn (ha pos pins s σ H _ I h) λ us s1 ⟨vs, H1, I1, r1, q1⟩ => ?_) hs rfl))
  obtain ⟨j, e, q1, q2, q⟩ := q1
  subst e
  cases r1 with
  | cons r rr =>
    cases rr
    obtain ⟨t, rfl⟩ := r
    exact call_range_1 (range_it I1 (by omega) (by omega) q1 q2 (by simpa using q))
noncomputable def tFor (wi : TI) (g : TG) (tb : TS) : TS := λ D σ H => wi σ H λ J H1 => ∃ W : Nat -> Nat -> St -> Hp -> Prop, (∃ m, W 0 m σ H1) /\ ∀ i m σ H, W i m σ H ->
  (J.stop i H /\ D.nx σ H) \/ (J.go i H /\ ∃ N : St -> Hp -> Prop, (∀ σ' H', N σ' H' -> ∃ m', m' < m /\ W (i + 1) m' σ' H') /\ ∀ x H', J.yld i H x H' -> g x σ H' λ σ2 H2 => tb { D with nx := N, ct := N, bk := D.nx } σ2 H2)
noncomputable def pinsAt (fp : List Addr) (h : Heap) : List (Addr × Obj) := fp.filterMap λ b => (h.get? b).map λ o => (b, o)
theorem mem_pinsAt {fp : List Addr} {h : Heap} {b : Addr} {o : Obj} (hb : b ∈ fp) (e : h.get? b = some o) : (b, o) ∈ pinsAt fp h := List.mem_filterMap.mpr ⟨b, hb, by rw [e]; rfl⟩
theorem of_pinsAt {fp : List Addr} {h : Heap} {p : Addr × Obj} (hp : p ∈ pinsAt fp h) : p.1 ∈ fp /\ h.get? p.1 = some p.2 := by
  obtain ⟨b, hb, e⟩ := List.mem_filterMap.mp hp
  cases q : h.get? b with
  | none => rw [q] at e; cases e
  | some o =>
    rw [q] at e
    have e' : (b, o) = p := Option.some.inj e
    subst e'
    exact ⟨hb, q⟩
theorem Inv.pinned {pins : List (Addr × Obj)} {σ : St} {H : Hp} {s : Shared} {fp : List Addr} (I : Inv X pins σ H s) (hf : ∀ b ∈ fp, FpOk X pins H b) (ho : ∀ b ∈ fp, ∃ o, s.heap.get? b = some o /\ ∀ v, o.data ≠ .cell v) : Inv X (pins ++ pinsAt fp s.heap) σ H s :=
  I.pins_of λ p hp => (List.mem_append.mp hp).elim (λ z => I.pin p (List.mem_append_right _ z)) λ z => by
    obtain ⟨hb, e⟩ := of_pinsAt z
    obtain ⟨f0, f1, f2, _⟩ := hf p.1 hb
    obtain ⟨o, e', d⟩ := ho p.1 hb
    rw [e] at e'; cases e'
    exact ⟨e, f0, f1, f2, d⟩
theorem Inv.unpinned {pins pl : List (Addr × Obj)} {σ : St} {H : Hp} {s : Shared} (I : Inv X (pins ++ pl) σ H s) : Inv X pins σ H s := I.pins_of λ p hp => I.pin p (List.mem_append_right _ (List.mem_append_left _ hp))
theorem ps_for {iter : Expr} {body : List Stmt} {wi : TI} {g : TG} {tb : TS} {pos : Pos} (hp : PassesOwn (model X.prog X.w) X.A X.env X.xe) (hc : X.calm = true) (hi : PI X tg iter wi) (hg : PG X tg g) (hb : PSs X body tb)
    (hs : ∀ x, foldedSetIterable iter X.env x = pure x := by intro _; rfl) : PS X (.For tg iter body [] pos) (tFor wi g tb) := by
  intro pins s σ H D I h
  refine wpAny_For (thn (hi pins s σ H _ I h) λ v s1 h1 => thn h1 λ itv s2 h2 => ?_) hs
  obtain ⟨it, fp, tn, J, H2, e, I2, T, st2, f2, W, ⟨m0, w0⟩, turn⟩ := h2
  subst e
  -- what stays true of the iterator's objects through the loop
  have stat : ∀ {H' : Hp}, (∀ b ∈ fp, H' b = none) -> ∀ b ∈ fp, FpOk X pins H' b := λ hn b hb => ⟨hn b hb, (f2 b hb).2⟩
  refine codeAny_forLoop_any (λ n s' => ∃ i σ' H', Inv X pins σ' H' s' /\ tn i s'.heap /\ (∀ b ∈ fp, H' b = none) /\ W i n σ' H') ?_ m0 ⟨0, σ, H2, I2, st2, λ b hb => (f2 b hb).1, w0⟩
  rintro n s3 ⟨i, σ3, H3, I3, st3, fr3, w3⟩
  rcases turn i n σ3 H3 w3 with ⟨stop, qn⟩ | ⟨go, N, hN, step⟩
  · refine wpAny_passesOwn hp (thn (T.done X rfl rfl rfl hc i pins s3 σ3 H3 X.xe I3 (stat fr3) st3 stop) λ r s4 ⟨hr, I4⟩ => ?_)
    subst hr
    exact wpAny_execs_nil ⟨σ3, H3, I4, qn⟩
  · refine wpAny_passesOwn hp (thn (T.item X rfl rfl rfl hc i pins s3 σ3 H3 X.xe I3 (stat fr3) st3 go) λ r s4 ⟨u, hr, h4⟩ => ?_)
    subst hr
    refine wpAny_passesOwn hp (thn h4 λ o1_ s5 ⟨x, H5, I5, r5, y5, st5, fr5⟩ => ?_)
    have I5' := I5.pinned (stat fr5) (T.obj _ _ st5)
    refine wpAny_passesOwn hp (thn (hg _ s5 σ3 H5 x u _ I5' r5 (step x H5 y5)) λ o1_ s6 ⟨σ6, H6, I6, q6⟩ => ?_)
    refine wpAny_passesOwn hp (thn (hb _ s6 σ6 H6 _ I6 q6) λ f s7 q7 => ?_)
    have again : ∀ {σ7 : St} {H7 : Hp}, Inv X (pins ++ pinsAt fp s5.heap) σ7 H7 s7 -> N σ7 H7 -> ∃ m, m < n /\ ∃ i σ' H', Inv X pins σ' H' s7 /\ tn i s7.heap /\ (∀ b ∈ fp, H' b = none) /\ W i m σ' H' := λ {σ7 H7} I7 n7 => by
      obtain ⟨m', hm, w7⟩ := hN σ7 H7 n7
      refine ⟨m', hm, i + 1, σ7, H7, I7.unpinned, T.keep _ _ _ st5 λ b hb o e => (I7.pin (b, o) (List.mem_append_right _ (List.mem_append_right _ (mem_pinsAt hb e)))).1, λ b hb => ?_, w7⟩
      obtain ⟨o, e, d⟩ := T.obj _ _ st5 b hb
      exact (I7.pin (b, o) (List.mem_append_right _ (List.mem_append_right _ (mem_pinsAt hb e)))).2.1
    cases f with
    | next => obtain ⟨σ7, H7, I7, n7⟩ := q7; exact again I7 n7
    | cont => obtain ⟨σ7, H7, I7, n7⟩ := q7; exact again I7 n7
    | brk => obtain ⟨σ7, H7, I7, q7⟩ := q7; exact ⟨σ7, H7, I7.unpinned, q7⟩
    | ret v => obtain ⟨x7, σ7, H7, I7, r7, q7⟩ := q7; exact ⟨x7, σ7, H7, I7.unpinned, r7, q7⟩
end
theorem for_list {K : PySem.W.Frag} {a : Addr} {xs : List V} {g : TG} {tb : TS} {D : Ends} {σ : St} {H : Hp} (Pv : Nat -> St -> Hp -> Prop) (h0 : Pv 0 σ H) (hl : ∀ i σ H, i <= xs.length -> Pv i σ H -> SqL K H a xs)
    (hs : ∀ i x σ H, xs[i]? = some x -> Pv i σ H -> g x σ H λ σ2 H2 => tb { D with nx := Pv (i + 1), ct := Pv (i + 1), bk := D.nx } σ2 H2) (hd : ∀ σ H, Pv xs.length σ H -> D.nx σ H) :
    ∃ W : Nat -> Nat -> St -> Hp -> Prop, (∃ m, W 0 m σ H) /\ ∀ i m σ H, W i m σ H ->
      ((Itl K a).stop i H /\ D.nx σ H) \/ ((Itl K a).go i H /\ ∃ N : St -> Hp -> Prop, (∀ σ' H', N σ' H' -> ∃ m', m' < m /\ W (i + 1) m' σ' H') /\ ∀ x H', (Itl K a).yld i H x H' -> g x σ H' λ σ2 H2 => tb { D with nx := N, ct := N, bk := D.nx } σ2 H2) := by
  refine ⟨λ i m σ H => m = xs.length - i /\ i <= xs.length /\ Pv i σ H, ⟨xs.length, by simp, Nat.zero_le _, h0⟩, ?_⟩
  rintro i m σ H ⟨rfl, hi, p⟩
  have q := hl i σ H hi p
  by_cases hlt : i < xs.length
  · refine .inr ⟨⟨xs, xs[i], q, by simp [hlt]⟩, Pv (i + 1), λ σ' H' p' => ⟨xs.length - (i + 1), by omega, rfl, hlt, p'⟩, λ x H' y => ?_⟩
    obtain ⟨e, y⟩ := y
    subst e
    exact hs i x σ _ (y xs q) p
  · have e : i = xs.length := by omega
    subst e
    exact .inl ⟨⟨xs, q, Nat.le_refl _⟩, hd σ H p⟩
theorem for_tup {K : PySem.W.Frag} {a : Addr} {xs : List V} {g : TG} {tb : TS} {D : Ends} {σ : St} {H : Hp} (Pv : Nat -> St -> Hp -> Prop) (h0 : Pv 0 σ H) (hl : ∀ i σ H, i <= xs.length -> Pv i σ H -> SqT K H a xs)
    (hs : ∀ i x σ H, xs[i]? = some x -> Pv i σ H -> g x σ H λ σ2 H2 => tb { D with nx := Pv (i + 1), ct := Pv (i + 1), bk := D.nx } σ2 H2) (hd : ∀ σ H, Pv xs.length σ H -> D.nx σ H) :
    ∃ W : Nat -> Nat -> St -> Hp -> Prop, (∃ m, W 0 m σ H) /\ ∀ i m σ H, W i m σ H ->
      ((Itt K a).stop i H /\ D.nx σ H) \/ ((Itt K a).go i H /\ ∃ N : St -> Hp -> Prop, (∀ σ' H', N σ' H' -> ∃ m', m' < m /\ W (i + 1) m' σ' H') /\ ∀ x H', (Itt K a).yld i H x H' -> g x σ H' λ σ2 H2 => tb { D with nx := N, ct := N, bk := D.nx } σ2 H2) := by
  refine ⟨λ i m σ H => m = xs.length - i /\ i <= xs.length /\ Pv i σ H, ⟨xs.length, by simp, Nat.zero_le _, h0⟩, ?_⟩
  rintro i m σ H ⟨rfl, hi, p⟩
  have q := hl i σ H hi p
  by_cases hlt : i < xs.length
  · refine .inr ⟨⟨xs, xs[i], q, by simp [hlt]⟩, Pv (i + 1), λ σ' H' p' => ⟨xs.length - (i + 1), by omega, rfl, hlt, p'⟩, λ x H' y => ?_⟩
    obtain ⟨e, y⟩ := y
    subst e
    exact hs i x σ _ (y xs q) p
  · have e : i = xs.length := by omega
    subst e
    exact .inl ⟨⟨xs, q, Nat.le_refl _⟩, hd σ H p⟩
theorem for_range {lo : Int} {n : Nat} {g : TG} {tb : TS} {D : Ends} {σ : St} {H : Hp} (Pv : Nat -> St -> Hp -> Prop) (h0 : Pv 0 σ H)
    (hs : ∀ i σ H, i < n -> Pv i σ H -> g (.int (lo + i)) σ H λ σ2 H2 => tb { D with nx := Pv (i + 1), ct := Pv (i + 1), bk := D.nx } σ2 H2) (hd : ∀ σ H, Pv n σ H -> D.nx σ H) :
    ∃ W : Nat -> Nat -> St -> Hp -> Prop, (∃ m, W 0 m σ H) /\ ∀ i m σ H, W i m σ H ->
      ((Itr lo n).stop i H /\ D.nx σ H) \/ ((Itr lo n).go i H /\ ∃ N : St -> Hp -> Prop, (∀ σ' H', N σ' H' -> ∃ m', m' < m /\ W (i + 1) m' σ' H') /\ ∀ x H', (Itr lo n).yld i H x H' -> g x σ H' λ σ2 H2 => tb { D with nx := N, ct := N, bk := D.nx } σ2 H2) := by
  refine ⟨λ i m σ H => m = n - i /\ i <= n /\ Pv i σ H, ⟨n, by simp, Nat.zero_le _, h0⟩, ?_⟩
  rintro i m σ H ⟨rfl, hi, p⟩
  by_cases hlt : i < n
  · refine .inr ⟨hlt, Pv (i + 1), λ σ' H' p' => ⟨n - (i + 1), by omega, rfl, hlt, p'⟩, λ x H' y => ?_⟩
    obtain ⟨e, y⟩ := y
    subst e y
    exact hs i σ _ hlt p
  · have e : i = n := by omega
    subst e
    exact .inl ⟨Nat.le_refl _, hd σ H p⟩
end L2
namespace L2
open PySem PySem.Spec PyProof.Rows
noncomputable abbrev R2 := V -> V -> Hp -> VK -> Prop
noncomputable def OpR (X : Cx) (f : Value -> Value -> Sem Value) (r : R2) : Prop :=
  ∀ (pins : List (Addr × Obj)) (s : Shared) (σ : St) (H : Hp) (x y : V) (v u : Value) (Q : VK), Inv X pins σ H s -> RelV x v -> RelV y u -> r x y H Q ->
    wpAny (model X.prog X.w) X.A (f v u) (EP X pins σ Q) X.xe s
noncomputable def CallR (X : Cx) (f : Value) (r : List V -> Hp -> VK -> Prop) : Prop :=
  ∀ (pins : List (Addr × Obj)) (s : Shared) (σ : St) (H : Hp) (xs : List V) (us : List Value) (Q : VK), Inv X pins σ H s -> Vals xs us -> r xs H Q ->
    wpAny (model X.prog X.w) X.A (call f us) (EP X pins σ Q) X.xe s
noncomputable def TruR (X : Cx) (r : V -> Hp -> (Bool -> Hp -> Prop) -> Prop) : Prop :=
  ∀ (pins : List (Addr × Obj)) (s : Shared) (σ : St) (H : Hp) (x : V) (v : Value) (Q : Bool -> Hp -> Prop), Inv X pins σ H s -> RelV x v -> r x H Q ->
    wpAny (model X.prog X.w) X.A (truthy v) (TP X pins σ Q) X.xe s
noncomputable def tOp (r : R2) (ta tb : TE) : TE := λ σ H Q => ta σ H λ x H1 => tb σ H1 λ y H2 => r x y H2 Q
noncomputable def rI (C : Int -> Int -> Prop) (g : Int -> Int -> V) : R2 := λ x y H Q => ∃ i j, x = .int i /\ y = .int j /\ C i j /\ Q (g i j) H
noncomputable def rI0 (g : Int -> Int -> V) : R2 := λ x y H Q => ∃ i j, x = .int i /\ y = .int j /\ Q (g i j) H
section
variable {X : Cx} {a b c : Expr} {ta tb tc : TE} {pos : Pos}
theorem binT (ha : PE X a ta) (hb : PE X b tb) {pins : List (Addr × Obj)} {s : Shared} {σ : St} {H : Hp} {R : V -> V -> Hp -> Prop} (I : Inv X pins σ H s)
    (h : ta σ H λ x H1 => tb σ H1 λ y H2 => R x y H2) {Q : Value -> Shared -> Prop} {f : Value -> Value -> Sem Value}
    (hf : ∀ v u s2 x y H2, Inv X pins σ H2 s2 -> RelV x v -> RelV y u -> R x y H2 -> wpAny (model X.prog X.w) X.A (f v u) Q X.xe s2) :
    wpAny (model X.prog X.w) X.A (eval a X.env) (λ v s₁ => wpAny (model X.prog X.w) X.A (eval b X.env) (λ u s₂ => wpAny (model X.prog X.w) X.A (f v u) Q X.xe s₂) X.xe s₁) X.xe s := by
  refine thn (ha pins s σ H _ I h) λ v s1 ⟨x, H1, I1, r1, q1⟩ => ?_
  refine thn (hb pins s1 σ H1 _ I1 q1) λ u s2 ⟨y, H2, I2, r2, q2⟩ => ?_
  exact hf v u s2 x y H2 I2 r1 r2 q2
theorem pe_op {op : Operator} {r : R2} (ho : OpR X (binaryOp op) r) (ha : PE X a ta) (hb : PE X b tb) : PE X (.BinOp a op b pos) (tOp r ta tb) := by
  intro pins s σ H Q I h
  exact wpAny_BinOp (binT ha hb I h λ v u s2 x y H2 I2 rx ry q => ho pins s2 σ H2 x y v u Q I2 rx ry q)
theorem opI {f : Value -> Value -> Sem Value} {C : Int -> Int -> Prop} {g : Int -> Int -> Int}
    (rule : ∀ (i j : Int) (t u : Tok) (s : Shared) (Q : Value -> Shared -> Prop) (E : Value -> Shared -> Prop), C i j -> Q (.int (g i j) s.toks) { s with toks := s.toks + 1 } -> wpAny (model X.prog X.w) X.A (f (.int i t) (.int j u)) Q E s) :
    OpR X f (rI C λ i j => .int (g i j)) := by
  intro pins s σ H x y v u Q I rx ry h
  obtain ⟨i, j, rfl, rfl, hc, q⟩ := h
  obtain ⟨t, rfl⟩ := rx
  obtain ⟨t', rfl⟩ := ry
  exact rule i j t t' s _ _ hc ⟨.int (g i j), H, I.tok _, ⟨_, rfl⟩, q⟩
theorem opI0 {f : Value -> Value -> Sem Value} {g : Int -> Int -> Int}
    (rule : ∀ (i j : Int) (t u : Tok) (s : Shared) (Q : Value -> Shared -> Prop) (E : Value -> Shared -> Prop), Q (.int (g i j) s.toks) { s with toks := s.toks + 1 } -> wpAny (model X.prog X.w) X.A (f (.int i t) (.int j u)) Q E s) :
    OpR X f (rI0 λ i j => .int (g i j)) := by
  intro pins s σ H x y v u Q I rx ry h
  obtain ⟨i, j, rfl, rfl, q⟩ := h
  obtain ⟨t, rfl⟩ := rx
  obtain ⟨t', rfl⟩ := ry
  exact rule i j t t' s _ _ ⟨.int (g i j), H, I.tok _, ⟨_, rfl⟩, q⟩
theorem opB0 {f : Value -> Value -> Sem Value} {g : Int -> Int -> Bool}
    (rule : ∀ (i j : Int) (t u : Tok) (s : Shared) (Q : Value -> Shared -> Prop) (E : Value -> Shared -> Prop), Q (.bool (g i j)) s -> wpAny (model X.prog X.w) X.A (f (.int i t) (.int j u)) Q E s) :
    OpR X f (rI0 λ i j => .bl (g i j)) := by
  intro pins s σ H x y v u Q I rx ry h
  obtain ⟨i, j, rfl, rfl, q⟩ := h
  obtain ⟨t, rfl⟩ := rx
  obtain ⟨t', rfl⟩ := ry
  exact rule i j t t' s _ _ ⟨.bl (g i j), H, I, rfl, q⟩
noncomputable def CDiv (i j : Int) : Prop := 0 < j /\ j < 1073741824
noncomputable def CMul (i j : Int) : Prop := (-(2 ^ 64) < i /\ i < 2 ^ 64) \/ (-(2 ^ 64) < j /\ j < 2 ^ 64)
theorem CMul.ok {i j : Int} (h : CMul i j) : IntMulOk i j := by
  rcases h with ⟨h1, h2⟩ | ⟨h1, h2⟩
  · exact .of_left (intBits_le_64 h1 h2)
  · exact .of_right (intBits_le_64 h1 h2)
theorem op_add : OpR X (binaryOp .Add) (rI0 λ i j => .int (i + j)) := opI0 λ o_ o_ o_ o_ o_ o_ o_ q => add_int q
theorem op_sub : OpR X (binaryOp .Sub) (rI0 λ i j => .int (i - j)) := opI0 λ o_ o_ o_ o_ o_ o_ o_ q => sub_int q
theorem op_mul : OpR X (binaryOp .Mult) (rI CMul λ i j => .int (i * j)) := opI λ o_ o_ o_ o_ o_ o_ o_ hc q => mul_int q hc.ok
theorem op_fdiv : OpR X (binaryOp .FloorDiv) (rI CDiv λ i j => .int (i / j)) := opI λ i j o_ o_ o_ o_ o_ hc q => by
  have h1 : (0 : Int) < j := hc.1
  have h2 : j < 1073741824 := hc.2
  exact floordiv_int (by omega) (by rw [Int.fdiv_eq_ediv_of_nonneg i (by omega)]; exact q) (.inl (PyProof.noPylong_small (by omega)))
theorem op_mod : OpR X (binaryOp .Mod) (rI (λ o_ j => 0 < j) λ i j => .int (i % j)) := opI λ i j o_ o_ o_ o_ o_ hc q => by
  have h1 : (0 : Int) < j := hc
  exact mod_int' (by omega) (by rw [Int.fmod_eq_emod_of_nonneg i (by omega)]; exact q)
end
noncomputable def scal : V -> V -> Bool
  | .non, .non => true | .non, .int _ => true | .int _, .non => true | .non, .bl _ => true | .bl _, .non => true | .non, .str _ => true | .str _, .non => true
  | .int _, .int _ => true | .bl _, .bl _ => true | .str _, .str _ => true | .byt _, .byt _ => true
  | .int _, .str _ => true | .str _, .int _ => true | .bl _, .str _ => true | .str _, .bl _ => true
  | _, _ => false
noncomputable def rEq : R2 := λ x y H Q => scal x y = true /\ Q (.bl (decide (x = y))) H
noncomputable def rNe : R2 := λ x y H Q => scal x y = true /\ Q (.bl (!decide (x = y))) H
theorem dec_int {i j : Int} : decide (V.int i = V.int j) = (i == j) := by
  rw [Bool.eq_iff_iff]
  simp
theorem dec_bl {i j : Bool} : decide (V.bl i = V.bl j) = (i == j) := by
  rw [Bool.eq_iff_iff]
  simp
theorem dec_str {i j : Str} : decide (V.str i = V.str j) = (i == j) := by
  rw [Bool.eq_iff_iff]
  simp
theorem dec_byt {i j : Array UInt8} : decide (V.byt i = V.byt j) = (i.toList == j.toList) := by
  rw [Bool.eq_iff_iff]
  cases i
  cases j
  simp
section
variable {X : Cx} {a b c : Expr} {ta tb tc : TE} {pos : Pos}
theorem fin_bl {pins : List (Addr × Obj)} {σ : St} {H : Hp} {s : Shared} {Q : VK} {k k' : Bool} (I : Inv X pins σ H s) (q : Q (.bl k) H) (e : k = k') : EP X pins σ Q (.bool k') s := by
  subst e
  exact ⟨.bl k, H, I, rfl, q⟩
theorem op_eq : OpR X (compareOp .Eq) rEq := by
  intro pins s σ H x y v u Q I rx ry h
  obtain ⟨hs, q⟩ := h
  cases x with
  | non =>
    cases rx
    cases y with
    | non => cases ry; exact PySem.EqNone.eq_none_none (fin_bl I q (by simp))
    | bl j => cases ry; exact PySem.EqNone.eq_none_bool (fin_bl I q (by simp))
    | int j => obtain ⟨t', rfl⟩ := ry; exact PySem.EqNone.eq_none_int (fin_bl I q (by simp))
    | str j => obtain ⟨t', rfl⟩ := ry; exact PySem.EqNone.eq_none_str (fin_bl I q (by simp))
    | _ => exact absurd (show false = true from hs) Bool.false_ne_true
  | bl i =>
    cases rx
    cases y with
    | non => cases ry; exact PySem.EqNone.eq_bool_none (fin_bl I q (by simp))
    | bl j => cases ry; exact eq_bool (fin_bl I q dec_bl)
    | str j => obtain ⟨t', rfl⟩ := ry; exact PySem.EqMixed.eq_bool_str (fin_bl I q (by simp))
    | _ => exact absurd (show false = true from hs) Bool.false_ne_true
  | int i =>
    obtain ⟨t, rfl⟩ := rx
    cases y with
    | non => cases ry; exact PySem.EqNone.eq_int_none (fin_bl I q (by simp))
    | int j => obtain ⟨t', rfl⟩ := ry; exact eq_int (fin_bl I q dec_int)
    | str j => obtain ⟨t', rfl⟩ := ry; exact PySem.EqMixed.eq_int_str (fin_bl I q (by simp))
    | _ => exact absurd (show false = true from hs) Bool.false_ne_true
  | str i =>
    obtain ⟨t, rfl⟩ := rx
    cases y with
    | non => cases ry; exact PySem.EqNone.eq_str_none (fin_bl I q (by simp))
    | bl j => cases ry; exact PySem.EqMixed.eq_str_bool (fin_bl I q (by simp))
    | int j => obtain ⟨t', rfl⟩ := ry; exact PySem.EqMixed.eq_str_int (fin_bl I q (by simp))
    | str j => obtain ⟨t', rfl⟩ := ry; exact eq_str (fin_bl I q dec_str)
    | _ => exact absurd (show false = true from hs) Bool.false_ne_true
  | byt i =>
    obtain ⟨t, rfl⟩ := rx
    cases y with
    | byt j => obtain ⟨t', rfl⟩ := ry; exact PySem.W.eq_bytes (fin_bl I q dec_byt)
    | _ => exact absurd (show false = true from hs) Bool.false_ne_true
  | _ => cases y <;> exact absurd (show false = true from hs) Bool.false_ne_true
theorem op_ne : OpR X (compareOp .NotEq) rNe := by
  intro pins s σ H x y v u Q I rx ry h
  obtain ⟨hs, q⟩ := h
  cases x with
  | non =>
    cases rx
    cases y with
    | non => cases ry; exact PySem.EqNone.ne_none_none (fin_bl I q (by simp))
    | bl j => cases ry; exact PySem.EqNone.ne_none_bool (fin_bl I q (by simp))
    | int j => obtain ⟨t', rfl⟩ := ry; exact PySem.EqNone.ne_none_int (fin_bl I q (by simp))
    | str j => obtain ⟨t', rfl⟩ := ry; exact PySem.EqNone.ne_none_str (fin_bl I q (by simp))
    | _ => exact absurd (show false = true from hs) Bool.false_ne_true
  | bl i =>
    cases rx
    cases y with
    | non => cases ry; exact PySem.EqNone.ne_bool_none (fin_bl I q (by simp))
    | bl j => cases ry; exact ne_bool (fin_bl I q (congrArg not dec_bl))
    | str j => obtain ⟨t', rfl⟩ := ry; exact PySem.EqMixed.ne_bool_str (fin_bl I q (by simp))
    | _ => exact absurd (show false = true from hs) Bool.false_ne_true
  | int i =>
    obtain ⟨t, rfl⟩ := rx
    cases y with
    | non => cases ry; exact PySem.EqNone.ne_int_none (fin_bl I q (by simp))
    | int j => obtain ⟨t', rfl⟩ := ry; exact ne_int (fin_bl I q (congrArg not dec_int))
    | str j => obtain ⟨t', rfl⟩ := ry; exact PySem.EqMixed.ne_int_str (fin_bl I q (by simp))
    | _ => exact absurd (show false = true from hs) Bool.false_ne_true
  | str i =>
    obtain ⟨t, rfl⟩ := rx
    cases y with
    | non => cases ry; exact PySem.EqNone.ne_str_none (fin_bl I q (by simp))
    | bl j => cases ry; exact PySem.EqMixed.ne_str_bool (fin_bl I q (by simp))
    | int j => obtain ⟨t', rfl⟩ := ry; exact PySem.EqMixed.ne_str_int (fin_bl I q (by simp))
    | str j => obtain ⟨t', rfl⟩ := ry; exact ne_str (fin_bl I q (congrArg not dec_str))
    | _ => exact absurd (show false = true from hs) Bool.false_ne_true
  | byt i =>
    obtain ⟨t, rfl⟩ := rx
    cases y with
    | byt j => obtain ⟨t', rfl⟩ := ry; exact PySem.W.ne_bytes (fin_bl I q (congrArg not dec_byt))
    | _ => exact absurd (show false = true from hs) Bool.false_ne_true
  | _ => cases y <;> exact absurd (show false = true from hs) Bool.false_ne_true
theorem op_lt : OpR X (compareOp .Lt) (rI0 λ i j => .bl (decide (i < j))) := opB0 λ o_ o_ o_ o_ o_ o_ o_ q => lt_int q
theorem op_le : OpR X (compareOp .LtE) (rI0 λ i j => .bl (decide (i <= j))) := opB0 λ o_ o_ o_ o_ o_ o_ o_ q => le_int q
theorem op_gt : OpR X (compareOp .Gt) (rI0 λ i j => .bl (decide (j < i))) := opB0 λ o_ o_ o_ o_ o_ o_ o_ q => gt_int q
theorem op_ge : OpR X (compareOp .GtE) (rI0 λ i j => .bl (decide (j <= i))) := opB0 λ o_ o_ o_ o_ o_ o_ o_ q => ge_int q
noncomputable def isObj : HO -> Bool
  | .lst _ => true
  | .ins _ _ _ => true
  | _ => false
theorem nomark (b : Expr) {op : CmpOp} (h : op ≠ .In := by decide) (h2 : op ≠ .NotIn := by decide) : behindInMarks op b = false := by
  have e1 : (op == CmpOp.In) = false := by cases op <;> first | rfl | exact absurd rfl h
  have e2 : (op == CmpOp.NotIn) = false := by cases op <;> first | rfl | exact absurd rfl h2
  cases b <;> simp [behindInMarks, e1, e2]
theorem pe_cmpR {op : CmpOp} {r : R2} (ho : OpR X (compareOp op) r) (ha : PE X a ta) (hb : PE X b tb) (hm : behindInMarks op b = false) : PE X (.Compare a [op] [b] pos) (tOp r ta tb) := by
  intro pins s σ H Q I h
  exact wpAny_Compare1 (binT ha hb I h λ v u s2 x y H2 I2 rx ry q => ho pins s2 σ H2 x y v u Q I2 rx ry q) hm
noncomputable def tTest (t : TE) : TT := λ σ H Q => t σ H λ x H' => ∃ k, x = .bl k /\ Q k H'
theorem pt_cmpR {op : CmpOp} {r : R2} (ho : OpR X (compareOp op) r) (ha : PE X a ta) (hb : PE X b tb) (hm : behindInMarks op b = false) : PT X (.Compare a [op] [b] pos) (tTest (tOp r ta tb)) := by
  intro pins s σ H Q I h
  refine wpAny_isTrue_Compare1 (thn (ha pins s σ H _ I h) λ v s1 ⟨x, H1, I1, r1, q1⟩ => thn (hb pins s1 σ H1 _ I1 q1) λ u s2 ⟨y, H2, I2, r2, q2⟩ =>
    thn (ho pins s2 σ H2 x y v u _ I2 r1 r2 q2) λ c s3 ⟨z, H3, I3, r3, k, e, q3⟩ => ?_) hm
  subst e
  cases r3
  exact wpAny_truthy_bool ⟨H3, I3, q3⟩
noncomputable def tChain (r r' : R2) (ta tb tc : TE) : TE := λ σ H Q => ta σ H λ x H1 => tb σ H1 λ y H2 => r x y H2 λ z H3 => ∃ k, z = .bl k /\
  (if k = true then tc σ H3 λ w' H4 => r' y w' H4 Q else Q (.bl false) H3)
theorem pe_chain {op op' : CmpOp} {r r' : R2} (ho : OpR X (compareOp op) r) (ho' : OpR X (compareOp op') r') (ha : PE X a ta) (hb : PE X b tb) (hc : PE X c tc)
    (hm : lastMarks [op, op'] [b, c] = false := by with_unfolding_all rfl) : PE X (.Compare a [op, op'] [b, c] pos) (tChain r r' ta tb tc) := by
  intro pins s σ H Q I h
  refine Compare_chain (thn (ha pins s σ H _ I h) λ v s1 ⟨x, H1, I1, r1, q1⟩ => chain_link (thn (hb pins s1 σ H1 _ I1 q1) λ u s2 ⟨y, H2, I2, r2, q2⟩ =>
    thn (ho pins s2 σ H2 x y v u _ I2 r1 r2 q2) λ d s3 ⟨z, H3, I3, r3, k, e, q3⟩ => ?_)) hm
  subst e
  cases r3
  refine wpAny_truthy_bool ?_
  cases k with
  | false => exact ite_ff ⟨.bl false, H3, I3, rfl, q3⟩
  | true => exact ite_tt (chain_last (thn (hc pins s3 σ H3 _ I3 q3) λ w' s4 ⟨z', H4, I4, r4, q4⟩ => ho' pins s4 σ H4 y z' u w' Q I4 r2 r4 q4))
noncomputable def TruV (K : PySem.W.Frag) (x : V) (H : Hp) (k : Bool) : Prop :=
  match x with
  | .non => k = false
  | .bl b => k = b
  | .int i => k = (i != 0)
  | .str y => y.length <= sizeLine /\ k = ((y.length : Int) != 0)
  | .byt y => y.size <= sizeLine /\ k = ((y.size : Int) != 0)
  | .ref p => (∃ xs, SqL K H p xs /\ k = !xs.isEmpty) \/ (∃ xs, SqT K H p xs /\ k = !xs.isEmpty) \/ ∃ kvs, H p = some (.dK kvs) /\ k = !kvs.isEmpty
  | _ => False
theorem isEmpty_kv {κ : Type} {kvs : List (κ × V)} {vs : List (κ × Value)} (r : KV kvs vs) : (!vs.isEmpty) = !kvs.isEmpty := by
  cases r <;> rfl
theorem isEmpty_of {xs : List V} {its : List Value} (r : Vals xs its) : (!its.toArray.isEmpty) = !xs.isEmpty := by
  cases r <;> simp
theorem line63 : (sizeLine : Nat) < 2 ^ 63 := by rw [sizeLine_eq]; decide
theorem tru_ok : TruR X (λ x H Q => ∃ k, TruV X.K x H k /\ Q k H) := by
  intro pins s σ H x v Q I rx h
  obtain ⟨k, e, q⟩ := h
  have hl := line63
  have hs : sizeLine = 16777216 := sizeLine_eq
  cases x with
  | non =>
    cases rx
    have e' : k = false := e
    subst e'
    exact truthy_none ⟨H, I, q⟩
  | bl b =>
    cases rx
    have e' : k = b := e
    subst e'
    exact wpAny_truthy_bool ⟨H, I, q⟩
  | int i =>
    obtain ⟨t, rfl⟩ := rx
    have e' : k = (i != 0) := e
    subst e'
    exact PySem.P.truthy_int ⟨H, I, q⟩
  | str y =>
    obtain ⟨t, rfl⟩ := rx
    obtain ⟨hy, e'⟩ : y.length <= sizeLine /\ k = ((y.length : Int) != 0) := e
    subst e'
    exact PySem.P.truthy_str (by omega) ⟨H, I.tok _, q⟩
  | byt y =>
    obtain ⟨t, rfl⟩ := rx
    obtain ⟨hy, e'⟩ : y.size <= sizeLine /\ k = ((y.size : Int) != 0) := e
    subst e'
    exact PySem.W.truthy_bytes (by omega) ⟨H, I.tok _, q⟩
  | ref p =>
    cases rx
    have e' : (∃ xs, SqL X.K H p xs /\ k = !xs.isEmpty) \/ (∃ xs, SqT X.K H p xs /\ k = !xs.isEmpty) \/ ∃ kvs, H p = some (.dK kvs) /\ k = !kvs.isEmpty := e
    rcases e' with ⟨xs, hx, e'⟩ | ⟨xs, hx, e'⟩ | ⟨kvs, hx, e'⟩
    · subst e'
      obtain ⟨its, r, pl, hz⟩ := I.list hx
      have hlen := r.length
      exact wpAny_truthy_list pl.isList (by simp only [List.size_toArray]; omega) ⟨H, I.tok _, by rw [isEmpty_of r]; exact q⟩
    · subst e'
      obtain ⟨its, r, pl, hz⟩ := I.tuple hx
      have hlen := r.length
      exact truthy_tuple pl (by simp only [List.size_toArray]; omega) ⟨H, I.tok _, by rw [isEmpty_of r]; exact q⟩
    · subst e'
      obtain ⟨hz, hS, vs, r, m⟩ : kvs.length <= sizeLine /\ (p == sysModules) = false /\ ∃ vs, KV kvs vs /\ s.heap.DictOf (mixKind X.prog X.w) p vs := I.hok p _ hx
      have hlen : kvs.length = vs.length := Paired.length r
      exact wpAny_truthy_dict hS m (by omega) ⟨H, I.tok _, by rw [isEmpty_kv r]; exact q⟩
  | _ => exact (show False from e).elim
theorem pt_truth (ha : PE X a ta) (he : ∀ whole, isTrue a X.env whole = (do let v <- whole; standAt a.pos; holding [v] (truthy v))) :
    PT X a (λ σ H Q => ta σ H λ x H' => ∃ k, TruV X.K x H' k /\ Q k H') := by
  intro pins s σ H Q I h
  exact isTrue_plain (thn (ha pins s σ H _ I h) λ v s1 ⟨x, H1, I1, r1, q1⟩ => tru_ok pins s1 σ H1 x v Q I1 r1 q1) (he _)
theorem op_add_str : OpR X (binaryOp .Add) (λ x y H Q => ∃ i j, x = .str i /\ y = .str j /\ i.length + j.length <= sizeLine /\ Q (.str (i ++ j)) H) := by
  intro pins s σ H x y v u Q I rx ry h
  obtain ⟨i, j, rfl, rfl, hz, q⟩ := h
  obtain ⟨t, rfl⟩ := rx
  obtain ⟨t', rfl⟩ := ry
  exact add_str (λ t' tk => ⟨.str (i ++ j), H, I.tok _, ⟨_, rfl⟩, q⟩) hz
theorem vals1 {x : V} {us : List Value} (r : Vals [x] us) : ∃ u, us = [u] /\ RelV x u := by
  cases r with
  | cons r1 r2 => cases r2; exact ⟨_, rfl, r1⟩
end
end L2
namespace L2
open PySem PySem.Spec PyProof.Rows
structure ObjM (h : Heap) (x dx C : Addr) (mA : Str -> Option Value) : Prop where
  obj : h.get? x = some (PySem.W.instObj C dx)
  ns : h.Ns1 dx mA
  ne : dx ≠ x
set_option tactic.hygienic true in
theorem lookIn_ns {h : Heap} {dx : Addr} {mA : Str -> Option Value} (n : h.Ns1 dx mA) : ∃ od, h.get? dx = some od /\ ∀ name, PySem.W.lookIn name od = some (mA name) := by
  obtain ⟨o, es, ep, ho, hd, hk, _, hm⟩ := n
  refine ⟨o, ho, λ name => ?_⟩
  have e := hm name
  unfold nsFind findBy at e
  rw [<- Array.find?_toList] at e
  unfold PySem.W.lookIn
  rw [hd]
  dsimp only
  split
  · rename_i y q
    rw [q] at e
    exact congrArg some e
  · rename_i q
    rw [q] at e
    have a : es.toList.any (·.refKey) = false := by
      rw [List.any_eq_false]
      intro y hy
      obtain ⟨z, t, hkey⟩ := hk y (Array.mem_toList_iff.mp hy)
      simp [DictEntry.refKey, hkey]
    have a' : ¬ es.toList.any (·.refKey) = true := by rw [a]; exact Bool.false_ne_true
    rw [if_neg a']
    exact congrArg some e
theorem ObjM.look {h : Heap} {x dx C : Addr} {mA : Str -> Option Value} (I : ObjM h x dx C mA) : ∃ od, PySem.W.InstAt h x (PySem.W.instObj C dx) C (some od) /\ ∀ name, PySem.W.lookIn name od = some (mA name) :=
  let ⟨od, ho, hl⟩ := lookIn_ns I.ns
  ⟨od, ⟨I.obj, rfl, rfl, ho⟩, hl⟩
section
variable {prog : Program} {w : World} {A : Around} {E : Value -> Shared -> Prop} {s : Shared} {K : PySem.W.Frag} {x dx C f : Addr} {mA : Str -> Option Value} {name : Str} {v : Value}
theorem get_map {expr : Bool} {Q : Value -> Shared -> Prop} (X : K.In s.heap) (I : ObjM s.heap x dx C mA) (hg : PySem.W.plainGet K C name = true) (hh : PySem.W.hasDictIn K C = true)
    (ha : PySem.W.findIn K (.ref C) name = some none) (hv : mA name = some v) (hv' : PySem.W.handedIn v = true) (h : Q v { s with toks := s.toks + 1 }) :
    wpAny (model prog w) A (getAttr (.ref x) name expr) Q E s := by
  obtain ⟨od, J, hl⟩ := I.look
  exact PySem.W.get_value X J (PySem.W.plainGet_of hg).1 (PySem.W.findObj_own hh ha rfl (by rw [hl, hv])) hv' h
theorem get_meth {pl : Sem Bool} {Q : Value × List Value -> Shared -> Prop} (X : K.In s.heap) (I : ObjM s.heap x dx C mA) (hg : PySem.W.plainGet K C name = true)
    (hf : PySem.W.findIn K (.ref C) name = some (some (.ref f))) (ht : PySem.W.isFn K (.ref f) = true) (hv : mA name = none) (h : Q (.ref f, [.ref x]) s) :
    wpAny (model prog w) A (getMethod (.ref x) name pl) Q E s := by
  obtain ⟨od, J, hl⟩ := I.look
  exact PySem.W.method_fn X J (PySem.W.plainGet_of hg).1 (PySem.W.plainGet_of hg).2 hf (beq_iff_eq.mp ht) (by show (PySem.W.lookIn name od).map (·.isSome) = some false; rw [hl, hv]; rfl) h
theorem set_map {ns : List Str} {Q : Unit -> Shared -> Prop} (X : K.In s.heap) (I : ObjM s.heap x dx C mA)
    (hs : PySem.W.findIn K (.ref C) "__setattr__" = some (some (.builtin "object.__setattr__"))) (hp : PySem.W.plainOver K C = true) (ht : PySem.W.takerIn K C name = some none) (hh : PySem.W.hasDictIn K C = true)
    (hw : PySem.Within mA ns) (hsz : ns.length <= sizeLine)
    (h : ∀ h', ObjM h' x dx C (λ y => if y = name then some v else mA y) -> Heap.SameBut dx s.heap h' -> Q () { s with heap := h', toks := s.toks + 2 }) :
    wpAny (model prog w) A (setAttr (.ref x) name v) Q E s := by
  obtain ⟨od, J, hl⟩ := I.look
  refine PySem.W.set_plain X J hs (PySem.W.osa_open (s := { s with toks := s.toks + 1 }) (r := none) X J hp ht λ b => ?_)
  obtain ⟨cd, hc, hd'⟩ := PySem.W.any_some hh
  have hx : s.heap.get? x = some ⟨.ref C, some dx, .plain, #[]⟩ := I.obj
  refine wpAny_bind (wpAny_pure (wpAny_bind (wpAny_bind (wpAny_loadPart hx (wpAny_bind (PySem.W.Looks.here (s := { s with toks := s.toks + 1 }) (PySem.W.looks_clsIn X hc) ?_))))))
  rw [hd']
  refine wpAny_pure (a := some dx) (wpAny_bind (wpAny_pure (wpAny_bind ?_)))
  refine wpAny_nsSet1 (s := { s with toks := s.toks + 1 }) I.ns λ h' hn2 hs2 => ?_
  obtain ⟨oD, esD, epD, hoD, hdD, hcD⟩ := hn2.count (PySem.Within.cons name v hw)
  refine wpAny_bind (wpAny_lookBehind hoD (by rw [hdD]; exact pastItsLine_dict (Nat.le_trans hcD (by rw [List.length_cons]; omega))) ?_)
  exact wpAny_pure (h _ ⟨(hs2.2 _ (Ne.symm I.ne)).trans I.obj, hn2, I.ne⟩ hs2)
theorem make_map {R : Result -> Shared -> Prop} {vs : List Value} {kw : List (Str × Value)} (X : K.In s.heap) (hm : PySem.W.makesIn K C = true)
    (hi : PySem.W.findIn K (.ref C) "__init__" = some (some (.ref f))) (hf : PySem.W.typeIn K (.ref f) = some (.type "function"))
    (h : codeAny (model prog w) (A.under (.builtin "type.__call__" ⟨.ref C :: vs, kw⟩)) (.call (.ref f) ⟨.ref (s.heap.objs.size + 1) :: vs, kw⟩) (PySem.W.InitBack (s.heap.objs.size + 1) R)
      { s with heap := (s.heap.push PySem.W.emptyDict).push (PySem.W.instObj C s.heap.objs.size) }) :
    codeAny (model prog w) A (.call (.ref C) ⟨vs, kw⟩) R s := by
  obtain ⟨hh, g, d, t, os⟩ := s
  exact PySem.W.make_core (PySem.W.makes_of X hm) (PySem.W.looks_findIn X hi) (λ self => PySem.W.bind_fn X self hf) (.inl rfl) h
end
noncomputable def putF (f : Str) (v : V) : List (Str × V) -> List (Str × V)
  | [] => [(f, v)]
  | (g, x) :: r => if g = f then (g, v) :: r else (g, x) :: putF f v r
theorem lookup_putF (f g : Str) (v : V) : ∀ fs : List (Str × V), (putF f v fs).lookup g = if g = f then some v else fs.lookup g
  | [] => by
    show List.lookup g [(f, v)] = _
    by_cases h : g = f
    · have hb : (g == f) = true := beq_iff_eq.mpr h
      simp only [List.lookup, hb, if_pos h]
    · have hb : (g == f) = false := beq_eq_false_iff_ne.mpr h
      simp only [List.lookup, hb, if_neg h]
  | (k, x) :: r => by
    have ih := lookup_putF f g v r
    rw [show putF f v ((k, x) :: r) = (if k = f then (k, v) :: r else (k, x) :: putF f v r) from rfl]
    by_cases hk : k = f
    · rw [if_pos hk]
      by_cases h : g = k
      · have hb : (g == k) = true := beq_iff_eq.mpr h
        simp only [List.lookup, hb, if_pos (h.trans hk)]
      · have hb : (g == k) = false := beq_eq_false_iff_ne.mpr h
        simp only [List.lookup, hb, if_neg (λ e : g = f => h (e.trans hk.symm))]
    · rw [if_neg hk]
      by_cases h : g = k
      · have hb : (g == k) = true := beq_iff_eq.mpr h
        simp only [List.lookup, hb, if_neg (λ e : g = f => hk (h.symm.trans e))]
      · have hb : (g == k) = false := beq_eq_false_iff_ne.mpr h
        simp only [List.lookup, hb]
        exact ih
theorem keys_putF (f : Str) (v : V) : ∀ fs : List (Str × V), f ∈ (putF f v fs).map (·.1) /\ ∀ g, g ∈ fs.map (·.1) -> g ∈ (putF f v fs).map (·.1)
  | [] => ⟨by simp [putF], λ g h => by simp at h⟩
  | (k, x) :: r => by
    obtain ⟨i1, i2⟩ := keys_putF f v r
    rw [show putF f v ((k, x) :: r) = (if k = f then (k, v) :: r else (k, x) :: putF f v r) from rfl]
    by_cases hk : k = f
    · rw [if_pos hk]
      subst hk
      exact ⟨by simp, λ g h => by simpa using h⟩
    · rw [if_neg hk]
      refine ⟨?_, λ g h => ?_⟩
      · rw [List.map_cons]
        exact List.mem_cons_of_mem _ i1
      · rw [List.map_cons] at h ⊢
        rcases List.mem_cons.mp h with e | e
        · exact List.mem_cons.mpr (.inl e)
        · exact List.mem_cons_of_mem _ (i2 g e)
theorem length_putF (f : Str) (v : V) : ∀ fs : List (Str × V), (putF f v fs).length <= fs.length + 1
  | [] => by simp [putF]
  | (k, x) :: r => by
    have ih := length_putF f v r
    rw [show putF f v ((k, x) :: r) = (if k = f then (k, v) :: r else (k, x) :: putF f v r) from rfl]
    by_cases hk : k = f
    · rw [if_pos hk, List.length_cons, List.length_cons]; omega
    · rw [if_neg hk, List.length_cons, List.length_cons]; omega
theorem RelO.some_of {v : V} {o : Option Value} (r : RelO (some v) o) : ∃ u, o = some u /\ RelV v u := by
  cases o with
  | none => exact (show False from r).elim
  | some u => exact ⟨u, rfl, r⟩
theorem RelO.none_of {o : Option Value} (r : RelO none o) : o = none := by
  cases o with
  | none => rfl
  | some u => exact (show False from r).elim
theorem handed_of {v : V} {u : Value} (r : RelV v u) : PySem.W.handedIn u = true := by
  cases v with
  | non => cases (show u = Value.none from r); rfl
  | bl b => cases (show u = Value.bool b from r); rfl
  | int i => obtain ⟨t, e⟩ := (show ∃ t, u = Value.int i t from r); cases e; rfl
  | str x => obtain ⟨t, e⟩ := (show ∃ t, u = Value.str x t from r); cases e; rfl
  | byt b => obtain ⟨t, e⟩ := (show ∃ t, u = Value.bytes b t from r); cases e; rfl
  | flt b => obtain ⟨t, e⟩ := (show ∃ t, u = Value.float b t from r); cases e; rfl
  | ref a => cases (show u = Value.ref a from r); rfl
  | ty n => cases (show u = Value.type n from r); rfl
section
variable {P : Program} {w : World} {H H' : Hp} {h h' : Heap} {a C dx : Addr} {fs fs' : List (Str × V)}
theorem ins_get (hok : HOk P w H h) (e : H a = some (.ins C dx fs)) : ∃ mA, ObjM h a dx C mA /\ (∀ f, RelO (fs.lookup f) (mA f)) /\ PySem.Within mA (fs.map (·.1)) /\ fs.length <= 1000 /\ H dx = some (.own a) := by
  obtain ⟨d, z, ne, ob, mA, n, r, q⟩ := (show ObjOk P w H h a (.ins C dx fs) from hok a _ e)
  exact ⟨mA, ⟨ob, n, ne⟩, r, q, z, d⟩
end
structure Cls (K : PySem.W.Frag) (C : Addr) : Prop where
  pg : PySem.W.plainGet K C Str.empty = true
  hd : PySem.W.hasDictIn K C = true
  po : PySem.W.plainOver K C = true
  sa : PySem.W.findIn K (.ref C) "__setattr__" = some (some (.builtin "object.__setattr__"))
theorem Cls.get {K : PySem.W.Frag} {C : Addr} (c : Cls K C) (f : Str) : PySem.W.plainGet K C f = true := c.pg
noncomputable def NoAttr (K : PySem.W.Frag) (C : Addr) (f : Str) : Prop := PySem.W.findIn K (.ref C) f = some none
theorem NoAttr.taker {K : PySem.W.Frag} {C : Addr} {f : Str} (n : NoAttr K C f) : PySem.W.takerIn K C f = some none := by
  unfold PySem.W.takerIn
  rw [show PySem.W.findIn K (.ref C) f = some none from n]
  rfl
structure Con (K : PySem.W.Frag) (C : Addr) (f : Str) (v : V) (u : Value) : Prop where
  at_ : PySem.W.findIn K (.ref C) f = some (some u)
  rel : RelV v u
  get : PySem.W.specialIn K u "__get__" = some none
  cp : PySem.W.copiedNames.contains f = false
structure Meth (K : PySem.W.Frag) (C : Addr) (m : Str) (f : Addr) : Prop where
  at_ : PySem.W.findIn K (.ref C) m = some (some (.ref f))
  fn : PySem.W.isFn K (.ref f) = true
  kp : PySem.W.keepIn K (.ref f) = true
section
variable {X : Cx} {pins : List (Addr × Obj)} {σ : St} {H : Hp} {s : Shared} {a C dx : Addr} {fs : List (Str × V)} {f : Str} {v : V} {A : Around} {E : Value -> Shared -> Prop}
theorem getattr_ok {b : Bool} {Q : Value -> Shared -> Prop} (I : Inv X pins σ H s) (e : H a = some (.ins C dx fs)) (c : Cls X.K C) (n : NoAttr X.K C f) (l : fs.lookup f = some v)
    (h : ∀ u s', Inv X pins σ H s' -> RelV v u -> Q u s') : wpAny (model X.prog X.w) A (getAttr (.ref a) f b) Q E s := by
  obtain ⟨mA, O, r, _, _, _⟩ := ins_get I.hok e
  obtain ⟨u, hu, ru⟩ := RelO.some_of (v := v) (o := mA f) (by rw [<- l]; exact r f)
  exact get_map I.kIn O (c.get f) c.hd n hu (handed_of ru) (h u _ (I.tok _) ru)
theorem getmeth_ok {m : Str} {g : Addr} {pl : Sem Bool} {Q : Value × List Value -> Shared -> Prop} (I : Inv X pins σ H s) (e : H a = some (.ins C dx fs)) (c : Cls X.K C) (k : Meth X.K C m g) (l : fs.lookup m = none)
    (h : Q (.ref g, [.ref a]) s) : wpAny (model X.prog X.w) A (getMethod (.ref a) m pl) Q E s := by
  obtain ⟨mA, O, r, _, _, _⟩ := ins_get I.hok e
  have hn : mA m = none := RelO.none_of (by rw [<- l]; exact r m)
  exact get_meth I.kIn O (c.get m) k.at_ k.fn hn h
theorem setattr_ok {y : V} {u : Value} {Q : Unit -> Shared -> Prop} (I : Inv X pins σ H s) (e : H a = some (.ins C dx fs)) (c : Cls X.K C) (n : NoAttr X.K C f) (hl : fs.length < 1000) (ry : RelV y u)
    (h : ∀ s', Inv X pins σ (upd H a (.ins C dx (putF f y fs))) s' -> Q () s') : wpAny (model X.prog X.w) A (setAttr (.ref a) f u) Q E s := by
  obtain ⟨mA, O, r, wi, _, ho⟩ := ins_get I.hok e
  have hz : (fs.map (·.1)).length <= sizeLine := by rw [List.length_map, sizeLine_eq]; omega
  refine set_map I.kIn O c.sa c.po n.taker c.hd wi hz λ h' O' sb => h _ ?_
  have hd : ∃ o, h'.get? dx = some o := let ⟨o, _, _, e', _⟩ := O'.ns; ⟨o, e'⟩
  refine I.write (x := a) (e := dx) (by rw [e]; exact True.intro) (.inr ho) (λ b q hb z => (sb.2 b hb).trans z) hd ?_
  refine ⟨by rw [upd_ne O.ne]; exact ho, ?_, O.ne, O'.obj, _, O'.ns, λ g => ?_, λ g hg => ?_⟩
  · have := length_putF f y fs; omega
  · show RelO ((putF f y fs).lookup g) (if g = f then some u else mA g)
    rw [lookup_putF]
    by_cases q : g = f
    · rw [if_pos q, if_pos q]; exact ry
    · rw [if_neg q, if_neg q]; exact r g
  · by_cases q : g = f
    · rw [q]; exact (keys_putF f y fs).1
    · refine (keys_putF f y fs).2 g (wi g λ z => hg ?_)
      show (if g = f then some u else mA g) = none
      rw [if_neg q]; exact z
theorem Inv.made (I : Inv X pins σ H s) : Inv X pins σ (upd (upd H s.heap.objs.size (.own (s.heap.objs.size + 1))) (s.heap.objs.size + 1) (.ins C s.heap.objs.size []))
    { s with heap := (s.heap.push PySem.W.emptyDict).push (PySem.W.instObj C s.heap.objs.size) } := by
  have e1 : (s.heap.push PySem.W.emptyDict).get? s.heap.objs.size = some PySem.W.emptyDict := Heap.get?_push_size s.heap rfl
  have e2 : ((s.heap.push PySem.W.emptyDict).push (PySem.W.instObj C s.heap.objs.size)).get? (s.heap.objs.size + 1) = some (PySem.W.instObj C s.heap.objs.size) := by
    have := Heap.get?_push_size (s.heap.push PySem.W.emptyDict) (o := PySem.W.instObj C s.heap.objs.size) rfl
    rwa [Heap.size_push] at this
  have e3 : (s.heap.push PySem.W.emptyDict).Ns s.heap.objs.size (λ o_ => none) := ⟨PySem.W.emptyDict, #[], _, e1, rfl, (λ e he => absurd he (by simp)), λ o_ => rfl⟩
  have I1 := I.laid (a := s.heap.objs.size) (o := .own (s.heap.objs.size + 1)) (h' := s.heap.push PySem.W.emptyDict) (t' := s.toks) (λ b u q => Heap.get?_push_of_some _ q) (Nat.le_refl _) ⟨_, e1⟩
  refine I1.laid (a := s.heap.objs.size + 1) (o := .ins C s.heap.objs.size []) (t' := s.toks) (λ b u q => Heap.get?_push_of_some _ q) (Nat.le_of_eq (Heap.size_push _ _)) ?_
  have ne : s.heap.objs.size ≠ s.heap.objs.size + 1 := Nat.ne_of_lt (Nat.lt_succ_self _)
  refine ⟨by rw [upd_ne ne, upd_same], Nat.zero_le _, ne, e2, λ o_ => none, (Heap.Ns1.of_empty e3).at λ o q => Heap.get?_push_of_some _ q, λ o_ => True.intro, λ y hy => absurd rfl hy⟩
theorem attr_of {prog : Program} {w : World} {env : Env} {e : Expr} {f : Str} {pos : Pos} {s : Shared} {Q : Value -> Shared -> Prop} (hb : attributeBase e f env (eval e env) = eval e env)
    (h : wpAny (model prog w) A (eval e env) (λ o s₁ => wpAny (model prog w) A (getAttr o f true) Q E s₁) E s) : wpAny (model prog w) A (eval (.Attribute e f pos) env) Q E s :=
  Attribute_any_ h (by rw [arm_eval_Attribute, hb])
end
noncomputable def tFld (K : PySem.W.Frag) (ta : TE) (f : Str) : TE := λ σ H Q => ta σ H λ x H1 => ∃ a C dx fs v, x = .ref a /\ H1 a = some (.ins C dx fs) /\ Cls K C /\ NoAttr K C f /\ fs.lookup f = some v /\ Q v H1
noncomputable def sFld (K : PySem.W.Frag) (ta tv : TE) (f : Str) : TS := λ D σ H => tv σ H λ y H1 => ta σ H1 λ x H2 => ∃ a C dx fs, x = .ref a /\ H2 a = some (.ins C dx fs) /\ Cls K C /\ NoAttr K C f /\ fs.length < 1000 /\
  D.nx σ (upd H2 a (.ins C dx (putF f y fs)))
section
variable {X : Cx} {o e value : Expr} {f : Str} {pos pos' tpos : Pos} {ta tv : TE}
theorem pe_fld (he : PE X e ta) (hb : attributeBase e f X.env (eval e X.env) = eval e X.env) : PE X (.Attribute e f pos) (tFld X.K ta f) := by
  intro pins s σ H Q I h
  refine attr_of hb (thn (he pins s σ H _ I h) λ u s1 ⟨x, H1, I1, rx, a, C, dx, fs, v, ex, ea, c, n, l, q⟩ => ?_)
  subst ex
  obtain rfl : u = Value.ref a := rx
  exact getattr_ok I1 ea c n l λ u' s2 I2 ru => ⟨v, H1, I2, ru, q⟩
theorem ps_fld (ha : PE X o ta) (hv : PE X value tv) (hs : swapsWith value (some (.Attribute o f pos')) pos.line X.env = pure false) : PS X (.Assign [.Attribute o f pos'] value pos) (sFld X.K ta tv f) := by
  intro pins s σ H D I h
  refine plainObj_wpAny_Assign_Attribute (thn (hv pins s σ H _ I h) λ u s1 ⟨y, H1, I1, ry, q⟩ => thn (ha pins s1 σ H1 _ I1 q) λ ov s2 ⟨x, H2, I2, rx, a, C, dx, fs, ex, ea, c, n, l, q2⟩ => ?_) hs
  subst ex
  obtain rfl : ov = Value.ref a := rx
  exact setattr_ok I2 ea c n l ry λ s3 I3 => ⟨σ, _, I3, q2⟩
end
section
variable {X : Cx} {pins : List (Addr × Obj)} {σ : St} {H : Hp} {s : Shared} {A : Around} {E : Value -> Shared -> Prop} {Q : Value -> Shared -> Prop} {c : Value} {b : Bool}
inductive TyOf (K : PySem.W.Frag) (H : Hp) : V -> Value -> Prop where
  | non : TyOf K H .non (.type "NoneType")
  | bl (x : Bool) : TyOf K H (.bl x) (.type "bool")
  | int (i : Int) : TyOf K H (.int i) (.type "int")
  | str (x : Str) : TyOf K H (.str x) (.type "str")
  | flt (x : UInt64) : TyOf K H (.flt x) (.type "float")
  | lst {a : Addr} {xs : List V} (e : H a = some (.lst xs)) : TyOf K H (.ref a) (.type "list")
  | frz {a : Addr} {o : Obj} {xs : List V} (e : H a = some (.frz o (.lst xs))) : TyOf K H (.ref a) (.type "list")
  | tup {a : Addr} {xs : List V} (e : H a = some (.tup xs)) : TyOf K H (.ref a) (.type "tuple")
  | dK {a : Addr} {kvs : List (Key × V)} (e : H a = some (.dK kvs)) : TyOf K H (.ref a) (.type "dict")
  | dT {a : Addr} {kvs : List (List Key × V)} (e : H a = some (.dT kvs)) : TyOf K H (.ref a) (.type "dict")
  | ins {a C dx : Addr} {fs : List (Str × V)} (e : H a = some (.ins C dx fs)) (cl : Cls K C) (ha : PySem.W.findIn K (.ref C) "__class__" = some (some (.builtin "object.__class__")))
      (hn : PySem.W.specialIn K (.builtin "object.__class__") "__get__" = some (some (.builtin "getset_descriptor.__get__"))) (htk : PySem.W.takesIn K (.builtin "object.__class__") = some true)
      (hm : PySem.W.mroIn K C (.type "object") = some true) : TyOf K H (.ref a) (.ref C)
end
end L2
namespace L2
open PySem PySem.Spec PyProof.Rows
structure Room (k : Nat) (A : Around) : Prop where
  hd : A.handled = none
  dp : A.depth + 3 * k + 5 < recursionLimit
  un : A.units + 16 * k + 200 < cLine
theorem Room.mono {j k : Nat} {A : Around} (r : Room k A) (h : j <= k) : Room j A := ⟨r.hd, by have := r.dp; omega, by have := r.un; omega⟩
theorem Room.deeper {k : Nat} {A : Around} (r : Room (k + 1) A) (env : Env) : Room k (A.deeper env) :=
  ⟨r.hd, by have := r.dp; show A.depth + 1 + 3 * k + 5 < _; omega, by have := r.un; show A.units + 3 + 16 * k + 200 < _; omega⟩
theorem make_depth {A : Around} {C : Addr} {us : List Value} {kw : List (Str × Value)} : (A.under (.builtin "type.__call__" ⟨.ref C :: us, kw⟩)).depth = A.depth + 1 := by
  first | rfl | simp [Around.under, Code.weight, Code.isCreation, Code.isGuard, Code.isCaller, Code.frames, Code.isFrame, guardIds]
theorem make_units {A : Around} {C : Addr} {us : List Value} {kw : List (Str × Value)} : (A.under (.builtin "type.__call__" ⟨.ref C :: us, kw⟩)).units = A.units + 1 := by
  first | rfl | simp [Around.under, Code.cUnits, Code.frames, Code.isFrame]
theorem Room.make {k : Nat} {A : Around} (r : Room (k + 1) A) (C : Addr) (us : List Value) (kw : List (Str × Value)) : Room k (A.under (.builtin "type.__call__" ⟨.ref C :: us, kw⟩)) :=
  ⟨r.hd, by have := r.dp; rw [make_depth]; omega, by have := r.un; rw [make_units]; omega⟩
theorem Room.depth {k : Nat} {A : Around} (r : Room k A) : A.depth < recursionLimit := by have := r.dp; omega
theorem Room.units {k : Nat} {A : Around} (r : Room k A) : A.units + 64 < cLine := by have := r.un; omega
noncomputable def tNil : TA := λ o_ H Q => Q [] H
noncomputable def tCons (ta : TE) (tr : TA) : TA := λ σ H Q => ta σ H λ x H1 => tr σ H1 λ xs H2 => Q (x :: xs) H2
section
variable {X : Cx} {e : Expr} {es : List Expr} {te : TE} {t : TA} {pos : Pos}
theorem pa_nil : PA X [] tNil := λ o_ o_ o_ o_ H Q I h => Calls.spliced_nil ⟨[], H, I, .nil, h⟩
theorem pa_cons (ha : PE X e te) (hr : PA X es t) (hs : starEach (e :: es) X.env = (false, eval e X.env) :: starEach es X.env := by rfl) : PA X (e :: es) (tCons te t) := by
  intro pos pins s σ H Q I h
  rw [hs]
  show wpAny _ _ (spliced ((false, eval e X.env) :: backTo pos (starEach es X.env))) _ _ s
  refine Calls.spliced_cons (thn (ha pins s σ H _ I h) λ u s1 ⟨x, H1, I1, r1, q1⟩ => ?_)
  exact thn (hr pos pins s1 σ H1 _ I1 q1) λ us s2 ⟨xs, H2, I2, r2, q2⟩ => ⟨x :: xs, H2, I2, .cons r1 r2, q2⟩
noncomputable def tTup (t : TA) : TE := λ σ H Q => t σ H λ xs H1 => xs.length <= sizeLine /\ ∀ p, H1 p = none -> Q (.ref p) (upd H1 p (.tup xs))
noncomputable def tLst (t : TA) : TE := λ σ H Q => t σ H λ xs H1 => xs.length <= sizeLine /\ ∀ p, H1 p = none -> Q (.ref p) (upd H1 p (.lst xs))
theorem pe_tup {x1} (h : PA X es t) : PE X (.Tuple es x1 pos) (tTup t) := by
  intro pins s σ H Q I hq
  refine wpAny_Tuple_spliced (thn (h pos pins s σ H _ I hq) λ us s1 ⟨xs, H1, I1, r, z, q⟩ => ⟨by rw [<- r.length]; exact z, ?_⟩)
  have hf : H1 s1.heap.objs.size = none := I1.hok.fresh (Nat.le_refl _)
  refine ⟨.ref s1.heap.objs.size, upd H1 s1.heap.objs.size (.tup xs), I1.laid (t' := s1.toks) (λ b u e => Heap.get?_push_of_some _ e) (Nat.le_refl _) ?_, rfl, q _ hf⟩
  exact ⟨z, us, r, ⟨_, Heap.get?_push_size _ rfl, rfl, _, rfl⟩⟩
theorem pe_lst (h : PA X es t) : PE X (.List es pos) (tLst t) := by
  intro pins s σ H Q I hq
  refine wpAny_List_spliced (thn (h pos pins s σ H _ I hq) λ us s1 ⟨xs, H1, I1, r, z, q⟩ => ⟨by rw [<- r.length]; exact z, ?_⟩)
  have hf : H1 s1.heap.objs.size = none := I1.hok.fresh (Nat.le_refl _)
  refine ⟨.ref s1.heap.objs.size, upd H1 s1.heap.objs.size (.lst xs), I1.laid (t' := s1.toks) (λ b u e => Heap.get?_push_of_some _ e) (Nat.le_refl _) ?_, rfl, q _ hf⟩
  exact ⟨z, us, 0, r, Heap.get?_push_size _ rfl⟩
end
noncomputable abbrev Sp := List V -> Hp -> VK -> XK -> Prop
noncomputable abbrev CXT := List Env -> Hp -> Shared -> XK -> Value -> Shared -> Prop
structure Env0 (P : Program) (w : World) (K : PySem.W.Frag) (mg : Str -> Option Value) (base : Heap) (A : Around) (outer : List Env) (s : Shared) (H : Hp) : Prop where
  frames : A.frames = some outer
  mod : Mod K mg base
  bs : ∀ b o, base.get? b = some o -> s.heap.get? b = some o /\ H b = none
  bsz : base.objs.size <= s.heap.objs.size
  funs : s.heap.FunFrames base outer
  frf : ∀ b ∈ frs outer, H b = none
  hok : HOk P w H s.heap
  bare : AllBare s.gens
noncomputable def CE (outer : List Env) (P : Program) (w : World) (H : Hp) (s : Shared) (Q : VK) (u : Value) (s' : Shared) : Prop :=
  ∃ v H', s'.os = s.os /\ AllBare s'.gens /\ Un (frs outer) [] H H' s.heap s'.heap /\ HOk P w H' s'.heap /\ RelV v u /\ Q v H'
noncomputable def CR (CX : CXT) (outer : List Env) (P : Program) (w : World) (H : Hp) (s : Shared) (Q : VK) (E : XK) (r : Result) (s' : Shared) : Prop :=
  match r with
  | .ok (.ret u) => CE outer P w H s Q u s'
  | .ok _ => False
  | .error e => CX outer H s E e s'
structure FnOk (P : Program) (w : World) (K : PySem.W.Frag) (mg : Str -> Option Value) (base : Heap) (CX : CXT) (k : Nat) (f : Addr) (fd : FuncData) (ps : List Str) (sp : Sp) : Prop where
  len : ∀ vs H Q E, sp vs H Q E -> vs.length = ps.length
  run : ∀ (A : Around) (outer : List Env) (s : Shared) (H : Hp) (args : Args) (us : List Value) (vs : List V) (Q : VK) (E : XK), Room k A -> Env0 P w K mg base A outer s H -> BindsTo s fd args (ps.zip us) -> Vals vs us -> sp vs H Q E ->
    codeAny (model P w) A (.call (.ref f) args) (CR CX outer P w H s Q E) s
theorem FnOk.mono {P : Program} {w : World} {K : PySem.W.Frag} {mg : Str -> Option Value} {base : Heap} {CX : CXT} {j k : Nat} {f : Addr} {fd : FuncData} {ps : List Str} {sp : Sp} (F : FnOk P w K mg base CX j f fd ps sp) (h : j <= k) :
    FnOk P w K mg base CX k f fd ps sp := ⟨F.len, λ A outer s H args us vs Q E hr => F.run A outer s H args us vs Q E (hr.mono h)⟩
theorem FnOk.imp {P : Program} {w : World} {K : PySem.W.Frag} {mg : Str -> Option Value} {base : Heap} {CX : CXT} {k : Nat} {f : Addr} {fd : FuncData} {ps : List Str} {sp sp' : Sp} (F : FnOk P w K mg base CX k f fd ps sp)
    (h : ∀ vs H Q E, sp' vs H Q E -> sp vs H Q E) : FnOk P w K mg base CX k f fd ps sp' :=
  ⟨λ vs H Q E q => F.len vs H Q E (h _ _ _ _ q), λ A outer s H args us vs Q E hr he hb hv hs => F.run A outer s H args us vs Q E hr he hb hv (h _ _ _ _ hs)⟩
theorem Env0.make {P : Program} {w : World} {K : PySem.W.Frag} {mg : Str -> Option Value} {base : Heap} {A : Around} {outer : List Env} {s : Shared} {H : Hp} (e : Env0 P w K mg base A outer s H) (C : Addr) (us : List Value) (kw : List (Str × Value)) :
    Env0 P w K mg base (A.under (.builtin "type.__call__" ⟨.ref C :: us, kw⟩)) outer s H := ⟨by first | exact e.frames | (simpa [Around.under, Code.envs, Code.isFrame, pushEnvs] using e.frames), e.mod, e.bs, e.bsz, e.funs, e.frf, e.hok, e.bare⟩
section
variable {X : Cx} {pins : List (Addr × Obj)} {σ : St} {H : Hp} {s s' : Shared}
theorem Inv.env0 (I : Inv X pins σ H s) : Env0 X.prog X.w X.K X.mg X.base X.A X.stack s H :=
  ⟨I.ok.frames, I.ok.mod, I.bs, Nat.le_trans I.ok.bsz I.sz, I.stack, I.stkFree, I.hok, I.bare⟩
theorem Inv.after {Q : VK} {u : Value} (I : Inv X pins σ H s) (h : CE X.stack X.prog X.w H s Q u s') : EP X pins σ Q u s' := by
  obtain ⟨v, H', os, bare, un, hok, r, q⟩ := h
  obtain ⟨hh, g, d, t, os'⟩ := s'
  obtain rfl : os' = s.os := os
  exact ⟨v, H', I.call (h' := hh) (g' := g) (d' := d) (t' := t) (ch := []) un hok bare (λ b z => absurd z (by simp)), r, q⟩
end
noncomputable def tCall (sp : Sp) (dvs : List V) (E : XK) (t : TA) : TE := λ σ H Q => t σ H λ vs H1 => sp (vs ++ dvs) H1 Q E
noncomputable def tMeth (C : Addr) (m : Str) (sp : Sp) (dvs : List V) (E : XK) (ta : TE) (t : TA) : TE := λ σ H Q => ta σ H λ x H1 => ∃ a dx fs, x = .ref a /\ H1 a = some (.ins C dx fs) /\ fs.lookup m = none /\
  t σ H1 λ vs H2 => sp (x :: (vs ++ dvs)) H2 Q E
noncomputable def tMake (C : Addr) (sp : Sp) (dvs : List V) (E : XK) (t : TA) : TE := λ σ H Q => t σ H λ vs H1 => ∀ x dx, H1 x = none -> H1 dx = none -> dx ≠ x ->
  sp (.ref x :: (vs ++ dvs)) (upd (upd H1 dx (.own x)) x (.ins C dx [])) (λ v H2 => v = .non /\ Q (.ref x) H2) E
noncomputable def Binds (K : PySem.W.Frag) (fd : FuncData) (ps : List Str) (ds : List Value) : Prop :=
  ∀ (s : Shared) (us : List Value), K.In s.heap -> (us ++ ds).length = ps.length -> BindsTo s fd ⟨us, []⟩ (ps.zip (us ++ ds))
theorem Binds.all {K : PySem.W.Frag} {fd : FuncData} {ps : List Str} (h : ∀ us : List Value, us.length = ps.length -> bindArgs fd ⟨us, []⟩ = pure (ps.zip us)) : Binds K fd ps [] := λ s us o_ hl => by
  rw [List.append_nil] at hl ⊢
  exact .of_eq (h us hl)
noncomputable def Passes (CX : CXT) (X : Cx) (E : XK) : Prop := ∀ (pins : List (Addr × Obj)) (σ : St) (H : Hp) (s : Shared) (e : Value) (s' : Shared), Inv X pins σ H s -> CX X.stack H s E e s' -> X.xe e s'
section
variable {X : Cx} {CX : CXT} {k : Nat} {f C : Addr} {fd : FuncData} {ps : List Str} {sp : Sp} {dvs : List V} {ds : List Value} {E : XK} {x m : Str} {p pos apos : Pos} {e o : Expr} {es : List Expr} {ta : TE} {t : TA}
theorem run_fn {pins : List (Addr × Obj)} {σ : St} {H : Hp} {s : Shared} {Q : VK} {us : List Value} {vs : List V} (F : FnOk X.prog X.w X.K X.mg X.base CX k f fd ps sp) (hr : Room k X.A) (hb : Binds X.K fd ps ds) (hd : Vals dvs ds) (hx : Passes CX X E)
    (I : Inv X pins σ H s) (r : Vals vs us) (h : sp (vs ++ dvs) H Q E) : wpAny (model X.prog X.w) X.A (call (.ref f) us) (EP X pins σ Q) X.xe s := by
  have r2 : Vals (vs ++ dvs) (us ++ ds) := r.append hd
  have hl : (us ++ ds).length = ps.length := by rw [<- r2.length]; exact F.len _ _ _ _ h
  refine wpAny_call (codeAny_mono (F.run X.A X.stack s H ⟨us, []⟩ (us ++ ds) (vs ++ dvs) Q E hr I.env0 (hb s us I.kIn hl) r2 h) λ r s' hq => ?_)
  cases r with
  | error e => exact hx pins σ H s e s' I hq
  | ok fl =>
    cases fl with
    | ret u => exact I.after hq
    | next => exact False.elim hq
    | brk => exact False.elim hq
    | cont => exact False.elim hq
theorem pe_call (F : FnOk X.prog X.w X.K X.mg X.base CX k f fd ps sp) (hr : Room k X.A) (hg : Gl X x) (hm : X.mg x = some (.ref f)) (hk : PySem.W.keepIn X.K (.ref f) = true) (hb : Binds X.K fd ps ds) (hd : Vals dvs ds) (hx : Passes CX X E)
    (ha : PA X (e :: es) t) (hdb : (x == ("__debug__" : Str)) = false := by decide) (he : starEach (e :: es) X.env = (false, eval e X.env) :: starEach es X.env := by rfl) (hpl : (backTo pos (starEach es X.env)).any (·.1) = false := by rfl) :
    PE X (.Call (.Name x p) (e :: es) [] pos) (tCall sp dvs E t) := by
  intro pins s σ H Q I h
  refine wpAny_Call_Name_kw (ld_glob I hg hm ?_ hdb)
  refine PySem.W.callWith_K (h₀ := X.base) I.ok.mod.kin hk (thn (ha pos pins s σ H _ I h) λ us s1 ⟨vs, H1, I1, r, q⟩ => ⟨I1.kIn, ?_⟩) he hpl
  exact run_fn F hr hb hd hx I1 r q
theorem pe_meth {pl : Sem Bool} (he : PE X o ta) (c : Cls X.K C) (hm : Meth X.K C m f) (F : FnOk X.prog X.w X.K X.mg X.base CX k f fd ps sp) (hr : Room k X.A) (hb : Binds X.K fd ps ds) (hd : Vals dvs ds) (hx : Passes CX X E) (ha : PA X (e :: es) t)
    (hst : starEach (e :: es) X.env = (false, eval e X.env) :: starEach es X.env := by rfl) (hpl : (backTo pos (starEach es X.env)).any (·.1) = false := by rfl)
    (ht : eval (.Call (.Attribute o m apos) (e :: es) [] pos) X.env = (do
      let ov <- eval o X.env
      standAt apos.atName
      let (f, first) <- holding [ov] (getMethod ov m pl)
      callWith pos f first (backTo pos (starEach (e :: es) X.env)) (backToKw pos (keywordEach [] X.env))) := by rfl) :
    PE X (.Call (.Attribute o m apos) (e :: es) [] pos) (tMeth C m sp dvs E ta t) := by
  intro pins s σ H Q I h
  refine PySem.W.methodCall_KW (pl := pl) (thn (he pins s σ H _ I h) λ u s1 ⟨x, H1, I1, rx, a, dx, fs, ex, ea, l, q⟩ => ?_) ht
  subst ex
  obtain rfl : u = Value.ref a := rx
  refine getmeth_ok I1 ea c hm l ?_
  refine PySem.W.callWith_K (first := [.ref a]) (h₀ := X.base) I.ok.mod.kin hm.kp (thn (ha pos pins s1 σ H1 _ I1 q) λ us s2 ⟨vs, H2, I2, r, q2⟩ => ⟨I2.kIn, ?_⟩) hst hpl
  exact run_fn (us := .ref a :: us) (vs := .ref a :: vs) F hr hb hd hx I2 (.cons rfl r) q2
theorem pe_meth0 {pl : Sem Bool} (he : PE X o ta) (c : Cls X.K C) (hm : Meth X.K C m f) (F : FnOk X.prog X.w X.K X.mg X.base CX k f fd ps sp) (hr : Room k X.A) (hb : Binds X.K fd ps ds) (hd : Vals dvs ds) (hx : Passes CX X E)
    (ht : eval (.Call (.Attribute o m apos) [] [] pos) X.env = (do
      let ov <- eval o X.env
      standAt apos.atName
      let (f, first) <- holding [ov] (getMethod ov m pl)
      callWith pos f first (backTo pos (starEach [] X.env)) (backToKw pos (keywordEach [] X.env))) := by rfl) :
    PE X (.Call (.Attribute o m apos) [] [] pos) (tMeth C m sp dvs E ta tNil) := by
  intro pins s σ H Q I h
  refine PySem.W.methodCall_KW (pl := pl) (thn (he pins s σ H _ I h) λ u s1 ⟨x, H1, I1, rx, a, dx, fs, ex, ea, l, q⟩ => ?_) ht
  subst ex
  obtain rfl : u = Value.ref a := rx
  refine getmeth_ok I1 ea c hm l ?_
  exact PySem.W.callWith_K0 (first := [.ref a]) I1.kIn hm.kp (run_fn (us := [.ref a]) (vs := [.ref a]) F hr hb hd hx I1 (.cons rfl .nil) q)
structure Mk (K : PySem.W.Frag) (C f : Addr) : Prop where
  makes : PySem.W.makesIn K C = true
  init : PySem.W.findIn K (.ref C) "__init__" = some (some (.ref f))
  fn : PySem.W.isFn K (.ref f) = true
  kp : PySem.W.keepIn K (.ref C) = true
theorem run_make {pins : List (Addr × Obj)} {σ : St} {H : Hp} {s : Shared} {Q : VK} {us : List Value} {vs : List V} (M : Mk X.K C f) (F : FnOk X.prog X.w X.K X.mg X.base CX k f fd ps sp) (hr : Room (k + 1) X.A) (hb : Binds X.K fd ps ds) (hd : Vals dvs ds)
    (hx : Passes CX X E) (I : Inv X pins σ H s) (r : Vals vs us)
    (h : ∀ x dx, H x = none -> H dx = none -> dx ≠ x -> sp (.ref x :: (vs ++ dvs)) (upd (upd H dx (.own x)) x (.ins C dx [])) (λ v H2 => v = .non /\ Q (.ref x) H2) E) :
    wpAny (model X.prog X.w) X.A (call (.ref C) us) (EP X pins σ Q) X.xe s := by
  have hq := h (s.heap.objs.size + 1) s.heap.objs.size (I.hok.fresh (Nat.le_succ _)) (I.hok.fresh (Nat.le_refl _)) (Nat.ne_of_lt (Nat.lt_succ_self _))
  have I2 := Inv.made (C := C) I
  have r2 : Vals (V.ref (s.heap.objs.size + 1) :: (vs ++ dvs)) (Value.ref (s.heap.objs.size + 1) :: (us ++ ds)) := .cons rfl (r.append hd)
  have hl : (Value.ref (s.heap.objs.size + 1) :: us ++ ds).length = ps.length := by
    have e := r2.length
    rw [F.len _ _ _ _ hq] at e
    exact e.symm
  refine wpAny_call (make_map (f := f) I.kIn M.makes M.init (beq_iff_eq.mp M.fn) (codeAny_mono (F.run _ X.stack _ _ ⟨Value.ref (s.heap.objs.size + 1) :: us, []⟩ (Value.ref (s.heap.objs.size + 1) :: (us ++ ds)) _ _ E (hr.make C us [])
    (I2.env0.make C us []) (hb _ (Value.ref (s.heap.objs.size + 1) :: us) I2.kIn hl) r2 hq) λ r s' hq' => ?_))
  cases r with
  | error e => exact hx pins σ _ _ e s' I2 hq'
  | ok fl =>
    cases fl with
    | ret u =>
      obtain ⟨v, H', I3, rv, ev, q3⟩ := I2.after hq'
      subst ev
      exact ⟨rv, ⟨V.ref (s.heap.objs.size + 1), H', I3, rfl, q3⟩⟩
    | next => exact False.elim hq'
    | brk => exact False.elim hq'
    | cont => exact False.elim hq'
theorem pe_make0 (M : Mk X.K C f) (F : FnOk X.prog X.w X.K X.mg X.base CX k f fd ps sp) (hr : Room (k + 1) X.A) (hg : Gl X x) (hm : X.mg x = some (.ref C)) (hb : Binds X.K fd ps ds) (hd : Vals dvs ds) (hx : Passes CX X E)
    (hdb : (x == ("__debug__" : Str)) = false := by decide) : PE X (.Call (.Name x p) [] [] pos) (tMake C sp dvs E tNil) := by
  intro pins s σ H Q I h
  refine wpAny_Call_Name_kw (ld_glob I hg hm ?_ hdb)
  exact PySem.W.callWith_K0 I.kIn M.kp (run_make (us := []) M F hr hb hd hx I .nil h)
end
section
variable {X : Cx} {CX : CXT} {k : Nat} {f C : Addr} {fd : FuncData} {ps ks : List Str} {sp : Sp} {E : XK} {x m : Str} {p pos apos kpos : Pos} {e o : Expr} {es : List Expr} {kws : List Keyword} {te ta : TE} {t tk : TA} {nm : Option Str}
structure KBinds (K : PySem.W.Frag) (fd : FuncData) (ps ks : List Str) (g : List Value -> List Value -> List Value) (gV : List V -> List V -> List V) : Prop where
  to : ∀ (s : Shared) (us ws : List Value), K.In s.heap -> (g us ws).length = ps.length -> BindsTo s fd ⟨us, ks.zip ws⟩ (ps.zip (g us ws))
  rel : ∀ {vs : List V} {us : List Value} {zs : List V} {ws : List Value}, Vals vs us -> Vals zs ws -> Vals (gV vs zs) (g us ws)
variable {g : List Value -> List Value -> List Value} {gV : List V -> List V -> List V}
end
structure FnScope (N P : List Str) (sc : Scope) : Prop where
  kind : sc.kind = .function
  co : sc.isCoroutine = false
  gen : sc.isGenerator = false
  nd : N.Nodup
  pre : N.take P.length = P
  par : ∀ x ∈ P, sc.names.lookup x = some .local \/ sc.names.lookup x = some .cell
  nofree : ∀ y ∈ sc.names, y.2 ≠ .free
theorem bindL_out {kindOf : Str -> Option NameKind} {x : Str} : ∀ {binds : List (Str × Value)} {m : Str -> Option Value}, (∀ v, (x, v) ∉ binds) -> bindL kindOf binds m x = m x
  | [], _, _ => rfl
  | (n, v) :: r, m, h => by
    unfold bindL
    rw [bindL_out λ w hw => h w (List.mem_cons_of_mem _ hw)]
    split
    · have : x ≠ n := by rintro rfl; exact h v List.mem_cons_self
      simp [this]
    · rfl
theorem bindC_out {kindOf : Str -> Option NameKind} {x : Str} : ∀ {binds : List (Str × Value)} {m : Str -> Option Value}, (∀ v, (x, v) ∉ binds) -> bindC kindOf binds m x = m x
  | [], _, _ => rfl
  | (n, v) :: r, m, h => by
    unfold bindC
    rw [bindC_out λ w hw => h w (List.mem_cons_of_mem _ hw)]
    split
    · rfl
    · have : x ≠ n := by rintro rfl; exact h v List.mem_cons_self
      simp [this]
theorem bindL_get {kindOf : Str -> Option NameKind} {x : Str} {v : Value} : ∀ {P : List Str} {vs : List Value} {i : Nat} {m : Str -> Option Value}, P.Nodup -> P[i]? = some x -> vs[i]? = some v -> kindOf x = some .local ->
    bindL kindOf (P.zip vs) m x = some v
  | [], _, _, _, _, h, _, _ => by simp at h
  | _ :: _, [], _, _, _, _, h, _ => by simp at h
  | p :: P, w :: vs, 0, m, nd, h1, h2, hk => by
    simp at h1 h2; subst h1; subst h2
    show bindL kindOf ((p, w) :: P.zip vs) m p = _
    unfold bindL
    rw [bindL_out λ v hv => (List.nodup_cons.mp nd).1 (List.of_mem_zip hv).1, if_pos hk]
    simp
  | p :: P, w :: vs, i + 1, m, nd, h1, h2, hk => by
    show bindL kindOf ((p, w) :: P.zip vs) m x = _
    unfold bindL
    exact bindL_get (i := i) (List.nodup_cons.mp nd).2 (by simpa using h1) (by simpa using h2) hk
theorem bindC_get {kindOf : Str -> Option NameKind} {x : Str} {v : Value} : ∀ {P : List Str} {vs : List Value} {i : Nat} {m : Str -> Option Value}, P.Nodup -> P[i]? = some x -> vs[i]? = some v -> kindOf x ≠ some .local ->
    bindC kindOf (P.zip vs) m x = some v
  | [], _, _, _, _, h, _, _ => by simp at h
  | _ :: _, [], _, _, _, _, h, _ => by simp at h
  | p :: P, w :: vs, 0, m, nd, h1, h2, hk => by
    simp at h1 h2; subst h1; subst h2
    show bindC kindOf ((p, w) :: P.zip vs) m p = _
    unfold bindC
    rw [bindC_out λ v hv => (List.nodup_cons.mp nd).1 (List.of_mem_zip hv).1, if_neg hk]
    simp
  | p :: P, w :: vs, i + 1, m, nd, h1, h2, hk => by
    show bindC kindOf ((p, w) :: P.zip vs) m x = _
    unfold bindC
    exact bindC_get (i := i) (List.nodup_cons.mp nd).2 (by simpa using h1) (by simpa using h2) hk
noncomputable def start (N : List Str) (vs : List V) : St := vs.map some ++ List.replicate (N.length - vs.length) none
noncomputable def cxOf (CX : CXT) (P : Program) (w : World) (K : PySem.W.Frag) (mg : Str -> Option Value) (base : Heap) (N : List Str) (qual : Str) (scope : Scope) (f : Addr) (cd : Value) (A : Around) (outer : List Env) (s : Shared) (H : Hp) (E : XK) : Cx where
  prog := P
  w := w
  K := K
  mg := mg
  base := base
  A := A.deeper (envOfC qual scope s.heap.objs.size f cd)
  N := N
  s₀ := s
  H₀ := H
  env := envOfC qual scope s.heap.objs.size f cd
  outer := outer
  stack := envOfC qual scope s.heap.objs.size f cd :: outer
  ex := []
  calm := true
  fn := λ o_ => true
  pn := []
  xe := λ e s' => wpAny (model P w) (A.deeper (envOfC qual scope s.heap.objs.size f cd)) (leaving (envOfC qual scope s.heap.objs.size f cd) e) (λ o_ s'' => CX outer H s E e s'') (λ e' s'' => CX outer H s E e' s'') s'
theorem cell_has {sc : Scope} {n : Nat} {x : Str} (h : sc.names.lookup x = some .cell) : ∃ c, (cellsFrom n sc.names []).lookup x = some c := by
  have q := PySem.W.cellsFrom_some sc.names n [] (.inl h)
  exact Option.isSome_iff_exists.mp q
theorem inv_start {CX : CXT} {P : Program} {w : World} {K : PySem.W.Frag} {mg : Str -> Option Value} {base : Heap} {N ps : List Str} {qual : Str} {scope : Scope} {f : Addr} {cd : Value} {A : Around} {outer : List Env} {s s1 : Shared} {H : Hp} {E : XK} {us : List Value} {vs : List V}
    (S : FnScope N ps scope) (hd : A.handled = none) (e0 : Env0 P w K mg base A outer s H) (hl : vs.length = ps.length) (r : Vals vs us)
    (x : InCallC s s.heap.objs.size (bindL (envOfC qual scope s.heap.objs.size f cd).kindOf (ps.zip us) λ o_ => none) (cellsFrom (s.heap.objs.size + 1) scope.names []) (bindC (envOfC qual scope s.heap.objs.size f cd).kindOf (ps.zip us) λ o_ => none) s1) :
    Inv (cxOf CX P w K mg base N qual scope f cd A outer s H E) [] (start N vs) H s1 := by
  have hpl : ps.length <= N.length := by have := congrArg List.length S.pre; rw [List.length_take] at this; omega
  obtain ⟨h1, tk, rfl, hk⟩ := x.done
  have noA : ∀ b : Addr, b ∉ (cxOf CX P w K mg base N qual scope f cd A outer s H E).ex := λ b z => absurd (show b ∈ ([] : List Addr) from z) (by simp)
  refine ⟨⟨e0.mod, S.kind, rfl, rfl, Nat.le_refl _, λ y z c h1 h2 => ?_, λ y hy => ?_, λ y c o_ h => ?_, λ o_ => hd, Around.frames_deeper e0.frames, .inr ⟨rfl, rfl⟩, λ b z => absurd z (noA b), e0.bs, e0.bsz, λ b o_ o_ => noA b, λ b z => absurd z (noA b), e0.funs, e0.frf⟩,
    rfl, e0.bare, Un.kept hk, ⟨_, x.toInCall.ns, λ i y v h1 h2 h3 => ?_⟩, λ y c h => ⟨_, x.cell y c h⟩, e0.hok.fresh (Nat.le_refl _), λ y c h => ?_, λ p hp => absurd (show p ∈ ([] : List (Addr × Obj)) from hp) (by simp), e0.hok.kept hk, ?_⟩
  · exact name_of_addr x.apart (PySem.mem_of_lookup h1) (PySem.mem_of_lookup h2)
  · have hy : scope.names.lookup y = some .cell \/ scope.names.lookup y = some .free := hy
    rcases hy with hy | hy
    · exact cell_has hy
    · exact absurd rfl (S.nofree _ (PySem.mem_of_lookup hy))
  · exact Nat.le_of_lt (x.above y c (PySem.mem_of_lookup h))
  · have hi : i < vs.length := by
      unfold start at h2
      by_cases hi : i < vs.length
      · exact hi
      · rw [List.getElem?_append_right (by simpa using hi)] at h2
        rw [List.getElem?_replicate] at h2
        split at h2 <;> cases h2
    have ha : vs[i]? = some v := by
      unfold start at h2
      rw [List.getElem?_append_left (by simpa using hi), List.getElem?_map] at h2
      cases e : vs[i]? with
      | none => rw [e] at h2; cases h2
      | some a => rw [e] at h2; cases h2; rfl
    obtain ⟨u, hu, rv⟩ := r.get ha
    have hp : ps[i]? = some y := by
      rw [<- S.pre, List.getElem?_take_of_lt (by omega)]; exact h1
    have ndP : ps.Nodup := by rw [<- S.pre]; exact S.nd.sublist (List.take_sublist _ _)
    refine ⟨u, rv, ?_⟩
    rcases S.par y (List.mem_of_getElem? hp) with k | k
    · exact .inl ⟨k, bindL_get ndP hp hu k⟩
    · obtain ⟨c, e⟩ := cell_has (n := s.heap.objs.size + 1) k
      refine .inr ⟨.inl k, c, e, ?_⟩
      have q := x.cell y c e
      rw [bindC_get ndP hp hu (by show scope.names.lookup y ≠ _; rw [k]; decide)] at q
      exact q
  · exact e0.hok.fresh (Nat.le_of_lt (x.above y c (PySem.mem_of_lookup h)))
  · unfold start
    show _ = N.length
    rw [List.length_append, List.length_map, List.length_replicate]
    omega
theorem fn_of {CX : CXT} {P : Program} {w : World} {K : PySem.W.Frag} {mg : Str -> Option Value} {base : Heap} {k : Nat} {f : Addr} {name qual : Str} {params : Arguments} {body : List Stmt} {scope : Scope} {dV kV doc pm cdv ct oc : Value} {an od : Option Addr}
    {osl : Array (Option Value)} {N ps : List Str} {sp : Sp} (lk : K.lookup f = some ⟨oc, od, .func (PySem.W.fnOf name qual params body scope dV kV doc pm an cdv ct), osl⟩) (hcd : PySem.W.codeIn K cdv qual = true) (S : FnScope N ps scope)
    (len : ∀ vs H Q E, sp vs H Q E -> vs.length = ps.length)
    (hbody : ∀ (A : Around) (outer : List Env) (s : Shared) (H : Hp) (vs : List V) (Q : VK) (E : XK), Room k (A.deeper (envOfC qual scope s.heap.objs.size f cdv)) -> sp vs H Q E ->
      ∃ t, PSs (cxOf CX P w K mg base N qual scope f cdv A outer s H E) body t /\ t { nx := λ o_ H' => Q .non H', rt := Q } (start N vs) H) :
    FnOk P w K mg base CX (k + 1) f (PySem.W.fnOf name qual params body scope dV kV doc pm an cdv ct) ps sp := by
  refine ⟨len, λ A outer s H args us vs Q E hr e0 hb r hsp => ?_⟩
  have hl := len _ _ _ _ hsp
  have KX : K.In s.heap := e0.mod.kin.keeps λ b o e => (e0.bs b o e).1
  have lim : s.heap.NoLimit := e0.mod.nolimit.keeps λ b o e => (e0.bs b o e).1
  have hkind : ∀ y ∈ ps.zip us, scope.names.lookup y.1 = some .local \/ (scope.names.lookup y.1 = some .cell /\ ((cellsFrom (s.heap.objs.size + 1) scope.names []).lookup y.1).isSome = true) := λ ⟨n, v⟩ hy => by
    rcases S.par n (List.of_mem_zip hy).1 with q | q
    · exact .inl q
    · exact .inr ⟨q, PySem.W.cellsFrom_some _ _ _ (.inl q)⟩
  refine codeAny_call_function hr.depth (KX _ _ lk) rfl S.co S.gen rfl (PySem.W.codeRec_of KX hcd) (hb _ _ _ _ ?_)
  refine wpAny_newFunctionEnv_cells S.kind hkind λ env he s1 x => ?_
  subst he
  refine ⟨lim.keeps x.toInCall.keep, codeAny_func ?_⟩
  obtain ⟨t, ht, hq⟩ := hbody A outer s H vs Q E (hr.deeper _) hsp
  have I : Inv (cxOf CX P w K mg base N qual scope f cdv A outer s H E) [] (start N vs) H s1 := inv_start S hr.hd e0 hl r x
  refine wpAny_mono (ht [] s1 (start N vs) H _ I hq) (λ fl s' hs => ?_) λ e s' hs => hs
  have fin : ∀ {σ' : St} {H' : Hp} {v : V} {u : Value}, Inv (cxOf CX P w K mg base N qual scope f cdv A outer s H E) [] σ' H' s' -> RelV v u -> Q v H' -> CE outer P w H s Q u s' :=
    λ {σ' H' v u} J rv q => ⟨v, H', J.os, J.bare, J.base, J.hok, rv, q⟩
  cases fl with
  | ret u =>
    obtain ⟨v, σ', H', J, rv, q⟩ := hs
    exact fin J rv q
  | next =>
    obtain ⟨σ', H', J, q⟩ := hs
    exact fin (v := V.non) (u := Value.none) J rfl q
  | brk =>
    obtain ⟨_, _, _, q⟩ := hs
    exact False.elim q
  | cont =>
    obtain ⟨_, _, _, q⟩ := hs
    exact False.elim q
end L2
namespace L2
open PySem PySem.Spec PyProof.Rows
section
variable {X : Cx} {x : Str} {p pos : Pos} {e : Expr} {es : List Expr} {t : TA} {id T : String} {r : List V -> Hp -> VK -> Prop}
noncomputable def tCB (r : List V -> Hp -> VK -> Prop) (t : TA) : TE := λ σ H Q => t σ H λ vs H1 => r vs H1 Q
theorem pe_callB (hc : CallR X (.builtin id) r) (hg : Gl X x) (hm : X.mg x = none) (hv : bootBuiltins x = some (.builtin id)) (ha : PA X (e :: es) t) (hn : x ≠ "__name__" := by decide) (hdb : (x == ("__debug__" : Str)) = false := by decide)
    (he : starEach (e :: es) X.env = (false, eval e X.env) :: starEach es X.env := by rfl) (hpl : (backTo pos (starEach es X.env)).any (·.1) = false := by rfl) : PE X (.Call (.Name x p) (e :: es) [] pos) (tCB r t) := by
  intro pins s σ H Q I h
  refine wpAny_Call_Name_kw (ld_blt I hg hm hv ?_ hn hdb)
  exact PyProof.Rows.callWith_builtin1 (thn (ha pos pins s σ H _ I h) λ us s1 ⟨vs, H1, I1, r1, q1⟩ => hc pins s1 σ H1 vs us Q I1 r1 q1) he hpl
theorem pe_callTy (hc : CallR X (.type T) r) (hg : Gl X x) (hm : X.mg x = none) (hv : bootBuiltins x = some (.type T)) (ha : PA X (e :: es) t) (hn : x ≠ "__name__" := by decide) (hdb : (x == ("__debug__" : Str)) = false := by decide)
    (he : starEach (e :: es) X.env = (false, eval e X.env) :: starEach es X.env := by rfl) (hpl : (backTo pos (starEach es X.env)).any (·.1) = false := by rfl) : PE X (.Call (.Name x p) (e :: es) [] pos) (tCB r t) := by
  intro pins s σ H Q I h
  refine wpAny_Call_Name_kw (ld_blt I hg hm hv ?_ hn hdb)
  exact PyProof.Rows.callWith_type1 (thn (ha pos pins s σ H _ I h) λ us s1 ⟨vs, H1, I1, r1, q1⟩ => hc pins s1 σ H1 vs us Q I1 r1 q1) he hpl
end
end L2
namespace HT
open PySem PyProof.Rows
section
open PySem.SeqAt
open PySem.AutoSeq1 (wpAny_loadPart')
open PySem.MeetsSeq PySem.MeetsSeq2 PySem.MeetsSeq3
end
section
variable {prog : Program} {w : World} {A : Around} {E : Value -> Shared -> Prop} {s : Shared}
theorem cat_tup {t b : Addr} {vs ws : List Value} {Q : Value -> Shared -> Prop} (ht : IsTup s.heap t vs.toArray) (hb : IsTup s.heap b ws.toArray) (hv : vs ≠ [])
    (h1 : ws = [] -> Q (.ref t) s) (h2 : ws ≠ [] -> Q (.ref s.heap.objs.size) { s with heap := s.heap.push { cls := .type "tuple", data := .seq (vs ++ ws).toArray } })
    (hsz : vs.length + ws.length <= sizeLine) : wpAny (model prog w) A (binaryOp .Add (.ref t) (.ref b)) Q E s := by
  obtain ⟨⟨cls, dd, data, sl⟩, ho, hc, n, hd⟩ := id ht
  obtain ⟨⟨cls2, dd2, data2, sl2⟩, ho2, hc2, n2, hd2⟩ := id hb
  simp only at hc hd hc2 hd2
  subst hc hd hc2 hd2
  have e : vs.toArray ++ ws.toArray = (vs ++ ws).toArray := by simp
  by_cases hw : ws = []
  · exact concat_meets ⟨_, ho, rfl⟩ ⟨_, ho2, rfl⟩ noFill_tuple_add seq_tuple_add PySem.F.slot_tuple_add PySem.F.entry_tuple_add (PySem.F.args_tuple_add_2 _ _)
      (tuple_addW1 t b vs.toArray ws.toArray n n2 dd dd2 sl sl2 (by simpa using hv) (by simp [hw])) ⟨ho, ho2, h1 hw⟩
  · refine concat_meets ⟨_, ho, rfl⟩ ⟨_, ho2, rfl⟩ noFill_tuple_add seq_tuple_add PySem.F.slot_tuple_add PySem.F.entry_tuple_add (PySem.F.args_tuple_add_2 _ _)
      (tuple_addW2 t b vs.toArray ws.toArray n n2 dd dd2 sl sl2 (by simpa using hv) (by simpa using hw) (by rw [List.size_toArray, List.size_toArray]; exact hsz)) ⟨ho, ho2, ?_⟩
    rw [e]
    exact h2 hw
noncomputable def sIx (n d : Nat) : Option Int -> Nat
  | none => d
  | some v => if v < 0 then (v + (n : Int)).toNat else min v.toNat n
end
end HT
namespace L2
open PySem PySem.Spec PyProof.Rows
noncomputable abbrev TO := St -> Hp -> (Option Int -> Hp -> Prop) -> Prop
noncomputable def PO (X : Cx) (e : Option Expr) (t : TO) : Prop :=
  ∀ (pins : List (Addr × Obj)) (s : Shared) (σ : St) (H : Hp) (Q : Option Int -> Hp -> Prop), Inv X pins σ H s -> t σ H Q ->
    wpAny (model X.prog X.w) X.A (evalPart e X.env) (λ u s' => ∃ o H', Inv X pins σ H' s' /\ IsPart u o /\ Q o H') X.xe s
noncomputable def tNoPart : TO := λ o_ H Q => Q none H
noncomputable def tPart (t : TE) : TO := λ σ H Q => t σ H λ x H1 => ∃ i, x = .int i /\ Q (some i) H1
section
variable {X : Cx} {e : Expr} {te : TE} {lo hi : Option Expr} {tl th : TO} {pos p2 : Pos}
theorem po_none : PO X none tNoPart := by
  intro pins s σ H Q I h
  rw [evalPart_none]
  exact wpAny_pure ⟨none, H, I, .none, h⟩
theorem po_some (h : PE X e te) : PO X (some e) (tPart te) := by
  intro pins s σ H Q I hw
  rw [evalPart_some]
  refine thn (h pins s σ H _ I hw) λ u s1 ⟨x, H1, I1, r1, q1⟩ => ?_
  obtain ⟨i, rfl, q⟩ := q1
  obtain ⟨t, rfl⟩ := r1
  exact ⟨some i, H1, I1, .int i t, q⟩
noncomputable def SlR (X : Cx) (r : V -> Option Int -> Option Int -> Hp -> VK -> Prop) : Prop :=
  ∀ (pins : List (Addr × Obj)) (s : Shared) (σ : St) (H : Hp) (x : V) (v vl vu : Value) (lo hi : Option Int) (sl : Addr) (Q : VK), Inv X pins σ H s -> RelV x v -> s.heap.IsSliceOf sl vl vu .none -> IsPart vl lo -> IsPart vu hi -> r x lo hi H Q ->
    ∃ T id, typeLookup (.type T) "__getitem__" = pure (some (.builtin id)) /\ s.TypeIs v T /\ wpAny (model X.prog X.w) X.A (getItem v (.ref sl)) (EP X pins σ Q) X.xe s
noncomputable def tSl (r : V -> Option Int -> Option Int -> Hp -> VK -> Prop) (te : TE) (tl th : TO) : TE := λ σ H Q => te σ H λ x H1 => tl σ H1 λ l H2 => th σ H2 λ u H3 => r x l u H3 Q
theorem pe_slice {r : V -> Option Int -> Option Int -> Hp -> VK -> Prop} (hr : SlR X r) (he : PE X e te) (hl : PO X lo tl) (hu : PO X hi th) : PE X (.Subscript e (.Slice lo hi none p2) pos) (tSl r te tl th) := by
  intro pins s σ H Q I h
  refine Subscript_ (thn (he pins s σ H _ I h) λ v s1 ⟨x, H1, I1, r1, q1⟩ => ?_)
  refine wpAny_Slice (thn (hl pins s1 σ H1 _ I1 q1) λ vl s2 ⟨l, H2, I2, pl, q2⟩ => thn (hu pins s2 σ H2 _ I2 q2) λ vu s3 ⟨u, H3, I3, pu, q3⟩ => ?_)
  rw [evalPart_none]
  refine wpAny_pure ?_
  have I4 : Inv X pins σ H3 { s3 with heap := s3.heap.push { cls := .type "slice", data := .fields #[vl, vu, .none] } } := I3.kept (t' := s3.toks) λ b ob q => Heap.get?_push_of_some _ q
  obtain ⟨T, id, hT, ht, hg⟩ := hr pins { s3 with heap := s3.heap.push { cls := .type "slice", data := .fields #[vl, vu, .none] } } σ H3 x v vl vu l u s3.heap.objs.size Q I4 r1 (Heap.IsSliceOf.new ..) pl pu q3
  show wpAny (model X.prog X.w) X.A (subscriptTail e (.Slice lo hi none p2) v (.ref s3.heap.objs.size)) (EP X pins σ Q) X.xe { s3 with heap := s3.heap.push { cls := .type "slice", data := .fields #[vl, vu, .none] } }
  exact tail_any (ops := [.ref s3.heap.objs.size, v]) ht hT hg (by with_unfolding_all rfl)
noncomputable def cutV (xs : List V) (lo hi : Option Int) : List V := (xs.drop (HT.sIx xs.length 0 lo)).take (HT.sIx xs.length xs.length hi - HT.sIx xs.length 0 lo)
theorem cutV_length (xs : List V) (lo hi : Option Int) : (cutV xs lo hi).length <= xs.length := by
  unfold cutV
  rw [List.length_take, List.length_drop]
  omega
noncomputable def rCatT (K : PySem.W.Frag) : R2 := λ x y H Q => ∃ a b xs ys, x = .ref a /\ y = .ref b /\ SqT K H a xs /\ SqT K H b ys /\ xs ≠ [] /\ xs.length + ys.length <= sizeLine /\
  (ys = [] -> Q (.ref a) H) /\ (ys ≠ [] -> ∀ p, H p = none -> Q (.ref p) (upd H p (.tup (xs ++ ys))))
theorem Vals.nil_iff {xs : List V} {us : List Value} (r : Vals xs us) : us = [] ↔ xs = [] := by
  cases r with
  | nil => simp
  | cons _ _ => simp
theorem op_catT : OpR X (binaryOp .Add) (rCatT X.K) := by
  intro pins s σ H x y v u Q I rx ry h
  obtain ⟨a, b, xs, ys, rfl, rfl, ha, hb, hx, hz, q1, q2⟩ := h
  cases rx
  cases ry
  obtain ⟨its, r1, p1, _⟩ := I.tuple ha
  obtain ⟨its2, r2, p2, _⟩ := I.tuple hb
  refine HT.cat_tup p1 p2 (λ z => hx (r1.nil_iff.mp z)) (λ z => ⟨.ref a, H, I, rfl, q1 (r2.nil_iff.mp z)⟩) (λ z => ?_) (by rw [<- r1.length, <- r2.length]; exact hz)
  refine ⟨.ref s.heap.objs.size, _, I.laid (t' := s.toks) (o := .tup (xs ++ ys)) (λ b ob q => Heap.get?_push_of_some _ q) (Nat.le_refl _) ?_, rfl, q2 (λ w => z (r2.nil_iff.mpr w)) _ (I.hok.fresh (Nat.le_refl _))⟩
  exact ⟨by rw [List.length_append]; exact hz, _, r1.append r2, IsTup.new _ _⟩
end
end L2
namespace L2
open PySem PySem.Spec PyProof.Rows
noncomputable def ixN (n : Nat) (i : Int) : Option Nat := if 0 <= i then (if i < n then some i.toNat else none) else if -(n : Int) <= i then some (i + n).toNat else none
noncomputable def atI {α : Type} (xs : List α) (i : Int) : Option α := (ixN xs.length i).bind λ j => xs[j]?
theorem ixN_seq {n : Nat} {i : Int} {j : Nat} (h : ixN n i = some j) : seqIndex? i n = some j /\ j < n /\ -(n : Int) <= i /\ i < n := by
  unfold ixN at h
  by_cases h0 : 0 <= i
  · rw [if_pos h0] at h
    by_cases h1 : i < n
    · rw [if_pos h1] at h
      have e : i.toNat = j := Option.some.inj h
      exact ⟨by rw [seqIndex_of h0 h1, e], by omega, by omega, h1⟩
    · rw [if_neg h1] at h; cases h
  · rw [if_neg h0] at h
    by_cases h1 : -(n : Int) <= i
    · rw [if_pos h1] at h
      have e : (i + n).toNat = j := Option.some.inj h
      exact ⟨by rw [seqIndex_neg (by omega) h1, e], by omega, h1, by omega⟩
    · rw [if_neg h1] at h; cases h
theorem atI_get {α : Type} {xs : List α} {i : Int} {v : α} (h : atI xs i = some v) : ∃ j, seqIndex? i xs.length = some j /\ xs[j]? = some v /\ j < xs.length /\ -(xs.length : Int) <= i /\ i < xs.length := by
  unfold atI at h
  cases e : ixN xs.length i with
  | none => rw [e] at h; cases h
  | some j =>
    rw [e] at h
    obtain ⟨h1, h2, h3, h4⟩ := ixN_seq e
    exact ⟨j, h1, h, h2, h3, h4⟩
noncomputable def PlainIx (b : Expr) : Prop := ∀ o i, subscripted b false o i = operate [o, i] (getItem o i)
noncomputable def IxR (X : Cx) (r : R2) : Prop :=
  ∀ (value slice : Expr) (pins : List (Addr × Obj)) (s : Shared) (σ : St) (H : Hp) (x y : V) (v u : Value) (Q : VK), Inv X pins σ H s -> RelV x v -> RelV y u -> r x y H Q ->
    subscripted slice false v u = operate [v, u] (getItem v u) -> wpAny (model X.prog X.w) X.A (subscriptTail value slice v u) (EP X pins σ Q) X.xe s
noncomputable def MtR (X : Cx) (id : String) (r : V -> List V -> Hp -> VK -> Prop) : Prop :=
  ∀ (pins : List (Addr × Obj)) (s : Shared) (σ : St) (H : Hp) (x : V) (xs : List V) (v : Value) (us : List Value) (Q : VK), Inv X pins σ H s -> RelV x v -> Vals xs us -> r x xs H Q ->
    wpAny (model X.prog X.w) X.A (call (.builtin id) (v :: us)) (EP X pins σ Q) X.xe s
section
variable {X : Cx} {a b : Expr} {ta tb : TE} {pos : Pos}
theorem IxR.or {r r' : R2} (h : IxR X r) (h' : IxR X r') : IxR X (λ x y H Q => r x y H Q \/ r' x y H Q) := by
  intro value slice pins s σ H x y v u Q I rx ry q hs
  rcases q with q | q
  · exact h value slice pins s σ H x y v u Q I rx ry q hs
  · exact h' value slice pins s σ H x y v u Q I rx ry q hs
theorem pe_ix {r : R2} (hr : IxR X r) (ha : PE X a ta) (hb : PE X b tb) (hs : PlainIx b) : PE X (.Subscript a b pos) (tOp r ta tb) := by
  intro pins s σ H Q I h
  exact Subscript_ (binT ha hb I h λ v u s2 x y H2 I2 rx ry q => hr a b pins s2 σ H2 x y v u Q I2 rx ry q (hs _ _))
noncomputable def rIxL (K : PySem.W.Frag) : R2 := λ x y H Q => ∃ p xs i v, x = .ref p /\ y = .int i /\ SqL K H p xs /\ atI xs i = some v /\ Q v H
noncomputable def rIxT (K : PySem.W.Frag) : R2 := λ x y H Q => ∃ p xs i v, x = .ref p /\ y = .int i /\ SqT K H p xs /\ atI xs i = some v /\ Q v H
noncomputable def rIxS : R2 := λ x y H Q => ∃ z i c, x = .str z /\ y = .int i /\ z.length <= sizeLine /\ atI z.cps.toList i = some c /\ Q (.str ⟨#[c]⟩) H
theorem ix_list : IxR X (rIxL X.K) := by
  intro value slice pins s σ H x y v u Q I rx ry h hs
  obtain ⟨p, xs, i, z, rfl, rfl, hq, he, q⟩ := h
  cases rx
  obtain ⟨t, rfl⟩ := ry
  obtain ⟨its, r, pl, hz⟩ := I.list hq
  obtain ⟨j, h1, h2, h3, h4, h5⟩ := atI_get he
  obtain ⟨w, ew, rw'⟩ := r.get h2
  have hl := r.length
  have hn := line63
  have fin : EP X pins σ Q w s := ⟨z, H, I, rw', q⟩
  by_cases h0 : 0 <= i
  · have hj : i.toNat = j := by
      rw [seqIndex_of h0 h5] at h1
      exact Option.some.inj h1
    exact item_listR pl.isList h0 (by omega) (by rw [hj]; simpa using ew) fin hs
  · have hj : (i + (its.toArray.size : Int)).toNat = j := by
      rw [seqIndex_neg (by omega) h4] at h1
      rw [List.size_toArray, <- hl]
      exact Option.some.inj h1
    exact subscriptTail_builtinR (x := w) pl.isList.typeIs slot_list_getitem.lookup
      (wpAny_getItem_list_neg (Q := λ r s' => r = w /\ EP X pins σ Q r s') pl.isList (by omega) (by rw [List.size_toArray] <;> omega) (by omega) (by rw [hj]; simpa using ew) ⟨rfl, fin⟩) hs
theorem ix_tup : IxR X (rIxT X.K) := by
  intro value slice pins s σ H x y v u Q I rx ry h hs
  obtain ⟨p, xs, i, z, rfl, rfl, hq, he, q⟩ := h
  cases rx
  obtain ⟨t, rfl⟩ := ry
  obtain ⟨its, r, pl, hz⟩ := I.tuple hq
  obtain ⟨j, h1, h2, h3, h4, h5⟩ := atI_get he
  obtain ⟨w, ew, rw'⟩ := r.get h2
  have hl := r.length
  have hn := line63
  have fin : EP X pins σ Q w s := ⟨z, H, I, rw', q⟩
  exact subscriptTail_builtinR (x := w) pl.typeIs slot_tuple_getitem.lookup
    (getItem_tuple (j := j) (Q := λ r s' => r = w /\ EP X pins σ Q r s') pl (by omega) (by omega) (by rw [List.size_toArray, <- hl]; exact h1) (by simpa using ew) ⟨rfl, fin⟩) hs
theorem ix_str : IxR X rIxS := by
  intro value slice pins s σ H x y v u Q I rx ry h hs
  obtain ⟨z, i, c, rfl, rfl, hz, he, q⟩ := h
  obtain ⟨t, rfl⟩ := rx
  obtain ⟨t', rfl⟩ := ry
  obtain ⟨j, h1, h2, h3, h4, h5⟩ := atI_get he
  have hl : z.cps.toList.length = z.length := by simp [Str.length]
  rw [hl] at h1 h4 h5
  have hn := line63
  exact tail_any (typeIs_str s z t) slot_str_getitem.lookup (getItem_str (c := c) (by
    have e1 : decide (i < -(2 ^ 63 : Int)) = false := decide_eq_false (by omega)
    have e2 : decide (i ≥ 2 ^ 63) = false := decide_eq_false (by omega)
    rw [e1, e2, Bool.or_false]) (by rw [h1]; simpa using h2) ⟨.str ⟨#[c]⟩, H, I.tok _, ⟨_, rfl⟩, q⟩) hs
noncomputable def rIx (K : PySem.W.Frag) : R2 := λ x y H Q => rIxL K x y H Q \/ rIxT K x y H Q \/ rIxS x y H Q
theorem ix_seq : IxR X (rIx X.K) := ix_list.or (ix_tup.or ix_str)
theorem mapSeq_set (its : List Value) (n j : Nat) (u : Value) : Obj.mapSeq (·.setIfInBounds j u) { cls := .type "list", data := .seq its.toArray n } = { cls := .type "list", data := .seq (its.set j u).toArray n } := by
  simp [Obj.mapSeq]
theorem Inv.lst {pins : List (Addr × Obj)} {σ : St} {H : Hp} {s : Shared} {p : Addr} {xs : List V} (I : Inv X pins σ H s) (h : H p = some (.lst xs)) :
    ∃ (its : List Value) (n : Nat), Vals xs its /\ s.heap.get? p = some { cls := .type "list", data := .seq its.toArray n } /\ xs.length <= sizeLine := by
  obtain ⟨z, its, n, r, e⟩ := I.hok p _ h
  exact ⟨its, n, r, e, z⟩
theorem Inv.lstUpd {pins : List (Addr × Obj)} {σ : St} {H : Hp} {s : Shared} {p : Addr} {xs ys : List V} {its its' : List Value} {n n' : Nat} {f : Obj -> Obj} (I : Inv X pins σ H s) (h : H p = some (.lst xs))
    (ho : s.heap.get? p = some { cls := .type "list", data := .seq its.toArray n }) (hf : f { cls := .type "list", data := .seq its.toArray n } = { cls := .type "list", data := .seq its'.toArray n' }) (r : Vals ys its') (hz : ys.length <= sizeLine) (t : Nat) :
    Inv X pins σ (upd H p (.lst ys)) { s with heap := s.heap.update p f, toks := t } := by
  have e : (s.heap.update p f).get? p = some { cls := .type "list", data := .seq its'.toArray n' } := by
    rw [Heap.get?_update_self f ho (by rw [hf] <;> rfl), hf]
  refine I.write (x := p) (e := p) (by rw [h]; trivial) (.inl rfl) (λ b u hb q => (Heap.get?_update_other _ _ (Ne.symm hb)).trans q) ⟨_, e⟩ ?_
  exact ⟨hz, its', n', r, e⟩
noncomputable def rSetL : V -> V -> V -> Hp -> (Hp -> Prop) -> Prop := λ o i v H Q => ∃ p xs k j, o = .ref p /\ i = .int k /\ H p = some (.lst xs) /\ ixN xs.length k = some j /\ Q (upd H p (.lst (xs.set j v)))
theorem set_list : PSet X rSetL := by
  intro pins s σ H o i v ov iv u Q I ro ri rv h
  obtain ⟨p, xs, k, j, rfl, rfl, hp, hj, q⟩ := h
  cases ro
  obtain ⟨t, rfl⟩ := ri
  obtain ⟨its, n, r, ho, hz⟩ := I.lst hp
  obtain ⟨h1, h2, h3, h4⟩ := ixN_seq hj
  have hl := r.length
  have hn := line63
  have I' : Inv X pins σ (upd H p (.lst (xs.set j v))) { s with heap := s.heap.update p (Obj.mapSeq (·.setIfInBounds j u)) } :=
    I.lstUpd hp ho (mapSeq_set its n j u) (r.set rv j) (by rw [List.length_set]; exact hz) s.toks
  by_cases h0 : 0 <= k
  · have hk : k.toNat = j := by
      rw [seqIndex_of h0 h4] at h1
      exact Option.some.inj h1
    exact PySem.W.ki_setAt ho h0 (by omega) (by rw [List.size_toArray, <- hl]; exact h4) (by rw [hk]; exact ⟨_, I', q⟩)
  · have hk : (k + (its.toArray.size : Int)).toNat = j := by
      rw [seqIndex_neg (by omega) h3] at h1
      rw [List.size_toArray, <- hl]
      exact Option.some.inj h1
    exact PySem.W.ki_setBack ho (by omega) (by rw [List.size_toArray, <- hl]; exact h3) (by omega) (by rw [hk]; exact ⟨_, I', q⟩)
theorem slice_bounds (lo hi : Option Int) (n : Nat) : (sliceBounds lo hi none n).1 = ((HT.sIx n 0 lo : Nat) : Int) /\ (sliceBounds lo hi none n).2.1 = ((HT.sIx n n hi : Nat) : Int) /\ (sliceBounds lo hi none n).2.2 = 1 := by
  refine ⟨?_, ?_, rfl⟩
  · cases lo with
    | none => simp [sliceBounds, HT.sIx]
    | some i =>
      simp only [sliceBounds, HT.sIx, Option.getD_none, show (1 : Int) > 0 by decide, if_true]
      by_cases h : i < 0
      · simp only [h, if_true] <;> omega
      · simp only [h, if_false] <;> omega
  · cases hi with
    | none => simp [sliceBounds, HT.sIx]
    | some i =>
      simp only [sliceBounds, HT.sIx, Option.getD_none, show (1 : Int) > 0 by decide, if_true]
      by_cases h : i < 0
      · simp only [h, if_true] <;> omega
      · simp only [h, if_false] <;> omega
theorem slicePick_cut (its : List Value) (lo hi : Option Int) : slicePick its.toArray lo hi none = ((its.drop (HT.sIx its.length 0 lo)).take (HT.sIx its.length its.length hi - HT.sIx its.length 0 lo)).toArray := by
  obtain ⟨h1, h2, h3⟩ := slice_bounds lo hi its.toArray.size
  unfold slicePick
  rw [h1, h2, h3]
  simp only [sliceRange_one, pick_run, List.size_toArray] <;> rfl
noncomputable def rSlL (K : PySem.W.Frag) : V -> Option Int -> Option Int -> Hp -> VK -> Prop := λ x lo hi H Q => ∃ a xs, x = .ref a /\ SqL K H a xs /\ ∀ p, H p = none -> Q (.ref p) (upd H p (.lst (cutV xs lo hi)))
theorem sl_list : SlR X (rSlL X.K) := by
  intro pins s σ H x v vl vu lo hi sl Q I rx hs pl pu h
  obtain ⟨a, xs, rfl, hx, q⟩ := h
  cases rx
  obtain ⟨its, r, ht, hz⟩ := I.list hx
  have hlen := r.length
  refine ⟨"list", _, slot_list_getitem.lookup, ht.isList.typeIs, ?_⟩
  refine wpAny_getItem_list_slice ht.isList hs pl pu .none (by simp) ?_ (by rw [List.size_toArray] <;> omega)
  rw [slicePick_cut, <- hlen]
  refine ⟨.ref s.heap.objs.size, _, I.laid (t' := s.toks) (o := .lst (cutV xs lo hi)) (λ b ob q => Heap.get?_push_of_some _ q) (Nat.le_refl _) ?_, rfl, q _ (I.hok.fresh (Nat.le_refl _))⟩
  exact ⟨Nat.le_trans (cutV_length xs lo hi) hz, _, 0, (r.drop (HT.sIx xs.length 0 lo)).take (HT.sIx xs.length xs.length hi - HT.sIx xs.length 0 lo), Heap.get?_push_size _ rfl⟩
noncomputable def flatV : V -> Bool
  | .non => true
  | .bl _ => true
  | .int _ => true
  | .str _ => true
  | _ => false
noncomputable def eqV : V -> V -> Bool
  | .non, .non => true
  | .bl a, .bl b => a == b
  | .bl a, .int b => (if a then 1 else 0) == b
  | .int a, .bl b => a == (if b then 1 else 0)
  | .int a, .int b => a == b
  | .str a, .str b => a == b
  | _, _ => false
theorem eqAt_V {A : Around} {s : Shared} {y x : V} {u v : Value} (ry : RelV y u) (rx : RelV x v) (fy : flatV y = true) (fx : flatV x = true) : SeqAt.EqAt A s u v (eqV y x) := by
  cases y with
  | non =>
    cases ry
    cases x with
    | non => cases rx; exact SeqAt.EqAt.same _
    | bl b => cases rx; exact SeqAt.EqAt.none_bool b
    | int b => obtain ⟨t, rfl⟩ := rx; exact SeqAt.EqAt.none_int b t
    | str b => obtain ⟨t, rfl⟩ := rx; exact SeqAt.EqAt.none_str b t
    | _ => exact absurd (show false = true from fx) Bool.false_ne_true
  | bl a =>
    cases ry
    cases x with
    | non => cases rx; exact SeqAt.EqAt.bool_none a
    | bl b => cases rx; exact SeqAt.EqAt.bool_bool a b
    | int b => obtain ⟨t, rfl⟩ := rx; exact SeqAt.EqAt.bool_int a b t
    | str b => obtain ⟨t, rfl⟩ := rx; exact SeqAt.EqAt.bool_str a b t
    | _ => exact absurd (show false = true from fx) Bool.false_ne_true
  | int a =>
    obtain ⟨t', rfl⟩ := ry
    cases x with
    | non => cases rx; exact SeqAt.EqAt.int_none a t'
    | bl b => cases rx; exact SeqAt.EqAt.int_bool a t' b
    | int b => obtain ⟨t, rfl⟩ := rx; exact SeqAt.EqAt.int_int a t' b t
    | str b => obtain ⟨t, rfl⟩ := rx; exact SeqAt.EqAt.int_str a t' b t
    | _ => exact absurd (show false = true from fx) Bool.false_ne_true
  | str a =>
    obtain ⟨t', rfl⟩ := ry
    cases x with
    | non => cases rx; exact SeqAt.EqAt.str_none a t'
    | bl b => cases rx; exact SeqAt.EqAt.str_bool a t' b
    | int b => obtain ⟨t, rfl⟩ := rx; exact SeqAt.EqAt.str_int a t' b t
    | str b => obtain ⟨t, rfl⟩ := rx; exact SeqAt.EqAt.str_str a t' b t
    | _ => exact absurd (show false = true from fx) Bool.false_ne_true
  | _ => exact absurd (show false = true from fy) Bool.false_ne_true
noncomputable def eqU (x : V) (u : Value) : Bool := match u with
  | .none => eqV .non x
  | .bool b => eqV (.bl b) x
  | .int i _ => eqV (.int i) x
  | .str z _ => eqV (.str z) x
  | _ => false
theorem eqU_of {x y : V} {u : Value} (r : RelV y u) (f : flatV y = true) : eqU x u = eqV y x := by
  cases y with
  | non => cases r; rfl
  | bl b => cases r; rfl
  | int i => obtain ⟨t, rfl⟩ := r; rfl
  | str z => obtain ⟨t, rfl⟩ := r; rfl
  | _ => exact absurd (show false = true from f) Bool.false_ne_true
theorem any_eqU {x : V} : ∀ {xs : List V} {us : List Value}, Vals xs us -> xs.all flatV = true -> us.any (eqU x) = xs.any λ y => eqV y x
  | _, _, .nil, _ => rfl
  | y :: xs, u :: us, .cons r t, f => by
    rw [List.all_cons, Bool.and_eq_true] at f
    rw [List.any_cons, List.any_cons, eqU_of r f.1, any_eqU t f.2]
theorem mem_eqAt {A : Around} {s : Shared} {x : V} {v : Value} (rx : RelV x v) (fx : flatV x = true) : ∀ {xs : List V} {us : List Value}, Vals xs us -> xs.all flatV = true -> ∀ u ∈ us, SeqAt.EqAt A s u v (eqU x u)
  | _, _, .nil, _ => λ u hu => by cases hu
  | y :: xs, u :: us, .cons r t, f => λ u' hu => by
    rw [List.all_cons, Bool.and_eq_true] at f
    rcases List.mem_cons.mp hu with rfl | hu
    · rw [eqU_of r f.1]; exact eqAt_V r rx f.1 fx
    · exact mem_eqAt rx fx t f.2 u' hu
noncomputable def inV (x : V) (xs : List V) : Bool := xs.any λ y => eqV y x
noncomputable def rIn (K : PySem.W.Frag) (neg : Bool) : R2 := λ x y H Q => ∃ p xs, y = .ref p /\ (SqL K H p xs \/ SqT K H p xs) /\ flatV x = true /\ xs.all flatV = true /\ Q (.bl (if neg then !inV x xs else inV x xs)) H
theorem op_in_seq : OpR X (compareOp .In) (rIn X.K false) := by
  intro pins s σ H x y v u Q I rx ry h
  obtain ⟨p, xs, rfl, hq, fx, fs, q⟩ := h
  cases ry
  rcases hq with hq | hq
  · obtain ⟨its, r, pl, hz⟩ := I.list hq
    refine SeqAt.in_listAt (eqU x) pl.isList (λ w hw => mem_eqAt rx fx r fs w (by simpa using hw)) ⟨.bl _, H, I, rfl, ?_⟩
    rw [show its.toArray.any (eqU x) = its.any (eqU x) by simp, any_eqU r fs]
    exact q
  · obtain ⟨its, r, pl, hz⟩ := I.tuple hq
    refine SeqAt.in_tupleAt (eqU x) pl (λ w hw => mem_eqAt rx fx r fs w (by simpa using hw)) ⟨.bl _, H, I, rfl, ?_⟩
    rw [show its.toArray.any (eqU x) = its.any (eqU x) by simp, any_eqU r fs]
    exact q
theorem op_notIn_seq : OpR X (compareOp .NotIn) (rIn X.K true) := by
  intro pins s σ H x y v u Q I rx ry h
  obtain ⟨p, xs, rfl, hq, fx, fs, q⟩ := h
  cases ry
  rcases hq with hq | hq
  · obtain ⟨its, r, pl, hz⟩ := I.list hq
    refine SeqAt.notIn_listAt (eqU x) pl.isList (λ w hw => mem_eqAt rx fx r fs w (by simpa using hw)) ⟨.bl _, H, I, rfl, ?_⟩
    rw [show its.toArray.any (eqU x) = its.any (eqU x) by simp, any_eqU r fs]
    exact q
  · obtain ⟨its, r, pl, hz⟩ := I.tuple hq
    refine SeqAt.notIn_tupleAt (eqU x) pl (λ w hw => mem_eqAt rx fx r fs w (by simpa using hw)) ⟨.bl _, H, I, rfl, ?_⟩
    rw [show its.toArray.any (eqU x) = its.any (eqU x) by simp, any_eqU r fs]
    exact q
theorem call_len_seq : CallR X (.builtin "len") (λ xs H Q => ∃ p ys, xs = [.ref p] /\ (SqL X.K H p ys \/ SqT X.K H p ys) /\ Q (.int ys.length) H) := by
  intro pins s σ H xs us Q I r h
  obtain ⟨p, ys, rfl, hq, q⟩ := h
  obtain ⟨u, rfl, rx⟩ := vals1 r
  cases rx
  have hn := line63
  rcases hq with hq | hq
  · obtain ⟨its, r', pl, hz⟩ := I.list hq
    have hlen := r'.length
    exact Calls.call_len_list pl.isList (by simp only [List.size_toArray] <;> omega) ⟨.int ys.length, H, I.tok _, ⟨s.toks + 1, by rw [List.size_toArray, hlen]⟩, q⟩
  · obtain ⟨its, r', pl, hz⟩ := I.tuple hq
    have hlen := r'.length
    exact len_tuple pl (by simp only [List.size_toArray] <;> omega) ⟨.int ys.length, H, I.tok _, ⟨s.toks + 1, by rw [List.size_toArray, hlen]⟩, q⟩
theorem call_len_str : CallR X (.builtin "len") (λ xs H Q => ∃ z, xs = [.str z] /\ z.length <= sizeLine /\ Q (.int z.length) H) := by
  intro pins s σ H xs us Q I r h
  obtain ⟨z, rfl, hz, q⟩ := h
  obtain ⟨u, rfl, t, rfl⟩ := vals1 r
  have hn := line63
  exact len_str (by omega) ⟨.int z.length, H, I.tok _, ⟨_, rfl⟩, q⟩
theorem call_list_of : CallR X (.type "list") (λ xs H Q => ∃ p ys, xs = [.ref p] /\ (SqL X.K H p ys \/ SqT X.K H p ys) /\ ∀ l, H l = none -> Q (.ref l) (upd H l (.lst ys))) := by
  intro pins s σ H xs us Q I r h
  obtain ⟨p, ys, rfl, hq, q⟩ := h
  obtain ⟨u, rfl, rx⟩ := vals1 r
  cases rx
  have fin : ∀ (its : List Value), Vals ys its -> ys.length <= sizeLine -> ∀ (h' : Heap) (c' : Nat), (∀ b o', s.heap.get? b = some o' -> h'.get? b = some o') ->
      h'.get? s.heap.objs.size = some { cls := .type "list", dict := none, data := .seq its.toArray c', slots := #[] } -> EP X pins σ Q (.ref s.heap.objs.size) { s with heap := h' } := λ its r' hz h' c' kp e =>
    ⟨.ref s.heap.objs.size, _, I.laid (t' := s.toks) kp (Nat.le_refl _) (show ObjOk X.prog X.w _ h' _ (.lst ys) from ⟨hz, its, c', r', e⟩), rfl, q _ (I.hok.fresh (Nat.le_refl _))⟩
  rcases hq with hq | hq
  · obtain ⟨its, r', pl, hz⟩ := I.list hq
    have hlen := r'.length
    obtain ⟨o, ho, hc, n, hd⟩ := pl.isList
    exact call_list_seq p (.inl rfl) ho hc hd (λ h' c' kp e => fin its r' hz h' c' kp e) (by simp only [List.size_toArray] <;> omega)
  · obtain ⟨its, r', pl, hz⟩ := I.tuple hq
    have hlen := r'.length
    obtain ⟨o, ho, hc, n, hd⟩ := pl
    exact call_list_seq p (.inr rfl) ho hc hd (λ h' c' kp e => fin its r' hz h' c' kp e) (by simp only [List.size_toArray] <;> omega)
theorem call_tuple_of : CallR X (.type "tuple") (λ xs H Q => ∃ p ys, xs = [.ref p] /\ ((SqL X.K H p ys /\ ∀ l, H l = none -> Q (.ref l) (upd H l (.tup ys))) \/ (SqT X.K H p ys /\ Q (.ref p) H))) := by
  intro pins s σ H xs us Q I r h
  obtain ⟨p, ys, rfl, h⟩ := h
  obtain ⟨u, rfl, rx⟩ := vals1 r
  cases rx
  rcases h with ⟨hq, q⟩ | ⟨hq, q⟩
  · obtain ⟨its, r', pl, hz⟩ := I.list hq
    have hlen := r'.length
    refine call_tuple_list pl.isList (λ h' kp => ?_) (by simp only [List.size_toArray] <;> omega)
    have I1 : Inv X pins σ H { s with heap := h' } := I.kept (t' := s.toks) kp
    have I2 : Inv X pins σ (upd H h'.objs.size (.tup ys)) { s with heap := h'.push { cls := .type "tuple", data := .seq its.toArray } } :=
      I1.laid (t' := s.toks) (λ b o e => Heap.get?_push_of_some _ e) (Nat.le_refl _) (show ObjOk X.prog X.w _ _ _ (.tup ys) from ⟨hz, its, r', IsTup.new _ _⟩)
    exact ⟨.ref h'.objs.size, _, I2, rfl, q _ (I1.hok.fresh (Nat.le_refl _))⟩
  · obtain ⟨its, r', pl, hz⟩ := I.tuple hq
    exact call_tuple_same pl ⟨.ref p, H, I, rfl, q⟩
noncomputable def tyV (K : PySem.W.Frag) (T : String) (x : V) (H : Hp) : Prop := match x with
  | .str _ => T = "str"
  | .int _ => T = "int"
  | .ref p => (T = "list" /\ ∃ xs, SqL K H p xs) \/ (T = "tuple" /\ ∃ o, K.lookup p = some o /\ o.cls = .type "tuple" /\ o.dict = none) \/
      (T = "dict" /\ ((∃ kvs, H p = some (.dK kvs)) \/ ∃ kvs, H p = some (.dT kvs))) \/ (T = "set" /\ ∃ S n, H p = some (.set S n))
  | _ => False
theorem tyV_is {pins : List (Addr × Obj)} {σ : St} {H : Hp} {s : Shared} {T : String} {x : V} {v : Value} (I : Inv X pins σ H s) (r : RelV x v) (ty : tyV X.K T x H) :
    s.TypeIs v T /\ ∀ a, v = .ref a -> ∃ ob, s.heap.get? a = some ob /\ ob.dict = none := by
  cases x with
  | str z =>
    obtain ⟨t, rfl⟩ := r
    cases (show T = "str" from ty)
    exact ⟨typeIs_str s z t, λ o_ e => nomatch e⟩
  | int i =>
    obtain ⟨t, rfl⟩ := r
    cases (show T = "int" from ty)
    exact ⟨typeIs_int s i t, λ o_ e => nomatch e⟩
  | ref p =>
    cases r
    rcases ty with ⟨rfl, xs, hq⟩ | ⟨rfl, o, hk, hc, hd⟩ | ⟨rfl, hk⟩ | ⟨rfl, S, n, hk⟩
    · obtain ⟨its, _, pl, _⟩ := I.list hq
      refine ⟨pl.isList.typeIs, λ a e => ?_⟩
      cases e
      obtain ⟨o, n, e, c, hd, _⟩ := pl
      exact ⟨o, e, hd⟩
    · refine ⟨⟨o, I.kIn p o hk, hc⟩, λ a e => ?_⟩
      cases e
      exact ⟨o, I.kIn _ o hk, hd⟩
    · have z : ∃ o, s.heap.get? p = some o /\ o.ExactDict := by
        rcases hk with ⟨kvs, hk⟩ | ⟨kvs, hk⟩
        · obtain ⟨_, _, _, _, o, _, _, e, ex, _⟩ := I.hok p _ hk
          exact ⟨o, e, ex⟩
        · obtain ⟨_, _, _, _, o, _, _, e, ex, _⟩ := I.hok p _ hk
          exact ⟨o, e, ex⟩
      obtain ⟨o, e, ex⟩ := z
      refine ⟨⟨o, e, ex.1⟩, λ a e2 => ?_⟩
      cases e2
      exact ⟨o, e, ex.2.1⟩
    · obtain ⟨o, _, _, _, e, ex, _⟩ := I.hok p _ hk
      refine ⟨⟨o, e, ex.1⟩, λ a e2 => ?_⟩
      cases e2
      exact ⟨o, e, ex.2.1⟩
  | _ => exact False.elim ty
noncomputable def tBM (K : PySem.W.Frag) (T : String) (r : V -> List V -> Hp -> VK -> Prop) (to : TE) (t : TA) : TE := λ σ H Q => to σ H λ x H1 => tyV K T x H1 /\ t σ H1 λ xs H2 => r x xs H2 Q
variable {o e : Expr} {es : List Expr} {to : TE} {t : TA} {name : Str} {apos cpos : Pos} {T id : String} {r : V -> List V -> Hp -> VK -> Prop}
theorem pe_bm (pa : PlainAttrs T) (slot : Slot T name id) (hty : typeOf (.builtin id) = pure (.type "method_descriptor")) (hm : MtR X id r) (ho : PE X o to) (ha : PA X (e :: es) t)
    (hbase : attributeBase o name X.env (eval o X.env) = eval o X.env := by rfl)
    (hfew : ((backTo cpos (starEach (e :: es) X.env)).all (λ x => !x.1) && (backToKw cpos (keywordEach [] X.env)).all (λ x => x.1.isSome)
      && decide ((e :: es).length + ([] : List Keyword).length + (if ([] : List Keyword).isEmpty then 0 else 1) < 30)) = true := by rfl)
    (hline : (apos.endLine == cpos.line) = true := by rfl) (hs : starEach (e :: es) X.env = (false, eval e X.env) :: starEach es X.env := by rfl) (hplain : (backTo cpos (starEach es X.env)).any (·.1) = false := by rfl) :
    PE X (.Call (.Attribute o name apos) (e :: es) [] cpos) (tBM X.K T r to t) := by
  intro pins s σ H Q I h
  refine wpAny_Call_method_late hbase hfew hline rfl (thn (ho pins s σ H _ I h) λ v s1 ⟨x, H1, I1, r1, ty, q1⟩ => ?_)
  obtain ⟨h1, h2⟩ := tyV_is I1 r1 ty
  refine ⟨T, id, pa, slot, hty, h1, h2, ?_⟩
  have hA := ha cpos pins s1 σ H1 _ I1 q1
  rw [hs] at hA ⊢
  refine Calls.callWith_builtin (by show (false || (backTo cpos (starEach es X.env)).any (·.1)) = false; rw [hplain] <;> rfl) (Calls.evalArgs_plain ?_)
  exact thn hA λ us s2 ⟨vs, H2, I2, r2, q2⟩ => hm pins s2 σ H2 x vs v us Q I2 r1 r2 q2
end
end L2
namespace L2
open PySem PySem.Spec PyProof.Rows
noncomputable def MtM (X : Cx) (id : String) (r : V -> List V -> Hp -> VK -> Prop) : Prop :=
  ∀ (pins : List (Addr × Obj)) (s : Shared) (σ : St) (H : Hp) (x : V) (xs : List V) (v : Value) (us : List Value) (Q : VK), Inv X pins σ H s -> RelV x v -> Vals xs us -> r x xs H Q ->
    wpAny (model X.prog X.w) X.A (call (.builtin id) (v :: us)) (EP X pins σ Q) X.xe s
theorem Vals.one : ∀ {x : V} {us : List Value}, Vals [x] us -> ∃ u, us = [u] /\ RelV x u
  | _, _, .cons r .nil => ⟨_, rfl, r⟩
theorem Vals.zero : ∀ {us : List Value}, Vals [] us -> us = []
  | _, .nil => rfl
section
variable {X : Cx} {pins : List (Addr × Obj)} {σ : St} {H : Hp} {s : Shared} {l b : Addr} {xs ys zs : List V}
theorem Inv.lset {its its' : List Value} {n : Nat} {f : Array Value -> Array Value} {t' : Nat} (I : Inv X pins σ H s) (hH : H l = some (.lst xs))
    (e : s.heap.get? l = some { cls := .type "list", data := .seq its.toArray n }) (hf : f its.toArray = its'.toArray) (hv : Vals ys its') (hz : ys.length <= sizeLine) :
    Inv X pins σ (upd H l (.lst ys)) { s with heap := s.heap.update l (Obj.mapSeq f), toks := t' } := by
  have q := PySem.IsL.update e f
  rw [hf] at q
  refine I.write (x := l) (e := l) (by rw [hH]; exact trivial) (.inl rfl) (λ b' u hb hu => (Heap.get?_update_other s.heap (Obj.mapSeq f) (Ne.symm hb)).trans hu) ⟨_, q⟩ ?_
  exact ⟨hz, its', _, hv, q⟩
theorem Inv.lnew {its : List Value} {t' : Nat} (I : Inv X pins σ H s) (hv : Vals ys its) (hz : ys.length <= sizeLine) :
    Inv X pins σ (upd H s.heap.objs.size (.lst ys)) { s with heap := s.heap.push { cls := .type "list", data := .seq its.toArray }, toks := t' } :=
  I.laid (λ o_ o_ q => Heap.get?_push_of_some _ q) (Nat.le_refl _) ⟨hz, its, 0, hv, Heap.get?_push_size _ rfl⟩
theorem Inv.fresh (I : Inv X pins σ H s) : H s.heap.objs.size = none := I.hok.fresh (Nat.le_refl _)
theorem Inv.lstM (I : Inv X pins σ H s) (hH : H l = some (.lst xs)) : xs.length <= sizeLine /\ ∃ (its : List Value) (n : Nat), Vals xs its /\ xs.length = its.length /\ s.heap.get? l = some { cls := .type "list", data := .seq its.toArray n } := by
  obtain ⟨z, its, n, r, e⟩ := I.hok l _ hH
  exact ⟨z, its, n, r, r.length, e⟩
end
section
variable {X : Cx}
noncomputable def rAppend : V -> List V -> Hp -> VK -> Prop := λ x vs H Q => ∃ l xs y, x = .ref l /\ vs = [y] /\ H l = some (.lst xs) /\ xs.length < sizeLine /\ Q .non (upd H l (.lst (xs ++ [y])))
theorem mt_append : MtM X "list.append" rAppend := by
  intro pins s σ H x vs v us Q I rx rv h
  obtain ⟨l, xs, y, rfl, rfl, hH, hz, q⟩ := h
  cases rx
  obtain ⟨u, rfl, ru⟩ := rv.one
  obtain ⟨z, its, n, r, hl, e⟩ := I.lstM hH
  refine call_meets F.slot_list_append ⟨_, e, rfl⟩ F.entry_list_append (F.args_list_append_2 _ _) (PySem.list_append l its.toArray n u (by rw [List.size_toArray]; omega)) ⟨e, ?_⟩
  refine ⟨.non, _, I.lset (its' := its ++ [u]) hH e (by simp) (r.append (.cons ru .nil)) ?_, rfl, q⟩
  rw [List.length_append, List.length_singleton]
  omega
noncomputable def rCat : R2 := λ x y H Q => ∃ l b xs zs, x = .ref l /\ y = .ref b /\ H l = some (.lst xs) /\ H b = some (.lst zs) /\ xs.length + zs.length <= sizeLine /\ ∀ p, H p = none -> Q (.ref p) (upd H p (.lst (xs ++ zs)))
end
section
variable {prog : Program} {w : World} {A : Around} {E : Value -> Shared -> Prop} {s : Shared}
end
section
variable {X : Cx}
end
end L2
namespace L2
open PySem PySem.Spec PyProof.Rows
section
variable {κ : Type} [DecidableEq κ]
noncomputable def valV (kvs : List (κ × V)) (k : κ) : Option V := (kvs.find? λ kv => decide (kv.1 = k)).map (·.2)
noncomputable def putK (kvs : List (κ × V)) (k : κ) (v : V) : List (κ × V) :=
  if (kvs.any λ kv => decide (kv.1 = k)) = true then kvs.map (λ kv => if kv.1 = k then (kv.1, v) else kv) else kvs ++ [(k, v)]
noncomputable def dropK (kvs : List (κ × V)) (k : κ) : List (κ × V) := kvs.filter λ kv => decide (kv.1 ≠ k)
theorem valV_pos {p : κ × V} {r : List (κ × V)} {k : κ} (e : p.1 = k) : valV (p :: r) k = some p.2 := by simp [valV, List.find?_cons, e]
theorem valV_neg {p : κ × V} {r : List (κ × V)} {k : κ} (e : ¬ p.1 = k) : valV (p :: r) k = valV r k := by simp [valV, List.find?_cons, e]
theorem valV_any (k : κ) : ∀ kvs : List (κ × V), (kvs.any λ kv => decide (kv.1 = k)) = (valV kvs k).isSome
  | [] => rfl
  | p :: r => by
    rw [List.any_cons]
    by_cases e : p.1 = k
    · simp only [valV_pos e, decide_eq_true e, Bool.true_or, Option.isSome_some]
    · rw [valV_neg e, decide_eq_false e, Bool.false_or]; exact valV_any k r
theorem length_putK (kvs : List (κ × V)) (k : κ) (v : V) : (putK kvs k v).length <= kvs.length + 1 := by
  unfold putK
  split
  · rw [List.length_map]; omega
  · rw [List.length_append, List.length_cons, List.length_nil]; omega
theorem RelO.isSome_eq {o : Option V} {u : Option Value} (r : RelO o u) : o.isSome = u.isSome := by
  cases o with
  | none => cases u with
    | none => rfl
    | some _ => exact (show False from r).elim
  | some _ => cases u with
    | none => exact (show False from r).elim
    | some _ => rfl
theorem RelO.getD {o : Option V} {u : Option Value} {d : V} {d' : Value} (r : RelO o u) (rd : RelV d d') : RelV (o.getD d) (u.getD d') := by
  cases o with
  | none => cases u with
    | none => exact rd
    | some _ => exact (show False from r).elim
  | some _ => cases u with
    | none => exact (show False from r).elim
    | some _ => exact r
theorem KV.val {kvs : List (κ × V)} {vs : List (κ × Value)} (r : KV kvs vs) (k : κ) : RelO (valV kvs k) (valueAt vs k) := by
  unfold KV at r
  induction r with
  | nil => exact True.intro
  | @cons p q ps qs h t ih =>
    obtain ⟨h1, h2⟩ := h
    by_cases e : p.1 = k
    · have e' : q.1 = k := h1.symm.trans e
      have b : valueAt (q :: qs) k = some q.2 := by simp [valueAt, List.find?_cons, e']
      rw [valV_pos e, b]; exact h2
    · have e' : ¬ q.1 = k := λ z => e (h1.trans z)
      have b : valueAt (q :: qs) k = valueAt qs k := by simp [valueAt, List.find?_cons, e']
      rw [valV_neg e, b]; exact ih
theorem KV.any {kvs : List (κ × V)} {vs : List (κ × Value)} (r : KV kvs vs) (k : κ) : (kvs.any λ kv => decide (kv.1 = k)) = vs.any λ kv => decide (kv.1 = k) := by
  unfold KV at r
  induction r with
  | nil => rfl
  | cons h t ih => rw [List.any_cons, List.any_cons, ih, h.1]
theorem KV.repl {kvs : List (κ × V)} {vs : List (κ × Value)} (r : KV kvs vs) (k : κ) {y : V} {u : Value} (ry : RelV y u) :
    KV (kvs.map λ kv => if kv.1 = k then (kv.1, y) else kv) (vs.map λ kv => if kv.1 = k then (kv.1, u) else kv) := by
  unfold KV at r ⊢
  induction r with
  | nil => exact .nil
  | @cons p q ps qs h t ih =>
    rw [List.map_cons, List.map_cons]
    refine .cons ?_ ih
    obtain ⟨h1, h2⟩ := h
    by_cases e : p.1 = k
    · rw [if_pos e, if_pos (h1.symm.trans e)]; exact ⟨h1, ry⟩
    · rw [if_neg e, if_neg (λ z => e (h1.trans z))]; exact ⟨h1, h2⟩
theorem KV.put {kvs : List (κ × V)} {vs : List (κ × Value)} (r : KV kvs vs) (k : κ) {y : V} {u : Value} (ry : RelV y u) : KV (putK kvs k y) (stored vs k u) := by
  unfold putK stored
  rw [r.any k]
  by_cases e : (vs.any λ kv => decide (kv.1 = k)) = true
  · rw [if_pos e, if_pos e]; exact r.repl k ry
  · rw [if_neg e, if_neg e]; exact Paired.snoc r ⟨rfl, ry⟩
theorem KV.keys {kvs : List (κ × V)} {vs : List (κ × Value)} (r : KV kvs vs) : kvs.map (·.1) = vs.map (·.1) := by
  unfold KV at r
  induction r with
  | nil => rfl
  | cons h t ih => rw [List.map_cons, List.map_cons, ih, h.1]
theorem KV.length {kvs : List (κ × V)} {vs : List (κ × Value)} (r : KV kvs vs) : kvs.length = vs.length := Paired.length r
end
theorem kV_is {P : Program} {w : World} {k : Key} {u : Value} (r : RelV (kV k) u) : (mixKind P w).is k u = true := by
  cases k with
  | inl i => obtain ⟨t, e⟩ := (show ∃ t, u = Value.int i t from r); subst e; exact mixKind_int P w i t
  | inr x => obtain ⟨t, e⟩ := (show ∃ t, u = Value.str x t from r); subst e; exact mixKind_str P w x t
theorem items_are {P : Program} {w : World} : ∀ {ks : List Key} {us : List Value}, Vals (ks.map kV) us -> ItemsAre (mixKind P w) ks us
  | [], _, r => by rw [List.map_nil] at r; cases r; exact .nil
  | k :: ks, _, r => by
    rw [List.map_cons] at r
    cases r with
    | cons h t => exact .cons (kV_is h) (items_are t)
noncomputable abbrev KT (H : Hp) : List (List Key × V) -> List (List Key × Addr × Value) -> Prop := Paired λ p q => p.1 = q.1 /\ H q.2.1 = some (.tup (p.1.map kV)) /\ RelV p.2 q.2.2
theorem KT.val {H : Hp} {kvs : List (List Key × V)} {xs : List (List Key × Addr × Value)} (r : KT H kvs xs) (k : List Key) : RelO (valV kvs k) ((atKey xs k).map (·.2)) := by
  induction r with
  | nil => exact True.intro
  | @cons p q ps qs h t ih =>
    obtain ⟨h1, _, h2⟩ := h
    by_cases e : p.1 = k
    · have e' : q.1 = k := h1.symm.trans e
      have b : atKey (q :: qs) k = some q.2 := by simp [atKey, List.find?_cons, e']
      rw [valV_pos e, b]; exact h2
    · have e' : ¬ q.1 = k := λ z => e (h1.trans z)
      have b : atKey (q :: qs) k = atKey qs k := by simp [atKey, List.find?_cons, e']
      rw [valV_neg e, b]; exact ih
theorem KT.repl {H : Hp} {kvs : List (List Key × V)} {xs : List (List Key × Addr × Value)} (r : KT H kvs xs) (k : List Key) {y : V} {u : Value} (ry : RelV y u) :
    KT H (kvs.map λ kv => if kv.1 = k then (kv.1, y) else kv) (xs.map (putAt k u)) := by
  induction r with
  | nil => exact .nil
  | @cons p q ps qs h t ih =>
    rw [List.map_cons, List.map_cons]
    refine .cons ?_ ih
    obtain ⟨h1, h2, h3⟩ := h
    unfold putAt
    by_cases e : p.1 = k
    · rw [if_pos e, if_pos (h1.symm.trans e)]; exact ⟨h1, h2, ry⟩
    · rw [if_neg e, if_neg (λ z => e (h1.trans z))]; exact ⟨h1, h2, h3⟩
theorem KT.put {H : Hp} {kvs : List (List Key × V)} {xs : List (List Key × Addr × Value)} (r : KT H kvs xs) (k : List Key) {b : Addr} {y : V} {u : Value} (hb : H b = some (.tup (k.map kV))) (ry : RelV y u) :
    KT H (putK kvs k y) (storedH xs k b u) := by
  have e : (kvs.any λ kv => decide (kv.1 = k)) = (atKey xs k).isSome := by
    rw [valV_any, (r.val k).isSome_eq, Option.isSome_map]
  unfold putK storedH
  rw [e]
  by_cases q : (atKey xs k).isSome = true
  · rw [if_pos q, if_pos q]; exact r.repl k ry
  · rw [if_neg q, if_neg q]; exact Paired.snoc r ⟨rfl, hb, ry⟩
theorem KT.keeps {H H' : Hp} {kvs : List (List Key × V)} {xs : List (List Key × Addr × Value)} (r : KT H kvs xs) (ht : ∀ b ys, H b = some (.tup ys) -> H' b = some (.tup ys)) : KT H' kvs xs :=
  Paired.mapP r λ o_ o_ z => ⟨z.1, ht _ _ z.2.1, z.2.2⟩
section
variable {P : Program} {w : World} {H : Hp} {h : Heap} {a : Addr}
theorem rd_of {u : HO} (ok : HOk P w H h) (e : Rd H a u) : ObjOk P w H h a u := e.ok ok
theorem dk_rd {kvs : List (Key × V)} (ok : HOk P w H h) (e : Rd H a (.dK kvs)) : kvs.length <= sizeLine /\ (a == sysModules) = false /\ ∃ vs, KV kvs vs /\ h.DictOf (mixKind P w) a vs :=
  show ObjOk P w H h a (.dK kvs) from rd_of ok e
theorem dk_of {kvs : List (Key × V)} (ok : HOk P w H h) (e : H a = some (.dK kvs)) : kvs.length <= sizeLine /\ (a == sysModules) = false /\ ∃ vs, KV kvs vs /\ h.DictOf (mixKind P w) a vs := dk_rd ok (.inl e)
theorem key_of {ks : List Key} (ok : HOk P w H h) (e : H a = some (.tup (ks.map kV))) : (tupleKind (mixKind P w)).is h ks a := by
  obtain ⟨_, its, r, o, h1, h2, n, h3⟩ := (show ObjOk P w H h a (.tup (ks.map kV)) from ok a _ e)
  exact ⟨o, its.toArray, n, h1, h2, h3, by simpa using items_are r⟩
theorem dt_rd {kvs : List (List Key × V)} (ok : HOk P w H h) (e : Rd H a (.dT kvs)) : kvs.length <= sizeLine /\ (a == sysModules) = false /\
    ∃ xs, KT H kvs xs /\ h.DictOfH (tupleKind (mixKind P w)) a xs := by
  obtain ⟨z, y, xs, r, o, es, ep, h1, h2, h3, h4, h5⟩ := (show ObjOk P w H h a (.dT kvs) from rd_of ok e)
  refine ⟨z, y, xs, r, o, es, ep, h1, h2, h3, h4, λ x hx => ?_, h5⟩
  have all : ∀ {l : List (List Key × V)} {m : List (List Key × Addr × Value)}, KT H l m -> ∀ x ∈ m, (tupleKind (mixKind P w)).is h x.1 x.2.1 := by
    intro l m q
    induction q with
    | nil => intro x hx; exact nomatch hx
    | @cons p q ps qs hq t ih =>
      intro x hx
      rcases List.mem_cons.mp hx with e | hx
      · subst e
        exact key_of ok (by rw [<- hq.1]; exact hq.2.1)
      · exact ih x hx
  exact all r x hx
theorem dt_of {kvs : List (List Key × V)} (ok : HOk P w H h) (e : H a = some (.dT kvs)) : kvs.length <= sizeLine /\ (a == sysModules) = false /\
    ∃ xs, KT H kvs xs /\ h.DictOfH (tupleKind (mixKind P w)) a xs := dt_rd ok (.inl e)
end
noncomputable def DGet (H : Hp) (a : Addr) (y : V) (r : Option V) : Prop :=
  (∃ kvs k, Rd H a (.dK kvs) /\ y = kV k /\ r = valV kvs k) \/ ∃ kvs k b, Rd H a (.dT kvs) /\ y = .ref b /\ H b = some (.tup (k.map kV)) /\ r = valV kvs k
noncomputable def DPut (H : Hp) (a : Addr) (y v : V) (H' : Hp) : Prop :=
  (∃ kvs k, H a = some (.dK kvs) /\ y = kV k /\ kvs.length < sizeLine /\ H' = upd H a (.dK (putK kvs k v))) \/
  ∃ kvs k b, H a = some (.dT kvs) /\ y = .ref b /\ H b = some (.tup (k.map kV)) /\ kvs.length < sizeLine /\ H' = upd H a (.dT (putK kvs k v))
theorem DGet.k {H : Hp} {a : Addr} {kvs : List (Key × V)} {k : Key} (e : H a = some (.dK kvs)) : DGet H a (kV k) (valV kvs k) := .inl ⟨kvs, k, .inl e, rfl, rfl⟩
theorem DPut.k {H : Hp} {a : Addr} {kvs : List (Key × V)} {k : Key} {v : V} (e : H a = some (.dK kvs)) (hl : kvs.length < sizeLine) : DPut H a (kV k) v (upd H a (.dK (putK kvs k v))) := .inl ⟨kvs, k, e, rfl, hl, rfl⟩
section
variable {X : Cx} {pins : List (Addr × Obj)} {σ : St} {H : Hp} {s : Shared} {a : Addr} {y v : V} {u r : Value} {o : Option V} {A : Around} {E : Value -> Shared -> Prop}
theorem Inv.big (I : Inv X pins σ H s) : sysModules < s.heap.objs.size := by
  have h : mainGlobals < s.heap.objs.size := (I.mod.glob.keeps I.bk).lt
  exact Nat.lt_trans (by decide) h
theorem d_getItem {Q : Value -> Shared -> Prop} (hu : A.units + 1 < cLine) (I : Inv X pins σ H s) (g : DGet H a y (some v)) (ry : RelV y u) (h : ∀ w' s', Inv X pins σ H s' -> RelV v w' -> Q w' s') :
    wpAny (model X.prog X.w) A (getItem (.ref a) u) Q E s := by
  rcases g with ⟨kvs, k, e, ey, l⟩ | ⟨kvs, k, b, e, ey, eb, l⟩
  · subst ey
    obtain ⟨z, hd, vs, rel, dd⟩ := dk_rd I.hok e
    obtain ⟨w', hw, rw'⟩ := RelO.some_of (v := v) (o := valueAt vs k) (by rw [l]; exact rel.val k)
    exact wpAny_getItem_of (kV_is ry) dd.mapOf hw (h w' _ (I.tok _) rw')
  · subst ey
    cases (show u = Value.ref b from ry)
    obtain ⟨z, hd, xs, rel, dd⟩ := dt_rd I.hok e
    obtain ⟨w', hw, rw'⟩ := RelO.some_of (v := v) (o := (atKey xs k).map (·.2)) (by rw [l]; exact rel.val k)
    obtain ⟨p, hp, hp2⟩ := Option.map_eq_some_iff.mp hw
    refine wpAny_getItem_heap (tupleKind_room_in1 hu) (key_of I.hok eb) dd hp ?_
    rw [hp2]
    exact h w' _ (I.tok _) rw'
theorem d_in {Q : Value -> Shared -> Prop} (hu : A.units + 1 < cLine) (I : Inv X pins σ H s) (g : DGet H a y o) (ry : RelV y u) (h : ∀ s', Inv X pins σ H s' -> Q (.bool o.isSome) s') :
    wpAny (model X.prog X.w) A (compareOp .In u (.ref a)) Q E s := by
  rcases g with ⟨kvs, k, e, ey, l⟩ | ⟨kvs, k, b, e, ey, eb, l⟩
  · subst ey
    obtain ⟨z, hd, vs, rel, dd⟩ := dk_rd I.hok e
    refine wpAny_in_of (kV_is ry) hd dd.mapOf ?_
    rw [<- (rel.val k).isSome_eq, <- l]
    exact h _ (I.tok _)
  · subst ey
    cases (show u = Value.ref b from ry)
    obtain ⟨z, hd, xs, rel, dd⟩ := dt_rd I.hok e
    refine wpAny_in_heap (tupleKind_room_in1 hu) (key_of I.hok eb) hd dd ?_
    have q := (rel.val k).isSome_eq
    rw [Option.isSome_map] at q
    rw [<- q, <- l]
    exact h _ (I.tok _)
theorem d_notIn {Q : Value -> Shared -> Prop} (hu : A.units + 1 < cLine) (I : Inv X pins σ H s) (g : DGet H a y o) (ry : RelV y u) (h : ∀ s', Inv X pins σ H s' -> Q (.bool (!o.isSome)) s') :
    wpAny (model X.prog X.w) A (compareOp .NotIn u (.ref a)) Q E s := by
  rcases g with ⟨kvs, k, e, ey, l⟩ | ⟨kvs, k, b, e, ey, eb, l⟩
  · subst ey
    obtain ⟨z, hd, vs, rel, dd⟩ := dk_rd I.hok e
    refine wpAny_notIn_of (kV_is ry) hd dd.mapOf ?_
    rw [<- (rel.val k).isSome_eq, <- l]
    exact h _ (I.tok _)
  · subst ey
    cases (show u = Value.ref b from ry)
    obtain ⟨z, hd, xs, rel, dd⟩ := dt_rd I.hok e
    refine wpAny_notIn_heap (tupleKind_room_in1 hu) (key_of I.hok eb) hd dd ?_
    have q := (rel.val k).isSome_eq
    rw [Option.isSome_map] at q
    rw [<- q, <- l]
    exact h _ (I.tok _)
theorem d_write {h' : Heap} {t' : Nat} {ob : HO} (I : Inv X pins σ H s) (mu : Mut (H a)) (hs : Heap.SameBut a s.heap h') (he : ∃ q, h'.get? a = some q) (new : ObjOk X.prog X.w (upd H a ob) h' a ob) :
    Inv X pins σ (upd H a ob) { s with heap := h', toks := t' } :=
  I.write (x := a) (e := a) mu (.inl rfl) (λ b q hb z => (hs.2 b hb).trans z) he new
theorem dk_new {P : Program} {w : World} {H' : Hp} {h' : Heap} {kvs : List (Key × V)} {vs : List (Key × Value)} (z : kvs.length <= sizeLine) (hd : (a == sysModules) = false) (rel : KV kvs vs) (dd : h'.DictOf (mixKind P w) a vs) :
    ObjOk P w H' h' a (.dK kvs) := ⟨z, hd, vs, rel, dd⟩
theorem d_setItem {H' : Hp} {Q : Unit -> Shared -> Prop} (hu : A.units + 1 < cLine) (I : Inv X pins σ H s) (g : DPut H a y v H') (ry : RelV y u) (rv : RelV v r) (h : ∀ s', Inv X pins σ H' s' -> Q () s') :
    wpAny (model X.prog X.w) A (setItem (.ref a) u r) Q E s := by
  rcases g with ⟨kvs, k, e, ey, l, eH⟩ | ⟨kvs, k, b, e, ey, eb, l, eH⟩
  · subst ey eH
    obtain ⟨z, hd, vs, rel, dd⟩ := dk_of I.hok e
    have hz : vs.length <= sizeLine := by rw [<- rel.length]; exact z
    have hl : (putK kvs k v).length <= sizeLine := by have := length_putK kvs k v; omega
    refine wpAny_setItem_pairs (hsz := hz) (kV_is ry) dd λ h' dd' hs => h _ ?_
    have he : ∃ q, h'.get? a = some q := let ⟨q, _, _, hq, _⟩ := dd'; ⟨q, hq⟩
    exact d_write I (by rw [e]; exact True.intro) hs he (dk_new hl hd (rel.put k rv) dd')
  · subst ey eH
    cases (show u = Value.ref b from ry)
    obtain ⟨z, hd, xs, rel, dd⟩ := dt_of I.hok e
    have hz : xs.length <= sizeLine := by rw [<- Paired.length rel]; exact z
    have hl : (putK kvs k v).length <= sizeLine := by have := length_putK kvs k v; omega
    refine wpAny_setItem_heap (hsz := hz) (tupleKind_room_in1 hu) (key_of I.hok eb) dd λ h' dd' hs => h _ ?_
    obtain ⟨q, es, ep, hq, h2, h3, h4, _, h5⟩ := dd'
    refine d_write I (by rw [e]; exact True.intro) hs ⟨q, hq⟩ ⟨hl, hd, _, (rel.put k eb rv).keeps λ c ys ec => ?_, q, es, ep, hq, h2, h3, h4, h5⟩
    rw [upd_ne (ne_of ec e (λ z => nomatch z))]
    exact ec
end
section
variable {X : Cx} {pins : List (Addr × Obj)} {σ : St} {H : Hp} {s : Shared} {a : Addr} {kvs : List (Key × V)} {k : Key} {u : Value} {A : Around} {E : Value -> Shared -> Prop}
theorem d_len {Q : Value -> Shared -> Prop} (I : Inv X pins σ H s) (e : Rd H a (.dK kvs)) (h : ∀ t s', Inv X pins σ H s' -> Q (.int kvs.length t) s') : wpAny (model X.prog X.w) A (call (.builtin "len") [.ref a]) Q E s := by
  obtain ⟨z, hd, vs, rel, dd⟩ := dk_rd I.hok e
  refine call_len_dict hd dd (by rw [<- rel.length]; rw [sizeLine_eq] at z; omega) ?_
  rw [<- rel.length]
  exact h _ _ (I.tok _)
end
noncomputable def NoSl (i : Expr) : Prop := ∀ ov iv, subscripted i false ov iv = operate [ov, iv] (getItem ov iv)
theorem subD_of {prog : Program} {w : World} {A : Around} {E : Value -> Shared -> Prop} {s : Shared} {env : Env} {value slice : Expr} {pos : Pos} {T id : String} {Q : Value -> Shared -> Prop}
    (hl : typeLookup (.type T) "__getitem__" = pure (some (.builtin id))) (hs : NoSl slice)
    (h : wpAny (model prog w) A (eval value env) (λ o s₁ => wpAny (model prog w) A (eval slice env) (λ i s₂ => s₂.TypeIs o T /\ wpAny (model prog w) A (getItem o i) Q E s₂) E s₁) E s) :
    wpAny (model prog w) A (eval (.Subscript value slice pos) env) Q E s := by
  refine Subscript_ (wpAny_mono h (λ o s₁ h₁ => wpAny_mono h₁ (λ i s₂ h₂ => ?_) λ o_ o_ x => x) λ o_ o_ x => x)
  obtain ⟨hT, h₂⟩ := h₂
  unfold subscriptTail
  refine wpAny_bind ?_
  rw [getitemInPython_of_ne hT.not_modules]
  refine wpAny_bind (wpAny_specialOf hT hl ?_)
  have fin : wpAny (model prog w) A (subscripted slice false o i) (λ r s₃ => wpAny (model prog w) A (letTemporaryGo value o r >>= λ o_ => pure r) Q E s₃) E s₂ := by
    rw [hs o i]
    exact wpAny_operating (wpAny_mono h₂ (λ r s₃ h₃ => wpAny_bind (wpAny_letTemporaryGo (wpAny_pure h₃))) λ o_ o_ x => x)
  first
    | exact wpAny_pure (wpAny_bind fin)
    | exact wpAny_bind (wpAny_pure (wpAny_bind fin))
    | exact wpAny_bind fin
theorem dict_typeIs {X : Cx} {pins : List (Addr × Obj)} {σ : St} {H : Hp} {s : Shared} {a : Addr} {y : V} {o : Option V} (I : Inv X pins σ H s) (g : DGet H a y o) : s.TypeIs (.ref a) "dict" := by
  rcases g with ⟨kvs, k, e, _, _⟩ | ⟨kvs, k, b, e, _, _, _⟩
  · obtain ⟨_, _, vs, _, dd⟩ := dk_rd I.hok e
    exact dd.typeIs
  · obtain ⟨_, _, xs, _, dd⟩ := dt_rd I.hok e
    exact dd.typeIs
noncomputable def tDGet (td ty : TE) : TE := λ σ H Q => td σ H λ x H1 => ty σ H1 λ y H2 => ∃ a v, x = .ref a /\ DGet H2 a y (some v) /\ Q v H2
noncomputable def sDPut (td ty tv : TE) : TS := λ D σ H => tv σ H λ v H1 => td σ H1 λ x H2 => ty σ H2 λ y H3 => ∃ a H4, x = .ref a /\ DPut H3 a y v H4 /\ D.nx σ H4
section
variable {X : Cx} {o i e value : Expr} {pos pos' tpos : Pos} {td ty tv : TE}
theorem pe_dget (hu : X.A.units + 1 < cLine) (ho : PE X o td) (hi : PE X i ty) (hs : NoSl i) : PE X (.Subscript o i pos) (tDGet td ty) := by
  intro pins s σ H Q I h
  refine subD_of PySem.F.slot_dict_getitem.lookup hs (thn (ho pins s σ H _ I h) λ u s1 ⟨x, H1, I1, rx, q1⟩ => thn (hi pins s1 σ H1 _ I1 q1) λ iv s2 ⟨y, H2, I2, ry, a, v, ex, g, q2⟩ => ?_)
  subst ex
  obtain rfl : u = Value.ref a := rx
  exact ⟨dict_typeIs I2 g, d_getItem hu I2 g ry λ w' s3 I3 rw' => ⟨v, H2, I3, rw', q2⟩⟩
theorem ps_dput (hu : X.A.units + 1 < cLine) (ho : PE X o td) (hi : PE X i ty) (hv : PE X value tv) (hs : swapsWith value (some (.Subscript o i pos')) pos.line X.env = pure false) :
    PS X (.Assign [.Subscript o i pos'] value pos) (sDPut td ty tv) := by
  intro pins s σ H D I h
  refine wpAny_Assign_Subscript (thn (hv pins s σ H _ I h) λ r s1 ⟨v, H1, I1, rv, q1⟩ => thn (ho pins s1 σ H1 _ I1 q1) λ u s2 ⟨x, H2, I2, rx, q2⟩ => thn (hi pins s2 σ H2 _ I2 q2) λ iv s3 ⟨y, H3, I3, ry, a, H4, ex, g, q3⟩ => ?_) hs
  subst ex
  obtain rfl : u = Value.ref a := rx
  exact d_setItem hu I3 g ry rv λ s4 I4 => ⟨σ, H4, I4, q3⟩
end
theorem dk_empty {P : Program} {w : World} {H : Hp} (h : Heap) (hb : sysModules < h.objs.size) : ObjOk P w H (h.push { cls := .type "dict", data := .dict #[] }) h.objs.size (.dK []) :=
  ⟨Nat.zero_le _, beq_eq_false_iff_ne.mpr (Ne.symm (Nat.ne_of_lt hb)), [], .nil, Heap.DictOf.new h⟩
noncomputable def tDNewK : TE := λ o_ H Q => ∀ p, H p = none -> Q (.ref p) (upd H p (.dK []))
section
variable {X : Cx} {pos : Pos}
theorem pe_dnewK : PE X (.Dict [] [] pos) tDNewK := λ pins s σ H Q I h =>
  wpAny_Dict_empty ⟨.ref s.heap.objs.size, _, I.laid (a := s.heap.objs.size) (o := .dK []) (t' := s.toks) (λ o_ o_ q => Heap.get?_push_of_some _ q) (Nat.le_refl _) (dk_empty s.heap I.big), rfl, h _ (I.hok.fresh (Nat.le_refl _))⟩
end
structure M1 (X : Cx) (o : Expr) (m : Str) (apos : Pos) (e : Expr) (cpos : Pos) : Prop where
  base : attributeBase o m X.env (eval o X.env) = eval o X.env
  few : ((backTo cpos (starEach [e] X.env)).all (λ x => !x.1) && (backToKw cpos (keywordEach [] X.env)).all (λ x => x.1.isSome)
    && decide (([e] : List Expr).length + ([] : List Keyword).length + (if ([] : List Keyword).isEmpty then 0 else 1) < 30)) = true
  line : (apos.endLine == cpos.line) = true
  trees : backTo cpos (starEach [e] X.env) = [(false, eval e X.env)]
structure M2 (X : Cx) (o : Expr) (m : Str) (apos : Pos) (e f : Expr) (cpos : Pos) : Prop where
  base : attributeBase o m X.env (eval o X.env) = eval o X.env
  few : ((backTo cpos (starEach [e, f] X.env)).all (λ x => !x.1) && (backToKw cpos (keywordEach [] X.env)).all (λ x => x.1.isSome)
    && decide (([e, f] : List Expr).length + ([] : List Keyword).length + (if ([] : List Keyword).isEmpty then 0 else 1) < 30)) = true
  line : (apos.endLine == cpos.line) = true
  trees : backTo cpos (starEach [e, f] X.env) = [(false, eval e X.env), (false, eval f X.env)]
section
variable {X : Cx} {pins : List (Addr × Obj)} {σ : St} {H : Hp} {s : Shared} {a : Addr} {y d : V} {u r : Value} {o : Option V} {A : Around} {E : Value -> Shared -> Prop}
end
section
variable {X : Cx} {o e f : Expr} {apos cpos : Pos} {td ty tx : TE}
end
section
variable {X : Cx} {pins : List (Addr × Obj)} {σ : St} {H : Hp} {s : Shared} {a : Addr} {kvs : List (Key × V)} {A : Around} {E : Value -> Shared -> Prop}
end
section
variable {X : Cx} {pins : List (Addr × Obj)} {σ : St} {H : Hp} {s : Shared} {a : Addr} {y : V} {u : Value} {A : Around} {E : Value -> Shared -> Prop}
end
end L2
namespace Att
open PySem PySem.W PySem.Calls PyProof.Rows
theorem ints_of_wellAll {P : Params} {h : Heap} : ∀ (ns : List Int) (vs : List Value), WellAll P h vs (ns.map WData.int) -> IntsAre vs ns := by
  intro ns
  induction ns with
  | nil =>
    intro vs w
    rw [List.map_nil] at w
    cases w
    exact .nil
  | cons n ns ih =>
    intro vs w
    rw [List.map_cons] at w
    cases w with
    | cons a b =>
      cases a
      exact .cons _ _ (ih _ b)
theorem script_of {l : OpenLaw} {n : Nat} (hn : l.most = some n) {P : Params} {h : Heap} {args : List WData} {vals : List Value}
    (hpre : l.row.toRowW.claim.pre args = true) (hwl : WellAll P h vals args) :
    ∃ a vs ns, vals = [Value.ref a] /\ args = [WData.list (ns.map WData.int)] /\ h.get? a = some { cls := .type "list", data := .seq vs.toArray } /\ IntsAre vs ns /\ ns.length <= n := by
  have hsh : WShape.hasAll [] args [.list .int] = true := (pre_splitW hpre).1
  have hc : l.pre.holds [] { args := args } = true := (pre_splitW hpre).2
  obtain ⟨d, r, rfl, h1, h2⟩ := hasAllW_cons hsh
  obtain rfl := hasAllW_nil h2
  obtain ⟨xs, rfl, h3⟩ := hasW_list h1
  obtain ⟨ns, rfl⟩ := items_int h3
  have hlen : ns.length <= n := by
    unfold OpenLaw.pre at hc
    have h4 : (WTm.not (.lt (.lit (.int (n : Int))) (.len (.arg 0)))).holds [] { args := [.list (ns.map .int)] } = true := by
      have h4 := (holds_andW hc).1
      rw [hn] at h4
      exact h4
    have h5 := condW_of h4 (w_not (w_lt w_lit (w_len_list (w_arg rfl))))
    rw [List.length_map] at h5
    refine Nat.le_of_not_lt λ q => ?_
    have q' : (n : Int) < ((ns.length : Nat) : Int) := by omega
    first
      | (rw [decide_eq_true q'] at h5; exact absurd h5 (by decide))
      | (simp at h5; omega)
  cases hwl with
  | cons w1 w2 =>
    cases w2
    cases w1 with
    | list ho hall => exact ⟨_, _, ns, rfl, rfl, ho, ints_of_wellAll ns _ hall, hlen⟩
theorem post_true (l : OpenLaw) (args : List WData) : l.row.toRowW.claim.post args (.bool true) args = true :=
  postW_of (r := l.row.toRowW) (X := (true == true))
    (show WShape.has [] (.bool true) .bool = true by first | rfl | decide | simp [WShape.has, WShape.arms, WShape.armsAll])
    (show (WTm.eq .res (.lit (.bool true))).value [] { args := args, res := some (.bool true), after := args } = some (.bool (true == true)) from w_eq_bool (w_res rfl) w_lit) rfl
theorem attach_call {l : OpenLaw} {n : Nat} {q : Program} {loose : List Str} {XP : (Str -> Option Value) -> Heap -> Prop} {YP : World -> Heap -> Prop} {d : DefRec}
    (hn : l.most = some n) (hdf : d.params.defaults = [])
    (call : ∀ (w : World) (s₀ s₁ : Shared) (mg mb : Str -> Option Value) (fa : Addr) (o : Obj) (pm cd doc : Value) (a : Addr) (vs : List Value) (ns : List Int),
      Ground q loose [] XP w s₀ mg mb s₁.heap -> YP w s₁.heap ->
      s₁.heap.get? fa = some o -> o.data = .func (docDef d.name d.params d.body d.scope pm cd doc) -> s₁.heap.CodeRec cd d.name -> mg d.name = some (.ref fa) ->
      s₁.heap.get? a = some { cls := .type "list", data := .seq vs.toArray } -> IntsAre vs ns -> ns.length <= n -> s₁.gens = #[] ->
      codeAny (model l.prog w) callerA (.call (.ref fa) ⟨[.ref a], []⟩) (λ r s' => r = .ok (.ret (.bool true)) /\ OldK s₁.heap s'.heap /\ s'.os = s₁.os /\ AllBare s'.gens) s₁) :
    WalkO q loose XP YP l.row.toRowW d [] (λ f vs => PySem.call f vs) := by
  intro w s₀ s₁ mg mb G Y fa o pm cd doc dV kV ho hd hcd hD hmg hg args vals as hpre hlay hrd hwl hlo
  obtain rfl : dV = .none := Dflts.none hD hdf
  obtain rfl : kV = .none := Dflts.noKw hD
  obtain ⟨a, vs, ns, rfl, rfl, hobj, hints, hlen⟩ := script_of hn hpre hwl
  refine enter_call (codeAny_mono (call w s₀ s₁ mg mb fa o pm cd doc a vs ns G Y ho (fd_plain hd) hcd hmg hobj hints hlen hg) λ r s' hq => ?_)
  obtain ⟨rfl, h2, h3, h4⟩ := hq
  exact ⟨.inl ⟨.bool true, .bool true, [], rfl, λ o_ => rfl, .bool true, post_true l _, λ o_ => ⟨List.Pairwise.nil, λ o_ hm => (nomatch hm)⟩⟩, h2, h3, h4⟩
section
variable {prog : Program} {w : World} {A : Around} {E : Value -> Shared -> Prop} {s : Shared} {K : Frag}
noncomputable def ledger (h : Heap) (L d : Addr) : List (Addr × Obj) := (List.range h.objs.size).filterMap λ a => if a = L \/ a = d then none else (h.get? a).map λ o => (a, o)
end
end Att
namespace L2
open PySem PySem.Spec PyProof.Rows
theorem vals_ints : ∀ {vs : List Value} {ns : List Int}, IntsAre vs ns -> Vals (ns.map V.int) vs
  | _, _, .nil => .nil
  | _, _, .cons n t h => .cons ⟨t, rfl⟩ (vals_ints h)
noncomputable def Only (H : Hp) : Prop := ∀ b, H b = none \/ ∃ o xs, H b = some (.frz o (.lst xs))
theorem law_call {P : Program} {w : World} {K : PySem.W.Frag} {mg mb : Str -> Option Value} {CX : CXT} {k : Nat} {fa a : Addr} {fd : FuncData} {x : Str} {sp : Sp} {s₁ : Shared} {vs : List Value} {ns : List Int}
    (KX : K.In s₁.heap) (hns : s₁.heap.Ns mainGlobals mg) (hb : s₁.heap.Ns builtinsNs mb) (hbb : ∀ x : Str, x ≠ "__name__" -> mb x = bootBuiltins x) (hlim : s₁.heap.NoLimit) (hg : s₁.gens = #[])
    (ha : s₁.heap.get? a = some { cls := .type "list", data := .seq vs.toArray }) (hi : IntsAre vs ns) (hl : ns.length <= sizeLine) (hr : Room k callerA)
    (F : ∀ base : Heap, K.In base -> base.Ns mainGlobals mg -> FnOk P w K mg base CX k fa fd [x] sp) (hbind : ∀ (s : Shared) (u : Value), BindsTo s fd ⟨[u], []⟩ [(x, u)])
    (hsp : ∀ H : Hp, Only H -> SqL K H a (ns.map V.int) -> sp [.ref a] H (λ v o_ => v = .bl true) λ o_ o_ o_ => False)
    (hCX : ∀ H e s', CX [] H s₁ (λ o_ o_ o_ => False) e s' -> False) :
    codeAny (model P w) callerA (.call (.ref fa) ⟨[.ref a], []⟩) (λ r s' => r = .ok (.ret (.bool true)) /\ OldK s₁.heap s'.heap /\ s'.os = s₁.os /\ AllBare s'.gens) s₁ := by
  have rv := vals_ints hi
  have lenV := hi.length
  -- from an abstract heap in which nothing but the script may be tracked
  have core : ∀ H : Hp, Only H -> SqL K H a (ns.map V.int) -> HOk P w H s₁.heap -> (∀ b, H b ≠ none -> b = a) -> (H a ≠ none -> K.lookup a = none) ->
      codeAny (model P w) callerA (.call (.ref fa) ⟨[.ref a], []⟩) (λ r s' => r = .ok (.ret (.bool true)) /\ OldK s₁.heap s'.heap /\ s'.os = s₁.os /\ AllBare s'.gens) s₁ := by
    intro H hO hS hok hA hK
    have base_of : ∀ {b : Addr} {o : Obj}, s₁.heap.get? b = some o -> H b = none -> (hidT s₁.heap H).get? b = some o := λ e n => hidT_get e n
    have noA : ∀ {b : Addr} {o : Obj} {es : Array DictEntry} {ep : Nat}, s₁.heap.get? b = some o -> o.data = .dict es ep -> H b = none := λ {b o es ep} e d => by
      cases q : H b with
      | none => rfl
      | some u =>
        have e' : b = a := hA b (by rw [q]; simp)
        subst e'
        rw [ha] at e; cases e
        have d' : Data.seq vs.toArray _ = Data.dict es ep := d
        cases d'
    have nsK : ∀ {b : Addr} {m : Str -> Option Value}, s₁.heap.Ns b m -> (hidT s₁.heap H).Ns b m := λ {b m} ⟨o, es, ep, e, d, r⟩ => ⟨o, es, ep, base_of e (noA e d), d, r⟩
    have hKb : K.In (hidT s₁.heap H) := λ b o e => base_of (KX b o e) (by
      cases q : H b with
      | none => rfl
      | some u =>
        have e' : b = a := hA b (by rw [q]; simp)
        subst e'
        rw [hK (by rw [q]; simp)] at e; cases e)
    have hM : Mod K mg (hidT s₁.heap H) := ⟨hKb, nsK hns, ⟨mb, nsK hb, hbb⟩, let ⟨mc, h1, h2⟩ := hlim; ⟨mc, nsK h1, h2⟩⟩
    have e0 : Env0 P w K mg (hidT s₁.heap H) callerA [] s₁ H := ⟨rfl, hM, λ b o e => of_hidT e, Nat.le_of_eq (hidT_size _ _), trivial, λ b hb => absurd (show b ∈ ([] : List Addr) from hb) (by simp), hok, .of_eq hg⟩
    refine codeAny_mono ((F _ hKb (nsK hns)).run callerA [] s₁ H ⟨[.ref a], []⟩ [.ref a] [.ref a] _ _ hr e0 (hbind s₁ (.ref a)) (.cons rfl .nil) (hsp H hO hS)) λ r s' h => ?_
    cases r with
    | error e => exact (hCX H e s' h).elim
    | ok fl =>
      cases fl with
      | next => exact False.elim h
      | brk => exact False.elim h
      | cont => exact False.elim h
      | ret u =>
        obtain ⟨v, H', os, bare, un, hok', r', q⟩ := h
        have q' : v = .bl true := q
        subst q'
        obtain rfl : u = Value.bool true := r'
        refine ⟨rfl, OldK.of_keep λ b o e => ?_, os, bare⟩
        cases q : H b with
        | none => exact un.keep b o e q (by intro z; exact absurd (show b ∈ ([] : List Addr) from z) (by simp)) (by simp)
        | some u =>
          rcases hO b with z | ⟨ob, xs, z⟩
          · rw [q] at z; cases z
          · have z2 := un.frzs b ob _ z
            obtain ⟨e1, _⟩ := hok b _ z
            obtain ⟨e2, _⟩ := hok' b _ z2
            rw [e] at e1; cases e1
            exact e2
  cases hk : K.lookup a with
  | some o =>
    -- the script is one of the module's own objects
    have e := KX a o hk
    rw [ha] at e
    cases e
    refine core (λ o_ => none) (λ o_ => .inl rfl) (.inr ⟨_, vs.toArray, _, hk, rfl, rfl, rfl, by rw [List.size_toArray, lenV]; exact hl, by simpa using rv⟩) (λ b u z => by have z' : (none : Option HO) = some u := z; cases z') (λ b z => absurd rfl z) λ z => absurd rfl z
  | none =>
    refine core (λ b => if b = a then some (.frz { cls := .type "list", data := .seq vs.toArray } (.lst (ns.map V.int))) else none) (λ b => ?_) (.inl (.inr ⟨{ cls := .type "list", data := .seq vs.toArray }, if_pos rfl⟩)) (λ b u z => ?_) (λ b z => ?_) λ o_ => hk
    · by_cases hb : b = a
      · exact .inr ⟨_, _, if_pos hb⟩
      · exact .inl (if_neg hb)
    · by_cases hb : b = a
      · have z' := (if_pos hb).symm.trans z
        cases z'
        subst hb
        exact ⟨ha, by rw [List.length_map]; exact hl, vs, _, rv, ha⟩
      · have z' := (if_neg hb).symm.trans z
        cases z'
    · by_cases hb : b = a
      · exact hb
      · exact absurd (if_neg hb) z
end L2
namespace L2
open PySem PySem.Spec PyProof.Rows
theorem walk_of {l : PySem.W.OpenLaw} {n k : Nat} {q : Program} {loose : List Str} {XP : (Str -> Option Value) -> Heap -> Prop} {YP : World -> Heap -> Prop} {d : DefRec} {K : Params -> PySem.W.Frag} {CX : World -> CXT} {sp : World -> Sp} {x : Str}
    (hn : l.most = some n) (hn2 : n <= sizeLine) (hdf : d.params.defaults = []) (hr : Room k callerA)
    (hY : ∀ (w : World) (h : Heap), YP w h -> (K w.params).In h)
    (F : ∀ (w : World) (mg : Str -> Option Value) (fa : Addr) (h : Heap), (K w.params).In h -> h.Ns mainGlobals mg -> mg d.name = some (.ref fa) ->
      ∃ fd : FuncData, (∀ (s : Shared) (u : Value), BindsTo s fd ⟨[u], []⟩ [(x, u)]) /\
        ∀ base : Heap, (K w.params).In base -> base.Ns mainGlobals mg -> FnOk l.prog w (K w.params) mg base (CX w) k fa fd [x] (sp w))
    (hsp : ∀ (w : World) (H : Hp) (a : Addr) (ns : List Int), ns.length <= n -> Only H -> SqL (K w.params) H a (ns.map V.int) -> sp w [.ref a] H (λ v o_ => v = .bl true) λ o_ o_ o_ => False)
    (hCX : ∀ (w : World) (H : Hp) (s : Shared) (e : Value) (s' : Shared), CX w [] H s (λ o_ o_ o_ => False) e s' -> False) :
    PySem.W.WalkO q loose XP YP l.row.toRowW d [] (λ f vs => PySem.call f vs) := by
  refine Att.attach_call hn hdf λ w s₀ s₁ mg mb fa o pm cd doc a vs ns G Y ho hd hcd hmg hobj hints hlen hg => ?_
  have KX := hY w _ Y
  obtain ⟨fd, hb, hF⟩ := F w mg fa _ KX G.T.g hmg
  exact law_call KX G.T.g G.T.b G.T.builtins G.T.nolimit hg hobj hints (Nat.le_trans hlen hn2) hr hF hb (λ H hO hS => hsp w H a ns hlen hO hS) λ H e s' => hCX w H s₁ e s'
end L2
namespace L2
open PySem PySem.Spec PyProof.Rows
noncomputable def inClass (s : Stmt) (j : Nat) : Stmt := match s with
  | .ClassDef _ _ _ body _ _ _ _ _ _ _ => body.getD j (.Pass ⟨0, 0, 0, 0⟩)
  | _ => .Pass ⟨0, 0, 0, 0⟩
noncomputable def defArgs (s : Stmt) : Arguments := match s with
  | .FunctionDef _ a _ _ _ _ _ _ _ _ => a
  | _ => { posonlyargs := [], args := [], vararg := none, kwonlyargs := [], kw_defaults := [], kwarg := none, defaults := [] }
noncomputable def defBody (s : Stmt) : List Stmt := match s with
  | .FunctionDef _ _ b _ _ _ _ _ _ _ => b
  | _ => []
noncomputable def defScope (s : Stmt) : Scope := match s with
  | .FunctionDef _ _ _ _ _ _ sc _ _ _ => sc
  | _ => { kind := .function, names := [], isGenerator := false, isCoroutine := false }
noncomputable abbrev CX0 : CXT := λ o_ o_ o_ o_ o_ o_ => False
noncomputable abbrev E0 : XK := λ o_ o_ o_ => False
theorem pass0 {X : Cx} : Passes CX0 X E0 := λ o_ o_ o_ o_ o_ o_ o_ h => h.elim
structure Fun (K : PySem.W.Frag) (x qual : Str) (st : Stmt) (f : Addr) (fd : FuncData) : Prop where
  ex : ∃ (oc : Value) (od : Option Addr) (kV doc pm : Value) (an : Option Addr) (cdv ct : Value) (osl : Array (Option Value)),
    fd = PySem.W.fnOf x qual (defArgs st) (defBody st) (defScope st) .none kV doc pm an cdv ct /\ K.lookup f = some ⟨oc, od, .func fd, osl⟩ /\ PySem.W.codeIn K cdv qual = true
  kp : PySem.W.keepIn K (.ref f) = true
section
variable {P : Program} {w : World} {K : PySem.W.Frag} {mg : Str -> Option Value} {base : Heap}
theorem Fun.ok {x qual : Str} {st : Stmt} {f : Addr} {fd : FuncData} {N ps : List Str} {k : Nat} {sp : Sp} (F : Fun K x qual st f fd) (S : FnScope N ps (defScope st)) (len : ∀ vs H Q E, sp vs H Q E -> vs.length = ps.length)
    (hbody : ∀ (cdv : Value) (A : Around) (outer : List Env) (s : Shared) (H : Hp) (vs : List V) (Q : VK) (E : XK), Room k (A.deeper (envOfC qual (defScope st) s.heap.objs.size f cdv)) -> sp vs H Q E ->
      ∃ t, PSs (cxOf CX0 P w K mg base N qual (defScope st) f cdv A outer s H E).nox (defBody st) t /\ t { nx := λ o_ H' => Q .non H', rt := Q } (start N vs) H) : FnOk P w K mg base CX0 (k + 1) f fd ps sp := by
  obtain ⟨oc, od, kV, doc, pm, an, cdv, ct, osl, rfl, lk, hcd⟩ := F.ex
  refine fn_of lk hcd S len λ A outer s H vs Q E hr hsp => ?_
  obtain ⟨t, h, q⟩ := hbody cdv A outer s H vs Q E hr hsp
  exact ⟨t, h.nox, q⟩
theorem Fun.binds {x qual : Str} {st : Stmt} {f : Addr} {fd : FuncData} {ps : List Str} (F : Fun K x qual st f fd)
    (h : ∀ (kV doc pm : Value) (an : Option Addr) (cdv ct : Value) (us : List Value), us.length = ps.length -> bindArgs (PySem.W.fnOf x qual (defArgs st) (defBody st) (defScope st) .none kV doc pm an cdv ct) ⟨us, []⟩ = pure (ps.zip us)) : Binds K fd ps [] := by
  obtain ⟨oc, od, kV, doc, pm, an, cdv, ct, osl, rfl, lk, hcd⟩ := F.ex
  exact .all (h kV doc pm an cdv ct)
theorem fun_mk {x qual : Str} {st : Stmt} {f : Addr} {oc : Value} {od an : Option Addr} {osl : Array (Option Value)} {kV doc pm cdv ct : Value} (l : K.lookup f = some ⟨oc, od, .func (PySem.W.fnOf x qual (defArgs st) (defBody st) (defScope st) .none kV doc pm an cdv ct), osl⟩)
    (c : PySem.W.codeIn K cdv qual = true) (k : PySem.W.keepIn K (.ref f) = true) : Fun K x qual st f (PySem.W.fnOf x qual (defArgs st) (defBody st) (defScope st) .none kV doc pm an cdv ct) := ⟨⟨oc, od, kV, doc, pm, an, cdv, ct, osl, rfl, l, c⟩, k⟩
end
section
variable {X : Cx}
theorem pv (i : Nat) {x : Str} {pos : Pos} (hN : X.N[i]? = some x := by rfl) (hv : Vis X.env.scope x := by first | exact Or.inl rfl | exact Or.inr (Or.inl rfl) | exact Or.inr (Or.inr rfl)) (hd : (x == ("__debug__" : Str)) = false := by decide)
    (hcd : (x == ("__classdict__" : Str)) = false := by decide) : PE X (.Name x pos) (tVar i) := pe_var hN hv hd hcd
theorem call_lenD : CallR X (.builtin "len") (λ xs H Q => ∃ a kvs, xs = [V.ref a] /\ H a = some (.dK kvs) /\ Q (.int kvs.length) H) := by
  intro pins s σ H xs us Q I r h
  obtain ⟨a, kvs, rfl, ha, q⟩ := h
  obtain ⟨u, rfl, ru⟩ := vals1 r
  cases ru
  exact d_len I (.inl ha) λ t s' I' => ⟨.int kvs.length, H, I', ⟨t, rfl⟩, q⟩
end
theorem iteF {A B : Prop} (h : B) : if false = true then A else B := by
  rw [if_neg Bool.false_ne_true]
  exact h
theorem iteT {A B : Prop} (h : A) : if true = true then A else B := by
  rw [if_pos rfl]
  exact h
noncomputable def Same (H H' : Hp) : Prop := ∀ b o, H b = some o -> H' b = some o
theorem Same.refl (H : Hp) : Same H H := λ o_ o_ h => h
theorem Same.trans {H H1 H2 : Hp} (a : Same H H1) (b : Same H1 H2) : Same H H2 := λ c o h => b c o (a c o h)
theorem Same.free {H H' : Hp} (e : Same H H') {l : Addr} (h : H' l = Option.none) : H l = Option.none := by
  cases q : H l with
  | none => rfl
  | some o =>
    rw [e l o q] at h
    cases h
theorem Same.seq {K : PySem.W.Frag} {H H' : Hp} {a : Addr} {xs : List V} (e : Same H H') (h : SqL K H a xs) : SqL K H' a xs := by
  rcases h with (h | ⟨o, h⟩) | h
  · exact .inl (.inl (e _ _ h))
  · exact .inl (.inr ⟨o, e _ _ h⟩)
  · exact .inr h
section
variable {κ : Type} [DecidableEq κ]
end
end L2
namespace L2
open PySem PySem.Spec PyProof.Rows
noncomputable def clOf (sc : Scope) (env : Env) : List (Str × Addr) := (sc.names.filter λ p => p.2 == .free).reverse.map λ p => (p.1, (env.cells.lookup p.1).getD 0)
theorem cl_key {env : Env} : ∀ (l : List (Str × NameKind)) (acc : List (Str × Addr)), (∀ p ∈ l, p.2 = .free -> ∃ c, env.cells.lookup p.1 = some c) ->
    (forIn l acc λ (x : Str × NameKind) (s : List (Str × Addr)) => if (x.2 == NameKind.free) = true then do
        let a <- cellOf env x.1
        pure (ForInStep.yield ((x.1, a) :: s))
      else (pure (ForInStep.yield s) : Sem (ForInStep (List (Str × Addr))))) = pure ((l.filter λ p => p.2 == .free).reverse.map (λ p => (p.1, (env.cells.lookup p.1).getD 0)) ++ acc)
  | [], acc, _ => rfl
  | p :: r, acc, h => by
    rw [List.forIn_cons]
    by_cases e : p.2 = .free
    · obtain ⟨c, hc⟩ := h p List.mem_cons_self e
      have e1 : (p.2 == NameKind.free) = true := by rw [e]; rfl
      rw [if_pos e1]
      have e2 : cellOf env p.1 = pure c := by unfold cellOf; rw [hc]
      rw [e2]
      show (forIn r ((p.1, c) :: acc) _ : Sem _) = _
      rw [cl_key r ((p.1, c) :: acc) λ q hq => h q (List.mem_cons_of_mem _ hq)]
      rw [List.filter_cons, if_pos e1, List.reverse_cons, List.map_append, List.append_assoc]
      show _ = pure (_ ++ ([(p.1, (env.cells.lookup p.1).getD 0)] ++ acc))
      rw [hc]; rfl
    · have e1 : ¬ (p.2 == NameKind.free) = true := by simpa using e
      rw [if_neg e1]
      show (forIn r acc _ : Sem _) = _
      rw [cl_key r acc λ q hq => h q (List.mem_cons_of_mem _ hq)]
      rw [List.filter_cons, if_neg e1]
theorem closureFor_of {sc : Scope} {env : Env} (h : ∀ p ∈ sc.names, p.2 = .free -> ∃ c, env.cells.lookup p.1 = some c) : closureFor sc env = pure (clOf sc env) := by
  simp only [closureFor]
  rw [cl_key sc.names [] h, List.append_nil]
  rfl
theorem lookup_mem' {β : Type} : ∀ {l : List (Str × β)} {x : Str} {b : β}, l.lookup x = some b -> (x, b) ∈ l
  | (y, c) :: r, x, b, h => by
    rw [List.lookup_cons] at h
    cases e : x == y with
    | true => rw [e] at h; have e' : x = y := by simpa using e
              subst e'; cases h; exact List.mem_cons_self
    | false => rw [e] at h; exact List.mem_cons_of_mem _ (lookup_mem' h)
theorem lookup_map_key (f : Str -> Addr) : ∀ {l : List (Str × NameKind)} {x : Str}, (∃ p ∈ l, p.1 = x) -> (l.map λ p => (p.1, f p.1)).lookup x = some (f x)
  | [], x, ⟨p, hp, _⟩ => nomatch hp
  | q :: r, x, ⟨p, hp, e⟩ => by
    rw [List.map_cons, List.lookup_cons]
    cases e2 : x == q.1 with
    | true => have e' : x = q.1 := by simpa using e2
              rw [e']
    | false =>
      have e' : ¬ x = q.1 := by simpa using e2
      rcases List.mem_cons.mp hp with rfl | hp
      · exact absurd e.symm e'
      · exact lookup_map_key f ⟨p, hp, e⟩
theorem lookup_map_none (f : Str -> Addr) {l : List (Str × NameKind)} {x : Str} {c : Addr} (h : (l.map λ p => (p.1, f p.1)).lookup x = some c) : ∃ p ∈ l, p.1 = x := by
  have m := lookup_mem' h
  obtain ⟨p, hp, e⟩ := List.mem_map.mp m
  exact ⟨p, hp, congrArg (·.1) e⟩
theorem clOf_get {sc : Scope} {env : Env} {x : Str} {c : Addr} (h : sc.names.lookup x = some .free) (hc : env.cells.lookup x = some c) : (clOf sc env).lookup x = some c := by
  unfold clOf
  have m : ∃ p ∈ (sc.names.filter λ p => p.2 == .free).reverse, p.1 = x := ⟨(x, .free), List.mem_reverse.mpr (List.mem_filter.mpr ⟨lookup_mem' h, rfl⟩), rfl⟩
  rw [lookup_map_key (λ y => (env.cells.lookup y).getD 0) m, hc]; rfl
theorem clOf_sub {sc : Scope} {env : Env} {x : Str} {c : Addr} (hf : ∀ p ∈ sc.names, p.2 = .free -> ∃ c, env.cells.lookup p.1 = some c) (h : (clOf sc env).lookup x = some c) : env.cells.lookup x = some c := by
  unfold clOf at h
  obtain ⟨p, hp, e⟩ := lookup_map_none (λ y => (env.cells.lookup y).getD 0) h
  rw [lookup_map_key (λ y => (env.cells.lookup y).getD 0) ⟨p, hp, e⟩] at h
  obtain ⟨h1, h2⟩ := List.mem_filter.mp (List.mem_reverse.mp hp)
  obtain ⟨d, hd⟩ := hf p h1 (by simpa using h2)
  rw [e] at hd
  rw [hd] at h ⊢; exact h
theorem relabel_free {env : Env} : ∀ {names : List (Str × NameKind)} {x : Str}, names.lookup x = some .free ->
    (names.map λ (n, k) => if (k == NameKind.free && env.scope.kind == .function && env.kindOf n == some .cell) then (n, NameKind.cell) else (n, k)).lookup x = some .cell \/
    (names.map λ (n, k) => if (k == NameKind.free && env.scope.kind == .function && env.kindOf n == some .cell) then (n, NameKind.cell) else (n, k)).lookup x = some .free
  | (n, k) :: r, x, h => by
    have ih := @relabel_free env r x
    rw [List.lookup_cons] at h
    rw [List.map_cons]
    show List.lookup x ((if (k == NameKind.free && env.scope.kind == .function && env.kindOf n == some .cell) = true then (n, NameKind.cell) else (n, k)) :: _) = _ \/ List.lookup x ((if (k == NameKind.free && env.scope.kind == .function && env.kindOf n == some .cell) = true then (n, NameKind.cell) else (n, k)) :: _) = _
    cases hx : x == n with
    | true =>
      rw [hx] at h; cases h
      by_cases hc : (NameKind.free == NameKind.free && env.scope.kind == .function && env.kindOf n == some .cell) = true
      · rw [if_pos hc]; left; simp [List.lookup_cons, hx]
      · rw [if_neg hc]; right; simp [List.lookup_cons, hx]
    | false =>
      rw [hx] at h
      by_cases hc : (k == NameKind.free && env.scope.kind == .function && env.kindOf n == some .cell) = true
      · rw [if_pos hc]; simp only [List.lookup_cons, hx]; exact ih h
      · rw [if_neg hc]; simp only [List.lookup_cons, hx]; exact ih h
section
variable {prog : Program} {w : World} {A : Around} {R : Result -> Shared -> Prop} {s : Shared}
theorem compLoop_go {elt target iter : Expr} {ifs : List Expr} {scope : Scope} {pos : Pos} {it acc : Value} {env : Env} (I : Nat -> Shared -> Prop)
    (turn : ∀ n s, I n s -> wpAny (model prog w) A (pyNext it) (λ r s₁ => match r with
      | none => R (.ok .next) s₁
      | some v => wpAny (model prog w) A (letOwnedTupleGo target it v) (λ o_ s₂ => wpAny (model prog w) A (assign target env v) (λ o_ s₃ =>
          wpAny (model prog w) A (forIn ifs true λ c r => if r = true then do let ok <- isTrue c env (eval c env); pure (ForInStep.yield ok) else pure (ForInStep.yield r)) (λ ok s₄ =>
            if ok = true then wpAny (model prog w) A (eval elt env) (λ x s₅ =>
              wpAny (model prog w) A (call (.builtin "list.append") [acc, x]) (λ o_ s₆ => ∃ m, m < n /\ I m s₆) (λ o_ o_ => False) s₅) (λ o_ o_ => False) s₄
            else ∃ m, m < n /\ I m s₄) (λ o_ o_ => False) s₃) (λ o_ o_ => False) s₂) (λ o_ o_ => False) s₁) (λ o_ o_ => False) s)
    (n : Nat) (h : I n s) :
    codeAny (model prog w) A (.compLoop (.ListComp elt [⟨target, iter, ifs, 0⟩] scope pos) 0 it acc env) R s := by
  refine codeAny_loop rfl I (λ n s hI => ?_) n h
  show wpAny _ A ((compTurn (.ListComp elt [⟨target, iter, ifs, 0⟩] scope pos) 0 it acc env).onRaise (λ x => do noteFrame x env; theTreesLotGoes x)) _ _ s
  refine wpAny_noted ?_
  rw [compTurn_list]
  refine wpAny_bind (wpAny_standAt (wpAny_bind (wpAny_mono (turn n s hI) (λ r s₁ h₁ => ?_) λ o_ o_ z => z.elim)))
  cases r with
  | none => exact wpAny_pure h₁
  | some v =>
    refine wpAny_bind (wpAny_mono h₁ (λ o_ s₂ h₂ => ?_) λ o_ o_ z => z.elim)
    refine wpAny_bind (wpAny_mono h₂ (λ o_ s₃ h₃ => wpAny_bind (wpAny_mono h₃ (λ ok s₄ h₄ => ?_) λ o_ o_ z => z.elim)) λ o_ o_ z => z.elim)
    cases ok with
    | false => exact wpAny_pure ⟨rfl, h₄⟩
    | true =>
      exact wpAny_bind (wpAny_bind (wpAny_mono h₄ (λ x s₅ h₅ => wpAny_bind (wpAny_mono h₅ (λ o_ s₆ h₆ => wpAny_pure (wpAny_pure ⟨rfl, h₆⟩)) λ o_ o_ z => z.elim)) λ o_ o_ z => z.elim))
end
theorem relabel_back {env : Env} : ∀ {names : List (Str × NameKind)} {x : Str}, (∀ y ∈ names, y.2 ≠ .cell) ->
    ((names.map λ (n, k) => if (k == NameKind.free && env.scope.kind == .function && env.kindOf n == some .cell) then (n, NameKind.cell) else (n, k)).lookup x = some .cell \/
    (names.map λ (n, k) => if (k == NameKind.free && env.scope.kind == .function && env.kindOf n == some .cell) then (n, NameKind.cell) else (n, k)).lookup x = some .free) -> names.lookup x = some .free
  | [], x, _, h => by rcases h with h | h <;> cases h
  | (n, k) :: r, x, nc, h => by
    have ih := @relabel_back env r x λ y hy => nc y (List.mem_cons_of_mem _ hy)
    have nk : k ≠ .cell := nc (n, k) List.mem_cons_self
    rw [List.map_cons] at h
    change List.lookup x ((if (k == NameKind.free && env.scope.kind == .function && env.kindOf n == some .cell) = true then (n, NameKind.cell) else (n, k)) :: _) = _ \/ List.lookup x ((if (k == NameKind.free && env.scope.kind == .function && env.kindOf n == some .cell) = true then (n, NameKind.cell) else (n, k)) :: _) = _ at h
    rw [List.lookup_cons]
    cases hx : x == n with
    | true =>
      by_cases hc : (k == NameKind.free && env.scope.kind == .function && env.kindOf n == some .cell) = true
      · have : k = .free := by
          simp only [Bool.and_eq_true, beq_iff_eq] at hc
          exact hc.1.1
        rw [this]
      · rw [if_neg hc] at h
        simp only [List.lookup_cons, hx] at h
        rcases h with h | h
        · cases h; exact absurd rfl nk
        · exact h
    | false =>
      by_cases hc : (k == NameKind.free && env.scope.kind == .function && env.kindOf n == some .cell) = true
      · rw [if_pos hc] at h; simp only [List.lookup_cons, hx] at h; exact ih h
      · rw [if_neg hc] at h; simp only [List.lookup_cons, hx] at h; exact ih h
noncomputable abbrev Caps := List (Str × Nat)
noncomputable def capσ (caps : Caps) (σ : St) : St := caps.map λ c => (σ[c.2]?).join
structure CArg where
  C : Addr
  s : Shared
  H : Hp
  fp : List Addr
noncomputable abbrev cxC (X : Cx) (x : Str) (caps : Caps) (sc : Scope) (z : CArg) : Cx :=
  { X with N := x :: caps.map (·.1), s₀ := z.s, H₀ := z.H, env := compEnvC sc (clOf sc X.env) z.C X.env, outer := X.stack, stack := X.stack, ex := z.fp, fn := λ o_ => false, pn := [], xe := λ o_ o_ => False }
noncomputable def compOkB (o sc : Scope) (N : List Str) (x : Str) (caps : Caps) : Bool :=
  sc.names.lookup x == some .local && sc.kind == .function &&
  sc.names.all (λ y => y.2 != .cell && (y.2 != .local || sc.names.lookup y.1 == some .local) && (y.2 != .free || (o.names.lookup y.1 == some .cell || o.names.lookup y.1 == some .free))) &&
  decide ((x :: caps.map (·.1)).Nodup) &&
  caps.all (λ c => N[c.2]? == some c.1 && sc.names.lookup c.1 == some .free && (o.names.lookup c.1 == some .cell || o.names.lookup c.1 == some .free))
structure CompOk (X : Cx) (x : Str) (caps : Caps) (sc : Scope) : Prop where
  own : sc.names.lookup x = some .local
  kind : sc.kind = .function
  nocell : ∀ y ∈ sc.names, y.2 ≠ .cell
  names : ∀ y ∈ sc.names, y.2 = .local -> sc.names.lookup y.1 = some .local
  free : ∀ y ∈ sc.names, y.2 = .free -> X.env.kindOf y.1 = some .cell \/ X.env.kindOf y.1 = some .free
  nd : (x :: caps.map (·.1)).Nodup
  cap : ∀ c ∈ caps, X.N[c.2]? = some c.1 /\ sc.names.lookup c.1 = some .free /\ (X.env.kindOf c.1 = some .cell \/ X.env.kindOf c.1 = some .free)
theorem compOk_of {X : Cx} {x : Str} {caps : Caps} {sc : Scope} (h : compOkB X.env.scope sc X.N x caps = true) : CompOk X x caps sc := by
  unfold compOkB at h
  simp only [Bool.and_eq_true, List.all_eq_true, beq_iff_eq, bne_iff_ne, Bool.or_eq_true, decide_eq_true_eq] at h
  obtain ⟨⟨⟨⟨h1, h2⟩, h3⟩, h4⟩, h5⟩ := h
  refine ⟨h1, h2, λ y hy => (h3 y hy).1.1, λ y hy e => ?_, λ y hy e => ?_, h4, λ c hc => ⟨(h5 c hc).1.1, (h5 c hc).1.2, (h5 c hc).2⟩⟩
  · exact (h3 y hy).1.2.resolve_left λ z => z e
  · exact (h3 y hy).2.resolve_left λ z => z e
noncomputable def PIfs (X : Cx) (ifs : List Expr) (t : TT) : Prop :=
  ∀ (pins : List (Addr × Obj)) (s : Shared) (σ : St) (H : Hp) (Q : Bool -> Hp -> Prop), Inv X pins σ H s -> t σ H Q ->
    wpAny (model X.prog X.w) X.A (forIn ifs true λ c r => if r = true then do let ok <- isTrue c X.env (eval c X.env); pure (ForInStep.yield ok) else pure (ForInStep.yield r)) (TP X pins σ Q) X.xe s
noncomputable def tYes : TT := λ o_ H Q => Q true H
theorem pifs_nil {X : Cx} : PIfs X [] tYes := λ o_ o_ o_ H o_ I h => wpAny_tests_nil ⟨H, I, h⟩
theorem pifs_one {X : Cx} {c : Expr} {t : TT} (h : PT X c t) : PIfs X [c] t := λ pins s σ H Q I q => wpAny_tests_one (h pins s σ H Q I q)
theorem Inv.adopt {X : Cx} {pins : List (Addr × Obj)} {σ : St} {H : Hp} {s : Shared} {D : Addr} {o : HO} (I : Inv X pins σ H s) (f : FpOk X pins H D) (new : ObjOk X.prog X.w (upd H D o) s.heap D o) : Inv X pins σ (upd H D o) s := by
  obtain ⟨hn, f1, f2, f3, f4, f5⟩ := f
  refine I.step (g' := s.gens) (d' := s.drawn) (t' := s.toks) (h' := s.heap) (ch := [D]) (λ b hb => ?_) (λ b o o_ o_ o_ e o_ => e) (λ b o o_ o_ o_ e o_ => ⟨o.slots, e⟩) (λ b o' hb o_ n => ?_) (λ b o o_ e => ⟨o, e⟩)
    (λ b xs q => by rw [upd_ne (ne_of_none q hn)]; exact q) (λ b u xs q => by rw [upd_ne (ne_of_none q hn)]; exact q) (λ b ps q => ⟨#[], by rw [upd_ne (ne_of_none q hn), q]; simp⟩) (λ m hm => hm) (λ b u e => ?_) I.bare
  · have e : b = D := by simpa using hb
    subst e
    exact ⟨f3, f1, f4, f5⟩
  · rw [upd_ne (by simpa using hb)]; exact n
  · by_cases hb : b = D
    · subst hb; rw [upd_same] at e; cases e; exact new
    · rw [upd_ne hb] at e
      exact (I.hok b u e).stay (λ c v o_ q => q) (λ c q => by rw [upd_ne (ne_of_none q hn)]; exact q) λ c xs q => by rw [upd_ne (ne_of_none q hn)]; exact q
noncomputable def tCompW (caps : Caps) (σ : St) (tt : CArg -> TT) (te : CArg -> TE) (J : It) (H1 : Hp) (F : List V -> Hp -> Prop) : Prop :=
  ∃ W : Nat -> Nat -> List V -> Hp -> Prop, (∃ m, W 0 m [] H1) /\ ∀ z i m ys H, W i m ys H ->
    (J.stop i H /\ F ys H) \/
    (J.go i H /\ ∃ N : List V -> Hp -> Prop, (∀ ys' H', N ys' H' -> ∃ m', m' < m /\ W (i + 1) m' ys' H') /\ ∀ x H', J.yld i H x H' -> tt z (some x :: capσ caps σ) H' λ b H3 => if b = true then te z (some x :: capσ caps σ) H3 λ v H4 => ys.length < sizeLine /\ N (ys ++ [v]) H4
      else N ys H3)
noncomputable def tComp (caps : Caps) (wi : TI) (tt : CArg -> TT) (te : CArg -> TE) : TE := λ σ H Q => wi σ H λ J H1 =>
  tCompW caps σ tt te J H1 λ ys H2 => ∀ p, H2 p = none -> Q (.ref p) (upd H2 p (.lst ys))
section
variable {X : Cx} {x : Str} {caps : Caps} {elt iter : Expr} {ifs : List Expr} {sc : Scope} {px pos : Pos} {wi : TI} {tt : CArg -> TT} {te : CArg -> TE}
theorem cxC_ok {pins : List (Addr × Obj)} {σ : St} {H : Hp} {s : Shared} {fp : List Addr} {C : Addr} (k : CompOk X x caps sc) (I : Inv X pins σ H s) (f : ∀ b ∈ fp, FpOk X pins H b) (fl : ∀ b ∈ fp, b < s.heap.objs.size) (hC : s.heap.objs.size <= C) :
    (cxC X x caps sc ⟨C, s, H, fp⟩).Ok := by
  have hfree : ∀ p ∈ sc.names, p.2 = .free -> ∃ c, X.env.cells.lookup p.1 = some c := λ p hp e => I.ok.has p.1 (k.free p hp e)
  refine ⟨I.ok.mod, k.kind, I.ok.glob, I.ok.blt, hC, λ a b c ha hb => ?_, λ a ha => ?_, (λ o_ o_ z => nomatch z), I.ok.hd, I.ok.frames, .inl rfl, λ b hb => ⟨Nat.ne_of_lt (Nat.lt_of_lt_of_le (fl b hb) hC), λ y c e => ?_⟩, I.bs, Nat.le_trans I.ok.bsz I.sz, λ b o e hb => ?_, λ b hb z => ?_, I.stack, I.stkFree⟩
  · exact I.ok.inj a b c (clOf_sub hfree ha) (clOf_sub hfree hb)
  · have e : sc.names.lookup a = some .free := relabel_back (env := X.env) k.nocell ha
    obtain ⟨c, hc⟩ := hfree (a, .free) (lookup_mem' e) rfl
    exact ⟨c, clOf_get e hc⟩
  · exact (f b hb).2.2.2.2.1 y c (clOf_sub hfree e)
  · rcases (f b hb).2.2.2.1 with z | z
    · exact I.ok.noex b o e z
    · exact absurd (Nat.lt_of_lt_of_le (Heap.lt_size (I.ok.bs b o e).1) z) (Nat.lt_irrefl _)
  · rcases List.mem_cons.mp (I.stkSub b z) with e | e
    · exact (f b hb).2.1 e
    · exact (f b hb).2.2.1 e
theorem inv_comp {pins : List (Addr × Obj)} {σ : St} {H : Hp} {s : Shared} {h1 : Heap} {t1 : Nat} {fp : List Addr} {C : Addr} {m : Str -> Option Value} (k : CompOk X x caps sc) (I : Inv X pins σ H s) (f : ∀ b ∈ fp, FpOk X pins H b) (fl : ∀ b ∈ fp, b < s.heap.objs.size) (hC : s.heap.objs.size <= C)
    (old : ∀ b o, s.heap.get? b = some o -> h1.get? b = some o) (hn : h1.Ns C m) : Inv (cxC X x caps sc ⟨C, s, H, fp⟩) [] (none :: capσ caps σ) H { s with heap := h1, toks := t1 } := by
  have hfree : ∀ p ∈ sc.names, p.2 = .free -> ∃ c, X.env.cells.lookup p.1 = some c := λ p hp e => I.ok.has p.1 (k.free p hp e)
  refine ⟨cxC_ok k I f fl hC, rfl, I.bare, Un.kept old, ⟨m, hn, λ i y v e1 e2 e3 => ?_⟩, λ y c e => ?_, I.hok.fresh hC, λ y c e => I.freeC y c (clOf_sub hfree e), (λ p hp => (List.not_mem_nil (show p ∈ ([] : List (Addr × Obj)) from hp)).elim), I.hok.kept old, by simp [capσ]⟩
  · cases i with
    | zero => cases e2
    | succ i =>
      have e1 : (caps.map (·.1))[i]? = some y := e1
      have e2 : (capσ caps σ)[i]? = some (some v) := e2
      rw [List.getElem?_map] at e1
      unfold capσ at e2
      rw [List.getElem?_map] at e2
      cases ec : caps[i]? with
      | none => rw [ec] at e1; cases e1
      | some c =>
        rw [ec] at e1 e2
        have e1 : c.1 = y := Option.some.inj e1
        have e2 : (σ[c.2]?).join = some v := Option.some.inj e2
        subst e1
        have e2' : σ[c.2]? = some (some v) := by
          cases q : σ[c.2]? with
          | none => rw [q] at e2; cases e2
          | some q' => rw [q] at e2; have : q' = some v := e2; rw [this]
        obtain ⟨k1, k2, k3⟩ := k.cap c (List.mem_of_getElem? ec)
        obtain ⟨m0, hm0, hl⟩ := I.loc
        obtain ⟨u, ru, lk⟩ := hl c.2 c.1 v k1 e2' (.inr k3)
        refine ⟨u, ru, ?_⟩
        rcases lk with ⟨z, _⟩ | ⟨_, a, ha, hcell⟩
        · rw [z] at k3; rcases k3 with k3 | k3 <;> cases k3
        · exact .inr ⟨relabel_free k2, a, clOf_get k2 ha, hcell.keeps old⟩
  · obtain ⟨v, hv⟩ := I.cell y c (clOf_sub hfree e)
    exact ⟨v, hv.keeps old⟩
theorem comp_block {pins : List (Addr × Obj)} {σ : St} {s : Shared} {itv : Value} {F : List V -> Hp -> Prop} {RR : Value -> Addr -> Result -> Shared -> Prop} (k : CompOk X x caps sc) (hc : X.calm = true) (ht : ∀ z, PIfs (cxC X x caps sc z) ifs (tt z)) (he : ∀ z, PE (cxC X x caps sc z) elt (te z))
    (h2 : PIE X pins σ (.Name x px) (λ J H1 => tCompW caps σ tt te J H1 F) itv s)
    (hRR : ∀ D C s' H' ys m oC, Inv X (pins ++ [(C, oC)]) σ (upd H' D (.lst ys)) s' -> H' D = none -> F ys H' -> s'.heap.get? C = some oC -> s'.heap.Ns C m -> FpOk X pins (upd H' D (.lst ys)) C -> RR (.ref D) C (.ok .next) s') :
    wpAny (model X.prog X.w) X.A (newList []) (λ acc s₃ => wpAny (model X.prog X.w) X.A (newFunctionEnv sc X.env.globals (clOf sc X.env) [] X.env.qual none .none (some X.env)) (λ cenv s₄ =>
      codeAny (model X.prog X.w) X.A (.compStart (.ListComp elt [⟨.Name x px, iter, ifs, 0⟩] sc pos) 0 itv acc { cenv with scope := relabel sc X.env }) (RR acc cenv.locals) s₄) X.xe s₃) X.xe s := by
  obtain ⟨it, fp, tn, J, H2, rfl, I2, T, st2, f2, W, ⟨m0, w0⟩, turn⟩ := h2
  have fl : ∀ b ∈ fp, b < s.heap.objs.size := λ b hb => let ⟨o, e, _⟩ := T.obj _ _ st2 b hb; Heap.lt_size e
  refine wpAny_newObj_type (wpAny_newFunctionEnv k.nocell (by intro y hy; simp at hy) (λ h₁ hns₁ hsb₁ => ?_) k.kind)
  dsimp only at hns₁ hsb₁ ⊢
  generalize hH2 : s.heap.push { cls := .type "list", dict := none, data := .seq ([] : List Value).toArray } = G2 at hns₁ hsb₁ ⊢
  have hC : G2.objs.size = s.heap.objs.size + 1 := by rw [<- hH2, Heap.size_push]
  have hDC : s.heap.objs.size ≠ G2.objs.size := by rw [hC]; exact Nat.ne_of_lt (Nat.lt_succ_self _)
  have hCle : s.heap.objs.size <= G2.objs.size := by rw [hC]; exact Nat.le_succ _
  have below : ∀ b, b < s.heap.objs.size -> b ≠ G2.objs.size := λ b hb => by rw [hC]; exact Nat.ne_of_lt (Nat.lt_succ_of_lt hb)
  have old : ∀ b o, s.heap.get? b = some o -> h₁.get? b = some o := λ b o e => hsb₁.extBut b o (below b (Heap.lt_size e)) (Heap.get?_push_of_some _ (hH2 ▸ Heap.get?_push_of_some _ e))
  have hacc : h₁.get? s.heap.objs.size = some { cls := .type "list", data := .seq ([] : List Value).toArray 0 } := hsb₁.extBut _ _ hDC (Heap.get?_push_of_some _ (hH2 ▸ Heap.get?_push_size _ rfl))
  generalize hCe : G2.objs.size = C at *
  generalize hDe : s.heap.objs.size = D at *
  have I4 := inv_comp (t1 := s.toks + ([] : List (Str × Value)).length) k I2 f2 (λ b hb => by rw [hDe]; exact fl b hb) (C := C) (by rw [hDe]; exact hCle) old hns₁
  have st4 : tn 0 h₁ := T.keep _ _ _ st2 λ b o_ o e => old b o e
  have nfpD : ∀ b ∈ fp, D ≠ b := λ b hb => Nat.ne_of_gt (fl b hb)
  have FP : ∀ {H' : Hp} {pn : List (Addr × Obj)}, (∀ b ∈ fp, H' b = none) -> (∀ p ∈ pn, p.1 = D) -> ∀ b ∈ fp, FpOk (cxC X x caps sc ⟨C, s, H2, fp⟩) pn H' b := λ hn hp b hb =>
    ⟨hn b hb, Nat.ne_of_lt (Nat.lt_of_lt_of_le (fl b hb) hCle), I4.ok.exfs b hb, .inl hb, (I4.ok.exf b hb).2, λ p hp' z => nfpD b hb ((hp p (by simpa using hp')).symm.trans z)⟩
  have nCellD : ∀ y c, (clOf sc X.env).lookup y = some c -> c ≠ D := λ y c e z => by
    obtain ⟨v, q⟩ := I2.cell y c (clOf_sub (λ p hp e => I2.ok.has p.1 (k.free p hp e)) e)
    have := q.lt
    rw [z, hDe] at this
    exact Nat.lt_irrefl _ this
  have nfsD : D ∉ frs X.stack := λ z => by
    rcases List.mem_cons.mp (I2.stkSub D z) with e | e
    · have := I2.lt
      rw [<- e, hDe] at this
      exact Nat.lt_irrefl _ this
    · exact I2.nofs (a := D) (by rw [hDe]; exact Nat.le_refl _) e
  have pinD : ∀ {σ' : St} {H' : Hp} {s' : Shared} {oD : Obj}, Inv (cxC X x caps sc ⟨C, s, H2, fp⟩) [] σ' H' s' -> s'.heap.get? D = some oD -> H' D = none -> (∀ v, oD.data ≠ .cell v) -> Inv (cxC X x caps sc ⟨C, s, H2, fp⟩) [(D, oD)] σ' H' s' := λ I e n d =>
    I.pins_of λ p hp => by
      have e' := List.mem_singleton.mp hp
      rw [e']
      exact ⟨e, n, hDC, nfsD, d⟩
  have hD0 : H2 D = none := I2.hok.fresh (by rw [hDe]; exact Nat.le_refl _)
  have loop : ∀ s₃ : Shared, s₃ = { s with heap := h₁, toks := s.toks + ([] : List (Str × Value)).length } ->
      codeAny (model X.prog X.w) X.A (.compLoop (.ListComp elt [⟨.Name x px, iter, ifs, 0⟩] sc pos) 0 (.ref it) (.ref D) (compEnvC sc (clOf sc X.env) C X.env)) (RR (.ref D) C) s₃ := by
    rintro s₃ rfl
    refine compLoop_go (λ n s' => ∃ i o ys H' its q, Inv (cxC X x caps sc ⟨C, s, H2, fp⟩) [] (o :: capσ caps σ) H' s' /\ tn i s'.heap /\ (∀ b ∈ fp, H' b = none) /\ W i n ys H' /\ ys.length <= sizeLine /\ Vals ys its /\
      s'.heap.get? D = some { cls := .type "list", data := .seq its.toArray q } /\ H' D = none) ?_ m0 ⟨0, none, [], H2, [], 0, I4, st4, λ b hb => (f2 b hb).1, w0, Nat.zero_le _, .nil, hacc, hD0⟩
    rintro n s' ⟨i, o, ys, H', its, q, I', st', fr', w', hz, rv, eD, nD⟩
    have Ip := pinD I' eD nD (by intro v z; cases z)
    have pD : ∀ p ∈ [((D, { cls := .type "list", data := .seq its.toArray q }) : Addr × Obj)], p.1 = D := λ p hp => by
      rw [List.mem_singleton.mp hp]
    rcases turn ⟨C, s, H2, fp⟩ i n ys H' w' with ⟨stop, qF⟩ | ⟨go, N, hN, step⟩
    · refine wpAny_mono (T.done (cxC X x caps sc ⟨C, s, H2, fp⟩) rfl rfl rfl hc i _ s' _ H' (λ o_ o_ => False) Ip (FP fr' pD) st' stop) (λ r s4 ⟨hr, I5⟩ => ?_) λ o_ o_ z => z
      subst hr
      show RR (.ref D) C (.ok .next) s4
      have eD4 := (I5.pin (D, { cls := .type "list", data := .seq its.toArray q }) (List.mem_append_right _ (List.mem_singleton.mpr rfl))).1
      have chk : ∀ b ∈ fp, (b ∈ X.ex \/ X.s₀.heap.objs.size <= b) /\ b ≠ X.env.locals /\ (∀ x c, X.env.cells.lookup x = some c -> c ≠ b) /\ ∀ p ∈ X.pn ++ pins, p.1 ≠ b := λ b hb => ⟨(f2 b hb).2.2.2.1, (f2 b hb).2.1, (f2 b hb).2.2.2.2.1, (f2 b hb).2.2.2.2.2⟩
      have J5 : Inv X pins σ H' s4 := I2.call' (ch := fp) I5.os I5.base I5.hok I5.bare chk
      have fD : FpOk X pins H' D := I2.fpOk (by rw [hDe]; exact Nat.le_refl _) nD
      have J6 : Inv X pins σ (upd H' D (.lst ys)) s4 := J5.adopt fD ⟨hz, its, q, rv, eD4⟩
      obtain ⟨mC, ⟨oC, es, ep, hoC, hdC, rC⟩, _⟩ := I5.loc
      have nC : H' C = none := I5.free
      have fC : FpOk X pins (upd H' D (.lst ys)) C := I2.fpOk (by rw [hDe]; exact hCle) (by rw [upd_ne (Ne.symm hDC)]; exact nC)
      refine hRR D C s4 H' ys mC oC ?_ nD qF hoC ⟨oC, es, ep, hoC, hdC, rC⟩ fC
      refine J6.pins_of λ p hp => (List.mem_append.mp hp).elim (λ z => J6.pin p (List.mem_append_right _ z)) λ z => ?_
      rw [List.mem_singleton.mp z]
      exact ⟨hoC, fC.1, fC.2.1, fC.2.2.1, λ v z => by rw [hdC] at z; cases z⟩
    · refine wpAny_mono (T.item (cxC X x caps sc ⟨C, s, H2, fp⟩) rfl rfl rfl hc i _ s' _ H' (λ o_ o_ => False) Ip (FP fr' pD) st' go) (λ r s4 ⟨u, hr, h4⟩ => ?_) λ o_ o_ z => z
      subst hr
      refine wpAny_mono h4 (λ o1_ s5 ⟨y, H5, I5, r5, y5, st5, fr5⟩ => ?_) λ o_ o_ z => z
      have I5' := I5.pinned (FP fr5 pD) (T.obj _ _ st5)
      have hx : Loc (cxC X x caps sc ⟨C, s, H2, fp⟩).env.scope x := .inl (lookup_relabel_local k.own)
      refine wpAny_mono ((pg_name (X := cxC X x caps sc ⟨C, s, H2, fp⟩) (i := 0) (pos := px) k.nd rfl hx (.inr (lookup_relabel_local k.own))) _ s5 _ H5 y u (λ σ6 H6 => σ6 = some y :: capσ caps σ /\ H6 = H5) I5' r5 ⟨rfl, rfl⟩) (λ o1_ s6 ⟨σ6, H6, I6, e6, e6'⟩ => ?_) λ o_ o_ z => z
      subst e6 e6'
      have keepT : ∀ {σ7 : St} {H7 : Hp} {s7 : Shared}, Inv (cxC X x caps sc ⟨C, s, H2, fp⟩) ([(D, { cls := .type "list", data := .seq its.toArray q })] ++ pinsAt fp s5.heap) σ7 H7 s7 ->
          tn (i + 1) s7.heap /\ (∀ b ∈ fp, H7 b = none) /\ s7.heap.get? D = some { cls := .type "list", data := .seq its.toArray q } /\ H7 D = none := λ {σ7 H7 s7} I7 => by
        refine ⟨T.keep _ _ _ st5 λ b hb o e => (I7.pin (b, o) (List.mem_append_right _ (List.mem_append_right _ (mem_pinsAt hb e)))).1, λ b hb => ?_, (I7.pin (D, { cls := .type "list", data := .seq its.toArray q }) (List.mem_append_right _ (List.mem_append_left _ (List.mem_singleton.mpr rfl)))).1, (I7.pin (D, { cls := .type "list", data := .seq its.toArray q }) (List.mem_append_right _ (List.mem_append_left _ (List.mem_singleton.mpr rfl)))).2.1⟩
        obtain ⟨o, e, d⟩ := T.obj _ _ st5 b hb
        exact (I7.pin (b, o) (List.mem_append_right _ (List.mem_append_right _ (mem_pinsAt hb e)))).2.1
      refine wpAny_mono (ht ⟨C, s, H2, fp⟩ _ s6 _ _ _ I6 (step y _ y5)) (λ ok s7 ⟨H7, I7, q7⟩ => ?_) λ o_ o_ z => z
      cases ok with
      | false =>
        have q7 : N ys H7 := by
          have q7' := q7
          rw [if_neg Bool.false_ne_true] at q7'
          exact q7'
        rw [if_neg Bool.false_ne_true]
        obtain ⟨m', hm, w7⟩ := hN ys H7 q7
        obtain ⟨k1, k2, k3, k4⟩ := keepT I7
        exact ⟨m', hm, i + 1, some y, ys, H7, its, q, I7.pins_of (λ p hp => (List.not_mem_nil hp).elim), k1, k2, w7, hz, rv, k3, k4⟩
      | true =>
        rw [if_pos rfl] at q7
        rw [if_pos rfl]
        refine wpAny_mono (he ⟨C, s, H2, fp⟩ _ s7 _ H7 _ I7 q7) (λ v s8 ⟨v', H8, I8, r8, hz8, n8⟩ => ?_) λ o_ o_ z => z
        obtain ⟨m', hm, w8⟩ := hN _ H8 n8
        obtain ⟨k1, k2, k3, k4⟩ := keepT I8
        have hl := rv.length
        refine call_meets PySem.F.slot_list_append ⟨_, k3, rfl⟩ PySem.F.entry_list_append (PySem.F.args_list_append_2 _ _) (PySem.list_append D its.toArray q v (by rw [List.size_toArray]; omega)) ⟨k3, ?_⟩
        have q8 := PySem.IsL.update k3 (λ a : Array Value => a.push v)
        have q9 : its.toArray.push v = (its ++ [v]).toArray := by simp
        simp only [q9] at q8
        have eo : ∀ b o, b ≠ D -> s8.heap.get? b = some o -> (s8.heap.update D (Obj.mapSeq λ a : Array Value => a.push v)).get? b = some o := λ b o hb e => (Heap.get?_update_other s8.heap _ (Ne.symm hb)).trans e
        have I9 : Inv (cxC X x caps sc ⟨C, s, H2, fp⟩) [] (some y :: capσ caps σ) H8 s8 := I8.pins_of (λ p hp => (List.not_mem_nil hp).elim)
        refine ⟨m', hm, i + 1, some y, ys ++ [v'], H8, its ++ [v], (if ((its ++ [v]).toArray.size == its.toArray.size) = true then q else q + 1), I9.turned (it := D) (t' := s8.toks) eo k4 hDC (.inr (by show s.heap.objs.size <= D; rw [hDe]; exact Nat.le_refl _)) nCellD (λ p hp => (List.not_mem_nil (show p ∈ ([] : List (Addr × Obj)) from hp)).elim),
          T.keep _ _ _ k1 λ b hb o e => eo b o (Ne.symm (nfpD b hb)) e, k2, w8, by rw [List.length_append, List.length_singleton]; omega, rv.append (.cons r8 .nil), q8, k4⟩
  exact codeAny_compStart_list (loop _ rfl) (T.self _ 0 _ _ _ st4 (loop _ rfl))
theorem pe_comp (hk : compOkB X.env.scope sc X.N x caps = true) (hc : X.calm = true) (hi : PI X (.Name x px) iter wi) (ht : ∀ z, PIfs (cxC X x caps sc z) ifs (tt z)) (he : ∀ z, PE (cxC X x caps sc z) elt (te z))
    (hs : ∀ v, foldedSetIterable iter X.env v = pure v := by intro _; rfl) : PE X (.ListComp elt [⟨.Name x px, iter, ifs, 0⟩] sc pos) (tComp caps wi tt te) := by
  intro pins s σ H Q I h
  have k := compOk_of hk
  rw [eval_ListComp]
  refine wpAny_comprehension_free (use := none) (cl := clOf sc X.env) rfl hs (closureFor_of λ p hp e => I.ok.has p.1 (k.free p hp e)) k.kind k.names (wpAny_mono (hi pins s σ H _ I h) (λ v s1 h1 => wpAny_mono h1 (λ itv s2 h2 => ?_) λ o_ o_ e => e) λ o_ o_ e => e)
  refine comp_block (RR := λ acc C => compPost (model X.prog X.w) X.A X.xe none (EP X pins σ Q) acc C) k hc ht he h2 ?_
  intro D C s' H' ys m oC I' nD qF hoC hn fC
  refine ⟨m, hn, λ h' hs' => ⟨.ref D, upd H' D (.lst ys), ?_, rfl, qF D nD⟩⟩
  exact I'.unpinned.turned (it := C) (t' := s'.toks) (λ b o hb e => hs'.extBut b o hb e) fC.1 fC.2.1 fC.2.2.2.1 fC.2.2.2.2.1 fC.2.2.2.2.2
theorem ps_setC {y : Str} {i : Nat} {py spos : Pos} (hN : X.N.Nodup) (hi' : X.N[i]? = some y) (hy : Loc X.env.scope y) (hk : compOkB X.env.scope sc X.N x caps = true) (hc : X.calm = true) (hi : PI X (.Name x px) iter wi) (ht : ∀ z, PIfs (cxC X x caps sc z) ifs (tt z)) (he : ∀ z, PE (cxC X x caps sc z) elt (te z))
    (hsw : swapsWith (.ListComp elt [⟨.Name x px, iter, ifs, 0⟩] sc pos) (some (.Name y py)) spos.line X.env = pure true := by rfl)
    (hs : ∀ v, foldedSetIterable iter X.env v = pure v := by intro _; rfl) (hf : X.fn y = true \/ X.env.scope.names.lookup y = some .local := by first | exact .inl rfl | exact .inr rfl | assumption) :
    PS X (.Assign [.Name y py] (.ListComp elt [⟨.Name x px, iter, ifs, 0⟩] sc pos) spos) (tAsg (tComp caps wi tt te) (gName i)) := by
  intro pins s σ H D I h
  have k := compOk_of hk
  rw [exec_Assign_Name_used _ _ _ _ hsw]
  refine wpAny_bind (wpAny_standAt (wpAny_bind ?_))
  show wpAny _ X.A (do let _ <- comprehension (.ListComp elt [⟨.Name x px, iter, ifs, 0⟩] sc pos) sc X.env _ (newList []) false (eval iter X.env) (some (assign (.Name y py) X.env))) _ _ s
  refine wpAny_bind (wpAny_mono (wpAny_comprehension_free (use := some (assign (.Name y py) X.env)) (Q := λ o_ s' => SP X pins D .next s') (cl := clOf sc X.env) rfl hs (closureFor_of λ p hp e => I.ok.has p.1 (k.free p hp e)) k.kind k.names
    (wpAny_mono (hi pins s σ H _ I h) (λ v s1 h1 => wpAny_mono h1 (λ itv s2 h2 => ?_) λ o_ o_ e => e) λ o_ o_ e => e)) (λ o_ s' hq => wpAny_pure (wpAny_pure hq)) λ o_ o_ e => e)
  refine comp_block (RR := λ acc C => compPost (model X.prog X.w) X.A X.xe (some (assign (.Name y py) X.env)) (λ o_ s' => SP X pins D .next s') acc C) k hc ht he h2 ?_
  intro D' C s' H' ys m oC I' nD qF hoC hn fC
  show wpAny _ X.A (assign (.Name y py) X.env (.ref D')) _ _ _
  refine wpAny_mono ((pg_name (pos := py) hN hi' hy hf) _ s' σ _ (.ref D') (.ref D') (λ σ2 H2 => D.nx σ2 H2 /\ H2 = upd H' D' (.lst ys)) I' rfl ⟨qF D' nD, rfl⟩) (λ o1_ s2 ⟨σ2, H2, I2, q2, e2⟩ => ?_) λ o_ o_ e => e
  have hC2 := (I2.pin (C, oC) (List.mem_append_right _ (List.mem_append_right _ (List.mem_singleton.mpr rfl)))).1
  obtain ⟨o', es, ep, ho', r⟩ := hn
  rw [hoC] at ho'; cases ho'
  subst e2
  exact ⟨m, ⟨_, es, ep, hC2, r⟩, λ h3 hs3 => ⟨σ2, _, I2.unpinned.turned (it := C) (t' := s2.toks) (λ b o hb e => hs3.extBut b o hb e) fC.1 fC.2.1 fC.2.2.2.1 fC.2.2.2.2.1 fC.2.2.2.2.2, q2⟩⟩
end
section
variable {caps : Caps} {σ : St} {tt : CArg -> TT} {te : CArg -> TE} {H1 : Hp} {F : List V -> Hp -> Prop}
theorem comp_list {K : PySem.W.Frag} {a : Addr} {xs : List V} (Pv : Nat -> List V -> Hp -> Prop) (h0 : Pv 0 [] H1) (hl : ∀ i ys H, i <= xs.length -> Pv i ys H -> SqL K H a xs)
    (hs : ∀ z i x ys H, xs[i]? = some x -> Pv i ys H -> tt z (some x :: capσ caps σ) H λ b H3 => if b = true then te z (some x :: capσ caps σ) H3 λ v H4 => ys.length < sizeLine /\ Pv (i + 1) (ys ++ [v]) H4 else Pv (i + 1) ys H3)
    (hd : ∀ ys H, Pv xs.length ys H -> F ys H) : tCompW caps σ tt te (Itl K a) H1 F := by
  refine ⟨λ i m ys H => m = xs.length - i /\ i <= xs.length /\ Pv i ys H, ⟨xs.length, by simp, Nat.zero_le _, h0⟩, ?_⟩
  rintro z i m ys H ⟨rfl, hi, p⟩
  have q := hl i ys H hi p
  by_cases hlt : i < xs.length
  · refine .inr ⟨⟨xs, xs[i], q, by simp [hlt]⟩, Pv (i + 1), λ ys' H' p' => ⟨xs.length - (i + 1), by omega, rfl, hlt, p'⟩, λ x H' y => ?_⟩
    obtain ⟨e, y⟩ := y
    subst e
    exact hs z i x ys _ (y xs q) p
  · have e : i = xs.length := by omega
    subst e
    exact .inl ⟨⟨xs, q, Nat.le_refl _⟩, hd ys H p⟩
theorem comp_tup {K : PySem.W.Frag} {a : Addr} {xs : List V} (Pv : Nat -> List V -> Hp -> Prop) (h0 : Pv 0 [] H1) (hl : ∀ i ys H, i <= xs.length -> Pv i ys H -> SqT K H a xs)
    (hs : ∀ z i x ys H, xs[i]? = some x -> Pv i ys H -> tt z (some x :: capσ caps σ) H λ b H3 => if b = true then te z (some x :: capσ caps σ) H3 λ v H4 => ys.length < sizeLine /\ Pv (i + 1) (ys ++ [v]) H4 else Pv (i + 1) ys H3)
    (hd : ∀ ys H, Pv xs.length ys H -> F ys H) : tCompW caps σ tt te (Itt K a) H1 F := by
  refine ⟨λ i m ys H => m = xs.length - i /\ i <= xs.length /\ Pv i ys H, ⟨xs.length, by simp, Nat.zero_le _, h0⟩, ?_⟩
  rintro z i m ys H ⟨rfl, hi, p⟩
  have q := hl i ys H hi p
  by_cases hlt : i < xs.length
  · refine .inr ⟨⟨xs, xs[i], q, by simp [hlt]⟩, Pv (i + 1), λ ys' H' p' => ⟨xs.length - (i + 1), by omega, rfl, hlt, p'⟩, λ x H' y => ?_⟩
    obtain ⟨e, y⟩ := y
    subst e
    exact hs z i x ys _ (y xs q) p
  · have e : i = xs.length := by omega
    subst e
    exact .inl ⟨⟨xs, q, Nat.le_refl _⟩, hd ys H p⟩
theorem comp_range {lo : Int} {n : Nat} (Pv : Nat -> List V -> Hp -> Prop) (h0 : Pv 0 [] H1)
    (hs : ∀ z i ys H, i < n -> Pv i ys H -> tt z (some (.int (lo + i)) :: capσ caps σ) H λ b H3 => if b = true then te z (some (.int (lo + i)) :: capσ caps σ) H3 λ v H4 => ys.length < sizeLine /\ Pv (i + 1) (ys ++ [v]) H4 else Pv (i + 1) ys H3)
    (hd : ∀ ys H, Pv n ys H -> F ys H) : tCompW caps σ tt te (Itr lo n) H1 F := by
  refine ⟨λ i m ys H => m = n - i /\ i <= n /\ Pv i ys H, ⟨n, by simp, Nat.zero_le _, h0⟩, ?_⟩
  rintro z i m ys H ⟨rfl, hi, p⟩
  by_cases hlt : i < n
  · refine .inr ⟨hlt, Pv (i + 1), λ ys' H' p' => ⟨n - (i + 1), by omega, rfl, hlt, p'⟩, λ x H' y => ?_⟩
    obtain ⟨e, y⟩ := y
    subst e y
    exact hs z i ys _ hlt p
  · have e : i = n := by omega
    subst e
    exact .inl ⟨Nat.le_refl _, hd ys H p⟩
end
section
variable {caps : Caps} {σ : St} {te : CArg -> TE} {H1 : Hp} {F : List V -> Hp -> Prop}
end
end L2
namespace L2
open PySem PySem.Spec PyProof.Rows
structure CompOk2 (X : Cx) (x x2 : Str) (caps : Caps) (sc : Scope) : Prop where
  own : sc.names.lookup x = some .local
  own2 : sc.names.lookup x2 = some .local
  kind : sc.kind = .function
  nocell : ∀ y ∈ sc.names, y.2 ≠ .cell
  names : ∀ y ∈ sc.names, y.2 = .local -> sc.names.lookup y.1 = some .local
  free : ∀ y ∈ sc.names, y.2 = .free -> X.env.kindOf y.1 = some .cell \/ X.env.kindOf y.1 = some .free
  nd : (x :: x2 :: caps.map (·.1)).Nodup
  cap : ∀ c ∈ caps, X.N[c.2]? = some c.1 /\ sc.names.lookup c.1 = some .free /\ (X.env.kindOf c.1 = some .cell \/ X.env.kindOf c.1 = some .free)
section
variable {X : Cx} {x x2 : Str} {caps : Caps} {elt iter : Expr} {ifs : List Expr} {sc : Scope} {px px2 pos pt : Pos} {kt : Nat} {wi : TI} {tt : CArg -> TT} {te : CArg -> TE}
end
end L2
namespace L2
open PySem PySem.Spec PyProof.Rows
theorem vals_of : ∀ {xs : List V} {us : List Value}, us.length = xs.length -> (∀ (j : Nat) (u : Value), us[j]? = some u -> ∃ x, xs[j]? = some x /\ RelV x u) -> Vals xs us
  | [], [], _, _ => .nil
  | x :: xs, u :: us, hl, h => by
    obtain ⟨y, e, r⟩ := h 0 u rfl
    have e : x = y := Option.some.inj e
    subst e
    exact .cons r (vals_of (by simpa using hl) λ j u hu => by simpa using h (j + 1) u (by simpa using hu))
  | [], _ :: _, hl, _ => by simp at hl
  | _ :: _, [], hl, _ => by simp at hl
theorem kV_of {P : Program} {w : World} {k : Key} {u : Value} (h : (mixKind P w).is k u = true) : RelV (kV k) u := by
  rcases keyIs_shape (show keyIs k u = true from h) with ⟨i, t, rfl, rfl⟩ | ⟨x, t, rfl, rfl⟩
  · exact ⟨t, rfl⟩
  · exact ⟨t, rfl⟩
theorem KV.key {kvs : List (Key × V)} {vs : List (Key × Value)} (r : KV kvs vs) {j : Nat} {k : Key} {x : Value} (e : vs[j]? = some (k, x)) : ∃ v, kvs[j]? = some (k, v) := by
  have q := congrArg (λ l => l[j]?) r.keys
  simp only [List.getElem?_map, e, Option.map_some] at q
  cases z : kvs[j]? with
  | none => rw [z] at q; cases q
  | some p => rw [z] at q; exact ⟨p.2, by rw [<- (Option.some.inj q : p.1 = k)]⟩
noncomputable def keysV (kvs : List (Key × V)) : List V := kvs.map λ kv => kV kv.1
section
variable {X : Cx}
theorem call_list_dict (hc : X.calm = true) : CallR X (.type "list") (λ xs H Q => ∃ a kvs, xs = [.ref a] /\ H a = some (.dK kvs) /\ ∀ l, H l = none -> Q (.ref l) (upd H l (.lst (keysV kvs)))) := by
  intro pins s σ H xs us Q I r h
  obtain ⟨a, kvs, rfl, ha, q⟩ := h
  obtain ⟨u, rfl, ru⟩ := vals1 r
  cases ru
  obtain ⟨hz, hs, vs, rel, dd⟩ := dk_of I.hok ha
  obtain ⟨ep, hat⟩ := dd.dictAt
  refine PySem.W.kdl_call (PySem.W.kdl_dict (knd := mixKind X.prog X.w) (kvs := vs) (ep := ep) hs) (I.ok.hd hc) hat (by rw [<- rel.length]; exact hz) λ h' tk acc' c' hk hD hacc => ?_
  have hv : Vals (keysV kvs) acc'.toList := by
    refine vals_of ?_ λ j v hj => ?_
    · rw [Array.length_toList, hacc.1, <- rel.length]
      unfold keysV
      rw [List.length_map]
    · obtain ⟨k, x, e1, e2⟩ := hacc.2 j v (by rw [<- Array.getElem?_toList]; exact hj)
      obtain ⟨v', e3⟩ := rel.key e1
      refine ⟨kV k, ?_, kV_of e2⟩
      unfold keysV
      rw [List.getElem?_map, e3]
      all_goals rfl
  have hl : (keysV kvs).length <= sizeLine := by
    unfold keysV
    rw [List.length_map]
    exact hz
  exact ⟨.ref s.heap.objs.size, _, I.laid (t' := tk) hk (Nat.le_refl _) (show ObjOk X.prog X.w _ h' _ (.lst (keysV kvs)) from ⟨hl, acc'.toList, c', hv, by rw [hD, Array.toArray_toList]⟩), rfl, q _ I.fresh⟩
theorem bl_at {bs : List Bool} {us : List Value} (r : Vals (bs.map V.bl) us) {i : Nat} {v : Value} (e : us[i]? = some v) : ∃ b, bs[i]? = some b /\ v = .bool b := by
  have hl := r.length
  rw [List.length_map] at hl
  have hi : i < us.length := (List.getElem?_eq_some_iff.mp e).1
  have hb : bs[i]? = some bs[i] := List.getElem?_eq_getElem (by omega)
  obtain ⟨u, e', ru⟩ := r.get (i := i) (x := .bl bs[i]) (by rw [List.getElem?_map, hb]; rfl)
  rw [e] at e'
  cases e'
  exact ⟨_, hb, ru⟩
theorem all_range (bs : List Bool) (n : Nat) (h : n = bs.length) : ((List.range n).all λ i => (bs[i]?).getD true) = bs.all id := by
  subst h
  exact LSm.range_all bs
theorem call_all_list (hc : X.calm = true) : CallR X (.builtin "all") (λ xs H Q => ∃ (a : Addr) (bs : List Bool), xs = [.ref a] /\ SqL X.K H a (bs.map V.bl) /\ Q (.bl (bs.all id)) H) := by
  intro pins s σ H xs us Q I r h
  obtain ⟨a, bs, rfl, ha, q⟩ := h
  obtain ⟨u, rfl, ru⟩ := vals1 r
  cases ru
  obtain ⟨its, rv, pl, hz⟩ := I.list ha
  have hl := pl.isList
  have hlt : a < s.heap.objs.size := by
    obtain ⟨_, e, _⟩ := id hl
    exact Heap.lt_size e
  refine call_all_walk (wpAny_pyIter_list hl ⟨s.heap.objs.size, [s.heap.objs.size, a], [s.heap.objs.size], its.toArray.size, _, _, λ i => (bs[i]?).getD true, rfl,
    Walks.list (A := X.A.in1) (I.ok.hd hc) _ a (Nat.ne_of_lt hlt) its.toArray, ⟨⟨_, Heap.get?_push_size _ rfl, rfl, rfl⟩, hl.push _⟩, λ i v s' Q' E' hP hQ => ?_, λ h' tk hk => ?_⟩)
  · obtain ⟨b, e, rfl⟩ := bl_at rv (by simpa using hP)
    simp only [e, Option.getD_some] at hQ
    exact wpAny_truthy_bool hQ
  · rw [all_range bs _ (by rw [List.size_toArray, <- rv.length, List.length_map])]
    exact ⟨.bl _, H, I.kept (LSm.kept_iter hk), rfl, q⟩
theorem sl_str : SlR X (λ x lo hi H Q => ∃ z, x = .str z /\ z.length <= sizeLine /\ Q (.str (Txt.slice z lo hi)) H) := by
  intro pins s σ H x v vl vu lo hi sl Q I rx hs pl pu h
  obtain ⟨z, rfl, hz, q⟩ := h
  obtain ⟨t, rfl⟩ := rx
  refine ⟨"str", _, F.slot_str_getitem.lookup, typeIs_str _ _ _, ?_⟩
  have fin : ∀ t' k, EP X pins σ Q (.str (Txt.slice z lo hi) t') { s with toks := k } := λ t' k => ⟨.str _, H, I.tok k, ⟨t', rfl⟩, q⟩
  have hle := Nat.le_trans (Txt.slice_le z lo hi) hz
  cases pl with
  | none => cases pu with
    | none => exact wpAny_getItem_str_slice (l := none) (u := none) (st := none) hs rfl (post_val_or_str ⟨hle, fin⟩)
    | int j uj => exact wpAny_getItem_str_slice (l := none) (u := some (j, uj)) (st := none) hs rfl (post_val_or_str ⟨hle, fin⟩)
  | int i ui => cases pu with
    | none => exact wpAny_getItem_str_slice (l := some (i, ui)) (u := none) (st := none) hs rfl (post_val_or_str ⟨hle, fin⟩)
    | int j uj => exact wpAny_getItem_str_slice (l := some (i, ui)) (u := some (j, uj)) (st := none) hs rfl (post_val_or_str ⟨hle, fin⟩)
end
end L2
namespace L2
open PySem PySem.Spec PyProof.Rows
section
variable {prog : Program} {w : World} {A : Around} {E : Value -> Shared -> Prop} {s : Shared} {I l : Addr} {items : Array Value}
end
section
variable {X : Cx} {e : Expr} {te : TE} {p1 p2 q1 q2 : Pos}
end
end L2
namespace L2
open PySem PySem.Spec PyProof.Rows
noncomputable def Its (x : Str) : It := ⟨λ i o_ => i < x.cps.size, λ i H v H' => H' = H /\ ∃ c, x.cps[i]? = some c /\ v = .str ⟨#[c]⟩, λ i o_ => x.cps.size <= i⟩
theorem turn_str {P : Program} {w : World} {K : PySem.W.Frag} {tg : Expr} (it : Addr) (x : Str) (t : Tok) : Turn P w K tg (Its x) [it] it (λ i h => h.IsStrIter it "str_ascii_iterator" x t i) where
  mem := by simp
  obj := λ i h st b hb => by
    have e : b = it := by simpa using hb
    subst e
    obtain ⟨o, e, c, d⟩ := st
    exact ⟨o, e, λ v z => by rw [d] at z; cases z⟩
  keep := λ i h h' st k => let ⟨o, ho, r⟩ := st; ⟨o, k it (by simp) o ho, r⟩
  item := by
    intro X hP hw hK hc i pins s σ H E I hf st hg
    subst hP hw hK
    obtain ⟨f0, f1, f2, f3, f4, f5⟩ := hf it (by simp)
    have hg : i < x.cps.size := hg
    refine wpAny_pyNext_ascii_item st (c := x.cps[i]) (by simp [hg]) λ h' st' sb => ?_
    have I1 : Inv X pins σ H { s with heap := h', toks := s.toks + 1 } := I.turned (λ b o hb e => (sb.2 b hb).trans e) f0 f1 f3 f4 f5
    obtain ⟨o, e, c, d⟩ := id st'
    exact ⟨_, rfl, go_of (s := { s with heap := h', toks := s.toks + 1 }) e c d (by decide) ⟨.str ⟨#[x.cps[i]]⟩, H, I1, ⟨_, rfl⟩, ⟨rfl, x.cps[i], by simp [hg], rfl⟩, st', λ b hb => (hf b hb).1⟩⟩
  done := by
    intro X hP hw hK hc i pins s σ H E I hf st hg
    subst hP hw hK
    obtain ⟨f0, f1, f2, f3, f4, f5⟩ := hf it (by simp)
    have hg : x.cps.size <= i := hg
    exact wpAny_pyNext_ascii_end (I.ok.hd hc) st (by simp; omega) λ h' eb => ⟨rfl, I.turned (t' := s.toks) (λ b o hb e => eb b o hb e) f0 f1 f3 f4 f5⟩
  self := λ o_ o_ o_ o_ o_ st h => wpAny_pyIter_striter_ascii st h
section
variable {X : Cx} {tg : Expr}
noncomputable def iStr (tl : TE) : TI := λ σ H R => tl σ H λ x H1 => ∃ z, x = .str z /\ z.cps.all (· < 128) = true /\ R (Its z) H1
theorem pi_str {l : Expr} {tl : TE} (hl : PE X l tl) : PI X tg l (iStr tl) := by
  intro pins s σ H R I h
  refine thn (hl pins s σ H _ I h) λ v s1 ⟨x, H1, I1, r1, q1⟩ => ?_
  obtain ⟨z, e, ha, q⟩ := q1
  subst e
  obtain ⟨t, rfl⟩ := r1
  refine wpAny_pyIter_ascii ha ?_
  refine ⟨s1.heap.objs.size, [s1.heap.objs.size], _, _, H1, rfl, I1.kept (t' := s1.toks) λ b o e => Heap.get?_push_of_some _ e, turn_str _ z t, ⟨_, Heap.get?_push_size _ rfl, rfl, rfl⟩, λ b hb => ?_, q⟩
  have e : b = s1.heap.objs.size := by simpa using hb
  subst e
  exact I1.fpOk (Nat.le_refl _) (I1.hok.fresh (Nat.le_refl _))
end
theorem for_str {z : Str} {g : TG} {tb : TS} {D : Ends} {σ : L2.St} {H : Hp} (Pv : Nat -> L2.St -> Hp -> Prop) (h0 : Pv 0 σ H)
    (hs : ∀ i c σ H, z.cps[i]? = some c -> Pv i σ H -> g (.str ⟨#[c]⟩) σ H λ σ2 H2 => tb { D with nx := Pv (i + 1), ct := Pv (i + 1), bk := D.nx } σ2 H2) (hd : ∀ σ H, Pv z.cps.size σ H -> D.nx σ H) :
    ∃ W : Nat -> Nat -> L2.St -> Hp -> Prop, (∃ m, W 0 m σ H) /\ ∀ i m σ H, W i m σ H ->
      ((Its z).stop i H /\ D.nx σ H) \/ ((Its z).go i H /\ ∃ N : L2.St -> Hp -> Prop, (∀ σ' H', N σ' H' -> ∃ m', m' < m /\ W (i + 1) m' σ' H') /\ ∀ x H', (Its z).yld i H x H' -> g x σ H' λ σ2 H2 => tb { D with nx := N, ct := N, bk := D.nx } σ2 H2) := by
  refine ⟨λ i m σ H => m = z.cps.size - i /\ i <= z.cps.size /\ Pv i σ H, ⟨z.cps.size, by simp, Nat.zero_le _, h0⟩, ?_⟩
  rintro i m σ H ⟨rfl, hi, p⟩
  by_cases hlt : i < z.cps.size
  · refine .inr ⟨hlt, Pv (i + 1), λ σ' H' p' => ⟨z.cps.size - (i + 1), by omega, rfl, hlt, p'⟩, λ x H' y => ?_⟩
    obtain ⟨e, c, hc, y⟩ := y
    subst e y
    exact hs i c σ _ hc p
  · have e : i = z.cps.size := by omega
    subst e
    exact .inl ⟨Nat.le_refl _, hd σ H p⟩
theorem comp_str {z : Str} {caps : Caps} {σ : L2.St} {tt : CArg -> TT} {te : CArg -> TE} {H1 : Hp} {F : List V -> Hp -> Prop} (Pv : Nat -> List V -> Hp -> Prop) (h0 : Pv 0 [] H1)
    (hs : ∀ q i c ys H, z.cps[i]? = some c -> Pv i ys H -> tt q (some (.str ⟨#[c]⟩) :: capσ caps σ) H λ b H3 => if b = true then te q (some (.str ⟨#[c]⟩) :: capσ caps σ) H3 λ v H4 => ys.length < sizeLine /\ Pv (i + 1) (ys ++ [v]) H4 else Pv (i + 1) ys H3)
    (hd : ∀ ys H, Pv z.cps.size ys H -> F ys H) : tCompW caps σ tt te (Its z) H1 F := by
  refine ⟨λ i m ys H => m = z.cps.size - i /\ i <= z.cps.size /\ Pv i ys H, ⟨z.cps.size, by simp, Nat.zero_le _, h0⟩, ?_⟩
  rintro q i m ys H ⟨rfl, hi, p⟩
  by_cases hlt : i < z.cps.size
  · refine .inr ⟨hlt, Pv (i + 1), λ ys' H' p' => ⟨z.cps.size - (i + 1), by omega, rfl, hlt, p'⟩, λ x H' y => ?_⟩
    obtain ⟨e, c, hc, y⟩ := y
    subst e y
    exact hs q i c ys _ hc p
  · have e : i = z.cps.size := by omega
    subst e
    exact .inl ⟨Nat.le_refl _, hd ys H p⟩
section
variable {X : Cx}
theorem op_le_str : OpR X (compareOp .LtE) (λ x y H Q => ∃ i j, x = .str i /\ y = .str j /\ Q (.bl (!decide (j.cps.toList < i.cps.toList))) H) := by
  intro pins s σ H x y v u Q I rx ry h
  obtain ⟨i, j, rfl, rfl, q⟩ := h
  obtain ⟨t, rfl⟩ := rx
  obtain ⟨t', rfl⟩ := ry
  exact PySem.P.le_str (fin_bl I q rfl)
theorem op_ge_str : OpR X (compareOp .GtE) (λ x y H Q => ∃ i j, x = .str i /\ y = .str j /\ Q (.bl (!decide (i.cps.toList < j.cps.toList))) H) := by
  intro pins s σ H x y v u Q I rx ry h
  obtain ⟨i, j, rfl, rfl, q⟩ := h
  obtain ⟨t, rfl⟩ := rx
  obtain ⟨t', rfl⟩ := ry
  exact PySem.P.ge_str (fin_bl I q rfl)
end
end L2
namespace L2
open PySem PySem.Spec PyProof.Rows
section
variable {X : Cx} {o e : Expr} {es : List Expr} {apos cpos pos : Pos} {to te : TE}
end
end L2
namespace L2
open PySem PySem.Spec PyProof.Rows
theorem ObjOk.there {P : Program} {w : World} {H : Hp} {h : Heap} {a : Addr} {o : HO} (x : ObjOk P w H h a o) : ∃ u, h.get? a = some u := by
  cases o with
  | lst xs => obtain ⟨_, _, _, _, e⟩ := x; exact ⟨_, e⟩
  | tup xs => obtain ⟨_, _, _, o, e, _⟩ := x; exact ⟨_, e⟩
  | dK kvs => obtain ⟨_, _, _, _, o, _, _, e, _⟩ := x; exact ⟨_, e⟩
  | dT kvs => obtain ⟨_, _, _, _, o, _, _, e, _⟩ := x; exact ⟨_, e⟩
  | set S n => obtain ⟨o, _, _, _, e, _⟩ := x; exact ⟨_, e⟩
  | ins C dx fs => obtain ⟨_, _, _, e, _⟩ := x; exact ⟨_, e⟩
  | own y => exact x
  | xd fs => obtain ⟨_, ⟨_, _, _, e, _⟩, _⟩ := x; exact ⟨_, e⟩
  | rng lo hi => obtain ⟨_, _, _, e⟩ := x; exact ⟨_, e⟩
  | frz ob u => obtain ⟨e, _⟩ := x; exact ⟨_, e⟩
  | tbl ps => exact ⟨_, x⟩
  | met f y => exact ⟨_, x⟩
  | ext φ => exact x.2.1
structure Fly (P : Program) (w : World) (l : List Env) (H : Hp) (s s' : Shared) (ea C : Addr) (a0 : Value) (B : Heap) (H' : Hp) : Prop where
  os : s'.os = s.os
  bare : AllBare s'.gens
  un : Un (frs l) [] H H' s.heap s'.heap
  hok : HOk P w H' s'.heap
  fly : Heap.FlyingW B l ea (.ref C) a0 s'.heap
  old : ∀ b, b ∉ frs l -> ((∃ u, s.heap.get? b = some u) \/ (∃ u, H' b = some u)) -> ∃ o, B.get? b = some o
noncomputable def CXF (P : Program) (w : World) : CXT := λ l H s E e s' => ∃ ea C a0 B H', e = .ref ea /\ Fly P w l H s s' ea C a0 B H' /\ E (.ref C) none H'
section
variable {P : Program} {w : World} {fs fs' : List Addr} {H H' : Hp} {h1 h2 h3 B : Heap}
theorem fly_un (un : Un fs [] H H' h1 h2) (hold : ∀ b, b ∉ fs -> ((∃ u, h1.get? b = some u) \/ (∃ u, H' b = some u)) -> ∃ o, B.get? b = some o) (s2 : B.StaysIn h2) (s3 : B.StaysIn h3) (k : h2.UpToSlots h3)
    (hfr : ∀ b ∈ fs, ∀ o, h2.get? b = some o -> ∀ vs, o.data ≠ .fields vs) : Un fs [] H H' h1 h3 := by
  refine ⟨λ b o q n hb hx => ?_, λ b o q n hb hx => ?_, un.free, λ b o q hx => ?_, un.tups, un.frzs, un.tbls⟩
  · have e2 := un.keep b o q n hb hx
    obtain ⟨o', e⟩ := hold b hb (.inl ⟨o, q⟩)
    have := s2 b o' e
    rw [e2] at this
    cases this
    exact s3 b o e
  · obtain ⟨sl, e⟩ := un.slot b o q n hb hx
    obtain ⟨sl', e'⟩ := k b _ e (hfr b hb _ e)
    exact ⟨sl', e'⟩
  · by_cases hb : b ∈ fs
    · obtain ⟨o', e⟩ := un.there b o q hx
      obtain ⟨sl, e'⟩ := k b o' e (hfr b hb _ e)
      exact ⟨_, e'⟩
    · obtain ⟨o', e⟩ := hold b hb (.inl ⟨o, q⟩)
      exact ⟨o', s3 b o' e⟩
theorem fly_hok (hok : HOk P w H' h2) (hold : ∀ b, b ∉ fs -> ((∃ u, h1.get? b = some u) \/ (∃ u, H' b = some u)) -> ∃ o, B.get? b = some o) (s2 : B.StaysIn h2) (s3 : B.StaysIn h3) (hf : ∀ b ∈ fs, H' b = none) : HOk P w H' h3 := λ a o e => by
  refine (hok a o e).stay (λ b u hb q => ?_) (λ o_ q => q) λ o_ o_ q => q
  have ht : ∃ u, H' b = some u := by
    rcases hb with rfl | hb
    · exact ⟨_, e⟩
    · exact ⟨_, hb⟩
  have hn : b ∉ fs := λ z => by
    obtain ⟨u, hu⟩ := ht
    rw [hf b z] at hu
    cases hu
  obtain ⟨o', e'⟩ := hold b hn (.inr ht)
  have := s2 b o' e'
  rw [q] at this
  cases this
  exact s3 b u e'
theorem Un.less (u : Un fs [] H H' h1 h2) (hs : ∀ b o, h1.get? b = some o -> b ∈ fs -> b ∈ fs') : Un fs' [] H H' h1 h2 :=
  ⟨λ b o q n hb hx => u.keep b o q n (λ z => hb (hs b o q z)) hx, λ b o q n o_ hx => u.any q n hx, u.free, u.there, u.tups, u.frzs, u.tbls⟩
end
section
variable {P : Program} {w : World} {K : PySem.W.Frag} {mg : Str -> Option Value} {base : Heap} {N : List Str} {qual : Str} {scope : Scope} {f : Addr} {cd : Value} {A : Around} {outer : List Env} {s : Shared} {H : Hp} {E : XK}
theorem Fly.step {l : List Env} {s' : Shared} {ea C : Addr} {a0 : Value} {B : Heap} {H' : Hp} (F : Fly P w l H s s' ea C a0 B H') (hf : ∀ b ∈ frs l, H b = none /\ ∃ o, s.heap.get? b = some o) {h' : Heap} (fl : Heap.FlyingW B l ea (.ref C) a0 h') (k : s'.heap.UpToSlots h') :
    Fly P w l H s { s' with heap := h' } ea C a0 B H' := by
  refine ⟨F.os, F.bare, fly_un F.un F.old F.fly.1 fl.1 k (λ b hb o e => ?_), fly_hok (fs := frs l) (h1 := s.heap) F.hok F.old F.fly.1 fl.1 λ b hb => ?_, fl, F.old⟩
  · obtain ⟨_, o', e', hd⟩ := F.fly.2.2.1.mem hb
    rw [e] at e'
    cases e'
    exact hd
  · obtain ⟨hn, o, ho⟩ := hf b hb
    exact F.un.free b o ho hn (by simp)
theorem stack_in {env : Env} {l : List Env} : ∀ e ∈ env :: l, ∀ b, e.frame = some b -> b ∈ frs (env :: l) := λ e he b hb => List.mem_filterMap.mpr ⟨e, he, hb⟩
theorem frs_cons {L : Addr} {env : Env} {l : List Env} (h : env.frame = some L) : frs (env :: l) = L :: frs l := by
  unfold frs
  rw [List.filterMap_cons, h]
theorem raise_xe {pins : List (Addr × Obj)} {σ : St} {H1 : Hp} {s1 : Shared} {h' : Heap} {e C : Addr} {vs : List Value} (I : Inv (cxOf (CXF P w) P w K mg base N qual scope f cd A outer s H E) pins σ H1 s1) (hx : Heap.MadeExcOf s1.heap h' e (.ref C) vs) (hw : E (.ref C) none H1) :
    (cxOf (CXF P w) P w K mg base N qual scope f cd A outer s H E).xe (.ref e) { s1 with heap := h' } := by
  have hL : frs ((envOfC qual scope s.heap.objs.size f cd) :: outer) = s.heap.objs.size :: frs outer := frs_cons rfl
  have hst : s1.heap.FunFrames base ((envOfC qual scope s.heap.objs.size f cd) :: outer) := I.stack
  have hun : Un (frs outer) [] H H1 s.heap s1.heap := I.base
  have hfree : H1 s.heap.objs.size = none := I.free
  have hold : ∀ b, b ∉ frs outer -> ((∃ u, s.heap.get? b = some u) \/ (∃ u, H1 b = some u)) -> ∃ o, (PySem.W.hideAll s1.heap (frs ((envOfC qual scope s.heap.objs.size f cd) :: outer))).get? b = some o := λ b hb h => by
    rcases h with ⟨u, hu⟩ | ⟨u, hu⟩
    · obtain ⟨o, ho⟩ := hun.there b u hu (by simp)
      refine ⟨o, PySem.W.hideAll_get _ ho λ hm => ?_⟩
      rw [hL] at hm
      rcases List.mem_cons.mp hm with z | z
      · exact absurd (Heap.lt_size hu) (by rw [z]; exact Nat.lt_irrefl _)
      · exact hb z
    · obtain ⟨o, ho⟩ := (I.hok b u hu).there
      refine ⟨o, PySem.W.hideAll_get _ ho λ hm => ?_⟩
      rw [hL] at hm
      rcases List.mem_cons.mp hm with z | z
      · rw [z, hfree] at hu; cases hu
      · exact hb z
  refine wpAny_leaves_madeW (base := PySem.W.hideAll s1.heap (frs ((envOfC qual scope s.heap.objs.size f cd) :: outer))) (h := s1.heap) I.ok.frames rfl (λ b o q => PySem.W.of_hideAll _ q) (PySem.W.funFrames_hide hst stack_in) hx λ h'' t x1 x2 x3 x4 => ?_
  have k : s1.heap.UpToSlots h'' := (Heap.UpToSlots.of_keeps hx.keeps).trans x4
  have s2 : (PySem.W.hideAll s1.heap (frs ((envOfC qual scope s.heap.objs.size f cd) :: outer))).StaysIn s1.heap := λ b o q => PySem.W.of_hideAll _ q
  refine ⟨e, C, .ref t, _, H1, rfl, ⟨I.os, I.bare, fly_un hun hold s2 x1.1 k (λ b hb o eo => ?_), fly_hok (fs := frs outer) (h1 := s.heap) I.hok hold s2 x1.1 λ b hb => ?_, x1, hold⟩, hw⟩
  · obtain ⟨_, o', e', hd⟩ := hst.mem (b := b) (by show b ∈ frs _; rw [hL]; exact List.mem_cons_of_mem _ hb)
    rw [eo] at e'
    cases e'
    exact hd
  · exact I.stkFree b (by show b ∈ frs ((envOfC qual scope s.heap.objs.size f cd) :: outer); rw [hL]; exact List.mem_cons_of_mem _ hb)
theorem pass_xe : Passes (CXF P w) (cxOf (CXF P w) P w K mg base N qual scope f cd A outer s H E) E := by
  intro pins σ H1 s1 e s2 I h
  obtain ⟨ea, C, a0, B, H2, rfl, F, hw⟩ := h
  have hL : frs ((envOfC qual scope s.heap.objs.size f cd) :: outer) = s.heap.objs.size :: frs outer := frs_cons rfl
  have hun : Un (frs outer) [] H H1 s.heap s1.heap := I.base
  have Fun' : Un (frs ((envOfC qual scope s.heap.objs.size f cd) :: outer)) [] H1 H2 s1.heap s2.heap := F.un
  have Fold : ∀ b, b ∉ frs ((envOfC qual scope s.heap.objs.size f cd) :: outer) -> ((∃ u, s1.heap.get? b = some u) \/ (∃ u, H2 b = some u)) -> ∃ o, B.get? b = some o := F.old
  have Ffly : Heap.FlyingW B ((envOfC qual scope s.heap.objs.size f cd) :: outer) ea (.ref C) a0 s2.heap := F.fly
  have hL2 : H2 s.heap.objs.size = none := by
    obtain ⟨o, ho⟩ : ∃ o, s1.heap.get? s.heap.objs.size = some o := by
      obtain ⟨_, o, ho, _⟩ := I.stack.mem (b := s.heap.objs.size) (by show _ ∈ frs ((envOfC qual scope s.heap.objs.size f cd) :: outer); rw [hL]; exact List.mem_cons_self)
      exact ⟨o, ho⟩
    exact Fun'.free _ o ho I.free (by simp)
  refine wpAny_leaves_onW I.ok.frames rfl Ffly λ h' x1 x2 => ⟨ea, C, a0, B, H2, rfl, ?_, hw⟩
  have hold : ∀ b, b ∉ frs outer -> ((∃ u, s.heap.get? b = some u) \/ (∃ u, H2 b = some u)) -> ∃ o, B.get? b = some o := λ b hb h => by
    rcases h with ⟨u, hu⟩ | ⟨u, hu⟩
    · obtain ⟨o, ho⟩ := hun.there b u hu (by simp)
      refine Fold b (λ hm => ?_) (.inl ⟨o, ho⟩)
      rw [hL] at hm
      rcases List.mem_cons.mp hm with z | z
      · exact absurd (Heap.lt_size hu) (by rw [z]; exact Nat.lt_irrefl _)
      · exact hb z
    · refine Fold b (λ hm => ?_) (.inr ⟨u, hu⟩)
      rw [hL] at hm
      rcases List.mem_cons.mp hm with z | z
      · rw [z, hL2] at hu; cases hu
      · exact hb z
  have u12 : Un (frs outer) [] H H2 s.heap s2.heap := by
    have a := hun.mono (fs' := frs ((envOfC qual scope s.heap.objs.size f cd) :: outer)) (ex' := []) (λ b hb => by rw [hL]; exact List.mem_cons_of_mem _ hb) (λ b hb => hb)
    refine (a.trans Fun').less λ b o q hb => ?_
    rw [hL] at hb
    rcases List.mem_cons.mp hb with z | z
    · exact absurd (Heap.lt_size q) (by rw [z]; exact Nat.lt_irrefl _)
    · exact z
  refine ⟨F.os.trans I.os, F.bare, fly_un u12 hold F.fly.1 x1.1 x2 (λ b hb o eo => ?_), fly_hok (fs := frs outer) (h1 := s.heap) F.hok hold F.fly.1 x1.1 λ b hb => ?_, x1, hold⟩
  · obtain ⟨_, o', e', hd⟩ := Ffly.2.2.1.mem (b := b) (by show b ∈ frs _; rw [hL]; exact List.mem_cons_of_mem _ hb)
    rw [eo] at e'
    cases e'
    exact hd
  · have hn := I.stkFree b (by show b ∈ frs ((envOfC qual scope s.heap.objs.size f cd) :: outer); rw [hL]; exact List.mem_cons_of_mem _ hb)
    obtain ⟨_, o, ho, _⟩ := I.stack.mem (b := b) (by show _ ∈ frs ((envOfC qual scope s.heap.objs.size f cd) :: outer); rw [hL]; exact List.mem_cons_of_mem _ hb)
    exact Fun'.free b o ho hn (by simp)
end
noncomputable abbrev bmVE : List Value := [.type "ValueError", .type "Exception", .type "BaseException", .type "object"]
set_option tactic.hygienic true in
theorem own_obj {K : PySem.W.Frag} {h : Heap} {C : Addr} {bmB : List Value} {newId : String} (X : K.In h) (q : PySem.W.excIn K C bmB newId = true) :
    ∃ bm N nm q bs hdct sn sub ab col dd k0 k1 k2 k3 k5 mN, h.get? C = some (excClassObj nm q C N bs bm hdct sn sub ab col dd k0 k1 k2 k3 k5 newId) /\ h.Ns N mN /\ mN "__init__" = none /\ OwnTail h bmB bm := by
  unfold PySem.W.excIn at q
  split at q
  · rename_i dd cd sl ho
    split at q
    · rename_i C' bm k0 k1 k2 k3 n k5 hm hs
      simp only [Bool.and_eq_true, beq_iff_eq, Bool.not_eq_true'] at q
      obtain ⟨⟨⟨⟨⟨rfl, rfl⟩, hdel⟩, ht⟩, hok⟩, hni⟩ := q
      obtain ⟨nm, bs, mro, ns, qn, hd, sn, sub, ab, col, del⟩ := cd
      dsimp only at hm hdel hok hni
      subst hm hdel
      have hsl : sl = #[k0, k1, k2, k3, some (.builtin n), k5] := by
        obtain ⟨l⟩ := sl
        simp only at hs
        rw [hs]
      subst hsl
      exact ⟨bm, ns, nm, qn, bs, hd, sn, sub, ab, col, dd, k0, k1, k2, k3, k5, _, X _ _ ho, .of_isNs (PySem.W.isNs_of_in X hok), PySem.W.nsMap_none_of_in X hok hni, PySem.W.tail_of_in X ht⟩
    · cases q
  · cases q
section
variable {X : Cx} {x : Str} {C : Addr} {e : Expr} {np cpos pos : Pos}
noncomputable def PV (X : Cx) (e : Expr) (t : St -> Hp -> (Hp -> Prop) -> Prop) : Prop :=
  ∀ (pins : List (Addr × Obj)) (s : Shared) (σ : St) (H : Hp) (Q : Hp -> Prop), Inv X pins σ H s -> t σ H Q -> wpAny (model X.prog X.w) X.A (eval e X.env) (λ o_ s' => ∃ H', Inv X pins σ H' s' /\ Q H') X.xe s
noncomputable def tRaise (t : St -> Hp -> (Hp -> Prop) -> Prop) (W : Hp -> Prop) : TS := λ o_ σ H => t σ H W
theorem ps_raise {t : St -> Hp -> (Hp -> Prop) -> Prop} {W : Hp -> Prop} (hc : X.calm = true) (hg : Gl X x) (hm : X.mg x = some (.ref C)) (hq : PySem.W.excIn X.K C bmVE "ValueError.__new__" = true) (ha : PV X e t)
    (hx : ∀ pins σ H s h' a vs, Inv X pins σ H s -> Heap.MadeExcOf s.heap h' a (.ref C) vs -> W H -> X.xe (.ref a) { s with heap := h' })
    (hdb : (x == ("__debug__" : Str)) = false := by decide) (he : starEach [e] X.env = [(false, eval e X.env)] := by rfl) : PS X (.Raise (some (.Call (.Name x np) [e] [] cpos)) none pos) (tRaise t W) := by
  intro pins s σ H D I h
  obtain ⟨bm, N, nm, q, bs, hdct, sn, sub, ab, col, dd, k0, k1, k2, k3, k5, mN, hC, hN, hni, T⟩ := own_obj I.ok.mod.kin hq
  refine wpAny_Raise_call_subT (C := C) (nm := nm) (q := q) (N := N) (bs := bs) (bm := bm) (hdct := hdct) (sn := sn) (sub := sub) (ab := ab) (col := col) (dd := dd) (k0 := k0) (k1 := k1) (k2 := k2) (k3 := k3) (k5 := k5)
    PySem.F.excBase_ValueError (mN := mN) (T.hasType PySem.F.excBase_ValueError.hasBase) (I.ok.hd hc) (by rw [he]; rfl) hni (ld_glob I hg hm ⟨rfl, ?_⟩ hdb)
  rw [he]
  refine Calls.evalArgs_plain (Calls.spliced_cons (thn (ha pins s σ H _ I h) λ v s2 ⟨H2, I2, q2⟩ => Calls.spliced_nil ?_))
  exact ⟨rfl, (by show 1 <= sizeLine; decide), I2.bk _ _ hC, hN.keeps I2.bk, T.keeps I2.bk, λ h' a hmade => hx pins σ H2 s2 h' a _ I2 hmade q2⟩
noncomputable def okMsg (x : Str) : Prop := x.length <= 100000 /\ ∀ c ∈ x.cps.toList, c < 0x110000
theorem pv_msg {i : Nat} {y lit : Str} {j : Nat} {conv : Int} {p1 p2 p3 p4 : Pos} (hl : lit.length <= 1000) (hc : conv = -1 \/ conv = 114) (hN : X.N[i]? = some y) (hv : Vis X.env.scope y) (hd : (y == ("__debug__" : Str)) = false := by decide) (hcd : (y == ("__classdict__" : Str)) = false := by decide)
    (hs : evalEach [.Constant (.str lit) j p1, .FormattedValue (.Name y p3) conv none p2] X.env = [eval (.Constant (.str lit) j p1) X.env, eval (.FormattedValue (.Name y p3) conv none p2) X.env] := by rfl) :
    PV X (.JoinedStr [.Constant (.str lit) j p1, .FormattedValue (.Name y p3) conv none p2] p4) λ σ H Q => ∃ z, σ[i]? = some (some (.str z)) /\ okMsg z /\ Q H := by
  intro pins s σ H Q I h
  obtain ⟨z, hz, ⟨hz1, hz2⟩, q⟩ := h
  have hline : (2000000 : Nat) <= sizeLine := by decide
  have e0 : (Str.empty ++ lit) = lit := Str.empty_append lit
  have rl : (reprText z).length <= 10 * z.length + 2 := StrLaws.reprText_len z λ c m => Nat.lt_of_lt_of_le (hz2 c m) (by decide)
  have la : ∀ a b : Str, (a ++ b).length = a.length + b.length := λ a b => Str.length_append a b
  refine wpAny_JoinedStr ?_
  rw [hs]
  refine Calls.Constant_str ⟨lit, _, rfl, by rw [e0]; omega, ?_⟩
  have fin : ∀ (w : Str) (s' : Shared), w.length <= 1000002 -> Inv X pins σ H s' -> (Str.empty ++ lit ++ w).length <= sizeLine /\ ∃ H', Inv X pins σ H' { s' with toks := s'.toks + 1 } /\ Q H' := λ w s' hw I' =>
    ⟨by rw [e0, la]; omega, H, I'.tok _, q⟩
  have hvar := pe_var (pos := p3) hN hv hd hcd
  rcases hc with rfl | rfl
  · refine wpAny_FormattedValue_plain (thn (hvar pins _ σ H (λ v H1 => v = .str z /\ H1 = H) (I.tok _) ⟨.str z, hz, rfl, rfl⟩) λ v s1 ⟨x1, H1, I1, rx, ex, eh⟩ => ?_)
    subst ex eh
    obtain ⟨tk, rfl⟩ := rx
    have f1 := fin z s1 (by omega) I1
    exact wpAny_formatField_str ⟨z, _, rfl, f1.1, f1.1, f1.2⟩ ⟨z, _, rfl, f1.1, f1.1, (fin z _ (by omega) (I1.tok _)).2⟩ (by omega)
  · refine wpAny_FormattedValue_repr (thn (hvar pins _ σ H (λ v H1 => v = .str z /\ H1 = H) (I.tok _) ⟨.str z, hz, rfl, rfl⟩) λ v s1 ⟨x1, H1, I1, rx, ex, eh⟩ => ?_)
    subst ex eh
    obtain ⟨tk, rfl⟩ := rx
    refine wpAny_pyReprObj_str ?_ (by omega)
    have f1 := fin (reprText z) { s1 with toks := s1.toks + 1 } (by omega) (I1.tok _)
    exact wpAny_formatField_str ⟨reprText z, _, rfl, f1.1, f1.1, f1.2⟩ ⟨reprText z, _, rfl, f1.1, f1.1, (fin (reprText z) _ (by omega) ((I1.tok _).tok _)).2⟩ (by omega)
end
end L2
namespace PySem.W
open PySem PySem.Spec PySem.Calls PyProof.Rows
open Builtin Builtin.ObjectAttr Builtin.Getset_descriptor
noncomputable def XAt (x D : Addr) (h : Heap) : Prop := ∃ ox, h.get? x = some ox /\ ox.cls = .ref D
theorem XAt.type {M : Model} {h : Heap} {x D : Addr} (I : XAt x D h) : Looks M h (typeOf (.ref x)) (.ref D) := by
  obtain ⟨ox, h1, h2⟩ := I
  exact h2 ▸ (Looks.ld h1).andThen .now
structure XCls (K : Frag) (D : Addr) : Prop where
  ga : findIn K (.ref D) "__getattribute__" = some (some (.builtin "BaseException.__getattribute__"))
  gt : findIn K (.ref D) "__getattr__" = some none
  fc : findIn K (.ref D) "__class__" = some (some (.builtin "object.__class__"))
  sg : specialIn K (.builtin "object.__class__") "__get__" = some (some (.builtin "getset_descriptor.__get__"))
  tk : takesIn K (.builtin "object.__class__") = some true
  mo : mroIn K D (.type "object") = some true
  mb : mroIn K D (.type "BaseException") = some true
  cl : (clsIn K D).isSome = true
section
variable {prog : Program} {w : World} {A : Around} {E : Value -> Shared -> Prop} {s : Shared} {K : Frag} {x D : Addr} {R : Result -> Shared -> Prop}
theorem xclass_get {tp : Value} (X : K.In s.heap) (I : XAt x D s.heap) (hm : mroIn K D (.type "object") = some true)
    (h : R (.ok (.ret (.ref D))) s) : codeAny (model prog w) A (.call (.builtin "getset_descriptor.__get__") ⟨[.builtin "object.__class__", .ref x, tp], []⟩) R s := by
  obtain ⟨hh, g, dr, t, os⟩ := s
  have L0 := I.type (M := model prog w)
  have L1 := looks_mroIn (M := model prog w) X hm
  refine codeAny_call_builtin KF.slot_gs.plain KF.entry_gs (KF.slot_gs.check _ _ _ _ _ _ _ _ KF.type_class (KF.args_gs _ _ _) ?_)
  unfold Builtin.«getset_descriptor.__get__» descrGet
  rw [dga_obj]
  refine wpAny_bind (wpAny_pure ?_)
  unfold descrGetter descrCheckInstance descrNameAndClass isInstance
  simp only [KF.owner_class]
  repeat lk
  refine ⟨Code.quiet_builtin _ (by decide +kernel), codeAny_builtin KF.entry_class ?_⟩
  unfold Builtin.«object.__class__» shownTypeOf
  repeat lk
  exact h
theorem looks_xfind {M : Model} {h : Heap} (X : K.In h) (c : XCls K D) : Looks M h (find (.ref x) (.ref D) "__class__") (.bind (.builtin "getset_descriptor.__get__") (.builtin "object.__class__")) := by
  have L1 := looks_findIn (M := M) X c.fc
  have L2 : Looks M h (getOf (some (.builtin "object.__class__"))) (some (.builtin "getset_descriptor.__get__")) := looks_specialIn X c.sg
  have L3 := looks_takesIn (M := M) X c.tk
  exact L1.andThen (L2.andThen ((show Looks M h (dataDescriptor? (some (.builtin "object.__class__")) (some (.builtin "getset_descriptor.__get__"))) (some (.builtin "getset_descriptor.__get__", .builtin "object.__class__")) from L3.andThen .now).andThen (Looks.tag .now)))
theorem exc_class {Q : Option Value -> Shared -> Prop} (X : K.In s.heap) (I : XAt x D s.heap) (c : XCls K D) (h : Q (some (.ref D)) { s with toks := s.toks + 1 }) : wpAny (model prog w) A (getAttr? (.ref x) "__class__") Q E s := by
  obtain ⟨hh, g, d, t, os⟩ := s
  have L0 := I.type (M := model prog w)
  have L1 := looks_findIn (M := model prog w) X c.ga
  have L2 := looks_xfind (M := model prog w) (x := x) X c
  have L3 := looks_findIn (M := model prog w) X c.gt
  have L4 := looks_mroIn (M := model prog w) X c.mb
  unfold getAttr? getAttrBy? getAttrBy
  refine wpAny_bind (wpAny_mkText (wpAny_bind (wpAny_attempt (wpAny_holding (wpAny_bind (L0.at (wpAny_bind (L1.at ?_))))))))
  dsimp only
  have n1 : (onTheHeap (Value.ref D) && Value.builtin "BaseException.__getattribute__" == Value.builtin "object.__getattribute__") = false := by
    rw [show (Value.builtin "BaseException.__getattribute__" == Value.builtin "object.__getattribute__") = false by decide +kernel, Bool.and_false]
  rw [if_neg (by rw [n1]; exact Bool.false_ne_true)]
  unfold getAttrByItsOwn hookBefore callGetattribute boundAndCalled
  have fb := PySem.F.attr_ValueError.ga.bind (.ref x)
  refine wpAny_bind (L3.at ?_)
  refine wpAny_bind (wpAny_attempt (wpAny_holding ?_))
  rw [if_neg (by decide)]
  rw [fb]
  refine wpAny_bind (wpAny_pure ?_)
  show wpAny _ _ (call (.builtin "BaseException.__getattribute__") [.ref x, .str (Str.ofString "__class__") t]) _ _ _
  refine wpAny_call (codeAny_call_builtin PySem.F.attr_ValueError.ga.plain PySem.F.entry_bexc_ga ?_)
  have hk : builtinKind "BaseException.__getattribute__" = some .slot := by decide +kernel
  have hsplit : splitId "BaseException.__getattribute__" = some ("BaseException", "__getattribute__") := by decide +kernel
  have ha := PySem.F.args_bexc_ga (.ref x) (.str (Str.ofString "__class__") t)
  simp only [checkBuiltinCall, hk, hsplit]
  refine wpAny_bind ?_
  refine L0.andThen L4 _ _ _ _ (λ o_ o_ z => z) ?_
  unfold argsOk at ha
  rw [if_neg (by decide)]
  refine wpAny_of_eq (a := ()) ha ?_
  unfold Builtin.«object.__getattribute__»
  refine wpAny_bind (wpAny_of_eq (a := (Value.ref x, [Value.str (Str.ofString "__class__") t])) rfl ?_)
  dsimp only
  refine wpAny_bind (wpAny_of_eq (a := Str.ofString "__class__") rfl ?_)
  refine wpAny_bind (L0.at (wpAny_bind (L2.at ?_)))
  dsimp only
  show wpAny _ _ (holding [Value.builtin "object.__class__"] (call (Value.builtin "getset_descriptor.__get__") [Value.builtin "object.__class__", .ref x, .ref D]) >>= ret) _ _ _
  refine wpAny_bind (wpAny_holding (wpAny_call (xclass_get X I c.mo ?_)))
  show wpAny _ _ (ret (Value.ref D)) _ _ _
  refine wpAny_pure ?_
  show wpAny _ _ (handedOut (Value.ref D)) _ _ _
  exact wpAny_of_eq (handedOut_of rfl) (wpAny_pure h)
set_option tactic.hygienic true in
theorem kitx_exc (c : XCls K D) : KitX K (.ref x) (.ref D) (XAt x D) where
  ty := λ o_ o_ o_ I => I.type
  it := λ o_ o_ X o_ => by
    have hcl := c.cl
    unfold clsIn at hcl
    split at hcl
    · rename_i c' d' cd' sl' ho
      intro A' Q' E' s' k q
      unfold isType loadHead
      exact wpAny_bind (wpAny_loadPart (k _ _ (X _ _ ho)) (wpAny_pure q))
    · cases hcl
  ne := λ h tp dd its n sl X htp => by
    have hcl := c.cl
    refine Bool.eq_false_iff.mpr λ q => ?_
    have e : D = tp := Value.ref.inj (beq_iff_eq.mp q)
    subst e
    unfold clsIn at hcl
    split at hcl
    · rename_i c' d' cd' sl' ho
      cases (X _ _ ho).symm.trans htp
    · cases hcl
  ca := λ X I k => exc_class X I c k
end
end PySem.W
namespace L2
open PySem PySem.Spec PyProof.Rows
section
variable {X : Cx} {pins : List (Addr × Obj)} {σ : St} {H : Hp} {s : Shared}
theorem Inv.relocal (I : Inv X pins σ H s) {h' : Heap} {m' : Str -> Option Value} (hn : h'.Ns X.env.locals m') (hs : Heap.SameBut X.env.locals s.heap h') (t' : Nat) : Inv X pins (List.replicate X.N.length none) H { s with heap := h', toks := t' } := by
  refine ⟨I.ok, I.os, I.bare, ⟨λ b o e n hb hx => ?_, λ b o e n hb hx => ?_, I.base.free, λ b o e hx => ?_, I.base.tups, I.base.frzs, I.base.tbls⟩, ⟨m', hn, λ j y v e1 e2 e3 => ?_⟩, λ y c e => ?_, I.free, I.freeC, λ p hp => ?_, λ b ob e => ?_, by simp⟩
  · exact (hs.2 b (Nat.ne_of_lt (Nat.lt_of_lt_of_le (Heap.lt_size e) I.ok.above))).trans (I.base.keep b o e n hb hx)
  · obtain ⟨sl, e1⟩ := I.base.slot b o e n hb hx
    exact ⟨sl, (hs.2 b (Nat.ne_of_lt (Nat.lt_of_lt_of_le (Heap.lt_size e) I.ok.above))).trans e1⟩
  · obtain ⟨o', e1⟩ := I.base.there b o e hx
    exact ⟨o', (hs.2 b (Nat.ne_of_lt (Nat.lt_of_lt_of_le (Heap.lt_size e) I.ok.above))).trans e1⟩
  · rw [List.getElem?_replicate] at e2
    split at e2 <;> cases e2
  · obtain ⟨v, hv⟩ := I.cell y c e
    obtain ⟨o, h1, h2⟩ := hv
    exact ⟨v, o, (hs.2 c (I.cne y c e)).trans h1, h2⟩
  · obtain ⟨q1, q2, q3, q4, q5⟩ := I.pin p hp
    exact ⟨(hs.2 p.1 q3).trans q1, q2, q3, q4, q5⟩
  · refine (I.hok b ob e).stay (λ c w' hc q => (hs.2 c ?_).trans q) (λ o_ q => q) λ o_ o_ q => q
    rintro rfl
    rcases hc with rfl | hc
    · rw [I.free] at e; cases e
    · rw [I.free] at hc; cases hc
theorem Inv.blank (I : Inv X pins σ H s) : Inv X pins (List.replicate X.N.length none) H s := by
  obtain ⟨m, hn, _⟩ := I.loc
  refine ⟨I.ok, I.os, I.bare, I.base, ⟨m, hn, λ j y v e1 e2 e3 => ?_⟩, I.cell, I.free, I.freeC, I.pin, I.hok, by simp⟩
  rw [List.getElem?_replicate] at e2
  split at e2 <;> cases e2
end
structure RoomM (k : Nat) (A : Around) : Prop where
  dp : A.depth + 3 * k + 5 < recursionLimit
  un : A.units + 16 * k + 200 < cLine
theorem Room.mark {k : Nat} {A : Around} (r : Room k A) (v : Option Value) : RoomM k (A.mark v) := ⟨r.dp, r.un⟩
noncomputable def cxM (P : Program) (w : World) (K : PySem.W.Frag) (mg : Str -> Option Value) (base : Heap) (N : List Str) (qual : Str) (scope : Scope) (f : Addr) (cd : Value) (A : Around) (outer : List Env) (s : Shared) (H : Hp) (pn : List (Addr × Obj)) : Cx :=
  { cxOf CX0 P w K mg base N qual scope f cd A outer s H E0 with calm := false, pn := pn, xe := λ o_ o_ => False }
section
variable {P : Program} {w : World} {K : PySem.W.Frag} {mg : Str -> Option Value} {base : Heap}
theorem inv_startM {N ps : List Str} {qual : Str} {scope : Scope} {f : Addr} {cd : Value} {A : Around} {outer : List Env} {s s1 : Shared} {H : Hp} {us : List Value} {vs : List V} {pn : List (Addr × Obj)}
    (S : FnScope N ps scope) (e0 : Env0 P w K mg base A outer s H) (hl : vs.length = ps.length) (r : Vals vs us) (hp : ∀ p ∈ pn, s.heap.get? p.1 = some p.2 /\ H p.1 = none /\ p.1 ∉ frs outer /\ ∀ v, p.2.data ≠ .cell v)
    (x : InCallC s s.heap.objs.size (bindL (envOfC qual scope s.heap.objs.size f cd).kindOf (ps.zip us) λ o_ => none) (cellsFrom (s.heap.objs.size + 1) scope.names []) (bindC (envOfC qual scope s.heap.objs.size f cd).kindOf (ps.zip us) λ o_ => none) s1) :
    Inv (cxM P w K mg base N qual scope f cd A outer s H pn) [] (start N vs) H s1 := by
  have e0' : Env0 P w K mg base { A with handled := none } outer s H := ⟨e0.frames, e0.mod, e0.bs, e0.bsz, e0.funs, e0.frf, e0.hok, e0.bare⟩
  have I := inv_start (CX := CX0) (E := E0) (A := { A with handled := none }) S rfl e0' hl r x
  obtain ⟨h1, tk, rfl, hk⟩ := x.done
  refine ⟨⟨I.ok.mod, I.ok.kind, I.ok.glob, I.ok.blt, I.ok.above, I.ok.inj, I.ok.has, I.ok.cab, (λ z => nomatch z), Around.frames_deeper e0.frames, I.ok.stk, I.ok.exf, I.ok.bs, I.ok.bsz, I.ok.noex, I.ok.exfs, I.ok.funs, I.ok.frf⟩,
    I.os, I.bare, I.base, I.loc, I.cell, I.free, I.freeC, λ p hq => ?_, I.hok, I.len⟩
  have hq : p ∈ pn := by
    rcases List.mem_append.mp hq with z | z
    · exact z
    · exact absurd z (by simp)
  obtain ⟨q1, q2, q3, q4⟩ := hp p hq
  exact ⟨hk _ _ q1, q2, λ z => absurd (Heap.lt_size q1) (by rw [z]; exact Nat.lt_irrefl _), q3, q4⟩
noncomputable def FnM (P : Program) (w : World) (K : PySem.W.Frag) (mg : Str -> Option Value) (base : Heap) (k : Nat) (f : Addr) (fd : FuncData) (p : Str) (C : Addr) (res : Str) : Prop :=
  ∀ (A : Around) (outer : List Env) (s : Shared) (H : Hp) (args : Args) (ea : Addr) (oe : Obj) (Q : VK), RoomM k A -> Env0 P w K mg base A outer s H -> BindsTo s fd args [(p, .ref ea)] -> s.heap.get? ea = some oe -> oe.cls = .ref C -> (∀ v, oe.data ≠ .cell v) -> H ea = none -> ea ∉ frs outer ->
    (∀ H', Same H H' -> Q (.str res) H') -> codeAny (model P w) A (.call (.ref f) args) (CR CX0 outer P w H s Q E0) s
theorem fn_M {x qual : Str} {st : Stmt} {f : Addr} {fd : FuncData} {N : List Str} {p : Str} {k : Nat} {C : Addr} {res : Str} (F : Fun K x qual st f fd) (S : FnScope N [p] (defScope st))
    (hbody : ∀ (cdv : Value) (A : Around) (outer : List Env) (s : Shared) (H : Hp) (ea : Addr) (oe : Obj), oe.cls = .ref C -> RoomM k (A.deeper (envOfC qual (defScope st) s.heap.objs.size f cdv)) ->
      ∃ t, PSs (cxM P w K mg base N qual (defScope st) f cdv A outer s H [(ea, oe)]) (defBody st) t /\ ∀ Q : VK, (∀ H', Same H H' -> Q (.str res) H') -> t { nx := λ o_ H' => Q .non H', rt := Q } (start N [.ref ea]) H) : FnM P w K mg base (k + 1) f fd p C res := by
  obtain ⟨oc, od, kV, doc, pm, an, cdv, ct, osl, rfl, lk, hcd⟩ := F.ex
  intro A outer s H args ea oe Q hr e0 hb hea hcl hcell hHe hfr hq
  have KX : K.In s.heap := e0.mod.kin.keeps λ b o e => (e0.bs b o e).1
  have lim : s.heap.NoLimit := e0.mod.nolimit.keeps λ b o e => (e0.bs b o e).1
  have hb : BindsTo s (PySem.W.fnOf x qual (defArgs st) (defBody st) (defScope st) .none kV doc pm an cdv ct) args ([p].zip [.ref ea]) := hb
  have hkind : ∀ y ∈ ([p].zip [Value.ref ea]), (defScope st).names.lookup y.1 = some .local \/ ((defScope st).names.lookup y.1 = some .cell /\ ((cellsFrom (s.heap.objs.size + 1) (defScope st).names []).lookup y.1).isSome = true) := λ ⟨n, v⟩ hy => by
    rcases S.par n (List.of_mem_zip hy).1 with q | q
    · exact .inl q
    · exact .inr ⟨q, PySem.W.cellsFrom_some _ _ _ (.inl q)⟩
  refine codeAny_call_function (by have := hr.dp; omega) (KX _ _ lk) rfl S.co S.gen rfl (PySem.W.codeRec_of KX hcd) (hb _ _ _ _ ?_)
  refine wpAny_newFunctionEnv_cells S.kind hkind λ env he s1 x => ?_
  subst he
  refine ⟨lim.keeps x.toInCall.keep, codeAny_func ?_⟩
  have hr' : RoomM k (A.deeper (envOfC qual (defScope st) s.heap.objs.size f cdv)) := ⟨by have := hr.dp; show A.depth + 1 + 3 * k + 5 < _; omega, by have := hr.un; show A.units + 3 + 16 * k + 200 < _; omega⟩
  obtain ⟨t, ht, hq'⟩ := hbody cdv A outer s H ea oe hcl hr'
  have I : Inv (cxM P w K mg base N qual (defScope st) f cdv A outer s H [(ea, oe)]) [] (start N [.ref ea]) H s1 := inv_startM S e0 rfl (.cons rfl .nil) (λ q hq => by
    rw [List.mem_singleton] at hq
    subst hq
    exact ⟨hea, hHe, hfr, hcell⟩) x
  refine wpAny_mono (ht [] s1 (start N [.ref ea]) H _ I (hq' Q hq)) (λ fl s' hs => ?_) λ e s' hs => hs.elim
  have fin : ∀ {σ' : St} {H' : Hp} {v : V} {u : Value}, Inv (cxM P w K mg base N qual (defScope st) f cdv A outer s H [(ea, oe)]) [] σ' H' s' -> RelV v u -> Q v H' -> CE outer P w H s Q u s' :=
    λ {σ' H' v u} J rv q => ⟨v, H', J.os, J.bare, J.base, J.hok, rv, q⟩
  cases fl with
  | ret u =>
    obtain ⟨v, σ', H', J, rv, q⟩ := hs
    exact fin J rv q
  | next =>
    obtain ⟨σ', H', J, q⟩ := hs
    exact fin (v := V.non) (u := Value.none) J rfl q
  | brk =>
    obtain ⟨_, _, _, q⟩ := hs
    exact False.elim q
  | cont =>
    obtain ⟨_, _, _, q⟩ := hs
    exact False.elim q
end
noncomputable abbrev Cx.tr (X : Cx) (pn : List (Addr × Obj)) (xe : Value -> Shared -> Prop) : Cx := { X with pn := pn, xe := xe }
noncomputable abbrev Cx.hd (X : Cx) (pn : List (Addr × Obj)) (ea : Addr) : Cx := { X with A := X.A.mark (some (.ref ea)), calm := false, pn := pn, xe := λ o_ o_ => False }
section
variable {X : Cx} {pins : List (Addr × Obj)} {σ : St} {H : Hp} {s : Shared}
theorem Cx.Ok.tr (ok : X.Ok) (pn : List (Addr × Obj)) (xe : Value -> Shared -> Prop) : (X.tr pn xe).Ok :=
  ⟨ok.mod, ok.kind, ok.glob, ok.blt, ok.above, ok.inj, ok.has, ok.cab, ok.hd, ok.frames, ok.stk, ok.exf, ok.bs, ok.bsz, ok.noex, ok.exfs, ok.funs, ok.frf⟩
theorem Cx.Ok.untr {pn : List (Addr × Obj)} {xe : Value -> Shared -> Prop} (ok : (X.tr pn xe).Ok) : X.Ok :=
  ⟨ok.mod, ok.kind, ok.glob, ok.blt, ok.above, ok.inj, ok.has, ok.cab, ok.hd, ok.frames, ok.stk, ok.exf, ok.bs, ok.bsz, ok.noex, ok.exfs, ok.funs, ok.frf⟩
theorem Inv.tr (I : Inv X pins σ H s) (xe : Value -> Shared -> Prop) : Inv (X.tr (X.pn ++ pins) xe) [] σ H s :=
  ⟨I.ok.tr _ _, I.os, I.bare, I.base, I.loc, I.cell, I.free, I.freeC, λ p hp => I.pin p (by rwa [List.append_nil] at hp), I.hok, I.len⟩
theorem Inv.untr {xe : Value -> Shared -> Prop} {pins' : List (Addr × Obj)} (I : Inv (X.tr (X.pn ++ pins) xe) pins' σ H s) : Inv X pins σ H s :=
  ⟨I.ok.untr, I.os, I.bare, I.base, I.loc, I.cell, I.free, I.freeC, λ p hp => I.pin p (List.mem_append_left _ hp), I.hok, I.len⟩
theorem Inv.hd (I : Inv X pins σ H s) {ea : Addr} {oe : Obj} (h1 : s.heap.get? ea = some oe) (h2 : H ea = none) (h3 : ea ≠ X.env.locals) (h4 : ea ∉ X.fs) (h5 : ∀ v, oe.data ≠ .cell v) : Inv (X.hd (X.pn ++ pins ++ [(ea, oe)]) ea) [] σ H s :=
  ⟨⟨I.ok.mod, I.ok.kind, I.ok.glob, I.ok.blt, I.ok.above, I.ok.inj, I.ok.has, I.ok.cab, (λ z => nomatch z), I.ok.frames, I.ok.stk, I.ok.exf, I.ok.bs, I.ok.bsz, I.ok.noex, I.ok.exfs, I.ok.funs, I.ok.frf⟩, I.os, I.bare, I.base, I.loc, I.cell, I.free, I.freeC, λ p hp => by
    rw [List.append_nil] at hp
    rcases List.mem_append.mp hp with z | z
    · exact I.pin p z
    · rw [List.mem_singleton] at z
      subst z
      exact ⟨h1, h2, h3, h4, h5⟩, I.hok, I.len⟩
theorem Inv.unhd {ea : Addr} {oe : Obj} (ok : X.Ok) (I : Inv (X.hd (X.pn ++ pins ++ [(ea, oe)]) ea) [] σ H s) : Inv X pins σ H s :=
  ⟨ok, I.os, I.bare, I.base, I.loc, I.cell, I.free, I.freeC, λ p hp => I.pin p (List.mem_append_left _ (List.mem_append_left _ hp)), I.hok, I.len⟩
end
noncomputable def PH (X : Cx) (n : Str) (suite : List Stmt) (C : Addr) (ts : VK -> Hp -> Prop) : Prop :=
  ∀ (i : Nat) (pn : List (Addr × Obj)) (ea : Addr) (oe : Obj) (s : Shared) (σ : St) (H : Hp) (Q : VK), X.N[i]? = some n -> oe.cls = .ref C -> (∀ v, oe.data ≠ .cell v) -> (ea, oe) ∈ pn -> Inv (X.hd pn ea) [] σ H s -> σ[i]? = some (some (.ref ea)) -> ts Q H ->
    wpAny (model X.prog X.w) (X.A.mark (some (.ref ea))) (execs suite X.env) (λ f s' => ∃ u x σ' H', f = Flow.ret u /\ Inv (X.hd pn ea) [] σ' H' s' /\ RelV x u /\ Q x H') (λ o_ o_ => False) s
noncomputable def EH (X : Cx) (FE : Addr) (n : Str) (suite : List Stmt) (Q : VK) : XK := λ Cv o_ H => ∃ C ts, Cv = .ref C /\ PySem.W.exmOne X.K (.ref C) (.ref FE) = some true /\ PH X n suite C ts /\ ts Q H
theorem ps_try {X : Cx} {body : List Stmt} {tb : XK -> TS} {FE : Addr} {tn n : Str} {i : Nat} {b₀ : Stmt} {suite : List Stmt} {np hpos pos : Pos} (hstk : X.stack = X.env :: X.outer) (hfr : X.env.frame = some X.env.locals) (hN : X.N.Nodup) (hi : X.N[i]? = some n) (hloc : X.env.scope.names.lookup n = some .local)
    (hg : Gl X tn) (hm : X.mg tn = some (.ref FE)) (hb : ∀ pn xe E', Passes (CXF X.prog X.w) (X.tr pn xe) E' -> PSs (X.tr pn xe) body (tb E')) (hdb : (tn == ("__debug__" : Str)) = false := by decide) :
    PS X (.Try body [.ExceptHandler (some (.Name tn np)) (some n) (b₀ :: suite) hpos] [] [] pos) (λ D σ H => tb (EH X FE n (b₀ :: suite) D.rt) D σ H) := by
  intro pins s σ H D I h
  have ok := I.ok
  refine wpAny_Try_except ?_
  let xe : Value -> Shared -> Prop := λ e s₁ => wpAny (model X.prog X.w) X.A (noteFrame e X.env) (λ o_ s₂ => wpAny (model X.prog X.w) X.A (setFlight e none) (λ o_ s₃ => wpAny (model X.prog X.w) X.A (handleBy e X.env [.ExceptHandler (some (.Name tn np)) (some n) (b₀ :: suite) hpos]) (SP X pins D) X.xe s₃) X.xe s₂) X.xe s₁
  have hpass : Passes (CXF X.prog X.w) (X.tr (X.pn ++ pins) xe) (EH X FE n (b₀ :: suite) D.rt) := by
    intro pins' σ' H1 s1 e s2 I1' hc
    obtain ⟨ea, C, a0, B, H2, rfl, F, C2, ts, hCv, hmat, hph, hts⟩ := hc
    have hCe : C = C2 := Value.ref.inj hCv
    subst hCe
    have I1 : Inv X pins σ' H1 s1 := I1'.untr
    have F : Fly X.prog X.w (X.env :: X.outer) H1 s1 s2 ea C a0 B H2 := hstk ▸ F
    have hf : ∀ b ∈ frs (X.env :: X.outer), H1 b = none /\ ∃ o, s1.heap.get? b = some o := λ b hb => by
      rw [<- hstk] at hb
      obtain ⟨_, o, ho, _⟩ := I1.stack.mem hb
      exact ⟨I1.stkFree b hb, o, ho⟩
    have hfrm : X.A.frames = some (X.env :: X.outer) := hstk ▸ ok.frames
    refine wpAny_looks_onW hfrm hfr F.fly λ h4 held4 k4 => wpAny_landsW held4 λ h5 fly5 k5 => ?_
    have F5 := F.step hf fly5 (k4.trans k5)
    -- where the exception lies
    have exAt : ∀ {s' : Shared}, Fly X.prog X.w (X.env :: X.outer) H1 s1 s' ea C a0 B H2 -> ∃ oe, s'.heap.get? ea = some oe /\ oe.cls = .ref C /\ (∀ v, oe.data ≠ .cell v) /\ H2 ea = none /\ ea ≠ X.env.locals /\ ea ∉ X.fs := λ {s'} F' => by
      obtain ⟨oe, vs, T, oT, ts', he, hc, hd, _⟩ := F'.fly.2.2.2
      have hnf : ea ∉ frs (X.env :: X.outer) := λ z => by
        obtain ⟨_, o', e', hd'⟩ := F'.fly.2.2.1.mem z
        rw [he] at e'
        cases e'
        exact hd' _ hd
      refine ⟨oe, he, hc.1, (λ v q => by rw [hd] at q; cases q), ?_, λ z => hnf ?_, λ z => hnf ?_⟩
      · cases q : H2 ea with
        | none => rfl
        | some u =>
          obtain ⟨o, ho⟩ := F'.old ea hnf (.inr ⟨u, q⟩)
          rw [F'.fly.2.1] at ho
          cases ho
      · rw [frs_cons hfr, z]; exact List.mem_cons_self
      · rw [frs_cons hfr]; exact List.mem_cons_of_mem _ z
    have invAt : ∀ {s' : Shared}, Fly X.prog X.w (X.env :: X.outer) H1 s1 s' ea C a0 B H2 -> Inv X pins σ' H2 s' := λ {s'} F' => I1.call' (ch := []) F'.os (hstk ▸ F'.un) F'.hok F'.bare (λ b z => absurd z (by simp))
    obtain ⟨oe5, g1, g2, g3, g4, g5, g6⟩ := exAt F5
    have I5h := (invAt F5).hd g1 g4 g5 g6 g3
    refine wpAny_handleBy_cons (codeAny_handlers_test ?_) (by intro q; cases q)
    have LT : PySem.W.Looks (model X.prog X.w) h5 (typeOf (.ref ea)) (.ref C) := PySem.W.XAt.type ⟨oe5, g1, g2⟩
    refine ld_glob (X := X.hd (X.pn ++ pins ++ [(ea, oe5)]) ea) I5h hg hm ?_ hdb
    refine (PySem.W.exm_one (invAt F5).kIn LT hmat).at ?_
    show codeAny _ _ _ _ _
    refine codeAny_handlers_suite_as ?_
    refine lands_againW F5.fly λ h6 fly6 k6 => ?_
    have F6 := F5.step hf fly6 k6
    obtain ⟨oe, e1, e2, e3, e4, e5, e6⟩ := exAt F6
    have I6 := invAt F6
    have I6h := I6.blank.hd e1 e4 e5 e6 e3
    refine store_ok (X := X.hd (X.pn ++ pins ++ [(ea, oe)]) ea) (v := .ref ea) I6h hN hi (.inl hloc) rfl (λ s7 I7 => ?_) (.inr hloc)
    refine wpAny_mono (hph i _ ea oe s7 _ H2 D.rt hi e2 e3 (List.mem_append_right _ (List.mem_singleton.mpr rfl)) I7 ?_ hts) (λ f s8 hf8 => ?_) λ o_ o_ z => z.elim
    · rw [List.getElem?_set_self]
      rw [List.length_replicate]
      exact (List.getElem?_eq_some_iff.mp hi).1
    · obtain ⟨u, x, σ8, H8, rfl, I8, rx, q8⟩ := hf8
      have I8' : Inv X pins σ8 H8 s8 := I8.unhd ok
      obtain ⟨m8, hn8, _⟩ := I8'.loc
      refine wpAny_nameGoes hloc hn8 (by rw [ok.kind]; rfl) λ h9 m9 hn9 hs9 => ?_
      exact ⟨x, _, H8, I8'.relocal hn9 hs9 _, rx, q8⟩
  refine wpAny_mono (hb (X.pn ++ pins) xe _ hpass [] s σ H D (I.tr xe) h) (λ f s1 hs => ?_) λ e s1 hs => hs
  cases f with
  | next =>
    obtain ⟨σ', H', J, q⟩ := hs
    exact wpAny_execs_nil ⟨σ', H', J.untr, q⟩
  | ret u =>
    obtain ⟨x, σ', H', J, r, q⟩ := hs
    exact ⟨x, σ', H', J.untr, r, q⟩
  | brk =>
    obtain ⟨σ', H', J, q⟩ := hs
    exact ⟨σ', H', J.untr, q⟩
  | cont =>
    obtain ⟨σ', H', J, q⟩ := hs
    exact ⟨σ', H', J.untr, q⟩
end L2
namespace L2
open PySem PySem.Spec PyProof.Rows PySem.MeetsSeq
section
variable {X : Cx} {o e : Expr} {apos cpos pos p1 p2 p3 : Pos} {to te : TE}
theorem pe_isexc {i : Nat} {n T : Str} {ea D : Addr} {oe : Obj} {c : Value} {b : Bool} (hpn : (ea, oe) ∈ X.pn) (hcl : oe.cls = .ref D) (hx : PySem.W.XCls X.K D) (hk : PySem.W.kitOne X.K (.ref D) c = some b) (hg : Gl X "isinstance") (hm : X.mg "isinstance" = none)
    (hgT : Gl X T) (hT : X.mg T = some c \/ (X.mg T = none /\ bootBuiltins T = some c)) (hN : X.N[i]? = some n) (hv : Vis X.env.scope n) (hd : (n == ("__debug__" : Str)) = false := by decide) (hcd : (n == ("__classdict__" : Str)) = false := by decide) (hdT : (T == ("__debug__" : Str)) = false := by decide) (hnT : T ≠ "__name__" := by decide)
    (he : starEach [.Name n p2, .Name T p3] X.env = [(false, eval (.Name n p2) X.env), (false, eval (.Name T p3) X.env)] := by rfl) :
    PE X (.Call (.Name "isinstance" p1) [.Name n p2, .Name T p3] [] pos) λ σ H Q => σ[i]? = some (some (.ref ea)) /\ Q (.bl b) H := by
  intro pins s σ H Q I h
  refine wpAny_Call_Name_kw (ld_blt (u := .builtin "isinstance") I hg hm (by decide +kernel) ?_ (by decide) (by decide))
  rw [he]
  refine Calls.callWith_builtin rfl (Calls.evalArgs_plain (Calls.spliced_cons (thn (pe_var (pos := p2) hN hv hd hcd pins s σ H (λ v H1 => v = .ref ea /\ H1 = H) I ⟨.ref ea, h.1, rfl, rfl⟩) λ u s1 ⟨x, H1, I1, rx, ex, eh⟩ => ?_)))
  subst ex eh
  obtain rfl : u = Value.ref ea := rx
  have fin : ∀ s2, Inv X pins σ H1 s2 -> wpAny (model X.prog X.w) X.A (call (.builtin "isinstance") [.ref ea, c]) (EP X pins σ Q) X.xe s2 := λ s2 I2 => by
    have hp := (I2.pin (ea, oe) (List.mem_append_left _ hpn)).1
    exact PySem.W.kia_one (PySem.W.kitx_exc hx) I2.kIn ⟨oe, hp, hcl⟩ hk (λ z => nomatch z) λ tk => ⟨.bl b, H1, I2.tok tk, rfl, h.2⟩
  rcases hT with hT | ⟨hT, hb⟩
  · exact Calls.spliced_cons (ld_glob I1 hgT hT (Calls.spliced_nil (fin _ I1)) hdT)
  · exact Calls.spliced_cons (ld_blt I1 hgT hT hb (Calls.spliced_nil (fin _ I1)) hnT hdT)
noncomputable def tCountT (to : TE) : TE := λ σ H Q => to σ H λ x H1 => ∃ (a : Addr) (bs : List Bool), x = .ref a /\ H1 a = some (.lst (bs.map V.bl)) /\ Q (.int ((bs.count true : Nat) : Int)) H1
noncomputable def tIndexT (to : TE) : TE := λ σ H Q => to σ H λ x H1 => ∃ (a : Addr) (bs : List Bool) (j : Nat), x = .ref a /\ H1 a = some (.lst (bs.map V.bl)) /\ bs.idxOf true = j /\ j < bs.length /\ j < 1000 /\ Q (.int (j : Int)) H1
theorem vals_bls : ∀ {bs : List Bool} {us : List Value}, Vals (bs.map V.bl) us -> us = bs.map Value.bool
  | [], _, .nil => rfl
  | b :: bs, _, .cons r t => by rw [vals_bls t, show _ = Value.bool b from r]; rfl
theorem eqGives_bool (a b : Bool) : EqGives (.bool a) (.bool b) (a == b) := λ prog w A E s Q h => SeqAt.EqAt.bool_bool a b prog w E Q h
theorem bool_beq (b : Bool) : (Value.bool b == Value.bool true) = b := by cases b <;> decide +kernel
theorem pe_countT {j} (ho : PE X o to) (m : M1 X o "count" apos (.Constant (.bool true) j p1) cpos) : PE X (.Call (.Attribute o "count" apos) [.Constant (.bool true) j p1] [] cpos) (tCountT to) := by
  intro pins s σ H Q I h
  refine wpAny_Call_method m.base m.few m.line PySem.F.plainAttrs_list PySem.F.slot_list_count PySem.F.type_list_count (thn (ho pins s σ H _ I h) λ u s1 ⟨x, H1, I1, rx, a, bs, ex, ha, q1⟩ => ?_)
  subst ex
  obtain rfl : u = Value.ref a := rx
  obtain ⟨z, its, n, rv, hl, hg⟩ := I1.lstM ha
  refine ⟨⟨_, hg, rfl⟩, (λ b q => by cases q; exact ⟨_, hg, rfl⟩), ?_⟩
  rw [m.trees]
  refine Calls.callWith_builtin rfl (Calls.evalArgs_plain (Calls.spliced_cons (Constant_bool (Calls.spliced_nil ?_))))
  have e := vals_bls rv
  subst e
  refine call_meets PySem.F.slot_list_count ⟨_, hg, rfl⟩ PySem.F.entry_list_count (PySem.F.args_list_count_2 _ _) (list_count a _ n (.bool true) (λ y => y == .bool true) (λ y hy => ?_)) ⟨hg, ?_⟩
  · have hy : y ∈ bs.map Value.bool := by simpa using hy
    obtain ⟨b, _, rfl⟩ := List.mem_map.mp hy
    have := eqGives_bool b true
    rw [bool_beq]
    cases b <;> exact this
  · refine ⟨.int _, H1, I1.tok _, ⟨_, rfl⟩, ?_⟩
    have e : (List.countP (λ y => y == Value.bool true) (bs.map Value.bool).toArray.toList) = bs.count true := by
      rw [List.toList_toArray, List.countP_map, List.count]
      refine List.countP_congr λ b o_ => ?_
      show (Value.bool b == Value.bool true) = true ↔ (b == true) = true
      rw [bool_beq]
      cases b <;> decide
    rw [e]
    exact q1
theorem pe_indexT {j} (ho : PE X o to) (m : M1 X o "index" apos (.Constant (.bool true) j p1) cpos) : PE X (.Call (.Attribute o "index" apos) [.Constant (.bool true) j p1] [] cpos) (tIndexT to) := by
  intro pins s σ H Q I h
  refine wpAny_Call_method m.base m.few m.line PySem.F.plainAttrs_list PySem.F.slot_list_index PySem.F.type_list_index (thn (ho pins s σ H _ I h) λ u s1 ⟨x, H1, I1, rx, a, bs, j, ex, ha, hj, hjl, hjs, q1⟩ => ?_)
  subst ex
  obtain rfl : u = Value.ref a := rx
  obtain ⟨z, its, n, rv, hl, hg⟩ := I1.lstM ha
  refine ⟨⟨_, hg, rfl⟩, (λ b q => by cases q; exact ⟨_, hg, rfl⟩), ?_⟩
  rw [m.trees]
  refine Calls.callWith_builtin rfl (Calls.evalArgs_plain (Calls.spliced_cons (Constant_bool (Calls.spliced_nil ?_))))
  have e := vals_bls rv
  subst e
  have hsz : (bs.map Value.bool).toArray.size = bs.length := by simp
  have hget : ∀ k (hk : k < (bs.map Value.bool).toArray.size), ((bs.map Value.bool).toArray[k] == Value.bool true) = bs[k]'(by rw [<- hsz]; exact hk) := λ k hk => by
    have : (bs.map Value.bool).toArray[k] = Value.bool (bs[k]'(by rw [<- hsz]; exact hk)) := by simp
    rw [this, bool_beq]
  refine call_meets PySem.F.slot_list_index ⟨_, hg, rfl⟩ PySem.F.entry_list_index (PySem.F.args_list_index_2 _ _) (list_index a _ n (.bool true) (λ y => y == .bool true) (λ y hy => ?_) j (by rw [hsz]; exact hjl) (by omega) ?_ ?_) ⟨hg, ?_⟩
  · have hy : y ∈ bs.map Value.bool := by simpa using hy
    obtain ⟨b, _, rfl⟩ := List.mem_map.mp hy
    have := eqGives_bool b true
    rw [bool_beq]
    cases b <;> exact this
  · rw [hget]
    subst hj
    have := List.getElem_idxOf hjl
    simpa using this
  · intro k hk hkj
    rw [hget]
    subst hj
    have := List.not_of_lt_findIdx (p := (· == true)) (xs := bs) (i := k) hkj
    simpa using this
  · exact ⟨.int _, H1, I1.tok _, ⟨_, rfl⟩, q1⟩
end
end L2
namespace HT
open PySem PyProof.Rows
section
open PySem.SeqAt
open PySem.AutoSeq1 (wpAny_loadPart')
open PySem.MeetsSeq PySem.MeetsSeq2 PySem.MeetsSeq3
end
end HT
namespace HT
open PySem PyProof.Rows
section
variable {prog : Program} {w : World} {A : Around} {E : Value -> Shared -> Prop} {s : Shared}
end
section
open PySem.SeqAt
open PySem.AutoSeq1 (wpAny_loadPart')
open PySem.MeetsSeq PySem.MeetsSeq2 PySem.MeetsSeq3
inductive CmpsAt (A : Around) (s : Shared) : List Value -> List Value -> List (Bool × Bool) -> Prop
  | nil : CmpsAt A s [] [] []
  | cons {y x : Value} {ys xs : List Value} {e l : Bool} {ds : List (Bool × Bool)} (he : EqAt A s y x e) (hl : e = false -> ∀ (prog : Program) (w : World) (E : Value -> Shared -> Prop) (Q : Value -> Shared -> Prop), Q (.bool l) s -> wpAny (model prog w) A (richCompare .Lt y x) Q E s) (hr : CmpsAt A s ys xs ds) : CmpsAt A s (y :: ys) (x :: xs) ((e, l) :: ds)
end
section
variable {prog : Program} {w : World} {A : Around} {E : Value -> Shared -> Prop} {s : Shared}
end
end HT
namespace L2
open PySem PySem.Spec PyProof.Rows
section
variable {X : Cx}
end
end L2
namespace L2
open PySem PySem.Spec PyProof.Rows
structure CompOkK (X : Cx) (x : Str) (caps : Caps) (sc : Scope) : Prop where
  own : sc.names.lookup x = some .cell
  kind : sc.kind = .function
  one : (sc.names.filter λ p => p.2 == .cell) = [(x, .cell)]
  names : ∀ y ∈ sc.names, y.2 = .local -> sc.names.lookup y.1 = some .local
  free : ∀ y ∈ sc.names, y.2 = .free -> X.env.kindOf y.1 = some .cell \/ X.env.kindOf y.1 = some .free
  nd : (x :: caps.map (·.1)).Nodup
  cap : ∀ c ∈ caps, X.N[c.2]? = some c.1 /\ sc.names.lookup c.1 = some .free /\ (X.env.kindOf c.1 = some .cell \/ X.env.kindOf c.1 = some .free)
section
variable {X : Cx} {x : Str} {caps : Caps} {elt iter : Expr} {ifs : List Expr} {sc : Scope} {px pos : Pos} {wi : TI} {tt : CArg -> TT} {te : CArg -> TE}
end
end L2
namespace Dl
open PySem
noncomputable abbrev Ky := Sum Int Str
inductive D where
  | non | bl (b : Bool) | int (i : Int) | str (x : Str)
  | tup (xs : List D) | lst (xs : List D)
  | dct (ks : List Ky) (vs : List D)
  | obj (c : Nat) (f : Str) (d : D)
noncomputable abbrev DS := List (Option D)
inductive Rz (α : Type) where
  | ok (a : α) | er (c : Nat) (s : DS) | un
noncomputable def Rz.bind {α β : Type} : Rz α -> (α -> Rz β) -> Rz β
  | .ok a, f => f a
  | .er c s, _ => .er c s
  | .un, _ => .un
@[simp] theorem bind_ok {α β : Type} (a : α) (f : α -> Rz β) : (Rz.ok a).bind f = f a := rfl
@[simp] theorem bind_er {α β : Type} (c : Nat) (s : DS) (f : α -> Rz β) : (Rz.er c s).bind f = .er c s := rfl
@[simp] theorem bind_un {α β : Type} (f : α -> Rz β) : (Rz.un : Rz α).bind f = .un := rfl
noncomputable def Rz.guard {α : Type} (c : Prop) [Decidable c] (r : Rz α) : Rz α := if c then r else .un
@[simp] theorem guard_pos {α : Type} {c : Prop} [Decidable c] {r : Rz α} (h : c) : Rz.guard c r = r := if_pos h
mutual
noncomputable def D.imm : D -> Bool
  | .tup xs => immL xs
  | .lst _ => false
  | .dct _ _ => false
  | .obj _ _ _ => false
  | .non => true
  | .bl _ => true
  | .int _ => true
  | .str _ => true
noncomputable def immL : List D -> Bool
  | [] => true
  | x :: r => x.imm && immL r
end
theorem immL_all : ∀ l : List D, immL l = l.all D.imm
  | [] => by rw [immL]; rfl
  | x :: r => by rw [immL, List.all_cons, immL_all r]
noncomputable def kyD : Ky -> D
  | .inl i => .int i
  | .inr x => .str x
noncomputable def keyD : D -> Option Ky
  | .int i => some (.inl i)
  | .str x => some (.inr x)
  | _ => none
noncomputable def dAdd : D -> D -> Rz D
  | .int i, .int j => .ok (.int (i + j))
  | .str x, .str y => .guard (x.length + y.length <= sizeLine) (.ok (.str (x ++ y)))
  | .lst xs, .lst ys => .guard (xs.length + ys.length <= sizeLine) (.ok (.lst (xs ++ ys)))
  | .tup xs, .tup ys => .guard (xs ≠ [] /\ xs.length + ys.length <= sizeLine) (.ok (.tup (xs ++ ys)))
  | _, _ => .un
noncomputable def dSub : D -> D -> Rz D
  | .int i, .int j => .ok (.int (i - j))
  | _, _ => .un
noncomputable def dMul : D -> D -> Rz D
  | .int i, .int j => .guard ((-(2 ^ 64) < i /\ i < 2 ^ 64) \/ (-(2 ^ 64) < j /\ j < 2 ^ 64)) (.ok (.int (i * j)))
  | _, _ => .un
noncomputable def dDiv : D -> D -> Rz D
  | .int i, .int j => .guard (0 < j /\ j < 1073741824) (.ok (.int (i / j)))
  | _, _ => .un
noncomputable def dMod : D -> D -> Rz D
  | .int i, .int j => .guard (0 < j) (.ok (.int (i % j)))
  | _, _ => .un
noncomputable def dLt : D -> D -> Rz D
  | .int i, .int j => .ok (.bl (decide (i < j)))
  | _, _ => .un
noncomputable def dLe : D -> D -> Rz D
  | .int i, .int j => .ok (.bl (decide (i <= j)))
  | .str x, .str y => .ok (.bl (!decide (y.cps.toList < x.cps.toList)))
  | _, _ => .un
noncomputable def dGt : D -> D -> Rz D
  | .int i, .int j => .ok (.bl (decide (j < i)))
  | _, _ => .un
noncomputable def dGe : D -> D -> Rz D
  | .int i, .int j => .ok (.bl (decide (j <= i)))
  | .str x, .str y => .ok (.bl (!decide (x.cps.toList < y.cps.toList)))
  | _, _ => .un
noncomputable def ixD (n : Nat) (i : Int) : Option Nat := if 0 <= i then (if i < n then some i.toNat else none) else if -(n : Int) <= i then some (i + n).toNat else none
noncomputable def atD {α : Type} (xs : List α) (i : Int) : Option α := (ixD xs.length i).bind λ j => xs[j]?
noncomputable def sIxD (n d : Nat) : Option Int -> Nat
  | none => d
  | some v => if v < 0 then (v + (n : Int)).toNat else min v.toNat n
noncomputable def cutD {α : Type} (xs : List α) (lo hi : Option Int) : List α := (xs.drop (sIxD xs.length 0 lo)).take (sIxD xs.length xs.length hi - sIxD xs.length 0 lo)
noncomputable def valD {α : Type} (k : Ky) : List Ky -> List α -> Option α
  | x :: ks, d :: ds => if x = k then some d else valD k ks ds
  | _, _ => none
noncomputable def setK {α : Type} (k : Ky) (v : α) : List Ky -> List α -> List α
  | x :: ks, d :: ds => (if x = k then v else d) :: setK k v ks ds
  | _, ds => ds
noncomputable def putD (ks : List Ky) (ds : List D) (k : Ky) (v : D) : D :=
  if (ks.any λ x => decide (x = k)) = true then .dct ks (setK k v ks ds) else .dct (ks ++ [k]) (ds ++ [v])
noncomputable def optR {α : Type} : Option α -> Rz α
  | some a => .ok a
  | none => .un
@[simp] theorem optR_some {α : Type} (a : α) : optR (some a) = .ok a := rfl
noncomputable def dIx : D -> D -> Rz D
  | .lst xs, .int i => optR (atD xs i)
  | .tup xs, .int i => optR (atD xs i)
  | .str z, .int i => .guard (z.length <= sizeLine) ((optR (atD z.cps.toList i)).bind λ c => .ok (.str ⟨#[c]⟩))
  | .dct ks vs, .int i => optR (valD (.inl i) ks vs)
  | .dct ks vs, .str x => optR (valD (.inr x) ks vs)
  | _, _ => .un
noncomputable def dLen : D -> Rz D
  | .lst xs => .ok (.int xs.length)
  | .tup xs => .ok (.int xs.length)
  | .str z => .guard (z.length <= sizeLine) (.ok (.int z.length))
  | .dct ks _ => .ok (.int ks.length)
  | _ => .un
noncomputable def dTru : D -> Rz Bool
  | .non => .ok false
  | .bl b => .ok b
  | .int i => .ok (i != 0)
  | .str y => .guard (y.length <= sizeLine) (.ok ((y.length : Int) != 0))
  | .lst xs => .ok (!xs.isEmpty)
  | .tup xs => .ok (!xs.isEmpty)
  | .dct ks _ => .ok (!ks.isEmpty)
  | _ => .un
noncomputable def flatD : D -> Bool
  | .non => true
  | .bl _ => true
  | .int _ => true
  | .str _ => true
  | _ => false
mutual
noncomputable def eqD : D -> D -> Bool
  | .non, .non => true
  | .bl a, .bl b => a == b
  | .bl a, .int j => (if a then 1 else 0) == j
  | .int i, .bl b => i == (if b then 1 else 0)
  | .int a, .int b => a == b
  | .str a, .str b => a == b
  | .tup xs, .tup ys => eqDs xs ys
  | .lst xs, .lst ys => eqDs xs ys
  | _, _ => false
noncomputable def eqDs : List D -> List D -> Bool
  | [], [] => true
  | x :: xs, y :: ys => eqD x y && eqDs xs ys
  | _, _ => false
end
mutual

noncomputable def okS : D -> Bool
  | .str x => x.cps.all (· < 0x110000)
  | .tup xs => okSs xs
  | .lst xs => okSs xs
  | .dct _ _ => false
  | .obj _ _ _ => false
  | .non => true
  | .bl _ => true
  | .int _ => true
noncomputable def okSs : List D -> Bool
  | [] => true
  | x :: xs => okS x && okSs xs
end
mutual
noncomputable def depD : D -> Nat
  | .tup xs => depDs xs + 1
  | .lst xs => depDs xs + 1
  | .dct _ _ => 0
  | .obj _ _ _ => 0
  | .non => 0
  | .bl _ => 0
  | .int _ => 0
  | .str _ => 0
noncomputable def depDs : List D -> Nat
  | [] => 0
  | x :: xs => max (depD x) (depDs xs)
end
noncomputable def scalD : D -> D -> Bool
  | .non, .non => true | .non, .int _ => true | .int _, .non => true | .non, .bl _ => true | .bl _, .non => true | .non, .str _ => true | .str _, .non => true
  | .int _, .int _ => true | .bl _, .bl _ => true | .str _, .str _ => true
  | .int _, .str _ => true | .str _, .int _ => true | .bl _, .str _ => true | .str _, .bl _ => true
  | _, _ => false
noncomputable def cmpOk (x y : D) : Bool := scalD x y || (okS x && okS y && decide (depD x <= 64) && decide (depD y <= 64))
noncomputable def dEq (x y : D) : Rz D := .guard (cmpOk x y = true) (.ok (.bl (eqD x y)))
noncomputable def dNe (x y : D) : Rz D := .guard (cmpOk x y = true) (.ok (.bl (!eqD x y)))
noncomputable def inD (x : D) : D -> Rz Bool
  | .lst ys => .guard ((flatD x && ys.all flatD) = true) (.ok (ys.any λ y => eqD y x))
  | .tup ys => .guard ((flatD x && ys.all flatD) = true) (.ok (ys.any λ y => eqD y x))
  | .dct ks _ => match keyD x with
    | some k => .ok (ks.any λ j => decide (j = k))
    | none => .un
  | _ => .un
noncomputable def dIn (x y : D) : Rz D := (inD x y).bind λ b => .ok (.bl b)
noncomputable def dNotIn (x y : D) : Rz D := (inD x y).bind λ b => .ok (.bl (!b))
noncomputable def blsD : List D -> Option (List Bool)
  | [] => some []
  | .bl b :: r => (blsD r).map (b :: ·)
  | _ :: _ => none
noncomputable def intsD : List D -> Option (List Int)
  | [] => some []
  | .int b :: r => (intsD r).map (b :: ·)
  | _ :: _ => none
noncomputable def one1 (f : D -> Rz D) : List D -> Rz D
  | [d] => f d
  | _ => .un
noncomputable def pAll : List D -> Rz D := one1 λ d => match d with
  | .lst xs => (optR (blsD xs)).bind λ bs => .ok (.bl (bs.all id))
  | _ => .un
noncomputable def pList : List D -> Rz D := one1 λ d => match d with
  | .lst xs => .ok (.lst xs)
  | .tup xs => .ok (.lst xs)
  | .dct ks _ => .ok (.lst (ks.map kyD))
  | _ => .un
noncomputable def pTuple : List D -> Rz D := one1 λ d => match d with
  | .lst xs => .ok (.tup xs)
  | .tup xs => .ok (.tup xs)
  | _ => .un
noncomputable abbrev GE := DS -> Rz D
noncomputable abbrev GT := DS -> Rz Bool
noncomputable abbrev GA := DS -> Rz (List D)
noncomputable def gVar (i : Nat) : GE := λ δ => match δ[i]? with
  | some (some d) => .ok d
  | _ => .un
noncomputable def gVarI (i : Nat) : GE := λ δ => match δ[i]? with
  | some (some d) => .guard (d.imm = true) (.ok d)
  | _ => .un
noncomputable def gC (d : D) : GE := λ o_ => .ok d
noncomputable def gOp (f : D -> D -> Rz D) (a b : GE) : GE := λ δ => (a δ).bind λ x => (b δ).bind λ y => f x y
noncomputable def gUn (f : D -> Rz D) (a : GE) : GE := λ δ => (a δ).bind f
noncomputable def gB (a : GE) : GT := λ δ => (a δ).bind λ x => match x with
  | .bl c => .ok c
  | _ => .un
noncomputable def gTru (a : GE) : GT := λ δ => (a δ).bind dTru
noncomputable def gtOr (a b : GT) : GT := λ δ => (a δ).bind λ c => if c = true then .ok true else b δ
noncomputable def gtNot (a : GT) : GT := λ δ => (a δ).bind λ c => .ok (!c)
noncomputable def gYes : GT := λ o_ => .ok true
noncomputable def gNil : GA := λ o_ => .ok []
noncomputable def gCons (a : GE) (b : GA) : GA := λ δ => (a δ).bind λ x => (b δ).bind λ xs => .ok (x :: xs)
noncomputable def gTup (a : GA) : GE := λ δ => (a δ).bind λ xs => .guard (xs.length <= sizeLine) (.ok (.tup xs))
noncomputable def gLst (a : GA) : GE := λ δ => (a δ).bind λ xs => .guard (xs.length <= sizeLine) (.ok (.lst xs))
noncomputable abbrev PF := List D -> Rz D
noncomputable def gCall (F : PF) (a : GA) : GE := λ δ => (a δ).bind F
noncomputable def gOI (a : GE) : DS -> Rz (Option Int) := λ δ => (a δ).bind λ x => match x with
  | .int i => .ok (some i)
  | _ => .un
noncomputable def gON : DS -> Rz (Option Int) := λ o_ => .ok none
noncomputable def dCut : D -> Option Int -> Option Int -> Rz D
  | .lst xs, lo, hi => .ok (.lst (cutD xs lo hi))
  | .str z, lo, hi => .guard (z.length <= sizeLine) (.ok (.str ⟨(cutD z.cps.toList lo hi).toArray⟩))
  | _, _, _ => .un
noncomputable def gSl (a : GE) (lo hi : DS -> Rz (Option Int)) : GE := λ δ => (a δ).bind λ x => (lo δ).bind λ l => (hi δ).bind λ h => dCut x l h
noncomputable abbrev GI := DS -> Rz (List D)
noncomputable def signsD (z : Str) : List D := z.cps.toList.map λ c => D.str ⟨#[c]⟩
noncomputable def gItS (a : GE) : GI := λ δ => (a δ).bind λ x => match x with
  | .lst xs => .ok xs
  | .tup xs => .ok xs
  | .str z => .guard (z.cps.all (· < 128) = true) (.ok (signsD z))
  | _ => .un
noncomputable def Rng (j : Int) : Prop := -(2 ^ 62) <= j /\ j < 2 ^ 62
noncomputable instance (j : Int) : Decidable (Rng j) := decidable_of_iff (j.toNat < 4611686018427387904 /\ (-j).toNat <= 4611686018427387904) (by unfold Rng; omega)
noncomputable def rangeD (lo : Int) (n : Nat) : List D := (List.range n).map λ k : Nat => D.int (lo + (k : Int))
noncomputable def gRng1 (a : GE) : GI := λ δ => (a δ).bind λ x => match x with
  | .int j => .guard (Rng j) (.ok (rangeD 0 j.toNat))
  | _ => .un
noncomputable def compL (cap : DS) (t : GT) (e : GE) : List D -> Rz (List D)
  | [] => .ok []
  | x :: xs => (t (some x :: cap)).bind λ b => if b = true then (e (some x :: cap)).bind λ y => (compL cap t e xs).bind λ ys => .ok (y :: ys) else compL cap t e xs
noncomputable def capD (caps : List Nat) (δ : DS) : DS := caps.map λ c => (δ[c]?).join
noncomputable def gComp (it : GI) (caps : List Nat) (t : GT) (e : GE) : GE := λ δ => (it δ).bind λ xs => (compL (capD caps δ) t e xs).bind λ ys => .guard (ys.length <= sizeLine) (.ok (.lst ys))
inductive Out where
  | nx (δ : DS) | rt (d : D) (δ : DS) | bk (δ : DS) | ct (δ : DS)
noncomputable abbrev GS := DS -> Rz Out
noncomputable def gNext : GS := λ δ => .ok (.nx δ)
noncomputable def gSeq (a b : GS) : GS := λ δ => (a δ).bind λ o => match o with
  | .nx δ' => b δ'
  | o => .ok o
noncomputable def gIfS (t : GT) (a b : GS) : GS := λ δ => (t δ).bind λ c => if c = true then a δ else b δ
noncomputable def gRet (a : GE) : GS := λ δ => (a δ).bind λ d => .ok (.rt d δ)
noncomputable def gDrop (a : GE) : GS := λ δ => (a δ).bind λ o_ => .ok (.nx δ)
noncomputable def gSet (i : Nat) (a : GE) : GS := λ δ => (a δ).bind λ d => .ok (.nx (δ.set i (some d)))
noncomputable def gNever : GS := λ o_ => .un
noncomputable def gApp (i : Nat) (a : GE) : GS := λ δ => (a δ).bind λ d => match δ[i]? with
  | some (some (.lst xs)) => .guard (xs.length < sizeLine) (.ok (.nx (δ.set i (some (.lst (xs ++ [d]))))))
  | _ => .un
noncomputable def dPut : D -> D -> D -> Rz D
  | .dct ks vs, k, v => match keyD k with
    | some k => .guard (ks.length < sizeLine) (.ok (putD ks vs k v))
    | none => .un
  | .lst xs, .int i, v => match ixD xs.length i with
    | some j => .ok (.lst (xs.set j v))
    | none => .un
  | _, _, _ => .un
noncomputable def gPut (i : Nat) (k a : GE) : GS := λ δ => (a δ).bind λ d => (k δ).bind λ k => match δ[i]? with
  | some (some x) => (dPut x k d).bind λ y => .ok (.nx (δ.set i (some y)))
  | _ => .un
noncomputable def forget : List Nat -> DS -> DS
  | [], δ => δ
  | i :: r, δ => forget r (δ.set i none)
noncomputable def loopF (i : Nat) (fg : List Nat) (body : GS) : List D -> DS -> Rz Out
  | [], δ => .ok (.nx δ)
  | x :: xs, δ => (body (δ.set i (some x))).bind λ o => match o with
    | .nx δ' => loopF i fg body xs (forget fg δ')
    | .ct δ' => loopF i fg body xs (forget fg δ')
    | .bk δ' => .ok (.nx (forget fg δ'))
    | .rt d δ' => .ok (.rt d δ')
noncomputable def gFor (it : GI) (i : Nat) (fg : List Nat) (body : GS) : GS := λ δ => (it δ).bind λ xs => loopF i fg body xs (forget fg δ)
noncomputable def startD (n : Nat) (ds : List D) : DS := ds.map some ++ List.replicate (n - ds.length) none
noncomputable def runB (n : Nat) (body : GS) : PF := λ ds => (body (startD n ds)).bind λ o => match o with
  | .nx _ => .ok .non
  | .rt d _ => .ok d
  | _ => .un
noncomputable def D.big : D -> Bool
  | .lst _ => true
  | .dct _ _ => true
  | .obj _ _ (.dct _ _) => true
  | _ => false
noncomputable def gSetO (i : Nat) (a : GE) : GS := λ δ => (a δ).bind λ d => .guard (d.big = true) (.ok (.nx (δ.set i (some d))))
noncomputable def dAddS : D -> D -> Rz D
  | .int i, .int j => .ok (.int (i + j))
  | .str x, .str y => .guard (x.length + y.length <= sizeLine) (.ok (.str (x ++ y)))
  | _, _ => .un
noncomputable def pLen : List D -> Rz D
  | [d] => dLen d
  | _ => .un
noncomputable def D.imI : D -> Bool
  | .lst xs => immL xs
  | .dct _ vs => immL vs
  | d => d.imm
noncomputable def gImI (g : GE) : GE := λ δ => (g δ).bind λ d => .guard (d.imI = true) (.ok d)
noncomputable def gIm (g : GE) : GE := λ δ => (g δ).bind λ d => .guard (d.imm = true) (.ok d)
noncomputable def dFld (c : Nat) (f : Str) : D -> Rz D
  | .obj c' f' d => .guard (c' = c /\ f' = f) (.ok d)
  | _ => .un
noncomputable def isObj (c : Nat) (m : Str) : D -> Bool
  | .obj c' f _ => decide (c' = c) && !decide (f = m)
  | _ => false
noncomputable def gMeth (c : Nat) (m : Str) (F : PF) (o : GE) (a : GA) : GE := λ δ => (o δ).bind λ x => (a δ).bind λ ds => .guard (isObj c m x = true) (F (x :: ds))
noncomputable def D.imO : D -> Bool
  | .lst xs => immL xs
  | .dct _ vs => immL vs
  | .obj _ _ (.dct _ vs) => immL vs
  | _ => false
noncomputable abbrev PFI := List D -> Rz (D × List D)
noncomputable abbrev GX := DS -> Rz (D × DS)
noncomputable def getS : List Nat -> DS -> Rz (List D)
  | [], _ => .ok []
  | i :: r, δ => match δ[i]? with
    | some (some d) => .guard (d.imO = true) ((getS r δ).bind λ ds => .ok (d :: ds))
    | _ => .un
noncomputable def setS : List Nat -> List D -> DS -> DS
  | i :: r, d :: ds, δ => setS r ds (δ.set i (some d))
  | _, _, δ => δ
noncomputable def gMethI (c : Nat) (m : Str) (F : PFI) (i : Nat) (a : GA) : GX := λ δ => (a δ).bind λ ds => (getS [i] δ).bind λ os => .guard ((os.all (isObj c m)) = true) ((F (os ++ ds)).bind λ r => .guard (r.2.length = [i].length) (.ok (r.1, setS [i] r.2 δ)))
noncomputable def gDropX (a : GX) : GS := λ δ => (a δ).bind λ r => .ok (.nx r.2)
noncomputable abbrev GTX := DS -> Rz (Bool × DS)
noncomputable def runI (n p : Nat) (body : GS) : PFI := λ ds => (body (startD n ds)).bind λ o => match o with
  | .nx δ => (getS (List.range p) δ).bind λ es => .ok (.non, es)
  | .rt d δ => (getS (List.range p) δ).bind λ es => .ok (d, es)
  | _ => .un
noncomputable def gPutF (i : Nat) (c : Nat) (f : Str) (k a : GE) : GS := λ δ => (a δ).bind λ d => (k δ).bind λ k => match δ[i]? with
  | some (some (.obj c' f' x)) => .guard (c' = c /\ f' = f) (match x with
    | .dct ks vs => (dPut (.dct ks vs) k d).bind λ y => .ok (.nx (δ.set i (some (.obj c' f' y))))
    | _ => .un)
  | _ => .un
noncomputable def setT : List Nat -> List D -> DS -> Option DS
  | [], [], δ => some δ
  | i :: r, d :: ds, δ => setT r ds (δ.set i (some d))
  | _, _, _ => none
noncomputable def gUnp (is : List Nat) (a : GE) : GS := λ δ => (a δ).bind λ d => match d with
  | .tup ds => (optR (setT is ds δ)).bind λ δ' => .ok (.nx δ')
  | _ => .un
noncomputable def gChain (f g : D -> D -> Rz D) (a b c : GE) : GE := λ δ => (a δ).bind λ x => (b δ).bind λ y => (f x y).bind λ z => match z with
  | .bl true => (c δ).bind λ w => g y w
  | .bl false => .ok (.bl false)
  | _ => .un
noncomputable def dInW (ws : List Str) : D -> Rz D
  | .str x => .ok (.bl (decide (x ∈ ws)))
  | _ => .un
noncomputable def txtsD : List D -> Option (List Str)
  | [] => some []
  | .str x :: r => (txtsD r).map (x :: ·)
  | _ :: _ => none
noncomputable abbrev HS := DS -> Option (Nat × DS)
noncomputable abbrev HE := DS -> Option Nat
noncomputable abbrev PX := List D -> Option Nat
noncomputable def hOr (a b : HS) : HS := λ δ => match a δ with
  | some x => some x
  | none => b δ
noncomputable def hIf (t : GT) (v : Bool) (h : HS) : HS := λ δ => match t δ with
  | .ok b => if b = v then h δ else none
  | _ => none
noncomputable def okMsgD (x : Str) : Prop := x.length <= 100000 /\ ∀ c ∈ x.cps.toList, c < 0x110000
noncomputable instance (x : Str) : Decidable (okMsgD x) := inferInstanceAs (Decidable (_ /\ _))
noncomputable def hRaiseN (c i : Nat) : HS := λ δ => match δ[i]? with
  | some (some (.str x)) => if okMsgD x then some (c, δ) else none
  | _ => none
noncomputable def hOf (h : HE) : HS := λ δ => (h δ).map λ c => (c, δ)
noncomputable def hCall (F : PX) (gs : GA) : HE := λ δ => match gs δ with
  | .ok ds => F ds
  | _ => none
noncomputable def hMeth (c : Nat) (m : Str) (F : PX) (ga : GE) (gs : GA) : HE := λ δ => match ga δ with
  | .ok d => match gs δ with
    | .ok ds => if isObj c m d = true then F (d :: ds) else none
    | _ => none
  | _ => none
noncomputable def runX (n : Nat) (h : HS) : PX := λ ds => (h (startD n ds)).map (·.1)
noncomputable def gTry (g : GS) (h : HS) (kd : Nat -> Option D) : GS := λ δ => match h δ with
  | some (c, δ') => match kd c with
    | some d => .ok (.rt d δ')
    | none => .un
  | none => g δ
noncomputable def rzO {α : Type} : Rz α -> Option α
  | .ok a => some a
  | _ => none
noncomputable def hLoop (i : Nat) (fg : List Nat) (body : GS) (hb : HS) : List D -> HS
  | [], _ => none
  | x :: xs, δ => match hb (δ.set i (some x)) with
    | some r => some r
    | none => match body (δ.set i (some x)) with
      | .ok (.nx δ') => hLoop i fg body hb xs (forget fg δ')
      | .ok (.ct δ') => hLoop i fg body hb xs (forget fg δ')
      | _ => none
noncomputable def hFor (it : GI) (i : Nat) (fg : List Nat) (body : GS) (hb : HS) : HS := λ δ => (rzO (it δ)).bind λ xs => hLoop i fg body hb xs (forget fg δ)
noncomputable def kindW : List Str := ["name", "twice", "full", "kind", "large", "plain", "note"]
noncomputable def kdW (cs : List Nat) : Nat -> Option D := λ c => if c ∈ cs then some (.str ((kindW[c]?).getD "")) else none
end Dl
namespace Dl
open PySem L2
mutual
noncomputable def At (K : PySem.W.Frag) (cl : Nat -> Addr) (H : Hp) (S : Addr -> Prop) : V -> D -> Prop
  | v, .non => v = .non
  | v, .bl b => v = .bl b
  | v, .int i => v = .int i
  | v, .str x => v = .str x
  | v, .tup ds => ∃ a vs, v = .ref a /\ H a = some (.tup vs) /\ Ats K cl H S vs ds
  | v, .lst ds => ∃ a vs, v = .ref a /\ S a /\ Rd H a (.lst vs) /\ Ats K cl H S vs ds
  | v, .dct ks ds => ∃ a vs, v = .ref a /\ S a /\ H a = some (.dK (ks.zip vs)) /\ ks.length = ds.length /\ Ats K cl H S vs ds
  | v, .obj c f d => ∃ a dx u, v = .ref a /\ S a /\ H a = some (.ins (cl c) dx [(f, u)]) /\ At K cl H S u d
noncomputable def Ats (K : PySem.W.Frag) (cl : Nat -> Addr) (H : Hp) (S : Addr -> Prop) : List V -> List D -> Prop
  | [], [] => True
  | v :: vs, d :: ds => At K cl H S v d /\ Ats K cl H S vs ds
  | [], _ :: _ => False
  | _ :: _, [] => False
end
section
variable {K : PySem.W.Frag} {cl : Nat -> Addr} {H H' : Hp} {S S' : Addr -> Prop}
noncomputable def TupK (H H' : Hp) : Prop := ∀ a xs, H a = some (.tup xs) -> H' a = some (.tup xs)
theorem TupK.of (s : Same H H') : TupK H H' := λ a xs h => s _ _ h
theorem TupK.trans {H'' : Hp} (a : TupK H H') (b : TupK H' H'') : TupK H H'' := λ c xs h => b c xs (a c xs h)
theorem TupK.refl : TupK H H := λ o_ o_ h => h
theorem _root_.L2.Same.rd {a : Addr} {u : HO} (s : Same H H') (h : Rd H a u) : Rd H' a u := by
  rcases h with h | ⟨o, h⟩
  · exact .inl (s _ _ h)
  · exact .inr ⟨o, s _ _ h⟩
theorem _root_.L2.Rd.ex {a : Addr} {u : HO} (h : Rd H a u) : H a ≠ none := by
  rcases h with h | ⟨o, h⟩ <;> rw [h] <;> exact λ z => by cases z
mutual
theorem At.mono (ht : TupK H H') (h : ∀ a o, S a -> H a = some o -> H' a = some o) (hs : ∀ a, S a -> H a ≠ none -> S' a) : ∀ {v : V} {d : D}, At K cl H S v d -> At K cl H' S' v d
  | v, .non, z => by rw [At] at z ⊢; exact z
  | v, .bl _, z => by rw [At] at z ⊢; exact z
  | v, .int _, z => by rw [At] at z ⊢; exact z
  | v, .str _, z => by rw [At] at z ⊢; exact z
  | v, .tup ds, z => by
    rw [At] at z ⊢
    obtain ⟨a, vs, e, q, r⟩ := z
    exact ⟨a, vs, e, ht _ _ q, Ats.mono ht h hs r⟩
  | v, .lst ds, z => by
    rw [At] at z ⊢
    obtain ⟨a, vs, e, s, q, r⟩ := z
    refine ⟨a, vs, e, hs a s q.ex, ?_, Ats.mono ht h hs r⟩
    rcases q with q | ⟨o, q⟩
    · exact .inl (h _ _ s q)
    · exact .inr ⟨o, h _ _ s q⟩
  | v, .dct ks ds, z => by
    rw [At] at z ⊢
    obtain ⟨a, vs, e, s, q, l, r⟩ := z
    exact ⟨a, vs, e, hs a s (by rw [q]; exact λ z => by cases z), h _ _ s q, l, Ats.mono ht h hs r⟩
  | v, .obj c f d, z => by
    rw [At] at z ⊢
    obtain ⟨a, dx, u, e, s, q, r⟩ := z
    exact ⟨a, dx, u, e, hs a s (by rw [q]; exact λ z => by cases z), h _ _ s q, At.mono ht h hs r⟩
theorem Ats.mono (ht : TupK H H') (h : ∀ a o, S a -> H a = some o -> H' a = some o) (hs : ∀ a, S a -> H a ≠ none -> S' a) : ∀ {vs : List V} {ds : List D}, Ats K cl H S vs ds -> Ats K cl H' S' vs ds
  | [], [], _ => by rw [Ats]; exact trivial
  | v :: vs, d :: ds, z => by
    rw [Ats] at z ⊢
    exact ⟨At.mono ht h hs z.1, Ats.mono ht h hs z.2⟩
  | [], _ :: _, z => by rw [Ats] at z; exact z.elim
  | _ :: _, [], z => by rw [Ats] at z; exact z.elim
end
theorem At.same {v : V} {d : D} (z : At K cl H S v d) (s : Same H H') : At K cl H' S v d := z.mono (TupK.of s) (λ a o o_ e => s a o e) λ o_ h o_ => h
theorem Ats.same {vs : List V} {ds : List D} (z : Ats K cl H S vs ds) (s : Same H H') : Ats K cl H' S vs ds := z.mono (TupK.of s) (λ a o o_ e => s a o e) λ o_ h o_ => h
theorem At.sub {v : V} {d : D} (z : At K cl H S v d) (s : ∀ a, S a -> H a ≠ none -> S' a) : At K cl H S' v d := z.mono TupK.refl (λ a o o_ e => e) s
theorem Ats.sub {vs : List V} {ds : List D} (z : Ats K cl H S vs ds) (s : ∀ a, S a -> H a ≠ none -> S' a) : Ats K cl H S' vs ds := z.mono TupK.refl (λ a o o_ e => e) s
mutual
theorem At.imm (ht : TupK H H') : ∀ {v : V} {d : D}, d.imm = true -> At K cl H S v d -> At K cl H' S' v d
  | v, .non, _, z => by rw [At] at z ⊢; exact z
  | v, .bl _, _, z => by rw [At] at z ⊢; exact z
  | v, .int _, _, z => by rw [At] at z ⊢; exact z
  | v, .str _, _, z => by rw [At] at z ⊢; exact z
  | v, .tup ds, i, z => by
    rw [At] at z ⊢
    obtain ⟨a, vs, e, q, r⟩ := z
    rw [D.imm] at i
    exact ⟨a, vs, e, ht _ _ q, Ats.imm ht i r⟩
  | v, .lst ds, i, z => by rw [D.imm] at i; cases i
  | v, .dct ks ds, i, z => by rw [D.imm] at i; cases i
  | v, .obj c f d, i, z => by rw [D.imm] at i; cases i
theorem Ats.imm (ht : TupK H H') : ∀ {vs : List V} {ds : List D}, immL ds = true -> Ats K cl H S vs ds -> Ats K cl H' S' vs ds
  | [], [], _, _ => by rw [Ats]; exact trivial
  | v :: vs, d :: ds, i, z => by
    rw [Ats] at z ⊢
    rw [immL, Bool.and_eq_true] at i
    exact ⟨At.imm ht i.1 z.1, Ats.imm ht i.2 z.2⟩
  | [], _ :: _, _, z => by rw [Ats] at z; exact z.elim
  | _ :: _, [], _, z => by rw [Ats] at z; exact z.elim
end
theorem Ats.nil : Ats K cl H S [] [] := by rw [Ats]; exact trivial
theorem Ats.cons {v : V} {d : D} {vs : List V} {ds : List D} (a : At K cl H S v d) (b : Ats K cl H S vs ds) : Ats K cl H S (v :: vs) (d :: ds) := by rw [Ats]; exact ⟨a, b⟩
theorem Ats.append : ∀ {vs us : List V} {ds es : List D}, Ats K cl H S vs ds -> Ats K cl H S us es -> Ats K cl H S (vs ++ us) (ds ++ es)
  | [], _, [], _, _, b => b
  | v :: vs, us, d :: ds, es, a, b => by
    rw [Ats] at a
    show Ats K cl H S (v :: (vs ++ us)) (d :: (ds ++ es))
    rw [Ats]
    exact ⟨a.1, Ats.append a.2 b⟩
  | [], _, _ :: _, _, z, _ => by rw [Ats] at z; exact z.elim
  | _ :: _, _, [], _, z, _ => by rw [Ats] at z; exact z.elim
theorem Ats.length : ∀ {vs : List V} {ds : List D}, Ats K cl H S vs ds -> vs.length = ds.length
  | [], [], _ => rfl
  | v :: vs, d :: ds, a => by
    rw [Ats] at a
    rw [List.length_cons, List.length_cons, Ats.length a.2]
  | [], _ :: _, z => by rw [Ats] at z; exact z.elim
  | _ :: _, [], z => by rw [Ats] at z; exact z.elim
theorem Ats.get : ∀ {vs : List V} {ds : List D} {i : Nat} {d : D}, Ats K cl H S vs ds -> ds[i]? = some d -> ∃ v, vs[i]? = some v /\ At K cl H S v d
  | [], [], i, d, _, e => by simp at e
  | v :: vs, x :: ds, 0, d, a, e => by
    rw [Ats] at a
    have e : x = d := Option.some.inj e
    subst e
    exact ⟨v, rfl, a.1⟩
  | v :: vs, x :: ds, i + 1, d, a, e => by
    rw [Ats] at a
    exact Ats.get (i := i) a.2 e
  | [], _ :: _, _, _, z, _ => by rw [Ats] at z; exact z.elim
  | _ :: _, [], _, _, z, _ => by rw [Ats] at z; exact z.elim
theorem Ats.get' {vs : List V} {ds : List D} {i : Nat} {v : V} (a : Ats K cl H S vs ds) (e : vs[i]? = some v) : ∃ d, ds[i]? = some d /\ At K cl H S v d := by
  have hl := a.length
  have hi : i < ds.length := by rw [<- hl]; exact (List.getElem?_eq_some_iff.mp e).1
  obtain ⟨u, eu, h⟩ := a.get (List.getElem?_eq_getElem hi)
  rw [e] at eu
  cases eu
  exact ⟨_, List.getElem?_eq_getElem hi, h⟩
theorem Ats.drop : ∀ (n : Nat) {vs : List V} {ds : List D}, Ats K cl H S vs ds -> Ats K cl H S (vs.drop n) (ds.drop n)
  | 0, _, _, a => a
  | n + 1, [], [], a => a
  | n + 1, v :: vs, d :: ds, a => by rw [Ats] at a; exact Ats.drop n a.2
  | _ + 1, [], _ :: _, z => by rw [Ats] at z; exact z.elim
  | _ + 1, _ :: _, [], z => by rw [Ats] at z; exact z.elim
theorem Ats.take : ∀ (n : Nat) {vs : List V} {ds : List D}, Ats K cl H S vs ds -> Ats K cl H S (vs.take n) (ds.take n)
  | 0, _, _, _ => Ats.nil
  | n + 1, [], [], a => a
  | n + 1, v :: vs, d :: ds, a => by
    rw [Ats] at a
    exact Ats.cons a.1 (Ats.take n a.2)
  | _ + 1, [], _ :: _, z => by rw [Ats] at z; exact z.elim
  | _ + 1, _ :: _, [], z => by rw [Ats] at z; exact z.elim
theorem Ats.set {v : V} {d : D} (h : At K cl H S v d) : ∀ (i : Nat) {vs : List V} {ds : List D}, Ats K cl H S vs ds -> Ats K cl H S (vs.set i v) (ds.set i d)
  | _, [], [], a => a
  | 0, v :: vs, e :: ds, a => by
    rw [Ats] at a
    exact Ats.cons h a.2
  | i + 1, u :: vs, e :: ds, a => by
    rw [Ats] at a
    exact Ats.cons a.1 (Ats.set h i a.2)
  | _, [], _ :: _, z => by rw [Ats] at z; exact z.elim
  | _, _ :: _, [], z => by rw [Ats] at z; exact z.elim
noncomputable def Own (K : PySem.W.Frag) (cl : Nat -> Addr) (H : Hp) (S : Addr -> Prop) (l : List Addr) (v : V) : D -> Prop
  | .lst ds => ∃ a vs, v = .ref a /\ l = [a] /\ H a = some (.lst vs) /\ Ats K cl H (λ b => S b /\ b ∉ l) vs ds
  | .dct ks ds => ∃ a vs, v = .ref a /\ l = [a] /\ H a = some (.dK (ks.zip vs)) /\ ks.length = ds.length /\ Ats K cl H (λ b => S b /\ b ∉ l) vs ds
  | .obj c f (.dct ks ds) => ∃ a dx b vs, v = .ref a /\ l = [a, b] /\ a ≠ b /\ H a = some (.ins (cl c) dx [(f, .ref b)]) /\ H b = some (.dK (ks.zip vs)) /\ ks.length = ds.length /\ Ats K cl H (λ b => S b /\ b ∉ l) vs ds
  | _ => False
theorem Own.at {l : List Addr} {v : V} : ∀ {d : D}, Own K cl H S l v d -> (∀ a, S a -> S' a) -> (∀ a ∈ l, S' a) -> At K cl H S' v d
  | .lst ds, ⟨a, vs, e, el, h, r⟩, s, sl => by
    rw [At]
    exact ⟨a, vs, e, sl a (by rw [el]; exact List.mem_cons_self), .inl h, r.sub λ b z o_ => s b z.1⟩
  | .dct ks ds, ⟨a, vs, e, el, h, k, r⟩, s, sl => by
    rw [At]
    exact ⟨a, vs, e, sl a (by rw [el]; exact List.mem_cons_self), h, k, r.sub λ b z o_ => s b z.1⟩
  | .obj c f (.dct ks ds), ⟨a, dx, b, vs, e, el, ne, h, hb, k, r⟩, s, sl => by
    rw [At]
    refine ⟨a, dx, _, e, sl a (by rw [el]; exact List.mem_cons_self), h, ?_⟩
    rw [At]
    exact ⟨b, vs, rfl, sl b (by rw [el]; simp), hb, k, r.sub λ b z o_ => s b z.1⟩
theorem Own.mono {l : List Addr} {v : V} (ht : TupK H H') (h : ∀ a o, S a -> H a = some o -> H' a = some o) (hl : ∀ a ∈ l, ∀ o, H a = some o -> H' a = some o) (hs : ∀ a, S a -> H a ≠ none -> S' a) : ∀ {d : D}, Own K cl H S l v d -> Own K cl H' S' l v d
  | .lst ds, ⟨a, vs, e, el, q, r⟩ => ⟨a, vs, e, el, hl a (by rw [el]; exact List.mem_cons_self) _ q, r.mono ht (λ b o z => h b o z.1) λ b z n => ⟨hs b z.1 n, z.2⟩⟩
  | .dct ks ds, ⟨a, vs, e, el, q, k, r⟩ => ⟨a, vs, e, el, hl a (by rw [el]; exact List.mem_cons_self) _ q, k, r.mono ht (λ b o z => h b o z.1) λ b z n => ⟨hs b z.1 n, z.2⟩⟩
  | .obj c f (.dct ks ds), ⟨a, dx, b, vs, e, el, ne, q, qb, k, r⟩ => ⟨a, dx, b, vs, e, el, ne, hl a (by rw [el]; exact List.mem_cons_self) _ q, hl b (by rw [el]; simp) _ qb, k, r.mono ht (λ b o z => h b o z.1) λ b z n => ⟨hs b z.1 n, z.2⟩⟩
theorem Own.ex {l : List Addr} {v : V} {a : Addr} (m : a ∈ l) : ∀ {d : D}, Own K cl H S l v d -> H a ≠ none
  | .lst ds, ⟨b, vs, e, el, q, r⟩ => by
    rw [el, List.mem_singleton] at m
    rw [m, q]
    exact λ z => by cases z
  | .dct ks ds, ⟨b, vs, e, el, q, k, r⟩ => by
    rw [el, List.mem_singleton] at m
    rw [m, q]
    exact λ z => by cases z
  | .obj c f (.dct ks ds), ⟨a', dx, b, vs, e, el, ne, q, qb, k, r⟩ => by
    rw [el] at m
    rcases List.mem_cons.mp m with m | m
    · rw [m, q]
      exact λ z => by cases z
    · rw [List.mem_singleton.mp m, qb]
      exact λ z => by cases z
end
end Dl
namespace Dl
open PySem L2
structure Dc where
  cl : Nat -> Addr
  H₀ : Hp
  X : Addr -> Prop
  io : List Nat
  iv : Nat -> V
  il : Nat -> List Addr
inductive Kd where
  | v | b | s | o | i | w
  deriving DecidableEq
noncomputable def Sk (C : Dc) (F : Addr -> Prop) : Kd -> Addr -> Prop
  | .v, _ => True
  | .i, _ => True
  | .b, a => ¬ F a
  | .s, a => C.H₀ a = none /\ ¬ F a
  | .o, a => C.H₀ a = none
  | .w, a => C.H₀ a = none
noncomputable def leK : Kd -> Kd -> Bool
  | _, .v => true
  | _, .i => true
  | .b, .b => true
  | .s, .b => true
  | .s, .s => true
  | .s, .o => true
  | .o, .o => true
  | .w, .o => true
  | _, _ => false
theorem leK_sub {C : Dc} {F : Addr -> Prop} {a : Addr} : ∀ {k m : Kd}, leK k m = true -> Sk C F k a -> Sk C F m a
  | _, .v, _, _ => trivial
  | _, .i, _, _ => trivial
  | .b, .b, _, h => h
  | .s, .b, _, h => h.2
  | .s, .s, _, h => h
  | .s, .o, _, h => h.1
  | .o, .o, _, h => h
  | .v, .b, h, _ => by cases h
  | .i, .b, h, _ => by cases h
  | .o, .b, h, _ => by cases h
  | .v, .s, h, _ => by cases h
  | .i, .s, h, _ => by cases h
  | .o, .s, h, _ => by cases h
  | .b, .s, h, _ => by cases h
  | .v, .o, h, _ => by cases h
  | .i, .o, h, _ => by cases h
  | .b, .o, h, _ => by cases h
  | .w, .o, _, h => h
  | .w, .b, h, _ => by cases h
  | .w, .s, h, _ => by cases h
  | .v, .w, h, _ => by cases h
  | .i, .w, h, _ => by cases h
  | .b, .w, h, _ => by cases h
  | .s, .w, h, _ => by cases h
  | .o, .w, h, _ => by cases h
  | .w, .w, h, _ => by cases h
structure Rx (K : PySem.W.Frag) (C : Dc) (κ : List Kd) (F : Addr -> Prop) (σ : St) (H : Hp) (δ : DS) : Prop where
  sl : ∀ (i : Nat) (d : D), δ[i]? = some (some d) -> ∃ v k, σ[i]? = some (some v) /\ κ[i]? = some k /\ At K C.cl H (Sk C F k) v d
  old : ∀ a, H a = none -> C.H₀ a = none
  ow : ∀ a, F a -> H a ≠ none
section
variable {K : PySem.W.Frag} {C : Dc} {κ : List Kd} {F : Addr -> Prop} {σ : St} {H H' : Hp} {δ : DS}
theorem Rx.same (r : Rx K C κ F σ H δ) (s : Same H H') : Rx K C κ F σ H' δ :=
  ⟨λ i d e => let ⟨v, k, h1, h2, h3⟩ := r.sl i d e; ⟨v, k, h1, h2, h3.same s⟩, λ a h => r.old a (s.free h), λ a f h => r.ow a f (s.free h)⟩
theorem Rx.new (r : Rx K C κ F σ H δ) (m : Kd) {a : Addr} (h : H a = none) : Sk C F m a := by
  cases m with
  | v => trivial
  | i => trivial
  | b => exact λ f => r.ow a f h
  | w => exact r.old a h
  | s => exact ⟨r.old a h, λ f => r.ow a f h⟩
  | o => exact r.old a h
end
noncomputable def Nw (K : PySem.W.Frag) (cl : Nat -> Addr) (H H' : Hp) (S : Addr -> Prop) (v : V) (d : D) : Prop := d.big = true -> ∃ l, Own K cl H' S l v d /\ ∀ a ∈ l, H a = none
theorem Nw.small {K : PySem.W.Frag} {cl : Nat -> Addr} {H H' : Hp} {S : Addr -> Prop} {v : V} {d : D} (h : d.big = false) : Nw K cl H H' S v d := λ z => by rw [h] at z; cases z
theorem Nw.back {K : PySem.W.Frag} {cl : Nat -> Addr} {H H1 H' : Hp} {S : Addr -> Prop} {v : V} {d : D} (n : Nw K cl H1 H' S v d) (s : Same H H1) : Nw K cl H H' S v d := λ z =>
  let ⟨l, o, h⟩ := n z
  ⟨l, o, λ a m => s.free (h a m)⟩
noncomputable def Post (K : PySem.W.Frag) (C : Dc) (F : Addr -> Prop) (m : Kd) (fr : Bool) (H : Hp) (Q : VK) : Rz D -> Prop
  | .ok d => ∀ v H', Same H H' -> At K C.cl H' (Sk C F m) v d -> (fr = true -> Nw K C.cl H H' (Sk C F m) v d) -> Q v H'
  | _ => False
noncomputable def DE (X : Cx) (C : Dc) (κ : List Kd) (m : Kd) (fr : Bool) (e : Expr) (g : GE) : Prop :=
  ∃ t, PE X e t /\ ∀ F σ H δ, Rx X.K C κ F σ H δ -> ∀ Q, Post X.K C F m fr H Q (g δ) -> t σ H Q
noncomputable def PostA (K : PySem.W.Frag) (C : Dc) (F : Addr -> Prop) (m : Kd) (H : Hp) (Q : List V -> Hp -> Prop) : Rz (List D) -> Prop
  | .ok ds => ∀ vs H', Same H H' -> Ats K C.cl H' (Sk C F m) vs ds -> Q vs H'
  | _ => False
noncomputable def DA (X : Cx) (C : Dc) (κ : List Kd) (m : Kd) (es : List Expr) (g : GA) : Prop :=
  ∃ t, PA X es t /\ ∀ F σ H δ, Rx X.K C κ F σ H δ -> ∀ Q, PostA X.K C F m H Q (g δ) -> t σ H Q
noncomputable def PostT (H : Hp) (Q : Bool -> Hp -> Prop) : Rz Bool -> Prop
  | .ok b => ∀ H', Same H H' -> Q b H'
  | _ => False
noncomputable def DT (X : Cx) (C : Dc) (κ : List Kd) (e : Expr) (g : GT) : Prop :=
  ∃ t, PT X e t /\ ∀ F σ H δ, Rx X.K C κ F σ H δ -> ∀ Q, PostT H Q (g δ) -> t σ H Q
noncomputable def DW (X : Cx) (C : Dc) (κ : List Kd) (e : Expr) (g : GT) : Prop :=
  ∃ t, PW X e t /\ ∀ F σ H δ, Rx X.K C κ F σ H δ -> ∀ Q, PostT H Q (g δ) -> t σ H Q
noncomputable def PostO (H : Hp) (Q : Option Int -> Hp -> Prop) : Rz (Option Int) -> Prop
  | .ok b => ∀ H', Same H H' -> Q b H'
  | _ => False
noncomputable def DO (X : Cx) (C : Dc) (κ : List Kd) (e : Option Expr) (g : DS -> Rz (Option Int)) : Prop :=
  ∃ t, PO X e t /\ ∀ F σ H δ, Rx X.K C κ F σ H δ -> ∀ Q, PostO H Q (g δ) -> t σ H Q
section
variable {X : Cx} {C : Dc} {κ : List Kd} {m : Kd} {fr fa fb fc : Bool} {a b c e : Expr} {es : List Expr} {ga gb gc : GE} {pos : Pos}
theorem post_bind {β : Type} {r : Rz D} {f : D -> Rz β} {T : Rz β -> Prop} (hu : ∀ c s, ¬ T (.er c s)) (hn : ¬ T .un) (h : T (r.bind f)) : ∃ d, r = .ok d /\ T (f d) := by
  cases r with
  | ok d => exact ⟨d, rfl, h⟩
  | er c s => exact absurd h (hu c s)
  | un => exact absurd h hn
theorem post_bindG {α β : Type} {r : Rz α} {f : α -> Rz β} {T : Rz β -> Prop} (hu : ∀ c s, ¬ T (.er c s)) (hn : ¬ T .un) (h : T (r.bind f)) : ∃ d, r = .ok d /\ T (f d) := by
  cases r with
  | ok d => exact ⟨d, rfl, h⟩
  | er c s => exact absurd h (hu c s)
  | un => exact absurd h hn
theorem post_guard {β : Type} {c : Prop} [Decidable c] {r : Rz β} {T : Rz β -> Prop} (hn : ¬ T .un) (h : T (Rz.guard c r)) : c /\ T r := by
  unfold Rz.guard at h
  by_cases z : c
  · rw [if_pos z] at h; exact ⟨z, h⟩
  · rw [if_neg z] at h; exact absurd h hn
theorem DE.nf (h : DE X C κ m fr e ga) : DE X C κ m false e ga := by
  obtain ⟨t, ht, hd⟩ := h
  refine ⟨t, ht, λ F σ H δ r Q p => hd F σ H δ r Q ?_⟩
  cases q : ga δ with
  | ok d => rw [q] at p; exact λ v H' s a o_ => p v H' s a (λ z => by cases z)
  | er c s => rw [q] at p; exact p
  | un => rw [q] at p; exact p
set_option tactic.hygienic true in
theorem de_var (i : Nat) {x : Str} {k : Kd} (hk : κ[i]? = some k) (hl : leK k m = true) (hN : X.N[i]? = some x := by rfl) (hv : Vis X.env.scope x := by first | exact Or.inl rfl | exact Or.inr (Or.inl rfl) | exact Or.inr (Or.inr rfl)) (hd : (x == ("__debug__" : Str)) = false := by decide)
    (hcd : (x == ("__classdict__" : Str)) = false := by decide) : DE X C κ m false (.Name x pos) (gVar i) := by
  refine ⟨_, pe_var hN hv hd hcd, λ F σ H δ r Q p => ?_⟩
  unfold gVar at p
  split at p
  · rename_i d q
    obtain ⟨v, k', h1, h2, h3⟩ := r.sl i d q
    rw [hk] at h2
    cases h2
    exact ⟨v, h1, p v H (Same.refl H) (h3.sub λ b z o_ => leK_sub hl z) (λ z => by cases z)⟩
  · exact p.elim
set_option tactic.hygienic true in
theorem de_varI (i : Nat) {x : Str} (hN : X.N[i]? = some x := by rfl) (hv : Vis X.env.scope x := by first | exact Or.inl rfl | exact Or.inr (Or.inl rfl) | exact Or.inr (Or.inr rfl)) (hd : (x == ("__debug__" : Str)) = false := by decide)
    (hcd : (x == ("__classdict__" : Str)) = false := by decide) : DE X C κ m false (.Name x pos) (gVarI i) := by
  refine ⟨_, pe_var hN hv hd hcd, λ F σ H δ r Q p => ?_⟩
  unfold gVarI at p
  split at p
  · rename_i d q
    obtain ⟨hi, p⟩ := post_guard (T := Post X.K C F m false H Q) (λ z => z) p
    obtain ⟨v, k', h1, h2, h3⟩ := r.sl i d q
    exact ⟨v, h1, p v H (Same.refl H) (h3.imm TupK.refl hi) (λ z => by cases z)⟩
  · exact p.elim
theorem de_int {i : Int} {j} : DE X C κ m true (.Constant (.int i) j pos) (gC (.int i)) := ⟨_, pe_int, λ F σ H δ r Q p => p _ H (Same.refl H) (by rw [At]) λ o_ => Nw.small rfl⟩
theorem de_bl {i : Bool} {j} : DE X C κ m true (.Constant (.bool i) j pos) (gC (.bl i)) := ⟨_, pe_bl, λ F σ H δ r Q p => p _ H (Same.refl H) (by rw [At]) λ o_ => Nw.small rfl⟩
theorem de_str {x : Str} {j} : DE X C κ m true (.Constant (.str x) j pos) (gC (.str x)) := ⟨_, pe_str, λ F σ H δ r Q p => p _ H (Same.refl H) (by rw [At]) λ o_ => Nw.small rfl⟩
noncomputable def PostS (K : PySem.W.Frag) (cl : Nat -> Addr) (S : Addr -> Prop) (H : Hp) (Q : VK) : Rz D -> Prop
  | .ok d => ∀ v H', Same H H' -> At K cl H' S v d -> Nw K cl H H' S v d -> Q v H'
  | _ => False
noncomputable def OpD (K : PySem.W.Frag) (cl : Nat -> Addr) (r : R2) (p : D -> D -> Rz D) : Prop :=
  ∀ (H : Hp) (S : Addr -> Prop) (x y : V) (dx dy : D) (Q : VK), (∀ a, H a = none -> S a) -> At K cl H S x dx -> At K cl H S y dy -> PostS K cl S H Q (p dx dy) -> r x y H Q
noncomputable def OpS (K : PySem.W.Frag) (cl : Nat -> Addr) (r : R2) (p : D -> D -> Rz D) : Prop :=
  ∀ (H : Hp) (S : Addr -> Prop) (x y : V) (dx dy : D) (Q : VK), At K cl H S x dx -> At K cl H S y dy -> (match p dx dy with | .ok d => d.imm = true /\ (∀ v H', Same H H' -> (∀ S', At K cl H' S' v d) -> Q v H') | _ => False) -> r x y H Q
noncomputable def CallD (K : PySem.W.Frag) (cl : Nat -> Addr) (r : List V -> Hp -> VK -> Prop) (p : List D -> Rz D) : Prop :=
  ∀ (H : Hp) (S : Addr -> Prop) (vs : List V) (ds : List D) (Q : VK), (∀ a, H a = none -> S a) -> Ats K cl H S vs ds -> PostS K cl S H Q (p ds) -> r vs H Q
theorem postS_of {F : Addr -> Prop} {H H1 : Hp} {Q : VK} {r : Rz D} (s : Same H H1) (p : Post X.K C F m fr H Q r) : PostS X.K C.cl (Sk C F m) H1 Q r := by
  cases r with
  | ok d => exact λ v H' s' a n => p v H' (s.trans s') a λ o_ => n.back s
  | er c s => exact p
  | un => exact p
theorem de_bin {op : Operator} {r : R2} {p : D -> D -> Rz D} (ho : OpR X (binaryOp op) r) (hp : OpD X.K C.cl r p) (ha : DE X C κ m fa a ga) (hb : DE X C κ m fb b gb) : DE X C κ m true (.BinOp a op b pos) (gOp p ga gb) := by
  obtain ⟨ta, pa, da⟩ := ha
  obtain ⟨tb, pb, db⟩ := hb
  refine ⟨_, pe_op ho pa pb, λ F σ H δ rx Q z => da F σ H δ rx _ ?_⟩
  obtain ⟨d1, e1, z⟩ := post_bind (T := Post X.K C F m true H Q) (λ o_ o_ q => q) (λ q => q) z
  obtain ⟨d2, e2, z⟩ := post_bind (T := Post X.K C F m true H Q) (λ o_ o_ q => q) (λ q => q) z
  rw [e1]
  intro v H1 s1 a1 _
  refine db F σ H1 δ (rx.same s1) _ ?_
  rw [e2]
  intro u H2 s2 a2 _
  exact hp H2 _ v u d1 d2 Q (λ a h => (rx.same (s1.trans s2)).new m h) (a1.same s2) a2 (postS_of (s1.trans s2) z)
theorem de_binS {op : Operator} {r : R2} {p : D -> D -> Rz D} (ho : OpR X (binaryOp op) r) (hp : OpS X.K C.cl r p) (hi : ∀ x y d, p x y = .ok d -> d.imm = true) (ha : DE X C κ .v fa a ga) (hb : DE X C κ .v fb b gb) : DE X C κ m true (.BinOp a op b pos) (gOp p ga gb) := by
  obtain ⟨ta, pa, da⟩ := ha
  obtain ⟨tb, pb, db⟩ := hb
  refine ⟨_, pe_op ho pa pb, λ F σ H δ rx Q z => da F σ H δ rx _ ?_⟩
  obtain ⟨d1, e1, z⟩ := post_bind (T := Post X.K C F m true H Q) (λ o_ o_ q => q) (λ q => q) z
  obtain ⟨d2, e2, z⟩ := post_bind (T := Post X.K C F m true H Q) (λ o_ o_ q => q) (λ q => q) z
  rw [e1]
  intro v H1 s1 a1 _
  refine db F σ H1 δ (rx.same s1) _ ?_
  rw [e2]
  intro u H2 s2 a2 _
  refine hp H2 _ v u d1 d2 Q (a1.same s2) a2 ?_
  cases q : p d1 d2 with
  | ok d =>
    rw [q] at z
    exact ⟨hi _ _ _ q, λ w H3 s3 aw => z w H3 ((s1.trans s2).trans s3) (aw _) λ o_ => Nw.small (by have := hi _ _ _ q; cases d <;> first | rfl | (rw [D.imm] at this; cases this))⟩
  | er c s => rw [q] at z; exact z
  | un => rw [q] at z; exact z
theorem de_cmp {op : CmpOp} {r : R2} {p : D -> D -> Rz D} (ho : OpR X (compareOp op) r) (hp : OpS X.K C.cl r p) (hi : ∀ x y d, p x y = .ok d -> d.imm = true) (ha : DE X C κ .v fa a ga) (hb : DE X C κ .v fb b gb) (hm : behindInMarks op b = false) : DE X C κ m true (.Compare a [op] [b] pos) (gOp p ga gb) := by
  obtain ⟨ta, pa, da⟩ := ha
  obtain ⟨tb, pb, db⟩ := hb
  refine ⟨_, pe_cmpR ho pa pb hm, λ F σ H δ rx Q z => da F σ H δ rx _ ?_⟩
  obtain ⟨d1, e1, z⟩ := post_bind (T := Post X.K C F m true H Q) (λ o_ o_ q => q) (λ q => q) z
  obtain ⟨d2, e2, z⟩ := post_bind (T := Post X.K C F m true H Q) (λ o_ o_ q => q) (λ q => q) z
  rw [e1]
  intro v H1 s1 a1 _
  refine db F σ H1 δ (rx.same s1) _ ?_
  rw [e2]
  intro u H2 s2 a2 _
  refine hp H2 _ v u d1 d2 Q (a1.same s2) a2 ?_
  cases q : p d1 d2 with
  | ok d =>
    rw [q] at z
    exact ⟨hi _ _ _ q, λ w H3 s3 aw => z w H3 ((s1.trans s2).trans s3) (aw _) λ o_ => Nw.small (by have := hi _ _ _ q; cases d <;> first | rfl | (rw [D.imm] at this; cases this))⟩
  | er c s => rw [q] at z; exact z
  | un => rw [q] at z; exact z
variable {tA tB : GT} {rest : List Expr}
theorem dt_cmp {op : CmpOp} {r : R2} {p : D -> D -> Rz D} (ho : OpR X (compareOp op) r) (hp : OpS X.K C.cl r p) (hi : ∀ x y d, p x y = .ok d -> d.imm = true) (ha : DE X C κ .v fa a ga) (hb : DE X C κ .v fb b gb) (hm : behindInMarks op b = false) : DT X C κ (.Compare a [op] [b] pos) (gB (gOp p ga gb)) := by
  obtain ⟨ta, pa, da⟩ := ha
  obtain ⟨tb, pb, db⟩ := hb
  refine ⟨_, pt_cmpR ho pa pb hm, λ F σ H δ rx Q z => da F σ H δ rx _ ?_⟩
  obtain ⟨d, e, z⟩ := post_bind (T := PostT H Q) (λ o_ o_ q => q) (λ q => q) z
  have e : (ga δ).bind (λ x => (gb δ).bind λ y => p x y) = .ok d := e
  obtain ⟨d1, e1, e⟩ := post_bind (T := λ r => r = Rz.ok d) (λ o_ o_ q => by cases q) (λ q => by cases q) e
  obtain ⟨d2, e2, e⟩ := post_bind (T := λ r => r = Rz.ok d) (λ o_ o_ q => by cases q) (λ q => by cases q) e
  rw [e1]
  intro v H1 s1 a1 _
  refine db F σ H1 δ (rx.same s1) _ ?_
  rw [e2]
  intro u H2 s2 a2 _
  refine hp H2 _ v u d1 d2 _ (a1.same s2) a2 ?_
  rw [e]
  refine ⟨hi _ _ _ e, λ w H3 s3 aw => ?_⟩
  cases d with
  | bl k => have q := aw (λ o_ => True); rw [At] at q; exact ⟨k, q, z H3 ((s1.trans s2).trans s3)⟩
  | _ => exact z.elim
theorem dt_tru (ha : DE X C κ .v fa a ga) (he : ∀ whole, isTrue a X.env whole = (do let v <- whole; standAt a.pos; holding [v] (truthy v)) := by intro _; rfl) : DT X C κ a (gTru ga) := by
  obtain ⟨ta, pa, da⟩ := ha
  refine ⟨_, pt_truth pa he, λ F σ H δ rx Q z => da F σ H δ rx _ ?_⟩
  obtain ⟨d1, e1, z⟩ := post_bind (T := PostT H Q) (λ o_ o_ q => q) (λ q => q) z
  rw [e1]
  intro v H1 s1 a1 _
  cases d1 with
  | non => rw [At] at a1; subst a1; exact ⟨_, rfl, z H1 s1⟩
  | bl k => rw [At] at a1; subst a1; exact ⟨_, rfl, z H1 s1⟩
  | int k => rw [At] at a1; subst a1; exact ⟨_, rfl, z H1 s1⟩
  | str k =>
    rw [At] at a1; subst a1
    obtain ⟨hz, z⟩ := post_guard (T := PostT H Q) (λ z => z) z
    exact ⟨_, ⟨hz, rfl⟩, z H1 s1⟩
  | lst ds =>
    rw [At] at a1
    obtain ⟨p, vs, rfl, _, q, w⟩ := a1
    refine ⟨_, .inl ⟨vs, .inl q, rfl⟩, ?_⟩
    have : (!vs.isEmpty) = (!ds.isEmpty) := by have := w.length; cases vs <;> cases ds <;> simp at this ⊢
    rw [this]; exact z H1 s1
  | tup ds =>
    rw [At] at a1
    obtain ⟨p, vs, rfl, q, w⟩ := a1
    refine ⟨_, .inr (.inl ⟨vs, SqT.of q, rfl⟩), ?_⟩
    have : (!vs.isEmpty) = (!ds.isEmpty) := by have := w.length; cases vs <;> cases ds <;> simp at this ⊢
    rw [this]; exact z H1 s1
  | dct ks ds =>
    rw [At] at a1
    obtain ⟨p, vs, rfl, _, q, l, w⟩ := a1
    refine ⟨_, .inr (.inr ⟨_, q, rfl⟩), ?_⟩
    have : (!(ks.zip vs).isEmpty) = (!ks.isEmpty) := by have := w.length; cases vs <;> cases ks <;> cases ds <;> simp at this l ⊢
    rw [this]; exact z H1 s1
  | obj _ _ _ => exact z.elim
theorem DW.dt (h : DW X C κ e tA) : DT X C κ e tA := let ⟨t, p, q⟩ := h; ⟨t, p.pt, q⟩
theorem dw_or1 (ha : DT X C κ a tA) : DW X C κ (.BoolOp .Or [a] pos) tA := let ⟨t, p, q⟩ := ha; ⟨t, pw_or1 p, q⟩
theorem dw_or (ha : DT X C κ a tA) (hb : DW X C κ (.BoolOp .Or (b :: rest) pos) tB) : DW X C κ (.BoolOp .Or (a :: b :: rest) pos) (gtOr tA tB) := by
  obtain ⟨ta, pa, da⟩ := ha
  obtain ⟨tb, pb, db⟩ := hb
  refine ⟨_, pw_or pa pb, λ F σ H δ rx Q z => da F σ H δ rx _ ?_⟩
  obtain ⟨k, e1, z⟩ := post_bindG (T := PostT H Q) (λ o_ o_ q => q) (λ q => q) z
  rw [e1]
  intro H1 s1
  cases k with
  | false =>
    refine iteF (db F σ H1 δ (rx.same s1) Q ?_)
    have z : PostT H Q (tB δ) := z
    cases q : tB δ with
    | ok d => rw [q] at z; exact λ H' s => z H' (s1.trans s)
    | er c s => rw [q] at z; exact z
    | un => rw [q] at z; exact z
  | true => exact iteT (z H1 s1)
theorem dt_not (ha : DT X C κ a tA) : DT X C κ (.UnaryOp .Not a pos) (gtNot tA) := by
  obtain ⟨ta, pa, da⟩ := ha
  refine ⟨_, pt_not pa, λ F σ H δ rx Q z => da F σ H δ rx _ ?_⟩
  obtain ⟨k, e1, z⟩ := post_bindG (T := PostT H Q) (λ o_ o_ q => q) (λ q => q) z
  rw [e1]
  exact λ H1 s1 => z H1 s1
theorem da_nil : DA X C κ m [] gNil := ⟨_, pa_nil, λ F σ H δ rx Q z => z [] H (Same.refl H) Ats.nil⟩
theorem da_cons {gs : GA} (ha : DE X C κ m fa e ga) (hb : DA X C κ m es gs) (hs : starEach (e :: es) X.env = (false, eval e X.env) :: starEach es X.env := by rfl) : DA X C κ m (e :: es) (gCons ga gs) := by
  obtain ⟨ta, pa, da⟩ := ha
  obtain ⟨tb, pb, db⟩ := hb
  refine ⟨_, pa_cons pa pb hs, λ F σ H δ rx Q z => da F σ H δ rx _ ?_⟩
  obtain ⟨d1, e1, z⟩ := post_bind (T := PostA X.K C F m H Q) (λ o_ o_ q => q) (λ q => q) z
  obtain ⟨d2, e2, z⟩ := post_bindG (T := PostA X.K C F m H Q) (λ o_ o_ q => q) (λ q => q) z
  rw [e1]
  intro v H1 s1 a1 _
  refine db F σ H1 δ (rx.same s1) _ ?_
  rw [e2]
  intro vs H2 s2 a2
  exact z (v :: vs) H2 (s1.trans s2) (Ats.cons (a1.same s2) a2)
theorem same_new' {H : Hp} {p : Addr} (h : H p = none) (o : HO) : Same H (upd H p o) := λ b u q => by rw [upd_ne (ne_of_none q h)]; exact q
theorem de_tup {gs : GA} {x1} (h : DA X C κ m es gs) : DE X C κ m true (.Tuple es x1 pos) (gTup gs) := by
  obtain ⟨ta, pa, da⟩ := h
  refine ⟨_, pe_tup pa, λ F σ H δ rx Q z => da F σ H δ rx _ ?_⟩
  obtain ⟨ds, e1, z⟩ := post_bindG (T := Post X.K C F m true H Q) (λ o_ o_ q => q) (λ q => q) z
  obtain ⟨hz, z⟩ := post_guard (T := Post X.K C F m true H Q) (λ z => z) z
  rw [e1]
  intro vs H1 s1 a1
  refine ⟨by rw [a1.length]; exact hz, λ p hp => z _ _ (s1.trans (same_new' hp _)) ?_ λ o_ => Nw.small rfl⟩
  rw [At]
  exact ⟨p, vs, rfl, upd_same, a1.same (same_new' hp _)⟩
theorem own_lst {K : PySem.W.Frag} {cl : Nat -> Addr} {H : Hp} {S : Addr -> Prop} {p : Addr} {vs : List V} {ds : List D} (hp : H p = none) (a : Ats K cl H S vs ds) (hs : S p) :
    At K cl (upd H p (.lst vs)) S (.ref p) (.lst ds) /\ Nw K cl H (upd H p (.lst vs)) S (.ref p) (.lst ds) := by
  have a2 : Ats K cl (upd H p (.lst vs)) (λ b => S b /\ b ∉ [p]) vs ds := a.mono (TupK.of (same_new' hp _)) (λ b o o_ e => same_new' hp _ b o e) λ b sb n => ⟨sb, λ m => n (by rw [List.mem_singleton.mp m]; exact hp)⟩
  refine ⟨?_, λ o_ => ⟨[p], ⟨p, vs, rfl, rfl, upd_same, a2⟩, λ b m => by rw [List.mem_singleton.mp m]; exact hp⟩⟩
  rw [At]
  exact ⟨p, vs, rfl, hs, .inl upd_same, a2.sub λ b z o_ => z.1⟩
theorem de_lst {gs : GA} (h : DA X C κ m es gs) : DE X C κ m true (.List es pos) (gLst gs) := by
  obtain ⟨ta, pa, da⟩ := h
  refine ⟨_, pe_lst pa, λ F σ H δ rx Q z => da F σ H δ rx _ ?_⟩
  obtain ⟨ds, e1, z⟩ := post_bindG (T := Post X.K C F m true H Q) (λ o_ o_ q => q) (λ q => q) z
  obtain ⟨hz, z⟩ := post_guard (T := Post X.K C F m true H Q) (λ z => z) z
  rw [e1]
  intro vs H1 s1 a1
  refine ⟨by rw [a1.length]; exact hz, λ p hp => ?_⟩
  obtain ⟨q1, q2⟩ := own_lst hp a1 ((rx.same s1).new m hp)
  exact z _ _ (s1.trans (same_new' hp _)) q1 λ o_ => q2.back s1
noncomputable def spD (K : PySem.W.Frag) (cl : Nat -> Addr) (n : Nat) (F : PF) : Sp := λ vs H Q o_ => ∃ ds d, ds.length = n /\ Ats K cl H (λ o_ => True) vs ds /\ F ds = .ok d /\
  ∀ v H', Same H H' -> At K cl H' (λ a => H a = none) v d -> Nw K cl H H' (λ a => H a = none) v d -> Q v H'
theorem spD_len {K : PySem.W.Frag} {cl : Nat -> Addr} {n : Nat} {F : PF} {vs : List V} {H : Hp} {Q : VK} {E : XK} (h : spD K cl n F vs H Q E) : vs.length = n := by
  obtain ⟨ds, d, l, a, _⟩ := h
  rw [a.length]; exact l
theorem de_calls {F : PF} {n : Nat} {gs : GA} {call : Expr} {t : TA} (pe : PE X call (tCall (spD X.K C.cl n F) [] E0 t)) (hlen : ∀ δ ds, gs δ = .ok ds -> ds.length = n)
    (da : ∀ F σ H δ, Rx X.K C κ F σ H δ -> ∀ Q, PostA X.K C F .v H Q (gs δ) -> t σ H Q) : DE X C κ m true call (gCall F gs) := by
  refine ⟨_, pe, λ Fo σ H δ rx Q z => da Fo σ H δ rx _ ?_⟩
  obtain ⟨ds, e1, z⟩ := post_bindG (T := Post X.K C Fo m true H Q) (λ o_ o_ q => q) (λ q => q) z
  rw [e1]
  intro vs H1 s1 a1
  rw [List.append_nil]
  cases q : F ds with
  | ok d =>
    rw [q] at z
    refine ⟨ds, d, hlen δ ds e1, a1.sub λ o_ o_ o_ => trivial, q, λ v H' s' a n => z v H' (s1.trans s') (a.sub λ b h o_ => (rx.same s1).new m h) λ o_ => ?_⟩
    intro hb
    obtain ⟨l, o, hn⟩ := n hb
    exact ⟨l, o.mono TupK.refl (λ o_ o_ o_ e => e) (λ o_ o_ o_ e => e) λ b h o_ => (rx.same s1).new m h, λ b mb => s1.free (hn b mb)⟩
  | er c s => rw [q] at z; exact z.elim
  | un => rw [q] at z; exact z.elim
end
end Dl
namespace Dl
open PySem L2
noncomputable def Fo (φ : Nat -> List Addr) (a : Addr) : Prop := ∃ i, a ∈ φ i
noncomputable def OwnW (H : Hp) (l : List Addr) (v : V) (d : D) : Prop := ∃ (a : Addr) (ks : List Ky) (bs : List Addr) (lss : List (List Str)), v = .ref a /\ l = a :: bs /\ (l.Nodup /\ ks.Nodup) /\ d = .dct ks (lss.map λ ls => .lst (ls.map D.str)) /\ ks.length = bs.length /\ lss.length = bs.length /\
  H a = some (.dK (ks.zip (bs.map V.ref))) /\ ∀ (i : Nat) (b : Addr) (ls : List Str), bs[i]? = some b -> lss[i]? = some ls -> H b = some (.lst (ls.map V.str))
theorem ats_txt {K : PySem.W.Frag} {cl : Nat -> Addr} {H : Hp} {S : Addr -> Prop} : ∀ ls : List Str, Ats K cl H S (ls.map V.str) (ls.map D.str)
  | [] => by rw [List.map_nil, List.map_nil, Ats]; trivial
  | x :: r => by rw [List.map_cons, List.map_cons, Ats, At]; exact ⟨rfl, ats_txt r⟩
theorem ats_lists {K : PySem.W.Frag} {cl : Nat -> Addr} {H : Hp} {S : Addr -> Prop} : ∀ {bs : List Addr} {lss : List (List Str)}, lss.length = bs.length -> (∀ b ∈ bs, S b) -> (∀ (i : Nat) (b : Addr) (ls : List Str), bs[i]? = some b -> lss[i]? = some ls -> H b = some (.lst (ls.map V.str))) -> Ats K cl H S (bs.map V.ref) (lss.map λ ls => .lst (ls.map D.str))
  | [], [], _, _, _ => by rw [List.map_nil, List.map_nil, Ats]; trivial
  | b :: bs, ls :: lss, hl, hs, h => by
    rw [List.map_cons, List.map_cons, Ats, At]
    exact ⟨⟨b, _, rfl, hs b (List.mem_cons_self ..), .inl (h 0 b ls rfl rfl), ats_txt ls⟩, ats_lists (by simpa using hl) (λ c m => hs c (List.mem_cons_of_mem _ m)) λ i c ms e1 e2 => h (i + 1) c ms e1 e2⟩
  | [], _ :: _, hl, _, _ => by simp at hl
  | _ :: _, [], hl, _, _ => by simp at hl
theorem OwnW.at {K : PySem.W.Frag} {cl : Nat -> Addr} {H : Hp} {S : Addr -> Prop} {l : List Addr} {v : V} {d : D} (o : OwnW H l v d) (hs : ∀ a ∈ l, S a) : At K cl H S v d := by
  obtain ⟨a, ks, bs, lss, rfl, rfl, _, rfl, h1, h2, h3, h4⟩ := o
  rw [At]
  exact ⟨a, _, rfl, hs a (List.mem_cons_self ..), h3, by rw [List.length_map, h1, h2], ats_lists h2 (λ b m => hs b (List.mem_cons_of_mem _ m)) h4⟩
theorem OwnW.mono {H H' : Hp} {l : List Addr} {v : V} {d : D} (o : OwnW H l v d) (hl : ∀ a ∈ l, ∀ o, H a = some o -> H' a = some o) : OwnW H' l v d := by
  obtain ⟨a, ks, bs, lss, e1, rfl, h0, e2, h1, h2, h3, h4⟩ := o
  exact ⟨a, ks, bs, lss, e1, rfl, h0, e2, h1, h2, hl a (List.mem_cons_self ..) _ h3, λ i b ls q1 q2 => hl b (List.mem_cons_of_mem _ (List.mem_of_getElem? q1)) _ (h4 i b ls q1 q2)⟩
noncomputable def SlOk (K : PySem.W.Frag) (C : Dc) (F : Addr -> Prop) (H : Hp) (l : List Addr) (v : V) (d : D) : Kd -> Prop
  | .o => Own K C.cl H (Sk C F .s) l v d /\ ∀ a ∈ l, C.H₀ a = none
  | .i => Own K C.cl H (Sk C F .s) l v d
  | .w => OwnW H l v d /\ ∀ a ∈ l, C.H₀ a = none
  | .v => At K C.cl H (λ a => a ∈ l) v d /\ ∀ a ∈ l, C.H₀ a = none
  | .b => At K C.cl H (Sk C F .b) v d
  | .s => At K C.cl H (Sk C F .s) v d
structure Rs (K : PySem.W.Frag) (C : Dc) (κ : List Kd) (φ : Nat -> List Addr) (σ : St) (H : Hp) (δ : DS) : Prop where
  sl : ∀ (i : Nat) (d : D), δ[i]? = some (some d) -> ∃ v k, σ[i]? = some (some v) /\ κ[i]? = some k /\ SlOk K C (Fo φ) H (φ i) v d k
  dj : ∀ i j a, a ∈ φ i -> a ∈ φ j -> i = j
  ow : ∀ a, Fo φ a -> H a ≠ none
  fi : ∀ a, Fo φ a -> C.H₀ a = none \/ C.X a
  fr : ∀ a o, C.H₀ a = some o -> ¬ C.X a -> H a = some o
  xo : ∀ a, C.X a -> H a ≠ none
  tk : TupK C.H₀ H
  ii : ∀ j : Nat, j ∈ C.io -> σ[j]? = some (some (C.iv j)) /\ φ j = C.il j
  len : σ.length = δ.length
structure Kp (F : Addr -> Prop) (H : Hp) (F' : Addr -> Prop) (H' : Hp) : Prop where
  st : ∀ a o, H a = some o -> ¬ F a -> H' a = some o
  tk : TupK H H'
  ow : ∀ a, F' a -> F a \/ H a = none
  ex : ∀ a, H a ≠ none -> H' a ≠ none
section
variable {K : PySem.W.Frag} {C : Dc} {κ κ' : List Kd} {φ φ' : Nat -> List Addr} {F F1 F2 : Addr -> Prop} {σ : St} {H H' H1 H2 : Hp} {δ : DS}
theorem Kp.refl : Kp F H F H := ⟨λ o_ o_ e o_ => e, TupK.refl, λ o_ h => .inl h, λ o_ h => h⟩
theorem Kp.trans (a : Kp F H F1 H1) (b : Kp F1 H1 F2 H2) : Kp F H F2 H2 :=
  ⟨λ x o e n => b.st x o (a.st x o e n) λ f => (a.ow x f).elim n (λ z => by rw [e] at z; cases z), a.tk.trans b.tk, λ x f => (b.ow x f).elim (a.ow x) λ z => .inr (by
    cases q : H x with
    | none => rfl
    | some o => exact absurd z (a.ex x (by rw [q]; exact λ z => by cases z))), λ x h => b.ex x (a.ex x h)⟩
theorem Kp.of (s : Same H H') (sub : ∀ a, F1 a -> F a \/ H a = none) : Kp F H F1 H' := ⟨λ a o e o_ => s a o e, TupK.of s, sub, λ a h z => h (s.free z)⟩
theorem Rs.old (r : Rs K C κ φ σ H δ) {a : Addr} (h : H a = none) : C.H₀ a = none := by
  cases q : C.H₀ a with
  | none => rfl
  | some o =>
    by_cases x : C.X a
    · exact absurd h (r.xo a x)
    · rw [r.fr a o q x] at h; cases h
theorem Rs.rx (r : Rs K C κ φ σ H δ) : Rx K C κ (Fo φ) σ H δ := by
  refine ⟨λ i d e => ?_, λ a h => r.old h, r.ow⟩
  obtain ⟨v, k, h1, h2, h3⟩ := r.sl i d e
  refine ⟨v, k, h1, h2, ?_⟩
  cases k with
  | o => exact h3.1.at (λ a z => z.1) h3.2
  | i => exact Own.at h3 (λ a z => trivial) λ a z => trivial
  | v => exact At.sub h3.1 λ a o_ o_ => trivial
  | w => exact h3.1.at h3.2
  | b => exact h3
  | s => exact h3
theorem SlOk.mono {l : List Addr} {v : V} {d : D} (kp : Kp F H F1 H') (hl : ∀ a ∈ l, ∀ o, H a = some o -> H' a = some o) : ∀ {k : Kd}, SlOk K C F H l v d k -> SlOk K C F1 H' l v d k := λ {k} h => by
  have m : ∀ a, (¬ F a) -> H a ≠ none -> ¬ F1 a := λ a n e f => (kp.ow a f).elim n e
  cases k with
  | o => exact ⟨h.1.mono kp.tk (λ a o z e => kp.st a o e z.2) hl λ a z e => ⟨z.1, m a z.2 e⟩, h.2⟩
  | i => exact Own.mono kp.tk (λ a o z e => kp.st a o e z.2) hl (λ a z e => ⟨z.1, m a z.2 e⟩) h
  | v => exact ⟨At.mono kp.tk (λ a o z e => hl a z o e) (λ a z o_ => z) h.1, h.2⟩
  | w => exact ⟨h.1.mono hl, h.2⟩
  | b => exact At.mono kp.tk (λ a o z e => kp.st a o e z) (λ a z e => m a z e) h
  | s => exact At.mono kp.tk (λ a o z e => kp.st a o e z.2) (λ a z e => ⟨z.1, m a z.2 e⟩) h
theorem Rs.same (r : Rs K C κ φ σ H δ) (s : Same H H') : Rs K C κ φ σ H' δ :=
  ⟨λ i d e => let ⟨v, k, h1, h2, h3⟩ := r.sl i d e; ⟨v, k, h1, h2, h3.mono (Kp.of s λ a f => .inl f) λ a o_ o e => s a o e⟩, r.dj, λ a f h => r.ow a f (s.free h), r.fi, λ a o e x => s a o (r.fr a o e x), λ a x h => r.xo a x (s.free h), λ a xs e => s _ _ (r.tk a xs e), r.ii, r.len⟩
end
noncomputable def FinS (K : PySem.W.Frag) (C : Dc) (L : List Kd × List Nat) (κ' : List Kd) (F : Addr -> Prop) (H : Hp) (D : Ends) : Rz Out -> Prop
  | .ok (.nx δ') => ∀ φ' σ' H', Rs K C κ' φ' σ' H' δ' -> Kp F H (Fo φ') H' -> D.nx σ' H'
  | .ok (.bk δ') => ∀ φ' σ' H', Rs K C L.1 φ' σ' H' (forget L.2 δ') -> Kp F H (Fo φ') H' -> D.bk σ' H'
  | .ok (.ct δ') => ∀ φ' σ' H', Rs K C L.1 φ' σ' H' (forget L.2 δ') -> Kp F H (Fo φ') H' -> D.ct σ' H'
  | .ok (.rt d δ') => ∀ v κr φ' σ' H', (∀ j : Nat, j ∈ C.io -> κr[j]? = some .i) -> Rs K C κr φ' σ' H' δ' -> At K C.cl H' (λ a => C.H₀ a = none) v d -> Nw K C.cl C.H₀ H' (λ a => C.H₀ a = none) v d -> D.rt v H'
  | _ => False
noncomputable def DSt (X : Cx) (C : Dc) (L : List Kd × List Nat) (κ κ' : List Kd) (st : Stmt) (g : GS) : Prop :=
  ∃ t, PS X st t /\ ∀ φ σ H δ, Rs X.K C κ φ σ H δ -> ∀ D, FinS X.K C L κ' (Fo φ) H D (g δ) -> t D σ H
noncomputable def DSs (X : Cx) (C : Dc) (L : List Kd × List Nat) (κ κ' : List Kd) (st : List Stmt) (g : GS) : Prop :=
  ∃ t, PSs X st t /\ ∀ φ σ H δ, Rs X.K C κ φ σ H δ -> ∀ D, FinS X.K C L κ' (Fo φ) H D (g δ) -> t D σ H
section
variable {X : Cx} {C : Dc} {L : List Kd × List Nat} {κ κ' κ1 κ2 : List Kd} {st : Stmt} {sts : List Stmt} {g g1 g2 : GS} {ge gk : GE} {tA : GT} {e : Expr} {fr : Bool} {pos : Pos} {F F1 : Addr -> Prop} {H H1 : Hp}
theorem finS_trans {D : Ends} {r : Rz Out} (kp : Kp F H F1 H1) (p : FinS X.K C L κ' F H D r) : FinS X.K C L κ' F1 H1 D r := by
  cases r with
  | ok o =>
    cases o with
    | nx δ' => exact λ φ' σ' H' r k => p φ' σ' H' r (kp.trans k)
    | bk δ' => exact λ φ' σ' H' r k => p φ' σ' H' r (kp.trans k)
    | ct δ' => exact λ φ' σ' H' r k => p φ' σ' H' r (kp.trans k)
    | rt d δ' => exact p
  | er c s => exact p
  | un => exact p
theorem notmem {l : List Nat} {i : Nat} (h : l.contains i = false) : i ∉ l := λ m => by rw [List.contains_iff_mem.mpr m] at h; cases h
theorem ds_nil : DSs X C L κ κ [] gNext := ⟨_, pss_nil, λ φ σ H δ r D p => p φ σ H r Kp.refl⟩
theorem ds_one (h : DSt X C L κ κ' st g) : DSs X C L κ κ' [st] g := let ⟨t, p, q⟩ := h; ⟨t, pss_one p, q⟩
theorem ds_cons (h1 : DSt X C L κ κ1 st g1) (h2 : DSs X C L κ1 κ' sts g2) : DSs X C L κ κ' (st :: sts) (gSeq g1 g2) := by
  obtain ⟨t, pt, dt⟩ := h1
  obtain ⟨u, pu, du⟩ := h2
  refine ⟨_, pss_cons pt pu, λ φ σ H δ r D p => dt φ σ H δ r _ ?_⟩
  have p : FinS X.K C L κ' (Fo φ) H D ((g1 δ).bind _) := p
  cases q : g1 δ with
  | ok o =>
    rw [q] at p
    cases o with
    | nx δ' => exact λ φ' σ' H' r' k => du φ' σ' H' δ' r' D (finS_trans k p)
    | bk δ' => exact p
    | ct δ' => exact p
    | rt d δ' => exact p
  | er c s => rw [q] at p; exact p.elim
  | un => rw [q] at p; exact p.elim
theorem ds_if {c : Expr} {a b : List Stmt} (hc : DT X C κ c tA) (ha : DSs X C L κ κ' a g1) (hb : DSs X C L κ κ' b g2) : DSt X C L κ κ' (.If c a b pos) (gIfS tA g1 g2) := by
  obtain ⟨tc, pc, dc⟩ := hc
  obtain ⟨ta, pa, da⟩ := ha
  obtain ⟨tb, pb, db⟩ := hb
  refine ⟨_, ps_if pc pa pb, λ φ σ H δ r D p => dc (Fo φ) σ H δ r.rx _ ?_⟩
  obtain ⟨k, e1, p⟩ := post_bindG (T := FinS X.K C L κ' (Fo φ) H D) (λ o_ o_ q => q) (λ q => q) p
  rw [e1]
  intro H1 s1
  have kp : Kp (Fo φ) H (Fo φ) H1 := Kp.of s1 λ a f => .inl f
  cases k with
  | true => exact iteT (da φ σ H1 δ (r.same s1) D (finS_trans kp p))
  | false => exact iteF (db φ σ H1 δ (r.same s1) D (finS_trans kp p))
theorem ds_never : DSt X C L κ κ' st gNever := ⟨_, ps_never, λ φ σ H δ r D p => p.elim⟩
theorem dss_never : DSs X C L κ κ' sts gNever := ⟨_, pss_never, λ φ σ H δ r D p => p.elim⟩
theorem nw_new {F : Addr -> Prop} {φ : Nat -> List Addr} {σ : St} {H H' : Hp} {δ : DS} {v : V} {d : D} (r : Rs X.K C κ φ σ H δ) (n : Nw X.K C.cl H H' (Sk C F .o) v d) : Nw X.K C.cl C.H₀ H' (λ a => C.H₀ a = none) v d := λ hb =>
  let ⟨l, o, h⟩ := n hb
  ⟨l, o, λ a m => r.old (h a m)⟩
theorem ds_ret (h : DE X C κ .o true e ge) (hio : ∀ j : Nat, j ∈ C.io -> κ[j]? = some .i) : DSt X C L κ κ' (.Return (some e) pos) (gRet ge) := by
  obtain ⟨t, pt, dt⟩ := h
  refine ⟨_, ps_ret pt, λ φ σ H δ r D p => dt (Fo φ) σ H δ r.rx _ ?_⟩
  obtain ⟨d, e1, p⟩ := post_bind (T := FinS X.K C L κ' (Fo φ) H D) (λ o_ o_ q => q) (λ q => q) p
  rw [e1]
  exact λ v H1 s1 a n => p v κ φ σ H1 hio (r.same s1) a (nw_new r (n rfl))
set_option tactic.hygienic true in
theorem ds_retO (i : Nat) {x : Str} {pos' : Pos} (hk : κ[i]? = some .o) (hio : ∀ j : Nat, j ∈ C.io -> κ[j]? = some .i) (hN : X.N[i]? = some x := by rfl) (hv : Vis X.env.scope x := by first | exact Or.inl rfl | exact Or.inr (Or.inl rfl) | exact Or.inr (Or.inr rfl)) (hd : (x == ("__debug__" : Str)) = false := by decide)
    (hcd : (x == ("__classdict__" : Str)) = false := by decide) : DSt X C L κ κ' (.Return (some (.Name x pos')) pos) (gRet (gVar i)) := by
  refine ⟨_, ps_ret (pe_var hN hv hd hcd), λ φ σ H δ r D p => ?_⟩
  obtain ⟨d, e1, p⟩ := post_bind (T := FinS X.K C L κ' (Fo φ) H D) (λ o_ o_ q => q) (λ q => q) p
  unfold gVar at e1
  split at e1
  · rename_i d' q
    cases e1
    obtain ⟨v, k, h1, h2, h3⟩ := r.sl i d q
    rw [hk] at h2
    cases h2
    refine ⟨v, h1, p v κ φ σ H hio r (h3.1.at (λ a z => z.1) h3.2) λ o_ => ⟨φ i, h3.1.mono TupK.refl (λ o_ o_ o_ e => e) (λ o_ o_ o_ e => e) λ a z o_ => z.1, h3.2⟩⟩
  · cases e1
theorem ds_drop (h : DE X C κ .v fr e ge) (hs : swapsWith e none pos.line X.env = pure false := by rfl) : DSt X C L κ κ (.Expr e pos) (gDrop ge) := by
  obtain ⟨t, pt, dt⟩ := h
  refine ⟨_, ps_expr pt hs, λ φ σ H δ r D p => dt (Fo φ) σ H δ r.rx _ ?_⟩
  obtain ⟨d, e1, p⟩ := post_bind (T := FinS X.K C L κ (Fo φ) H D) (λ o_ o_ q => q) (λ q => q) p
  rw [e1]
  exact λ v H1 s1 a n => p φ σ H1 (r.same s1) (Kp.of s1 λ a f => .inl f)
set_option tactic.hygienic true in
theorem get_set {α : Type} {l : List α} {i j : Nat} {a : α} {b : α} (h : (l.set i a)[j]? = some b) : (i = j /\ a = b /\ j < l.length) \/ (i ≠ j /\ l[j]? = some b) := by
  rw [List.getElem?_set] at h
  by_cases e : i = j
  · subst e
    rw [if_pos rfl] at h
    split at h
    · rename_i hl
      exact .inl ⟨rfl, Option.some.inj h, hl⟩
    · cases h
  · rw [if_neg e] at h
    exact .inr ⟨e, h⟩
theorem set_get {α : Type} {l : List α} {i : Nat} {a : α} (h : i < l.length) : (l.set i a)[i]? = some a := by
  rw [List.getElem?_set, if_pos rfl, if_pos h]
theorem set_ne' {α : Type} {l : List α} {i j : Nat} {a : α} (h : i ≠ j) : (l.set i a)[j]? = l[j]? := by
  rw [List.getElem?_set, if_neg h]
noncomputable def φset (φ : Nat -> List Addr) (i : Nat) (l : List Addr) : Nat -> List Addr := λ j => if j = i then l else φ j
theorem φset_same {φ : Nat -> List Addr} {i : Nat} {l : List Addr} : φset φ i l i = l := if_pos rfl
theorem φset_ne {φ : Nat -> List Addr} {i j : Nat} {l : List Addr} (h : j ≠ i) : φset φ i l j = φ j := if_neg h
theorem Rs.put {K : PySem.W.Frag} {φ : Nat -> List Addr} {σ : St} {H H' : Hp} {δ : DS} {i : Nat} {k : Kd} {v : V} {d : D} {l : List Addr} (r : Rs K C κ φ σ H δ) (s : Same H H') (hk : i < κ.length) (hs : SlOk K C (Fo (φset φ i l)) H' l v d k) (hl : ∀ a ∈ l, H a = none /\ H' a ≠ none) (hni : i ∉ C.io) :
    Rs K C (κ.set i k) (φset φ i l) (σ.set i (some v)) H' (δ.set i (some d)) /\ Kp (Fo φ) H (Fo (φset φ i l)) H' := by
  have sub : ∀ a, Fo (φset φ i l) a -> Fo φ a \/ H a = none := by
    rintro a ⟨j, hj⟩
    by_cases e : j = i
    · subst e
      rw [φset_same] at hj
      exact .inr (hl a hj).1
    · rw [φset_ne e] at hj
      exact .inl ⟨j, hj⟩
  have kp : Kp (Fo φ) H (Fo (φset φ i l)) H' := Kp.of s sub
  refine ⟨⟨λ j d' e => ?_, λ x y a hx hy => ?_, λ a f => ?_, λ a f => ?_, λ a o e x => s a o (r.fr a o e x), λ a x h => r.xo a x (s.free h), λ a xs e => s _ _ (r.tk a xs e), λ j hj => ?_, by rw [List.length_set, List.length_set]; exact r.len⟩, kp⟩
  · rcases get_set e with ⟨rfl, e, hlt⟩ | ⟨ne, e⟩
    · cases e
      exact ⟨v, k, set_get (by rw [r.len]; exact hlt), set_get hk, by rw [φset_same]; exact hs⟩
    · obtain ⟨u, k', h1, h2, h3⟩ := r.sl j d' e
      refine ⟨u, k', by rw [set_ne' ne]; exact h1, by rw [set_ne' ne]; exact h2, ?_⟩
      rw [φset_ne (Ne.symm ne)]
      exact h3.mono kp λ a o_ o e => s a o e
  · by_cases ex : x = i <;> by_cases ey : y = i
    · rw [ex, ey]
    · subst ex
      rw [φset_same] at hx
      rw [φset_ne ey] at hy
      exact absurd (hl a hx).1 (r.ow a ⟨y, hy⟩)
    · subst ey
      rw [φset_same] at hy
      rw [φset_ne ex] at hx
      exact absurd (hl a hy).1 (r.ow a ⟨x, hx⟩)
    · rw [φset_ne ex] at hx
      rw [φset_ne ey] at hy
      exact r.dj x y a hx hy
  · obtain ⟨j, hj⟩ := f
    by_cases ej : j = i
    · subst ej
      rw [φset_same] at hj
      exact (hl a hj).2
    · rw [φset_ne ej] at hj
      exact λ h => r.ow a ⟨j, hj⟩ (s.free h)
  · obtain ⟨j, hj⟩ := f
    by_cases ej : j = i
    · subst ej
      rw [φset_same] at hj
      exact .inl (r.old (hl a hj).1)
    · rw [φset_ne ej] at hj
      exact r.fi a ⟨j, hj⟩
  · have ne : i ≠ j := λ z => hni (by rw [z]; exact hj)
    rw [set_ne' ne, φset_ne (Ne.symm ne)]
    exact r.ii j hj
theorem fo_sub {φ : Nat -> List Addr} {i : Nat} {a : Addr} (h : Fo (φset φ i []) a) : Fo φ a := by
  obtain ⟨j, hj⟩ := h
  by_cases e : j = i
  · subst e; rw [φset_same] at hj; exact absurd hj (by simp)
  · rw [φset_ne e] at hj; exact ⟨j, hj⟩
theorem ds_set {i : Nat} {x : Str} {k : Kd} {pos' : Pos} (hkk : k = .b \/ k = .s) (hk : i < κ.length) (hN : X.N.Nodup) (hi : X.N[i]? = some x) (hx : Loc X.env.scope x) (h : DE X C κ k fr e ge) (hs : swapsWith e (some (.Name x pos')) pos.line X.env = pure false := by rfl)
    (hf : X.fn x = true \/ X.env.scope.names.lookup x = some .local := by first | exact .inl rfl | exact .inr rfl | assumption) (hni : C.io.contains i = false := by rfl) : DSt X C L κ (κ.set i k) (.Assign [.Name x pos'] e pos) (gSet i ge) := by
  obtain ⟨t, pt, dt⟩ := h
  refine ⟨_, ps_set hN hi hx pt hs hf, λ φ σ H δ r D p => dt (Fo φ) σ H δ r.rx _ ?_⟩
  obtain ⟨d, e1, p⟩ := post_bind (T := FinS X.K C L (κ.set i k) (Fo φ) H D) (λ o_ o_ q => q) (λ q => q) p
  rw [e1]
  intro v H1 s1 a n
  have so : SlOk X.K C (Fo (φset φ i [])) H1 [] v d k := by
    rcases hkk with rfl | rfl
    · exact At.sub a λ b z o_ f => z (fo_sub f)
    · exact At.sub a λ b z o_ => ⟨z.1, λ f => z.2 (fo_sub f)⟩
  obtain ⟨r2, kp⟩ := r.put s1 hk so (λ a m => absurd m (by simp)) (notmem hni)
  exact p _ _ _ r2 kp
theorem ds_setO {i : Nat} {x : Str} {pos' : Pos} (hk : i < κ.length) (hN : X.N.Nodup) (hi : X.N[i]? = some x) (hx : Loc X.env.scope x) (h : DE X C κ .s true e ge) (hs : swapsWith e (some (.Name x pos')) pos.line X.env = pure false := by rfl)
    (hf : X.fn x = true \/ X.env.scope.names.lookup x = some .local := by first | exact .inl rfl | exact .inr rfl | assumption) (hni : C.io.contains i = false := by rfl) : DSt X C L κ (κ.set i .o) (.Assign [.Name x pos'] e pos) (gSetO i ge) := by
  obtain ⟨t, pt, dt⟩ := h
  refine ⟨_, ps_set hN hi hx pt hs hf, λ φ σ H δ r D p => dt (Fo φ) σ H δ r.rx _ ?_⟩
  obtain ⟨d, e1, p⟩ := post_bind (T := FinS X.K C L (κ.set i .o) (Fo φ) H D) (λ o_ o_ q => q) (λ q => q) p
  obtain ⟨hb, p⟩ := post_guard (T := FinS X.K C L (κ.set i .o) (Fo φ) H D) (λ z => z) p
  rw [e1]
  intro v H1 s1 a n
  obtain ⟨l, o, hl⟩ := n rfl hb
  have so : SlOk X.K C (Fo (φset φ i l)) H1 l v d .o := by
    refine ⟨?_, λ a m => r.old (hl a m)⟩
    -- what it holds isn't owned
    have key : ∀ b, (Sk C (Fo φ) .s b /\ b ∉ l) -> Sk C (Fo (φset φ i l)) .s b := λ b z => ⟨z.1.1, λ f => by
      obtain ⟨j, hj⟩ := f
      by_cases e : j = i
      · subst e; rw [φset_same] at hj; exact z.2 hj
      · rw [φset_ne e] at hj; exact z.1.2 ⟨j, hj⟩⟩
    cases d with
    | lst ds => obtain ⟨a', vs, q1, q2, q3, q4⟩ := o; exact ⟨a', vs, q1, q2, q3, q4.sub λ b z o_ => ⟨key b z, z.2⟩⟩
    | dct ks ds => obtain ⟨a', vs, q1, q2, q3, q5, q4⟩ := o; exact ⟨a', vs, q1, q2, q3, q5, q4.sub λ b z o_ => ⟨key b z, z.2⟩⟩
    | obj c f d' =>
      cases d' with
      | dct ks ds => obtain ⟨a', dx, b', vs, q1, q2, q3, q5, q6, q7, q4⟩ := o; exact ⟨a', dx, b', vs, q1, q2, q3, q5, q6, q7, q4.sub λ b z o_ => ⟨key b z, z.2⟩⟩
      | _ => exact o.elim
    | _ => cases hb
  obtain ⟨r2, kp⟩ := r.put s1 hk so (λ a m => ⟨hl a m, o.ex m⟩) (notmem hni)
  exact p _ _ _ r2 kp
end
end Dl
namespace Dl
open PySem L2
section
variable {X : Cx} {C : Dc} {L : List Kd × List Nat} {κ κ' κ1 κ2 : List Kd} {st : Stmt} {sts : List Stmt} {g g1 g2 gb : GS} {ge gk : GE} {tA : GT} {e : Expr} {fr : Bool} {pos : Pos} {F F1 : Addr -> Prop} {H H1 : Hp}
theorem forget_len : ∀ (fg : List Nat) (δ : DS), (forget fg δ).length = δ.length
  | [], δ => rfl
  | i :: r, δ => by rw [forget, forget_len r, List.length_set]
theorem forget_get : ∀ {fg : List Nat} {δ : DS} {j : Nat} {d : D}, (forget fg δ)[j]? = some (some d) -> j ∉ fg /\ δ[j]? = some (some d)
  | [], δ, j, d, h => ⟨by simp, h⟩
  | i :: r, δ, j, d, h => by
    rw [forget] at h
    obtain ⟨h1, h2⟩ := forget_get h
    rcases get_set h2 with ⟨_, z, _⟩ | ⟨ne, h2⟩
    · cases z
    · exact ⟨λ m => (List.mem_cons.mp m).elim (λ z => ne z.symm) h1, h2⟩
noncomputable def okK (κ κ2 : List Kd) (fg : List Nat) : Bool := (List.range κ.length).all λ j => fg.contains j || decide (κ[j]? = κ2[j]?)
theorem okK_get {κ κ2 : List Kd} {fg : List Nat} {j : Nat} {k : Kd} (h : okK κ κ2 fg = true) (m : j ∉ fg) (e : κ[j]? = some k) : κ2[j]? = some k := by
  have hl : j < κ.length := (List.getElem?_eq_some_iff.mp e).1
  have q := List.all_eq_true.mp h j (List.mem_range.mpr hl)
  rw [Bool.or_eq_true] at q
  rcases q with q | q
  · exact absurd (List.contains_iff_mem.mp q) m
  · rw [<- of_decide_eq_true q]; exact e
theorem Rs.forget {K : PySem.W.Frag} {φ : Nat -> List Addr} {σ : St} {H : Hp} {δ : DS} {fg : List Nat} (r : Rs K C κ φ σ H δ) (ok : okK κ κ2 fg = true) : Rs K C κ2 φ σ H (forget fg δ) :=
  ⟨λ i d e => by
    obtain ⟨m, e⟩ := forget_get e
    obtain ⟨v, k, h1, h2, h3⟩ := r.sl i d e
    exact ⟨v, k, h1, okK_get ok m h2, h3⟩, r.dj, r.ow, r.fi, r.fr, r.xo, r.tk, r.ii, by rw [forget_len]; exact r.len⟩
theorem okK_self (κ : List Kd) (fg : List Nat) : okK κ κ fg = true := List.all_eq_true.mpr λ j o_ => by rw [decide_eq_true rfl, Bool.or_true]
theorem Rs.frz {K : PySem.W.Frag} {φ : Nat -> List Addr} {σ : St} {H : Hp} {δ : DS} {i : Nat} (r : Rs K C κ φ σ H δ) (hk : κ[i]? = some .o) (hni : i ∉ C.io) : Rs K C (κ.set i .s) (φset φ i []) σ H δ /\ Kp (Fo φ) H (Fo (φset φ i [])) H := by
  have hi : i < κ.length := (List.getElem?_eq_some_iff.mp hk).1
  have sub : ∀ a, Fo (φset φ i []) a -> Fo φ a \/ H a = none := λ a f => .inl (fo_sub f)
  have kp : Kp (Fo φ) H (Fo (φset φ i [])) H := Kp.of (Same.refl H) sub
  refine ⟨⟨λ j d e => ?_, λ x y a hx hy => ?_, λ a f => r.ow a (fo_sub f), λ a f => r.fi a (fo_sub f), r.fr, r.xo, r.tk, λ j hj => ?_, r.len⟩, kp⟩
  · obtain ⟨v, k, h1, h2, h3⟩ := r.sl j d e
    by_cases ej : i = j
    · subst ej
      rw [hk] at h2
      cases h2
      refine ⟨v, .s, h1, set_get hi, ?_⟩
      refine h3.1.at (λ b z => ⟨z.1, λ f => z.2 (fo_sub f)⟩) λ b m => ⟨h3.2 b m, λ f => ?_⟩
      obtain ⟨j, hj⟩ := f
      by_cases e : j = i
      · subst e; rw [φset_same] at hj; exact absurd hj (by simp)
      · rw [φset_ne e] at hj; exact e (r.dj j i b hj m)
    · refine ⟨v, k, h1, by rw [set_ne' ej]; exact h2, ?_⟩
      rw [φset_ne (Ne.symm ej)]
      exact h3.mono kp λ o_ o_ o_ e => e
  · by_cases ex : x = i
    · subst ex; rw [φset_same] at hx; exact absurd hx (by simp)
    · by_cases ey : y = i
      · subst ey; rw [φset_same] at hy; exact absurd hy (by simp)
      · rw [φset_ne ex] at hx; rw [φset_ne ey] at hy; exact r.dj x y a hx hy
  · have ne : j ≠ i := λ z => hni (by rw [<- z]; exact hj)
    rw [φset_ne ne]
    exact r.ii j hj
noncomputable def Wk (K : PySem.W.Frag) (C : Dc) (F : Addr -> Prop) (m : Kd) (H : Hp) (J : It) (xs : List D) : Prop :=
  (∃ a vs, J = Itl K a /\ Sk C F m a /\ Rd H a (.lst vs) /\ Ats K C.cl H (Sk C F m) vs xs) \/ (∃ a vs, J = Itt K a /\ H a = some (.tup vs) /\ Ats K C.cl H (Sk C F m) vs xs) \/ (∃ lo n, J = Itr lo n /\ xs = rangeD lo n) \/ ∃ z, J = Its z /\ xs = signsD z
noncomputable def PostI (K : PySem.W.Frag) (C : Dc) (F : Addr -> Prop) (m : Kd) (H : Hp) (R : It -> Hp -> Prop) : Rz (List D) -> Prop
  | .ok xs => ∀ J H', Same H H' -> Wk K C F m H' J xs -> R J H'
  | _ => False
noncomputable def DI (X : Cx) (C : Dc) (κ : List Kd) (m : Kd) (tg iter : Expr) (g : GI) : Prop :=
  ∃ wi, PI X tg iter wi /\ ∀ F σ H δ, Rx X.K C κ F σ H δ -> ∀ R, PostI X.K C F m H R (g δ) -> wi σ H R
theorem pi_or {tg iter : Expr} {w1 w2 : TI} (h1 : PI X tg iter w1) (h2 : PI X tg iter w2) : PI X tg iter (λ σ H R => w1 σ H R \/ w2 σ H R) := by
  intro pins s σ H R I h
  rcases h with h | h
  · exact h1 pins s σ H R I h
  · exact h2 pins s σ H R I h
theorem di_seq {m : Kd} {tg : Expr} (h : DE X C κ m fr e ge) : DI X C κ m tg e (gItS ge) := by
  obtain ⟨t, pt, dt⟩ := h
  refine ⟨_, pi_or (pi_list pt) (pi_or (pi_tup pt) (pi_str pt)), λ F σ H δ r R p => ?_⟩
  obtain ⟨d, e1, p⟩ := post_bind (T := PostI X.K C F m H R) (λ o_ o_ q => q) (λ q => q) p
  cases d with
  | lst xs =>
    refine .inl (dt F σ H δ r _ ?_)
    rw [e1]
    intro v H1 s1 a _
    rw [At] at a
    obtain ⟨b, vs, rfl, sb, q, w⟩ := a
    exact ⟨b, rfl, ⟨vs, .inl q⟩, p _ H1 s1 (.inl ⟨b, vs, rfl, sb, q, w⟩)⟩
  | tup xs =>
    refine .inr (.inl (dt F σ H δ r _ ?_))
    rw [e1]
    intro v H1 s1 a _
    rw [At] at a
    obtain ⟨b, vs, rfl, q, w⟩ := a
    exact ⟨b, rfl, ⟨vs, SqT.of q⟩, p _ H1 s1 (.inr (.inl ⟨b, vs, rfl, q, w⟩))⟩
  | str z =>
    obtain ⟨hz, p⟩ := post_guard (T := PostI X.K C F m H R) (λ z => z) p
    refine .inr (.inr (dt F σ H δ r _ ?_))
    rw [e1]
    intro v H1 s1 a _
    rw [At] at a
    exact ⟨z, a, hz, p _ H1 s1 (.inr (.inr (.inr ⟨z, rfl, rfl⟩)))⟩
  | _ => exact p.elim
theorem di_rng1 {m : Kd} {tg a : Expr} {p : Pos} {fa : Bool} (hg : Gl X "range") (hm : X.mg "range" = none) (h : DE X C κ .v fa a ge) (hs : starEach [a] X.env = [(false, eval a X.env)] := by rfl) : DI X C κ m tg (.Call (.Name "range" p) [a] [] pos) (gRng1 ge) := by
  obtain ⟨t, pt, dt⟩ := h
  refine ⟨_, pi_range1 hg hm (pa_cons pt pa_nil hs) hs, λ F σ H δ r R z => dt F σ H δ r _ ?_⟩
  obtain ⟨d, e1, z⟩ := post_bind (T := PostI X.K C F m H R) (λ o_ o_ q => q) (λ q => q) z
  rw [e1]
  intro v H1 s1 at1 _
  cases d with
  | int j =>
    obtain ⟨hz, z⟩ := post_guard (T := PostI X.K C F m H R) (λ z => z) z
    rw [At] at at1
    subst at1
    exact ⟨j, rfl, hz.1, hz.2, z _ H1 s1 (.inr (.inr (.inl ⟨0, j.toNat, rfl, rfl⟩)))⟩
  | _ => exact z.elim
theorem loopF_nil (i : Nat) (fg : List Nat) (δ : DS) : loopF i fg gb [] δ = .ok (.nx δ) := by rw [loopF]
theorem drop_get {α : Type} {xs : List α} {k : Nat} {x : α} (h : xs[k]? = some x) : xs.drop k = x :: xs.drop (k + 1) := by
  have hl := (List.getElem?_eq_some_iff.mp h).1
  rw [List.drop_eq_getElem_cons hl, (List.getElem?_eq_some_iff.mp h).2]
theorem for_turn {i : Nat} {x : Str} {k : Kd} {fg : List Nat} {tb : TS} {D : Ends} {F0 : Addr -> Prop} {H0 : Hp} (hkk : k = .b \/ k = .s) (hk : i < κ.length) (hni : i ∉ C.io) (ok : okK κ1 κ fg = true)
    (db : ∀ φ σ H δ, Rs X.K C (κ.set i k) φ σ H δ -> ∀ D, FinS X.K C (κ, fg) κ1 (Fo φ) H D (gb δ) -> tb D σ H) {N : St -> Hp -> Prop}
    {φ : Nat -> List Addr} {σ : St} {H : Hp} {δ : DS} {v : V} {d : Dl.D} {rest : List Dl.D} (r : Rs X.K C κ φ σ H δ) (kp : Kp F0 H0 (Fo φ) H) (a : At X.K C.cl H (Sk C (Fo φ) k) v d) (p : FinS X.K C L κ F0 H0 D (loopF i fg gb (d :: rest) δ))
    (hN : ∀ φ' σ' H' δ', Rs X.K C κ φ' σ' H' δ' -> Kp F0 H0 (Fo φ') H' -> FinS X.K C L κ F0 H0 D (loopF i fg gb rest δ') -> N σ' H') :
    tb { D with nx := N, ct := N, bk := D.nx } (σ.set i (some v)) H := by
  have so : SlOk X.K C (Fo (φset φ i [])) H [] v d k := by
    rcases hkk with rfl | rfl
    · exact At.sub a λ b z o_ f => z (fo_sub f)
    · exact At.sub a λ b z o_ => ⟨z.1, λ f => z.2 (fo_sub f)⟩
  obtain ⟨r2, kp2⟩ := r.put (Same.refl H) hk so (λ a m => absurd m (by simp)) hni
  have kp3 := kp.trans kp2
  refine db _ _ H _ r2 _ ?_
  rw [loopF] at p
  cases q : gb (δ.set i (some d)) with
  | ok o =>
    rw [q] at p
    cases o with
    | nx δ' => exact λ φ' σ' H' r' k' => hN φ' σ' H' _ (r'.forget ok) (kp3.trans k') p
    | ct δ' => exact λ φ' σ' H' r' k' => hN φ' σ' H' _ r' (kp3.trans k') p
    | bk δ' => exact λ φ' σ' H' r' k' => p φ' σ' H' r' (kp3.trans k')
    | rt d δ' => exact p
  | er c s => rw [q] at p; exact p.elim
  | un => rw [q] at p; exact p.elim
theorem ds_for {i : Nat} {x : Str} {k : Kd} {fg : List Nat} {iter : Expr} {gi : GI} {body : List Stmt} {px : Pos} (hkk : k = .b \/ k = .s) (hk : i < κ.length) (hN : X.N.Nodup) (hi : X.N[i]? = some x) (hx : Loc X.env.scope x) (hp : PassesOwn (model X.prog X.w) X.A X.env X.xe) (hc : X.calm = true)
    (hw : DI X C κ k (.Name x px) iter gi) (hb : DSs X C (κ, fg) (κ.set i k) κ1 body gb) (ok : okK κ1 κ fg = true) (hs : ∀ x, foldedSetIterable iter X.env x = pure x := by intro _; rfl)
    (hf : X.fn x = true \/ X.env.scope.names.lookup x = some .local := by first | exact .inl rfl | exact .inr rfl | assumption) (hni : C.io.contains i = false := by rfl) : DSt X C L κ κ (.For (.Name x px) iter body [] pos) (gFor gi i fg gb) := by
  obtain ⟨wi, pw, dw⟩ := hw
  obtain ⟨tb, pb, db⟩ := hb
  refine ⟨_, ps_for hp hc pw (pg_name hN hi hx hf) pb hs, λ φ σ H δ r D p => dw (Fo φ) σ H δ r.rx _ ?_⟩
  obtain ⟨xs, e1, p⟩ := post_bindG (T := FinS X.K C L κ (Fo φ) H D) (λ o_ o_ q => q) (λ q => q) p
  rw [e1]
  intro J H1 s1 w
  have r1 := (r.same s1).forget (okK_self κ fg)
  have kp1 : Kp (Fo φ) H (Fo φ) H1 := Kp.of s1 λ a f => .inl f
  have sk : ∀ {φ' : Nat -> List Addr} {H' : Hp} {a : Addr}, Kp (Fo φ) H1 (Fo φ') H' -> H1 a ≠ none -> Sk C (Fo φ) k a -> ¬ Fo φ a /\ Sk C (Fo φ') k a := λ {φ' H' a} kp e z => by
    have m : ¬ Fo φ a -> ¬ Fo φ' a := λ n f => (kp.ow a f).elim n e
    rcases hkk with rfl | rfl
    · exact ⟨z, m z⟩
    · exact ⟨z.2, z.1, m z.2⟩
  have items : ∀ {φ' : Nat -> List Addr} {H' : Hp} {vs : List V}, Kp (Fo φ) H1 (Fo φ') H' -> Ats X.K C.cl H1 (Sk C (Fo φ) k) vs xs -> Ats X.K C.cl H' (Sk C (Fo φ') k) vs xs := λ {φ' H' vs} kp z =>
    z.mono kp.tk (λ a o za e => kp.st a o e (sk kp (by rw [e]; exact λ z => by cases z) za).1) λ a za e => (sk kp e za).2
  rcases w with ⟨a, vs, rfl, sa, ha, wa⟩ | ⟨a, vs, rfl, ha, wa⟩ | ⟨lo, n, rfl, rfl⟩ | ⟨z, rfl, rfl⟩
  · have hl := wa.length
    refine for_list (K := X.K) (a := a) (xs := vs) (λ j σ' H' => ∃ φ' δ', Rs X.K C κ φ' σ' H' δ' /\ Kp (Fo φ) H1 (Fo φ') H' /\ FinS X.K C L κ (Fo φ) H1 D (loopF i fg gb (xs.drop j) δ'))
      ⟨φ, _, r1, Kp.refl, finS_trans kp1 p⟩ (λ j σ' H' o1_ ⟨φ', δ', r', kp, o2_⟩ => ?_) ?_ ?_
    · refine .inl ?_
      rcases ha with ha | ⟨o, ha⟩
      · exact .inl (kp.st _ _ ha (sk kp (by rw [ha]; exact λ z => by cases z) sa).1)
      · exact .inr ⟨o, kp.st _ _ ha (sk kp (by rw [ha]; exact λ z => by cases z) sa).1⟩
    · rintro j v σ' H' hj ⟨φ', δ', r', kp, q⟩
      obtain ⟨d, hd, ad⟩ := (items kp wa).get' hj
      rw [drop_get hd] at q
      exact for_turn (x := x) hkk hk (notmem hni) ok db r' kp ad q λ φ2 σ2 H2 δ2 r2 kp2 q2 => ⟨φ2, δ2, r2, kp2, q2⟩
    · rintro σ' H' ⟨φ', δ', r', kp, q⟩
      rw [hl, List.drop_length, loopF_nil] at q
      exact q φ' σ' H' r' kp
  · have hl := wa.length
    refine for_tup (K := X.K) (a := a) (xs := vs) (λ j σ' H' => ∃ φ' δ', Rs X.K C κ φ' σ' H' δ' /\ Kp (Fo φ) H1 (Fo φ') H' /\ FinS X.K C L κ (Fo φ) H1 D (loopF i fg gb (xs.drop j) δ'))
      ⟨φ, _, r1, Kp.refl, finS_trans kp1 p⟩ (λ j σ' H' o1_ ⟨φ', δ', r', kp, o2_⟩ => SqT.of (kp.tk _ _ ha)) ?_ ?_
    · rintro j v σ' H' hj ⟨φ', δ', r', kp, q⟩
      obtain ⟨d, hd, ad⟩ := (items kp wa).get' hj
      rw [drop_get hd] at q
      exact for_turn (x := x) hkk hk (notmem hni) ok db r' kp ad q λ φ2 σ2 H2 δ2 r2 kp2 q2 => ⟨φ2, δ2, r2, kp2, q2⟩
    · rintro σ' H' ⟨φ', δ', r', kp, q⟩
      rw [hl, List.drop_length, loopF_nil] at q
      exact q φ' σ' H' r' kp
  · have hl : (rangeD lo n).length = n := by unfold rangeD; rw [List.length_map, List.length_range]
    refine for_range (lo := lo) (n := n) (λ j σ' H' => ∃ φ' δ', Rs X.K C κ φ' σ' H' δ' /\ Kp (Fo φ) H1 (Fo φ') H' /\ FinS X.K C L κ (Fo φ) H1 D (loopF i fg gb ((rangeD lo n).drop j) δ'))
      ⟨φ, _, r1, Kp.refl, finS_trans kp1 p⟩ ?_ ?_
    · rintro j σ' H' hj ⟨φ', δ', r', kp, q⟩
      have hd : (rangeD lo n)[j]? = some (.int (lo + (j : Int))) := by unfold rangeD; rw [List.getElem?_map, List.getElem?_range hj]; rfl
      rw [drop_get hd] at q
      exact for_turn (x := x) hkk hk (notmem hni) ok db r' kp (by rw [At]) q λ φ2 σ2 H2 δ2 r2 kp2 q2 => ⟨φ2, δ2, r2, kp2, q2⟩
    · rintro σ' H' ⟨φ', δ', r', kp, q⟩
      rw [show (rangeD lo n).drop n = [] by rw [List.drop_eq_nil_iff]; omega, loopF_nil] at q
      exact q φ' σ' H' r' kp
  · have hl : (signsD z).length = z.cps.size := by unfold signsD; rw [List.length_map, Array.length_toList]
    refine for_str (z := z) (λ j σ' H' => ∃ φ' δ', Rs X.K C κ φ' σ' H' δ' /\ Kp (Fo φ) H1 (Fo φ') H' /\ FinS X.K C L κ (Fo φ) H1 D (loopF i fg gb ((signsD z).drop j) δ'))
      ⟨φ, _, r1, Kp.refl, finS_trans kp1 p⟩ ?_ ?_
    · rintro j c σ' H' hj ⟨φ', δ', r', kp, q⟩
      have hd : (signsD z)[j]? = some (.str ⟨#[c]⟩) := by unfold signsD; rw [List.getElem?_map, Array.getElem?_toList, hj]; rfl
      rw [drop_get hd] at q
      exact for_turn (x := x) hkk hk (notmem hni) ok db r' kp (by rw [At]) q λ φ2 σ2 H2 δ2 r2 kp2 q2 => ⟨φ2, δ2, r2, kp2, q2⟩
    · rintro σ' H' ⟨φ', δ', r', kp, q⟩
      rw [show (signsD z).drop z.cps.size = [] by rw [List.drop_eq_nil_iff]; omega, loopF_nil] at q
      exact q φ' σ' H' r' kp
end
end Dl
namespace Dl
open PySem L2
theorem val_zip (k : Ky) : ∀ (ks : List Ky) (vs : List V), valV (ks.zip vs) k = valD k ks vs
  | [], _ => rfl
  | _ :: _, [] => rfl
  | x :: ks, v :: vs => by
    rw [List.zip_cons_cons, valD]
    by_cases e : x = k
    · rw [valV_pos (p := (x, v)) e, if_pos e]
    · rw [valV_neg (p := (x, v)) e, if_neg e, val_zip k ks vs]
theorem any_zip (k : Ky) : ∀ (ks : List Ky) (vs : List V), ks.length = vs.length -> ((ks.zip vs).any λ kv => decide (kv.1 = k)) = ks.any λ x => decide (x = k)
  | [], _, _ => rfl
  | _ :: _, [], h => by simp at h
  | x :: ks, v :: vs, h => by
    rw [List.zip_cons_cons, List.any_cons, List.any_cons, any_zip k ks vs (by simpa using h)]
theorem map_zip (k : Ky) (v : V) : ∀ (ks : List Ky) (vs : List V), ((ks.zip vs).map λ kv => if kv.1 = k then (kv.1, v) else kv) = ks.zip (setK k v ks vs)
  | [], _ => rfl
  | _ :: _, [] => by rw [List.zip_nil_right]; rfl
  | x :: ks, u :: vs => by
    rw [List.zip_cons_cons, List.map_cons, setK, List.zip_cons_cons, map_zip k v ks vs]
    by_cases e : x = k
    · rw [if_pos (show (x, u).1 = k from e), if_pos e]
    · rw [if_neg (show ¬ (x, u).1 = k from e), if_neg e]
section
variable {K : PySem.W.Frag} {cl : Nat -> Addr} {H H' : Hp} {S S' : Addr -> Prop}
theorem Ats.val {k : Ky} : ∀ {ks : List Ky} {vs : List V} {ds : List D} {d : D}, Ats K cl H S vs ds -> valD k ks ds = some d -> ∃ v, valD k ks vs = some v /\ At K cl H S v d
  | [], _, _, _, _, e => by cases e
  | _ :: _, [], [], _, _, e => by cases e
  | x :: ks, v :: vs, y :: ds, d, a, e => by
    rw [Ats] at a
    rw [valD] at e
    rw [valD]
    by_cases q : x = k
    · rw [if_pos q] at e ⊢
      cases e
      exact ⟨v, rfl, a.1⟩
    · rw [if_neg q] at e ⊢
      exact Ats.val a.2 e
  | _ :: _, [], _ :: _, _, z, _ => by rw [Ats] at z; exact z.elim
  | _ :: _, _ :: _, [], _, z, _ => by rw [Ats] at z; exact z.elim
theorem Ats.setK {k : Ky} {v : V} {d : D} (h : At K cl H S v d) : ∀ {ks : List Ky} {vs : List V} {ds : List D}, Ats K cl H S vs ds -> Ats K cl H S (setK k v ks vs) (setK k d ks ds)
  | [], _, _, a => by rw [Dl.setK, Dl.setK]; exact a; all_goals simp
  | _ :: _, [], [], a => by rw [Dl.setK, Dl.setK]; exact a; all_goals simp
  | x :: ks, u :: vs, y :: ds, a => by
    rw [Ats] at a
    rw [Dl.setK, Dl.setK]
    refine Ats.cons ?_ (Ats.setK h a.2)
    by_cases q : x = k
    · rw [if_pos q, if_pos q]; exact h
    · rw [if_neg q, if_neg q]; exact a.1
  | _ :: _, [], _ :: _, z => by rw [Ats] at z; exact z.elim
  | _ :: _, _ :: _, [], z => by rw [Ats] at z; exact z.elim
end
theorem setK_len {α : Type} (k : Ky) (v : α) : ∀ (ks : List Ky) (vs : List α), (setK k v ks vs).length = vs.length
  | [], vs => by rw [setK]; simp
  | _ :: _, [] => by rw [setK]; simp
  | x :: ks, u :: vs => by rw [setK, List.length_cons, List.length_cons, setK_len k v ks vs]
section
variable {X : Cx}
theorem op_catR : OpR X (binaryOp .Add) (λ x y H Q => ∃ l b xs zs, x = .ref l /\ y = .ref b /\ Rd H l (.lst xs) /\ Rd H b (.lst zs) /\ xs.length + zs.length <= sizeLine /\ ∀ p, H p = none -> Q (.ref p) (upd H p (.lst (xs ++ zs)))) := by
  intro pins s σ H x y v u Q I rx ry h
  obtain ⟨l, b, xs, zs, rfl, rfl, hH, hB, hz, q⟩ := h
  cases rx
  cases ry
  obtain ⟨z, its, n, r, e⟩ := hH.ok I.hok
  obtain ⟨z2, its2, n2, r2, e2⟩ := hB.ok I.hok
  have hl := r.length
  have hl2 := r2.length
  refine PySem.P.add_list e e2 ?_ (by rw [List.size_toArray, List.size_toArray]; omega)
  have ea : its.toArray ++ its2.toArray = (its ++ its2).toArray := by simp
  rw [ea]
  exact ⟨.ref _, _, I.lnew (t' := s.toks) (r.append r2) (by rw [List.length_append]; omega), rfl, q _ I.fresh⟩
end
section
variable {X : Cx} {C : Dc} {L : List Kd × List Nat} {κ κ' κ1 κ2 : List Kd} {st : Stmt} {sts : List Stmt} {g g1 g2 gb : GS} {ge gk : GE} {tA : GT} {e : Expr} {fr fk : Bool} {pos : Pos} {F F1 : Addr -> Prop} {H H1 : Hp}
theorem Rs.write {K : PySem.W.Frag} {φ : Nat -> List Addr} {σ : St} {H : Hp} {δ : DS} {i : Nat} {k : Kd} {a : Addr} {o o' : HO} {v : V} {d d' : D} (r : Rs K C κ φ σ H δ) (ho : k = .o \/ k = .i) (hk : κ[i]? = some k) (hv : σ[i]? = some (some v)) (hd : δ[i]? = some (some d)) (ha : a ∈ φ i) (hH : H a = some o) (nt : ∀ xs, o ≠ .tup xs)
    (hs : Own K C.cl (upd H a o') (Sk C (Fo φ) .s) (φ i) v d') : Rs K C κ φ σ (upd H a o') (δ.set i (some d')) /\ Kp (Fo φ) H (Fo φ) (upd H a o') := by
  have fa : Fo φ a := ⟨i, ha⟩
  have ex : ∀ b, H b ≠ none -> upd H a o' b ≠ none := λ b h => by
    by_cases e : b = a
    · subst e; rw [upd_same]; exact λ z => by cases z
    · rw [upd_ne e]; exact h
  have kp : Kp (Fo φ) H (Fo φ) (upd H a o') := ⟨λ b u e n => by rw [upd_ne (λ z => n (by rw [z]; exact fa))]; exact e, λ b xs e => by
    rw [upd_ne]; exact e
    intro z; subst z; rw [hH] at e; exact nt xs (Option.some.inj e), λ b f => .inl f, ex⟩
  refine ⟨⟨λ j x e => ?_, r.dj, λ b f => ex b (r.ow b f), r.fi, λ b u e x => ?_, λ b x => ex b (r.xo b x), λ b xs e => kp.tk b xs (r.tk b xs e), r.ii, by rw [List.length_set]; exact r.len⟩, kp⟩
  · rcases get_set e with ⟨rfl, e, hlt⟩ | ⟨ne, e⟩
    · cases e
      refine ⟨v, k, hv, hk, ?_⟩
      obtain ⟨v', k', h1, h2, h3⟩ := r.sl i d hd
      rw [hk] at h2
      cases h2
      rcases ho with rfl | rfl
      · exact ⟨hs, h3.2⟩
      · exact hs
    · obtain ⟨u, k', h1, h2, h3⟩ := r.sl j x e
      refine ⟨u, k', h1, h2, h3.mono kp λ b m u' e' => ?_⟩
      rw [upd_ne]; exact e'
      intro z; subst z; exact ne (r.dj i j b ha m)
  · rw [upd_ne]; exact r.fr b u e x
    intro z
    subst z
    rcases r.fi b fa with q | q
    · rw [q] at e; cases e
    · exact x q
theorem Rs.own {K : PySem.W.Frag} {φ : Nat -> List Addr} {σ : St} {H : Hp} {δ : DS} {i : Nat} {k : Kd} {d : D} (r : Rs K C κ φ σ H δ) (ho : k = .o \/ k = .i) (hk : κ[i]? = some k) (hd : δ[i]? = some (some d)) : ∃ v, σ[i]? = some (some v) /\ Own K C.cl H (Sk C (Fo φ) .s) (φ i) v d := by
  obtain ⟨v, k', h1, h2, h3⟩ := r.sl i d hd
  rw [hk] at h2
  cases h2
  rcases ho with rfl | rfl
  · exact ⟨v, h1, h3.1⟩
  · exact ⟨v, h1, h3⟩
theorem own_put {K : PySem.W.Frag} {φ : Nat -> List Addr} {H : Hp} {a : Addr} {i : Nat} {o o' : HO} {vs : List V} {ds : List D} (fa : a ∈ φ i) (hl : φ i = [a]) (hH : H a = some o) (nt : ∀ xs, o ≠ .tup xs) (w : Ats K C.cl H (Sk C (Fo φ) .s) vs ds) : Ats K C.cl (upd H a o') (λ b => Sk C (Fo φ) .s b /\ b ∉ φ i) vs ds :=
  w.mono (λ b xs e => by
    rw [upd_ne]; exact e
    intro z; subst z; rw [hH] at e; exact nt xs (Option.some.inj e)) (λ b u z e => by rw [upd_ne (λ q => z.2 ⟨i, by rw [q]; exact fa⟩)]; exact e) λ b z o_ => ⟨z, λ m => z.2 ⟨i, m⟩⟩
set_option tactic.hygienic true in
theorem ds_app (i : Nat) {x : Str} {k : Kd} {p1 apos cpos : Pos} (ho : k = .o \/ k = .i) (hk : κ[i]? = some k) (h : DE X C κ .s fr e ge) (hN : X.N[i]? = some x := by rfl) (hv : Vis X.env.scope x := by first | exact Or.inl rfl | exact Or.inr (Or.inl rfl) | exact Or.inr (Or.inr rfl)) (hd : (x == ("__debug__" : Str)) = false := by decide)
    (hcd : (x == ("__classdict__" : Str)) = false := by decide)
    (hbase : attributeBase (.Name x p1) "append" X.env (eval (.Name x p1) X.env) = eval (.Name x p1) X.env := by rfl)
    (hfew : ((backTo cpos (starEach [e] X.env)).all (λ x => !x.1) && (backToKw cpos (keywordEach [] X.env)).all (λ x => x.1.isSome)
      && decide ([e].length + ([] : List Keyword).length + (if ([] : List Keyword).isEmpty then 0 else 1) < 30)) = true := by rfl)
    (hline : (apos.endLine == cpos.line) = true := by rfl) (hs : starEach [e] X.env = (false, eval e X.env) :: starEach [] X.env := by rfl) (hplain : (backTo cpos (starEach [] X.env)).any (·.1) = false := by rfl)
    (hsw : swapsWith (.Call (.Attribute (.Name x p1) "append" apos) [e] [] cpos) none pos.line X.env = pure false := by rfl) :
    DSt X C L κ κ (.Expr (.Call (.Attribute (.Name x p1) "append" apos) [e] [] cpos) pos) (gApp i ge) := by
  obtain ⟨t, pt, dt⟩ := h
  refine ⟨_, ps_expr (pe_bm PySem.F.plainAttrs_list PySem.F.slot_list_append PySem.F.type_list_append mt_append (pe_var hN hv hd hcd) (pa_cons pt pa_nil hs) hbase hfew hline hs hplain) hsw, λ φ σ H δ r D p => ?_⟩
  obtain ⟨d, e1, p⟩ := post_bind (T := FinS X.K C L κ (Fo φ) H D) (λ o_ o_ q => q) (λ q => q) p
  split at p
  · rename_i xs q
    obtain ⟨hz, p⟩ := post_guard (T := FinS X.K C L κ (Fo φ) H D) (λ z => z) p
    obtain ⟨v, hvv, a, vs, rfl, hl, hH, w⟩ := r.own ho hk q
    refine ⟨.ref a, hvv, .inl ⟨rfl, vs, SqL.of hH⟩, dt (Fo φ) σ H δ r.rx _ ?_⟩
    rw [e1]
    intro u H1 s1 a1 _
    have r1 := r.same s1
    have hH1 := s1 _ _ hH
    have ha : a ∈ φ i := by rw [hl]; exact List.mem_cons_self
    refine ⟨a, vs, u, rfl, rfl, hH1, by rw [w.length]; exact hz, ?_⟩
    have nt : ∀ xs, HO.lst vs ≠ .tup xs := λ o_ z => by cases z
    have w1 : Ats X.K C.cl H1 (Sk C (Fo φ) .s) (vs ++ [u]) (xs ++ [d]) := ((w.same s1).sub λ b z o_ => z.1).append (Ats.cons a1 Ats.nil)
    obtain ⟨r2, kp⟩ := r1.write (o' := .lst (vs ++ [u])) (d' := .lst (xs ++ [d])) ho hk hvv q ha hH1 nt ⟨a, vs ++ [u], rfl, hl, upd_same, own_put ha hl hH1 nt w1⟩
    exact p φ σ _ r2 ((Kp.of s1 λ a f => .inl f).trans kp)
  · exact p.elim
theorem ps_or {t1 t2 : TS} (h1 : PS X st t1) (h2 : PS X st t2) : PS X st (λ D σ H => t1 D σ H \/ t2 D σ H) := by
  intro pins s σ H D I h
  rcases h with h | h
  · exact h1 pins s σ H D I h
  · exact h2 pins s σ H D I h
theorem at_key {K : PySem.W.Frag} {cl : Nat -> Addr} {H : Hp} {S : Addr -> Prop} {v : V} {d : D} {k : Ky} (a : At K cl H S v d) (e : keyD d = some k) : v = kV k := by
  cases d with
  | int i => rw [At] at a; cases e; exact a
  | str x => rw [At] at a; cases e; exact a
  | _ => cases e
set_option tactic.hygienic true in
theorem ds_put (i : Nat) {x : Str} {k : Kd} {ek : Expr} {p1 pos' : Pos} (ho : k = .o \/ k = .i) (hk : κ[i]? = some k) (hu : X.A.units + 64 < cLine) (hkey : DE X C κ .v fk ek gk) (h : DE X C κ .s fr e ge) (hN : X.N[i]? = some x := by rfl) (hv : Vis X.env.scope x := by first | exact Or.inl rfl | exact Or.inr (Or.inl rfl) | exact Or.inr (Or.inr rfl)) (hd : (x == ("__debug__" : Str)) = false := by decide)
    (hcd : (x == ("__classdict__" : Str)) = false := by decide) (hs : swapsWith e (some (.Subscript (.Name x p1) ek pos')) pos.line X.env = pure false := by rfl)
    (hs1 : swapsWithSole [.Subscript (.Name x p1) ek pos'] e pos.line X.env = pure false := by rfl) (hw : swappedStores [.Subscript (.Name x p1) ek pos'] e X.env = pure none := by rfl)
    (h1 : (assignEach [.Subscript (.Name x p1) ek pos'] X.env).map (·.2) = [assign (.Subscript (.Name x p1) ek pos') X.env] := by rfl)
    (has : ∀ v, assign (.Subscript (.Name x p1) ek pos') X.env v = (do
      let ov <- holding [v] (eval (.Name x p1) X.env)
      let iv <- holding [v, ov] (eval ek X.env)
      standAt pos'
      holding [v, ov, iv] (setItem ov iv v)
      release [v, ov, iv] []) := by intro _; rfl) :
    DSt X C L κ κ (.Assign [.Subscript (.Name x p1) ek pos'] e pos) (gPut i gk ge) := by
  obtain ⟨t, pt, dt⟩ := h
  obtain ⟨u, pu, du⟩ := hkey
  refine ⟨_, ps_or (ps_dput (by omega) (pe_var hN hv hd hcd) pu pt hs) (ps_asg pt (pg_sub (pe_var hN hv hd hcd) pu set_list has) hs1 hw h1), λ φ σ H δ r D p => ?_⟩
  obtain ⟨d, e1, p⟩ := post_bind (T := FinS X.K C L κ (Fo φ) H D) (λ o_ o_ q => q) (λ q => q) p
  obtain ⟨dk, e2, p⟩ := post_bind (T := FinS X.K C L κ (Fo φ) H D) (λ o_ o_ q => q) (λ q => q) p
  split at p
  · rename_i dx q
    obtain ⟨y, e3, p⟩ := post_bind (T := FinS X.K C L κ (Fo φ) H D) (λ o_ o_ q => q) (λ q => q) p
    cases dx with
    | dct ks ds =>
      have e3 : (match keyD dk with | some k => Rz.guard (ks.length < sizeLine) (.ok (putD ks ds k d)) | none => .un) = .ok y := e3
      cases ek' : keyD dk with
      | none => rw [ek'] at e3; cases e3
      | some kk =>
        rw [ek'] at e3
        obtain ⟨hz, e3⟩ := post_guard (T := λ r => r = Rz.ok y) (λ z => by cases z) e3
        cases e3
        obtain ⟨v, hvv, a, vs, rfl, hl, hH, kl, w⟩ := r.own ho hk q
        have ha : a ∈ φ i := by rw [hl]; exact List.mem_cons_self
        refine .inl (dt (Fo φ) σ H δ r.rx _ ?_)
        rw [e1]
        intro vv H1 s1 a1 _
        refine ⟨.ref a, hvv, du (Fo φ) σ H1 δ (r.same s1).rx _ ?_⟩
        rw [e2]
        intro vk H2 s2 a2 _
        have hvk := at_key a2 ek'
        subst hvk
        have s12 := s1.trans s2
        have r2 := r.same s12
        have hH2 := s12 _ _ hH
        have wl := w.length
        refine ⟨a, _, rfl, DPut.k (k := kk) hH2 (by rw [List.length_zip, kl, wl, Nat.min_self, <- kl]; exact hz), ?_⟩
        have nt : ∀ xs, HO.dK (ks.zip vs) ≠ .tup xs := λ o_ z => by cases z
        have w2 := (w.same s12).sub (S' := Sk C (Fo φ) .s) λ b z o_ => z.1
        have a1' := a1.same s2
        have own : Own X.K C.cl (upd H2 a (.dK (putK (ks.zip vs) kk vv))) (Sk C (Fo φ) .s) (φ i) (.ref a) (putD ks ds kk d) := by
          unfold putD putK
          rw [any_zip kk ks vs (by omega)]
          by_cases c : (ks.any λ x => decide (x = kk)) = true
          · rw [if_pos c, if_pos c, map_zip]
            exact ⟨a, _, rfl, hl, upd_same, by rw [setK_len]; exact kl, own_put ha hl hH2 nt (w2.setK a1')⟩
          · rw [if_neg c, if_neg c]
            refine ⟨a, vs ++ [vv], rfl, hl, ?_, by rw [List.length_append, List.length_append, kl]; rfl, own_put ha hl hH2 nt (w2.append (Ats.cons a1' Ats.nil))⟩
            rw [upd_same, List.zip_append (by omega)]
            rfl
        obtain ⟨r3, kp⟩ := r2.write ho hk hvv q ha hH2 nt own
        exact p φ σ _ r3 ((Kp.of s12 λ a f => .inl f).trans kp)
    | lst xs =>
      cases dk with
      | int j =>
        have e3 : (match ixD xs.length j with | some n => Rz.ok (Dl.D.lst (xs.set n d)) | none => .un) = .ok y := e3
        cases ej : ixD xs.length j with
        | none => rw [ej] at e3; cases e3
        | some n =>
          rw [ej] at e3
          cases e3
          obtain ⟨v, hvv, a, vs, rfl, hl, hH, w⟩ := r.own ho hk q
          have ha : a ∈ φ i := by rw [hl]; exact List.mem_cons_self
          refine .inr (dt (Fo φ) σ H δ r.rx _ ?_)
          rw [e1]
          intro vv H1 s1 a1 _
          refine ⟨.ref a, hvv, du (Fo φ) σ H1 δ (r.same s1).rx _ ?_⟩
          rw [e2]
          intro vk H2 s2 a2 _
          rw [At] at a2
          subst a2
          have s12 := s1.trans s2
          have r2 := r.same s12
          have hH2 := s12 _ _ hH
          have wl := w.length
          refine ⟨a, vs, j, n, rfl, rfl, hH2, by rw [wl]; exact ej, ?_⟩
          have nt : ∀ xs, HO.lst vs ≠ .tup xs := λ o_ z => by cases z
          have w2 := ((w.same s12).sub (S' := Sk C (Fo φ) .s) λ b z o_ => z.1).set (a1.same s2) n
          obtain ⟨r3, kp⟩ := r2.write (o' := .lst (vs.set n vv)) (d' := .lst (xs.set n d)) ho hk hvv q ha hH2 nt ⟨a, _, rfl, hl, upd_same, own_put ha hl hH2 nt w2⟩
          exact p φ σ _ r3 ((Kp.of s12 λ a f => .inl f).trans kp)
      | _ => cases e3
    | _ => cases e3
  · exact p.elim
end
end Dl
namespace Dl
open PySem L2 PyProof.Rows
theorem OpR.or {X : Cx} {f : Value -> Value -> Sem Value} {r r' : R2} (h : OpR X f r) (h' : OpR X f r') : OpR X f (λ x y H Q => r x y H Q \/ r' x y H Q) := by
  intro pins s σ H x y v u Q I rx ry q
  rcases q with q | q
  · exact h pins s σ H x y v u Q I rx ry q
  · exact h' pins s σ H x y v u Q I rx ry q
theorem CallR.or {X : Cx} {f : Value} {r r' : List V -> Hp -> VK -> Prop} (h : CallR X f r) (h' : CallR X f r') : CallR X f (λ xs H Q => r xs H Q \/ r' xs H Q) := by
  intro pins s σ H xs us Q I rs q
  rcases q with q | q
  · exact h pins s σ H xs us Q I rs q
  · exact h' pins s σ H xs us Q I rs q
section
variable {X : Cx} {C : Dc} {K : PySem.W.Frag} {cl : Nat -> Addr}
theorem ok_un {α : Type} {a : α} : ¬ (Rz.un = Rz.ok a) := λ z => by cases z
theorem guard_ok {α : Type} {c : Prop} [Decidable c] {r : Rz α} {a : α} (h : Rz.guard c r = .ok a) : c /\ r = .ok a := post_guard (T := λ r => r = Rz.ok a) ok_un h
theorem opS_add : OpS K cl (λ x y H Q => rI0 (λ i j => .int (i + j)) x y H Q \/ ∃ i j, x = .str i /\ y = .str j /\ i.length + j.length <= sizeLine /\ Q (.str (i ++ j)) H) dAddS := by
  intro H S x y dx dy Q ax ay p
  cases dx with
  | int i => cases dy with
    | int j => rw [At] at ax ay; subst ax ay; exact .inl ⟨i, j, rfl, rfl, p.2 _ H (Same.refl H) λ o_ => by rw [At]⟩
    | _ => exact p.elim
  | str i => cases dy with
    | str j =>
      rw [At] at ax ay; subst ax ay
      by_cases h : i.length + j.length <= sizeLine
      · simp only [dAddS, guard_pos h] at p
        exact .inr ⟨i, j, rfl, rfl, h, p.2 _ H (Same.refl H) λ o_ => by rw [At]⟩
      · simp only [dAddS, Rz.guard, if_neg h] at p
    | _ => exact p.elim
  | _ => exact p.elim
theorem mt_imm {f : Int -> Int -> Rz D} (h : ∀ i j d, f i j = .ok d -> d.imm = true) : ∀ (x y : D) (d : D), (match x, y with | .int i, .int j => f i j | _, _ => (.un : Rz D)) = .ok d -> d.imm = true := λ x y d q => by
  cases x with
  | int i => cases y with
    | int j => exact h i j d q
    | _ => cases q
  | _ => cases q
theorem mt_imm2 {f : Int -> Int -> Rz D} {g : Str -> Str -> Rz D} (h : ∀ i j d, f i j = .ok d -> d.imm = true) (k : ∀ i j d, g i j = .ok d -> d.imm = true) : ∀ (x y : D) (d : D), (match x, y with | .int i, .int j => f i j | .str i, .str j => g i j | _, _ => (.un : Rz D)) = .ok d -> d.imm = true := λ x y d q => by
  cases x with
  | int i => cases y with
    | int j => exact h i j d q
    | _ => cases q
  | str i => cases y with
    | str j => exact k i j d q
    | _ => cases q
  | _ => cases q
theorem ok_imm {a d : D} (i : a.imm = true) (h : Rz.ok a = .ok d) : d.imm = true := by
  cases h; exact i
theorem gok_imm {p : Prop} [Decidable p] {a d : D} (i : a.imm = true) (h : Rz.guard p (.ok a) = .ok d) : d.imm = true := ok_imm i (guard_ok h).2
theorem addS_imm : ∀ x y d, dAddS x y = .ok d -> d.imm = true := mt_imm2 (λ o_ o_ o_ => ok_imm rfl) λ o_ o_ o_ => gok_imm rfl
theorem opD_add : OpD K cl (λ x y H Q => (rI0 (λ i j => .int (i + j)) x y H Q \/ ∃ i j, x = .str i /\ y = .str j /\ i.length + j.length <= sizeLine /\ Q (.str (i ++ j)) H) \/
    (∃ l b xs zs, x = .ref l /\ y = .ref b /\ Rd H l (.lst xs) /\ Rd H b (.lst zs) /\ xs.length + zs.length <= sizeLine /\ ∀ p, H p = none -> Q (.ref p) (upd H p (.lst (xs ++ zs)))) \/ rCatT K x y H Q) dAdd := by
  intro H S x y dx dy Q cs ax ay p
  cases dx with
  | int i => cases dy with
    | int j => rw [At] at ax ay; subst ax ay; exact .inl (.inl ⟨i, j, rfl, rfl, p _ H (Same.refl H) (by rw [At]) (Nw.small rfl)⟩)
    | _ => exact p.elim
  | str i => cases dy with
    | str j =>
      rw [At] at ax ay; subst ax ay
      obtain ⟨h, p⟩ := post_guard (T := PostS K cl S H Q) (λ z => z) p
      exact .inl (.inr ⟨i, j, rfl, rfl, h, p _ H (Same.refl H) (by rw [At]) (Nw.small rfl)⟩)
    | _ => exact p.elim
  | lst xs => cases dy with
    | lst ys =>
      rw [At] at ax ay
      obtain ⟨a, vs, rfl, sa, ha, wa⟩ := ax
      obtain ⟨b, us, rfl, sb, hb, wb⟩ := ay
      obtain ⟨h, p⟩ := post_guard (T := PostS K cl S H Q) (λ z => z) p
      refine .inr (.inl ⟨a, b, vs, us, rfl, rfl, ha, hb, by rw [wa.length, wb.length]; exact h, λ q hq => ?_⟩)
      obtain ⟨q1, q2⟩ := own_lst hq (wa.append wb) (cs q hq)
      exact p _ _ (same_new' hq _) q1 q2
    | _ => exact p.elim
  | tup xs => cases dy with
    | tup ys =>
      rw [At] at ax ay
      obtain ⟨a, vs, rfl, ha, wa⟩ := ax
      obtain ⟨b, us, rfl, hb, wb⟩ := ay
      obtain ⟨⟨h0, h⟩, p⟩ := post_guard (T := PostS K cl S H Q) (λ z => z) p
      have hne : vs ≠ [] := λ z => by
        have := wa.length
        rw [z] at this
        cases xs with
        | nil => exact h0 rfl
        | cons _ _ => simp at this
      refine .inr (.inr ⟨a, b, vs, us, rfl, rfl, SqT.of ha, SqT.of hb, hne, by rw [wa.length, wb.length]; exact h, λ z => ?_, λ z q hq => ?_⟩)
      · subst z
        have : ys = [] := by have := wb.length; cases ys with | nil => rfl | cons _ _ => simp at this
        subst this
        refine p _ H (Same.refl H) ?_ (Nw.small rfl)
        rw [At]
        exact ⟨a, vs, rfl, ha, by rw [List.append_nil]; exact wa⟩
      · refine p _ _ (same_new' hq _) ?_ (Nw.small rfl)
        rw [At]
        exact ⟨q, vs ++ us, rfl, upd_same, (wa.append wb).same (same_new' hq _)⟩
    | _ => exact p.elim
  | _ => exact p.elim
theorem opS_I {r : R2} {p : D -> D -> Rz D} {G : Int -> Int -> Prop} [∀ i j, Decidable (G i j)] {f : Int -> Int -> V} {fd : Int -> Int -> D} (hf : ∀ i j (H : Hp) S, At K cl H S (f i j) (fd i j)) (hr : ∀ x y H Q, (∃ i j, x = V.int i /\ y = V.int j /\ G i j /\ Q (f i j) H) -> r x y H Q)
    (hp : ∀ i j, p (.int i) (.int j) = .guard (G i j) (.ok (fd i j))) (hn : ∀ x y, (∀ i j, ¬ (x = D.int i /\ y = D.int j)) -> p x y = .un) : OpS K cl r p := by
  intro H S x y dx dy Q ax ay z
  by_cases c : ∃ i j, dx = D.int i /\ dy = D.int j
  · obtain ⟨i, j, rfl, rfl⟩ := c
    rw [At] at ax ay
    subst ax ay
    rw [hp] at z
    by_cases g : G i j
    · rw [guard_pos g] at z
      exact hr _ _ _ _ ⟨i, j, rfl, rfl, g, z.2 _ H (Same.refl H) λ S' => hf i j H S'⟩
    · unfold Rz.guard at z
      rw [if_neg g] at z
      exact z.elim
  · rw [hn dx dy λ i j q => c ⟨i, j, q.1, q.2⟩] at z
    exact z.elim
theorem noint {x y : D} {p : D -> D -> Rz D} (h : ∀ i j, ¬ (x = D.int i /\ y = D.int j)) (h1 : ∀ x y, (∀ i, x ≠ .int i) -> p x y = .un) (h2 : ∀ i y, (∀ j, y ≠ .int j) -> p (.int i) y = .un) : p x y = .un := by
  by_cases c : ∃ i, x = D.int i
  · obtain ⟨i, rfl⟩ := c
    exact h2 i y λ j q => h i j ⟨rfl, q⟩
  · exact h1 x y λ i q => c ⟨i, q⟩
theorem at_int (i : Int) (H : Hp) (S : Addr -> Prop) : At K cl H S (.int i) (.int i) := by rw [At]
theorem at_bl (i : Bool) (H : Hp) (S : Addr -> Prop) : At K cl H S (.bl i) (.bl i) := by rw [At]
theorem opS_sub : OpS K cl (rI0 λ i j => .int (i - j)) dSub := by
  refine opS_I (G := λ o_ o_ => True) (f := λ i j => .int (i - j)) (fd := λ i j => .int (i - j)) (λ i j H S => at_int _ H S) (λ x y H Q ⟨i, j, h1, h2, o1_, q⟩ => ⟨i, j, h1, h2, q⟩) (λ i j => (guard_pos trivial).symm) λ x y h => noint h (λ x y h => ?_) λ i y h => ?_
  · cases x <;> first | rfl | exact absurd rfl (h _)
  · cases y <;> first | rfl | exact absurd rfl (h _)
theorem opS_mul : OpS K cl (rI CMul λ i j => .int (i * j)) dMul := by
  refine opS_I (G := λ i j => (-(2 ^ 64) < i /\ i < 2 ^ 64) \/ (-(2 ^ 64) < j /\ j < 2 ^ 64)) (f := λ i j => .int (i * j)) (fd := λ i j => .int (i * j)) (λ i j H S => at_int _ H S) (λ x y H Q ⟨i, j, h1, h2, g, q⟩ => ⟨i, j, h1, h2, g, q⟩) (λ i j => rfl) λ x y h => noint h (λ x y h => ?_) λ i y h => ?_
  · cases x <;> first | rfl | exact absurd rfl (h _)
  · cases y <;> first | rfl | exact absurd rfl (h _)
theorem opS_div : OpS K cl (rI CDiv λ i j => .int (i / j)) dDiv := by
  refine opS_I (G := λ i j => 0 < j /\ j < 1073741824) (f := λ i j => .int (i / j)) (fd := λ i j => .int (i / j)) (λ i j H S => at_int _ H S) (λ x y H Q ⟨i, j, h1, h2, g, q⟩ => ⟨i, j, h1, h2, g, q⟩) (λ i j => rfl) λ x y h => noint h (λ x y h => ?_) λ i y h => ?_
  · cases x <;> first | rfl | exact absurd rfl (h _)
  · cases y <;> first | rfl | exact absurd rfl (h _)
theorem opS_mod : OpS K cl (rI (λ o_ j => 0 < j) λ i j => .int (i % j)) dMod := by
  refine opS_I (G := λ i j => 0 < j) (f := λ i j => .int (i % j)) (fd := λ i j => .int (i % j)) (λ i j H S => at_int _ H S) (λ x y H Q ⟨i, j, h1, h2, g, q⟩ => ⟨i, j, h1, h2, g, q⟩) (λ i j => rfl) λ x y h => noint h (λ x y h => ?_) λ i y h => ?_
  · cases x <;> first | rfl | exact absurd rfl (h _)
  · cases y <;> first | rfl | exact absurd rfl (h _)
theorem opS_lt : OpS K cl (rI0 λ i j => .bl (decide (i < j))) dLt := by
  refine opS_I (G := λ o_ o_ => True) (f := λ i j => .bl (decide (i < j))) (fd := λ i j => .bl (decide (i < j))) (λ i j H S => at_bl _ H S) (λ x y H Q ⟨i, j, h1, h2, o1_, q⟩ => ⟨i, j, h1, h2, q⟩) (λ i j => (guard_pos trivial).symm) λ x y h => noint h (λ x y h => ?_) λ i y h => ?_
  · cases x <;> first | rfl | exact absurd rfl (h _)
  · cases y <;> first | rfl | exact absurd rfl (h _)
theorem opS_le : OpS K cl (λ x y H Q => rI0 (λ i j => .bl (decide (i <= j))) x y H Q \/ ∃ i j, x = .str i /\ y = .str j /\ Q (.bl (!decide (j.cps.toList < i.cps.toList))) H) dLe := by
  intro H S x y dx dy Q ax ay p
  cases dx with
  | int i => cases dy with
    | int j => rw [At] at ax ay; subst ax ay; exact .inl ⟨i, j, rfl, rfl, p.2 _ H (Same.refl H) λ o_ => by rw [At]⟩
    | _ => exact p.elim
  | str i => cases dy with
    | str j => rw [At] at ax ay; subst ax ay; exact .inr ⟨i, j, rfl, rfl, p.2 _ H (Same.refl H) λ o_ => by rw [At]⟩
    | _ => exact p.elim
  | _ => exact p.elim
theorem op_leU : OpR X (compareOp .LtE) (λ x y H Q => rI0 (λ i j => .bl (decide (i <= j))) x y H Q \/ ∃ i j, x = .str i /\ y = .str j /\ Q (.bl (!decide (j.cps.toList < i.cps.toList))) H) := OpR.or op_le op_le_str
theorem opS_gt : OpS K cl (rI0 λ i j => .bl (decide (j < i))) dGt := by
  refine opS_I (G := λ o_ o_ => True) (f := λ i j => .bl (decide (j < i))) (fd := λ i j => .bl (decide (j < i))) (λ i j H S => at_bl _ H S) (λ x y H Q ⟨i, j, h1, h2, o1_, q⟩ => ⟨i, j, h1, h2, q⟩) (λ i j => (guard_pos trivial).symm) λ x y h => noint h (λ x y h => ?_) λ i y h => ?_
  · cases x <;> first | rfl | exact absurd rfl (h _)
  · cases y <;> first | rfl | exact absurd rfl (h _)
theorem opS_ge : OpS K cl (λ x y H Q => rI0 (λ i j => .bl (decide (j <= i))) x y H Q \/ ∃ i j, x = .str i /\ y = .str j /\ Q (.bl (!decide (i.cps.toList < j.cps.toList))) H) dGe := by
  intro H S x y dx dy Q ax ay p
  cases dx with
  | int i => cases dy with
    | int j => rw [At] at ax ay; subst ax ay; exact .inl ⟨i, j, rfl, rfl, p.2 _ H (Same.refl H) λ o_ => by rw [At]⟩
    | _ => exact p.elim
  | str i => cases dy with
    | str j => rw [At] at ax ay; subst ax ay; exact .inr ⟨i, j, rfl, rfl, p.2 _ H (Same.refl H) λ o_ => by rw [At]⟩
    | _ => exact p.elim
  | _ => exact p.elim
theorem op_geU : OpR X (compareOp .GtE) (λ x y H Q => rI0 (λ i j => .bl (decide (j <= i))) x y H Q \/ ∃ i j, x = .str i /\ y = .str j /\ Q (.bl (!decide (i.cps.toList < j.cps.toList))) H) := OpR.or op_ge op_ge_str
theorem sub_imm : ∀ x y d, dSub x y = .ok d -> d.imm = true := mt_imm λ o_ o_ o_ => ok_imm rfl
theorem mul_imm : ∀ x y d, dMul x y = .ok d -> d.imm = true := mt_imm λ o_ o_ o_ => gok_imm rfl
theorem div_imm : ∀ x y d, dDiv x y = .ok d -> d.imm = true := mt_imm λ o_ o_ o_ => gok_imm rfl
theorem mod_imm : ∀ x y d, dMod x y = .ok d -> d.imm = true := mt_imm λ o_ o_ o_ => gok_imm rfl
theorem lt_imm : ∀ x y d, dLt x y = .ok d -> d.imm = true := mt_imm λ o_ o_ o_ => ok_imm rfl
theorem le_imm : ∀ x y d, dLe x y = .ok d -> d.imm = true := mt_imm2 (λ o_ o_ o_ => ok_imm rfl) λ o_ o_ o_ => ok_imm rfl
theorem gt_imm : ∀ x y d, dGt x y = .ok d -> d.imm = true := mt_imm λ o_ o_ o_ => ok_imm rfl
theorem ge_imm : ∀ x y d, dGe x y = .ok d -> d.imm = true := mt_imm2 (λ o_ o_ o_ => ok_imm rfl) λ o_ o_ o_ => ok_imm rfl
theorem ats_at {H : Hp} {S : Addr -> Prop} {vs : List V} {ds : List D} {i : Int} {d : D} (w : Ats K cl H S vs ds) (e : atD ds i = some d) : ∃ v, atI vs i = some v /\ At K cl H S v d := by
  unfold atD at e
  unfold atI
  rw [w.length]
  show ∃ v, (ixD ds.length i).bind (λ j => vs[j]?) = some v /\ _
  cases q : ixD ds.length i with
  | none => rw [q] at e; cases e
  | some j =>
    rw [q] at e
    exact w.get e
theorem ixSeq {H : Hp} {S : Addr -> Prop} {x y : V} {dx dy : D} {Q : VK} (nd : ∀ ks ds, dx ≠ .dct ks ds) (ax : At K cl H S x dx) (ay : At K cl H (λ o_ => True) y dy) (p : match dIx dx dy with | .ok d => ∀ v, At K cl H S v d -> Q v H | _ => False) : rIx K x y H Q := by
  cases dx with
  | lst xs => cases dy with
    | int i =>
      rw [At] at ax
      rw [At] at ay
      obtain ⟨a, vs, rfl, sa, ha, w⟩ := ax
      subst ay
      have p : match optR (atD xs i) with | .ok d => ∀ v, At K cl H S v d -> Q v H | _ => False := p
      cases e : atD xs i with
      | none => rw [e] at p; exact p.elim
      | some d =>
        rw [e] at p
        obtain ⟨v, h1, h2⟩ := ats_at w e
        exact .inl ⟨a, vs, i, v, rfl, rfl, .inl ha, h1, p v h2⟩
    | _ => exact p.elim
  | tup xs => cases dy with
    | int i =>
      rw [At] at ax
      rw [At] at ay
      obtain ⟨a, vs, rfl, ha, w⟩ := ax
      subst ay
      have p : match optR (atD xs i) with | .ok d => ∀ v, At K cl H S v d -> Q v H | _ => False := p
      cases e : atD xs i with
      | none => rw [e] at p; exact p.elim
      | some d =>
        rw [e] at p
        obtain ⟨v, h1, h2⟩ := ats_at w e
        exact .inr (.inl ⟨a, vs, i, v, rfl, rfl, SqT.of ha, h1, p v h2⟩)
    | _ => exact p.elim
  | str z => cases dy with
    | int i =>
      rw [At] at ax
      rw [At] at ay
      subst ax ay
      have p : match Rz.guard (z.length <= sizeLine) ((optR (atD z.cps.toList i)).bind λ c => .ok (.str ⟨#[c]⟩)) with | .ok d => ∀ v, At K cl H S v d -> Q v H | _ => False := p
      by_cases hz : z.length <= sizeLine
      · rw [guard_pos hz] at p
        cases e : atD z.cps.toList i with
        | none => rw [e] at p; exact p.elim
        | some c =>
          rw [e] at p
          exact .inr (.inr ⟨z, i, c, rfl, rfl, hz, e, p _ (by rw [At])⟩)
      · unfold Rz.guard at p
        rw [if_neg hz] at p
        exact p.elim
    | _ => exact p.elim
  | dct ks ds => exact absurd rfl (nd ks ds)
  | _ => exact p.elim
theorem ixDct {H : Hp} {S : Addr -> Prop} {x y : V} {ks : List Ky} {ds : List D} {dy : D} {Q : VK} (ax : At K cl H S x (.dct ks ds)) (ay : At K cl H (λ o_ => True) y dy) (p : match dIx (.dct ks ds) dy with | .ok d => ∀ v, At K cl H S v d -> Q v H | _ => False) : ∃ a v, x = .ref a /\ DGet H a y (some v) /\ Q v H := by
  have fin : ∀ k : Ky, y = kV k -> (match optR (valD k ks ds) with | .ok d => ∀ v, At K cl H S v d -> Q v H | _ => False) -> ∃ a v, x = .ref a /\ DGet H a y (some v) /\ Q v H := λ k ey p => by
    rw [At] at ax
    obtain ⟨a, vs, rfl, sa, ha, l, w⟩ := ax
    cases e : valD k ks ds with
    | none => rw [e] at p; exact p.elim
    | some d =>
      rw [e] at p
      obtain ⟨v, h1, h2⟩ := w.val e
      refine ⟨a, v, rfl, ?_, p v h2⟩
      rw [ey, <- h1, <- val_zip]
      exact DGet.k ha
  cases dy with
  | int i => rw [At] at ay; exact fin (.inl i) ay p
  | str i => rw [At] at ay; exact fin (.inr i) ay p
  | _ => exact p.elim
section
variable {κ : List Kd} {m : Kd} {fr fa fb : Bool} {a b e : Expr} {es : List Expr} {ga gb ge : GE} {gs : GA} {pos p : Pos}
theorem pe_or' {t1 t2 : TE} (h1 : PE X e t1) (h2 : PE X e t2) : PE X e (λ σ H Q => t1 σ H Q \/ t2 σ H Q) := by
  intro pins s σ H Q I h
  rcases h with h | h
  · exact h1 pins s σ H Q I h
  · exact h2 pins s σ H Q I h
theorem de_item (hu : X.A.units + 64 < cLine) (ha : DE X C κ m fa a ga) (hb : DE X C κ .v fb b gb) (hs : PlainIx b) (hs2 : NoSl b) : DE X C κ m false (.Subscript a b pos) (gOp dIx ga gb) := by
  obtain ⟨ta, pa, da⟩ := ha
  obtain ⟨tb, pb, db⟩ := hb
  refine ⟨_, pe_or' (pe_ix ix_seq pa pb hs) (pe_dget (by omega) pa pb hs2), λ F σ H δ rx Q z => ?_⟩
  obtain ⟨d1, e1, z⟩ := post_bind (T := Post X.K C F m false H Q) (λ o_ o_ q => q) (λ q => q) z
  obtain ⟨d2, e2, z⟩ := post_bind (T := Post X.K C F m false H Q) (λ o_ o_ q => q) (λ q => q) z
  have z2 : ∀ {H2 : Hp}, Same H H2 -> (match dIx d1 d2 with | .ok d => ∀ v, At X.K C.cl H2 (Sk C F m) v d -> Q v H2 | _ => False) := λ {H2} s => by
    cases q : dIx d1 d2 with
    | ok d => rw [q] at z; exact λ w aw => z w H2 s aw (λ z => by cases z)
    | er c s => rw [q] at z; exact z
    | un => rw [q] at z; exact z
  by_cases isd : ∃ ks ds, d1 = .dct ks ds
  · obtain ⟨ks, ds, rfl⟩ := isd
    refine .inr (da F σ H δ rx _ ?_)
    rw [e1]
    intro v H1 s1 a1 _
    refine db F σ H1 δ (rx.same s1) _ ?_
    rw [e2]
    intro u H2 s2 a2 _
    exact ixDct (a1.same s2) (a2.sub λ o_ o_ o_ => trivial) (z2 (s1.trans s2))
  · refine .inl (da F σ H δ rx _ ?_)
    rw [e1]
    intro v H1 s1 a1 _
    refine db F σ H1 δ (rx.same s1) _ ?_
    rw [e2]
    intro u H2 s2 a2 _
    exact ixSeq (λ ks ds q => isd ⟨ks, ds, q⟩) (a1.same s2) (a2.sub λ o_ o_ o_ => trivial) (z2 (s1.trans s2))
theorem do_none : DO X C κ none gON := ⟨_, po_none, λ F σ H δ rx Q z => z H (Same.refl H)⟩
theorem do_some (h : DE X C κ .v fa e ga) : DO X C κ (some e) (gOI ga) := by
  obtain ⟨ta, pa, da⟩ := h
  refine ⟨_, po_some pa, λ F σ H δ rx Q z => da F σ H δ rx _ ?_⟩
  obtain ⟨d1, e1, z⟩ := post_bind (T := PostO H Q) (λ o_ o_ q => q) (λ q => q) z
  rw [e1]
  intro v H1 s1 a1 _
  cases d1 with
  | int i => rw [At] at a1; exact ⟨i, a1, z H1 s1⟩
  | _ => exact z.elim
theorem SlR.or {r r' : V -> Option Int -> Option Int -> Hp -> VK -> Prop} (h : SlR X r) (h' : SlR X r') : SlR X (λ x lo hi H Q => r x lo hi H Q \/ r' x lo hi H Q) := by
  intro pins s σ H x v vl vu lo hi sl Q I rx hs pl pu q
  rcases q with q | q
  · exact h pins s σ H x v vl vu lo hi sl Q I rx hs pl pu q
  · exact h' pins s σ H x v vl vu lo hi sl Q I rx hs pl pu q
theorem sIxD_le (n d : Nat) (hd : d <= n) (o : Option Int) : sIxD n d o <= n := by
  cases o with
  | none => exact hd
  | some v =>
    show (if v < 0 then (v + (n : Int)).toNat else min v.toNat n) <= n
    split <;> omega
theorem idx_eq (lo hi : Option Int) (n : Nat) : PySem.Builtin.Str.strSliceIndices lo hi 1 n = (List.range (sIxD n n hi - sIxD n 0 lo)).map (sIxD n 0 lo + ·) := by
  have e : ∀ (o : Option Int) (d : Nat), d <= n -> (match o with | none => ((d : Nat) : Int) | some i => if (1 : Int) > 0 then max 0 (min (if i < 0 then i + (n : Int) else i) n) else max (-1) (min (if i < 0 then i + (n : Int) else i) ((n : Int) - 1))) = ((sIxD n d o : Nat) : Int) := by
    intro o d hd
    cases o with
    | none => rfl
    | some i =>
      show (if (1 : Int) > 0 then max 0 (min (if i < 0 then i + (n : Int) else i) n) else _) = (((if i < 0 then (i + (n : Int)).toNat else min i.toNat n) : Nat) : Int)
      rw [if_pos (by decide)]
      split <;> omega
  have h1 := e lo 0 (Nat.zero_le _)
  have h2 := e hi n (Nat.le_refl _)
  rw [<- sliceRange_one, <- h1, <- h2]
  rfl
set_option tactic.hygienic true in
theorem str_cut (z : Str) (lo hi : Option Int) : PySem.Txt.slice z lo hi = ⟨(cutD z.cps.toList lo hi).toArray⟩ := by
  have hl : z.cps.toList.length = z.length := by rw [Array.length_toList]; rfl
  have h1 : sIxD z.length 0 lo <= z.length := sIxD_le _ _ (Nat.zero_le _) _
  have h2 : sIxD z.length z.length hi <= z.length := sIxD_le _ _ (Nat.le_refl _) _
  unfold Txt.slice cutD
  rw [idx_eq, hl]
  split
  · rename_i h
    simp only [beq_self_eq_true, Bool.true_and, beq_iff_eq, List.length_map, List.length_range] at h
    by_cases e0 : z.length = 0
    · have : z.cps.toList = [] := List.eq_nil_of_length_eq_zero (by rw [hl]; exact e0)
      rw [this]
      have : z.cps = #[] := by rw [<- Array.toList_eq_nil_iff]; exact this
      cases z
      simp_all
    · have ha : sIxD z.length 0 lo = 0 := by omega
      have hb : sIxD z.length z.length hi = z.length := by omega
      rw [ha, hb, List.drop_zero, Nat.sub_zero, <- hl, List.take_length]
  · rw [pick_run]
theorem cut_ats {H : Hp} {S : Addr -> Prop} {vs : List V} {ds : List D} (w : Ats K cl H S vs ds) (lo hi : Option Int) : Ats K cl H S (cutV vs lo hi) (cutD ds lo hi) := by
  have e : cutV vs lo hi = (vs.drop (sIxD ds.length 0 lo)).take (sIxD ds.length ds.length hi - sIxD ds.length 0 lo) := by rw [<- w.length]; rfl
  rw [e]
  exact (w.drop _).take _
theorem de_slice {lo hi : Option Expr} {gl gh : DS -> Rz (Option Int)} {p2 : Pos} (ha : DE X C κ m fa a ga) (hl : DO X C κ lo gl) (hh : DO X C κ hi gh) : DE X C κ m true (.Subscript a (.Slice lo hi none p2) pos) (gSl ga gl gh) := by
  obtain ⟨ta, pa, da⟩ := ha
  obtain ⟨tl, pl, dl⟩ := hl
  obtain ⟨th, ph, dh⟩ := hh
  refine ⟨_, pe_slice (SlR.or sl_list sl_str) pa pl ph, λ F σ H δ rx Q z => da F σ H δ rx _ ?_⟩
  obtain ⟨d1, e1, z⟩ := post_bind (T := Post X.K C F m true H Q) (λ o_ o_ q => q) (λ q => q) z
  obtain ⟨d2, e2, z⟩ := post_bindG (T := Post X.K C F m true H Q) (λ o_ o_ q => q) (λ q => q) z
  obtain ⟨d3, e3, z⟩ := post_bindG (T := Post X.K C F m true H Q) (λ o_ o_ q => q) (λ q => q) z
  rw [e1]
  intro v H1 s1 a1 _
  refine dl F σ H1 δ (rx.same s1) _ ?_
  rw [e2]
  intro H2 s2
  refine dh F σ H2 δ (rx.same (s1.trans s2)) _ ?_
  rw [e3]
  intro H3 s3
  have s13 := (s1.trans s2).trans s3
  have a3 := a1.same (s2.trans s3)
  cases d1 with
  | lst xs =>
    rw [At] at a3
    obtain ⟨b, vs, rfl, sb, hb, w⟩ := a3
    refine .inl ⟨b, vs, rfl, .inl hb, λ q hq => ?_⟩
    obtain ⟨q1, q2⟩ := own_lst hq (cut_ats w d2 d3) ((rx.same s13).new m hq)
    exact z _ _ (s13.trans (same_new' hq _)) q1 λ o_ => q2.back s13
  | str x =>
    rw [At] at a3
    subst a3
    obtain ⟨hz, z⟩ := post_guard (T := Post X.K C F m true H Q) (λ z => z) z
    refine .inr ⟨x, rfl, hz, ?_⟩
    rw [str_cut]
    exact z _ H3 s13 (by rw [At]) λ o_ => Nw.small rfl
  | _ => exact z.elim
end
end
end Dl
namespace Dl
open PySem L2
section
variable {X : Cx} {C : Dc} {L : List Kd × List Nat} {κ κ' : List Kd} {m kx : Kd} {fr fa fb fe : Bool} {a b e elt iter : Expr} {ifs : List Expr} {es : List Expr} {ga gb ge : GE} {gi : GI} {gt : GT} {gs : GA} {pos p px : Pos} {x : Str} {caps : Caps} {sc : Scope}
noncomputable def DIfs (X : Cx) (C : Dc) (κ : List Kd) (ifs : List Expr) (g : GT) : Prop :=
  ∃ t, PIfs X ifs t /\ ∀ F σ H δ, Rx X.K C κ F σ H δ -> ∀ Q, PostT H Q (g δ) -> t σ H Q
theorem difs_nil : DIfs X C κ [] gYes := ⟨_, pifs_nil, λ F σ H δ r Q z => z H (Same.refl H)⟩
theorem difs_one {c : Expr} (h : DT X C κ c gt) : DIfs X C κ [c] gt := let ⟨t, p, q⟩ := h; ⟨t, pifs_one p, q⟩
noncomputable def capK (caps : Caps) (κ : List Kd) : List Kd := caps.map λ c => (κ[c.2]?).getD .v
theorem Rx.comp {K : PySem.W.Frag} {F : Addr -> Prop} {σ : St} {H : Hp} {δ : DS} {v : V} {d : D} (r : Rx K C κ F σ H δ) (a : At K C.cl H (Sk C F kx) v d) : Rx K C (kx :: capK caps κ) F (some v :: capσ caps σ) H (some d :: capD (caps.map (·.2)) δ) := by
  refine ⟨λ i d' e => ?_, r.old, r.ow⟩
  cases i with
  | zero =>
    have e : d = d' := Option.some.inj (Option.some.inj e)
    subst e
    exact ⟨v, kx, rfl, rfl, a⟩
  | succ i =>
    have e : (capD (caps.map (·.2)) δ)[i]? = some (some d') := e
    unfold capD at e
    rw [List.map_map, List.getElem?_map] at e
    cases q : caps[i]? with
    | none => rw [q] at e; cases e
    | some c =>
      rw [q] at e
      have e : (δ[c.2]?).join = some d' := Option.some.inj e
      have e2 : δ[c.2]? = some (some d') := by
        cases q2 : δ[c.2]? with
        | none => rw [q2] at e; cases e
        | some o => rw [q2] at e; have e : o = some d' := e; rw [e]
      obtain ⟨u, k, h1, h2, h3⟩ := r.sl _ _ e2
      refine ⟨u, k, ?_, ?_, h3⟩
      · show (capσ caps σ)[i]? = _
        unfold capσ
        rw [List.getElem?_map, q]
        show some ((σ[c.2]?).join) = _
        rw [h1]
        rfl
      · show (capK caps κ)[i]? = _
        unfold capK
        rw [List.getElem?_map, q]
        show some ((κ[c.2]?).getD .v) = _
        rw [h2]
        rfl
theorem compL_nil (cap : DS) : compL cap gt ge [] = .ok [] := by rw [compL]
theorem comp_turn {F : Addr -> Prop} {σ : St} {H1 H : Hp} {δ : DS} {tt : TT} {te : TE} {all rest : List D} {d : D} {v : V} {ys : List V} {N : List V -> Hp -> Prop}
    (dt : ∀ F σ H δ, Rx X.K C (kx :: capK caps κ) F σ H δ -> ∀ Q, PostT H Q (gt δ) -> tt σ H Q) (de : ∀ F σ H δ, Rx X.K C (kx :: capK caps κ) F σ H δ -> ∀ Q, Post X.K C F m fe H Q (ge δ) -> te σ H Q)
    (r : Rx X.K C κ F σ H1 δ) (s : Same H1 H) (av : At X.K C.cl H (Sk C F kx) v d) {ds : List D} (w : Ats X.K C.cl H (Sk C F m) ys ds) (hall : all.length <= sizeLine)
    (hc : ∃ q, compL (capD (caps.map (·.2)) δ) gt ge (d :: rest) = .ok q /\ ds ++ q = all)
    (hN : ∀ ys' H' ds', Same H1 H' -> Ats X.K C.cl H' (Sk C F m) ys' ds' -> (∃ q, compL (capD (caps.map (·.2)) δ) gt ge rest = .ok q /\ ds' ++ q = all) -> N ys' H') :
    tt (some v :: capσ caps σ) H λ b H3 => if b = true then te (some v :: capσ caps σ) H3 λ u H4 => ys.length < sizeLine /\ N (ys ++ [u]) H4 else N ys H3 := by
  obtain ⟨q, hq, hall'⟩ := hc
  rw [compL] at hq
  have r2 : Rx X.K C (kx :: capK caps κ) F (some v :: capσ caps σ) H (some d :: capD (caps.map (·.2)) δ) := (r.same s).comp av
  obtain ⟨k, e1, hq⟩ := post_bindG (T := λ r => r = Rz.ok q) (λ o_ o_ z => by cases z) (λ z => by cases z) hq
  refine dt F _ H _ r2 _ ?_
  rw [e1]
  intro H3 s3
  cases k with
  | false =>
    exact iteF (hN ys H3 ds (s.trans s3) (w.same s3) ⟨q, hq, hall'⟩)
  | true =>
    refine iteT ?_
    have hq : ((ge (some d :: capD (caps.map (·.2)) δ)).bind λ y => (compL (capD (caps.map (·.2)) δ) gt ge rest).bind λ ys => Rz.ok (y :: ys)) = Rz.ok q := hq
    obtain ⟨y, e2, hq⟩ := post_bind (T := λ r => r = Rz.ok q) (λ o_ o_ z => by cases z) (λ z => by cases z) hq
    obtain ⟨q', e3, hq⟩ := post_bindG (T := λ r => r = Rz.ok q) (λ o_ o_ z => by cases z) (λ z => by cases z) hq
    cases hq
    refine de F _ H3 _ (r2.same s3) _ ?_
    rw [e2]
    intro u H4 s4 a4 _
    refine ⟨?_, hN _ H4 (ds ++ [y]) ((s.trans s3).trans s4) ((w.same (s3.trans s4)).append (Ats.cons a4 Ats.nil)) ⟨q', e3, by rw [List.append_assoc]; exact hall'⟩⟩
    have h1 : (ds ++ y :: q').length <= sizeLine := by rw [hall']; exact hall
    rw [List.length_append, List.length_cons] at h1
    rw [w.length]
    omega
theorem comp_sem {wi : TI} {tt : CArg -> TT} {te : CArg -> TE} (dw : ∀ F σ H δ, Rx X.K C κ F σ H δ -> ∀ R, PostI X.K C F kx H R (gi δ) -> wi σ H R)
    (dt : ∀ z F σ H δ, Rx X.K C (kx :: capK caps κ) F σ H δ -> ∀ Q, PostT H Q (gt δ) -> tt z σ H Q) (de : ∀ z F σ H δ, Rx X.K C (kx :: capK caps κ) F σ H δ -> ∀ Q, Post X.K C F m fe H Q (ge δ) -> te z σ H Q) :
    ∀ F σ H δ, Rx X.K C κ F σ H δ -> ∀ Q, Post X.K C F m true H Q (gComp gi (caps.map (·.2)) gt ge δ) -> tComp caps wi tt te σ H Q := by
  intro F σ H δ r Q z
  refine dw F σ H δ r _ ?_
  obtain ⟨xs, e1, z⟩ := post_bindG (T := Post X.K C F m true H Q) (λ o_ o_ q => q) (λ q => q) z
  obtain ⟨all, e2, z⟩ := post_bindG (T := Post X.K C F m true H Q) (λ o_ o_ q => q) (λ q => q) z
  obtain ⟨hall, z⟩ := post_guard (T := Post X.K C F m true H Q) (λ z => z) z
  rw [e1]
  intro J H1 s1 w
  have r1 := r.same s1
  have fin : ∀ (ys : List V) (H2 : Hp), (Same H1 H2 /\ ∃ ds, Ats X.K C.cl H2 (Sk C F m) ys ds /\ ∃ q, compL (capD (caps.map (·.2)) δ) gt ge [] = .ok q /\ ds ++ q = all) -> ∀ p, H2 p = none -> Q (.ref p) (upd H2 p (.lst ys)) := by
    rintro ys H2 ⟨s2, ds, wd, q, hq, hall'⟩ p hp
    rw [compL_nil] at hq
    cases hq
    rw [List.append_nil] at hall'
    subst hall'
    have s12 := s1.trans s2
    obtain ⟨q1, q2⟩ := own_lst hp wd ((r.same s12).new m hp)
    exact z _ _ (s12.trans (same_new' hp _)) q1 λ o_ => q2.back s12
  rcases w with ⟨a, vs, rfl, sa, ha, wa⟩ | ⟨a, vs, rfl, ha, wa⟩ | ⟨lo, n, rfl, rfl⟩ | ⟨zz, rfl, rfl⟩
  · refine comp_list (K := X.K) (a := a) (xs := vs) (λ j ys H' => Same H1 H' /\ ∃ ds, Ats X.K C.cl H' (Sk C F m) ys ds /\ ∃ q, compL (capD (caps.map (·.2)) δ) gt ge (xs.drop j) = .ok q /\ ds ++ q = all)
      ⟨Same.refl H1, [], Ats.nil, all, e2, rfl⟩ (λ j ys H' o1_ ⟨s, o2_⟩ => .inl (s.rd ha)) ?_ ?_
    · rintro c j v ys H' hj ⟨s, ds, wd, hc⟩
      obtain ⟨d, hd, ad⟩ := (wa.same s).get' hj
      rw [drop_get hd] at hc
      exact comp_turn (N := λ ys H' => Same H1 H' /\ ∃ ds, Ats X.K C.cl H' (Sk C F m) ys ds /\ ∃ q, compL (capD (caps.map (·.2)) δ) gt ge (xs.drop (j + 1)) = .ok q /\ ds ++ q = all) (dt c) (de c) r1 s ad wd hall hc λ ys' H' ds' s' w' h' => ⟨s', ds', w', h'⟩
    · rintro ys H' ⟨s, ds, wd, hc⟩
      rw [wa.length, List.drop_length] at hc
      exact fin ys H' ⟨s, ds, wd, hc⟩
  · refine comp_tup (K := X.K) (a := a) (xs := vs) (λ j ys H' => Same H1 H' /\ ∃ ds, Ats X.K C.cl H' (Sk C F m) ys ds /\ ∃ q, compL (capD (caps.map (·.2)) δ) gt ge (xs.drop j) = .ok q /\ ds ++ q = all)
      ⟨Same.refl H1, [], Ats.nil, all, e2, rfl⟩ (λ j ys H' o1_ ⟨s, o2_⟩ => SqT.of (s _ _ ha)) ?_ ?_
    · rintro c j v ys H' hj ⟨s, ds, wd, hc⟩
      obtain ⟨d, hd, ad⟩ := (wa.same s).get' hj
      rw [drop_get hd] at hc
      exact comp_turn (N := λ ys H' => Same H1 H' /\ ∃ ds, Ats X.K C.cl H' (Sk C F m) ys ds /\ ∃ q, compL (capD (caps.map (·.2)) δ) gt ge (xs.drop (j + 1)) = .ok q /\ ds ++ q = all) (dt c) (de c) r1 s ad wd hall hc λ ys' H' ds' s' w' h' => ⟨s', ds', w', h'⟩
    · rintro ys H' ⟨s, ds, wd, hc⟩
      rw [wa.length, List.drop_length] at hc
      exact fin ys H' ⟨s, ds, wd, hc⟩
  · have hl : (rangeD lo n).length = n := by unfold rangeD; rw [List.length_map, List.length_range]
    refine comp_range (lo := lo) (n := n) (λ j ys H' => Same H1 H' /\ ∃ ds, Ats X.K C.cl H' (Sk C F m) ys ds /\ ∃ q, compL (capD (caps.map (·.2)) δ) gt ge ((rangeD lo n).drop j) = .ok q /\ ds ++ q = all)
      ⟨Same.refl H1, [], Ats.nil, all, e2, rfl⟩ ?_ ?_
    · rintro c j ys H' hj ⟨s, ds, wd, hc⟩
      have hd : (rangeD lo n)[j]? = some (.int (lo + (j : Int))) := by unfold rangeD; rw [List.getElem?_map, List.getElem?_range hj]; rfl
      rw [drop_get hd] at hc
      exact comp_turn (N := λ ys H' => Same H1 H' /\ ∃ ds, Ats X.K C.cl H' (Sk C F m) ys ds /\ ∃ q, compL (capD (caps.map (·.2)) δ) gt ge ((rangeD lo n).drop (j + 1)) = .ok q /\ ds ++ q = all) (dt c) (de c) r1 s (by rw [At]) wd hall hc λ ys' H' ds' s' w' h' => ⟨s', ds', w', h'⟩
    · rintro ys H' ⟨s, ds, wd, hc⟩
      rw [show (rangeD lo n).drop n = [] by rw [List.drop_eq_nil_iff]; omega] at hc
      exact fin ys H' ⟨s, ds, wd, hc⟩
  · have hl : (signsD zz).length = zz.cps.size := by unfold signsD; rw [List.length_map, Array.length_toList]
    refine comp_str (z := zz) (λ j ys H' => Same H1 H' /\ ∃ ds, Ats X.K C.cl H' (Sk C F m) ys ds /\ ∃ q, compL (capD (caps.map (·.2)) δ) gt ge ((signsD zz).drop j) = .ok q /\ ds ++ q = all)
      ⟨Same.refl H1, [], Ats.nil, all, e2, rfl⟩ ?_ ?_
    · rintro c j ch ys H' hj ⟨s, ds, wd, hc⟩
      have hd : (signsD zz)[j]? = some (.str ⟨#[ch]⟩) := by unfold signsD; rw [List.getElem?_map, Array.getElem?_toList, hj]; rfl
      rw [drop_get hd] at hc
      exact comp_turn (N := λ ys H' => Same H1 H' /\ ∃ ds, Ats X.K C.cl H' (Sk C F m) ys ds /\ ∃ q, compL (capD (caps.map (·.2)) δ) gt ge ((signsD zz).drop (j + 1)) = .ok q /\ ds ++ q = all) (dt c) (de c) r1 s (by rw [At]) wd hall hc λ ys' H' ds' s' w' h' => ⟨s', ds', w', h'⟩
    · rintro ys H' ⟨s, ds, wd, hc⟩
      rw [show (signsD zz).drop zz.cps.size = [] by rw [List.drop_eq_nil_iff]; omega] at hc
      exact fin ys H' ⟨s, ds, wd, hc⟩
theorem de_comp (caps : Caps) (hk : compOkB X.env.scope sc X.N x caps = true) (hc : X.calm = true) (hi : DI X C κ kx (.Name x px) iter gi) (ht : ∀ z, DIfs (cxC X x caps sc z) C (kx :: capK caps κ) ifs gt) (he : ∀ z, DE (cxC X x caps sc z) C (kx :: capK caps κ) m fe elt ge)
    (hs : ∀ v, foldedSetIterable iter X.env v = pure v := by intro _; rfl) : DE X C κ m true (.ListComp elt [⟨.Name x px, iter, ifs, 0⟩] sc pos) (gComp gi (caps.map (·.2)) gt ge) := by
  obtain ⟨wi, pw, dw⟩ := hi
  obtain ⟨tt, htt⟩ := Classical.axiomOfChoice ht
  obtain ⟨te, hte⟩ := Classical.axiomOfChoice he
  exact ⟨_, pe_comp hk hc pw (λ z => (htt z).1) (λ z => (hte z).1) hs, comp_sem dw (λ z => (htt z).2) (λ z => (hte z).2)⟩
theorem ds_setW {i : Nat} {y : Str} {k : Kd} {py spos : Pos} {t : TE} {e : Expr} (hkk : k = .b \/ k = .s) (hk : i < κ.length) (ps : PS X (.Assign [.Name y py] e spos) (tAsg t (gName i))) (dt : ∀ F σ H δ, Rx X.K C κ F σ H δ -> ∀ Q, Post X.K C F k fr H Q (ge δ) -> t σ H Q) (hni : i ∉ C.io) :
    DSt X C L κ (κ.set i k) (.Assign [.Name y py] e spos) (gSet i ge) := by
  refine ⟨_, ps, λ φ σ H δ r D p => dt (Fo φ) σ H δ r.rx _ ?_⟩
  obtain ⟨d, e1, p⟩ := post_bind (T := FinS X.K C L (κ.set i k) (Fo φ) H D) (λ o_ o_ q => q) (λ q => q) p
  rw [e1]
  intro v H1 s1 a n
  have so : SlOk X.K C (Fo (φset φ i [])) H1 [] v d k := by
    rcases hkk with rfl | rfl
    · exact At.sub a λ b z o_ f => z (fo_sub f)
    · exact At.sub a λ b z o_ => ⟨z.1, λ f => z.2 (fo_sub f)⟩
  obtain ⟨r2, kp⟩ := r.put s1 hk so (λ a m => absurd m (by simp)) hni
  exact p _ _ _ r2 kp
theorem ds_setC {i : Nat} {y : Str} {k : Kd} {py spos : Pos} (caps : Caps) (hkk : k = .b \/ k = .s) (hkl : i < κ.length) (hN : X.N.Nodup) (hi' : X.N[i]? = some y) (hy : Loc X.env.scope y) (hk : compOkB X.env.scope sc X.N x caps = true) (hc : X.calm = true) (hi : DI X C κ kx (.Name x px) iter gi)
    (ht : ∀ z, DIfs (cxC X x caps sc z) C (kx :: capK caps κ) ifs gt) (he : ∀ z, DE (cxC X x caps sc z) C (kx :: capK caps κ) k fe elt ge)
    (hsw : swapsWith (.ListComp elt [⟨.Name x px, iter, ifs, 0⟩] sc pos) (some (.Name y py)) spos.line X.env = pure true := by rfl)
    (hs : ∀ v, foldedSetIterable iter X.env v = pure v := by intro _; rfl) (hf : X.fn y = true \/ X.env.scope.names.lookup y = some .local := by first | exact .inl rfl | exact .inr rfl | assumption) (hni : C.io.contains i = false := by rfl) :
    DSt X C L κ (κ.set i k) (.Assign [.Name y py] (.ListComp elt [⟨.Name x px, iter, ifs, 0⟩] sc pos) spos) (gSet i (gComp gi (caps.map (·.2)) gt ge)) := by
  obtain ⟨wi, pw, dw⟩ := hi
  obtain ⟨tt, htt⟩ := Classical.axiomOfChoice ht
  obtain ⟨te, hte⟩ := Classical.axiomOfChoice he
  exact ds_setW hkk hkl (ps_setC hN hi' hy hk hc pw (λ z => (htt z).1) (λ z => (hte z).1) hsw hs hf) (comp_sem dw (λ z => (htt z).2) (λ z => (hte z).2)) (notmem hni)
theorem gCons_len {n : Nat} {gs : GA} (h : ∀ δ ds, gs δ = .ok ds -> ds.length = n) : ∀ δ ds, gCons ga gs δ = .ok ds -> ds.length = n + 1 := λ δ ds e => by
  obtain ⟨d, _, e⟩ := post_bind (T := λ r => r = Rz.ok ds) (λ o_ o_ z => by cases z) (λ z => by cases z) e
  obtain ⟨ds', e2, e⟩ := post_bindG (T := λ r => r = Rz.ok ds) (λ o_ o_ z => by cases z) (λ z => by cases z) e
  cases e
  rw [List.length_cons, h δ ds' e2]
theorem gNil_len : ∀ δ ds, gNil δ = .ok ds -> ds.length = 0 := λ δ ds e => by cases e; rfl
noncomputable def CallS (K : PySem.W.Frag) (cl : Nat -> Addr) (r : List V -> Hp -> VK -> Prop) (p : List D -> Rz D) : Prop :=
  ∀ (H : Hp) (S : Addr -> Prop) (vs : List V) (ds : List D) (Q : VK), Ats K cl H S vs ds -> (match p ds with | .ok d => ∀ v, (∀ S', At K cl H S' v d) -> Q v H | _ => False) -> r vs H Q
theorem de_callS {id : String} {r : List V -> Hp -> VK -> Prop} {p : List D -> Rz D} {pp : Pos} (hc : CallR X (.builtin id) r) (hp : CallS X.K C.cl r p) (hi : ∀ ds d, p ds = .ok d -> d.big = false) (hg : Gl X x) (hm : X.mg x = none) (hv : bootBuiltins x = some (.builtin id)) (ha : DA X C κ .v (e :: es) gs) (hn : x ≠ "__name__" := by decide) (hdb : (x == ("__debug__" : Str)) = false := by decide)
    (he : starEach (e :: es) X.env = (false, eval e X.env) :: starEach es X.env := by rfl) (hpl : (backTo pos (starEach es X.env)).any (·.1) = false := by rfl) : DE X C κ m true (.Call (.Name x pp) (e :: es) [] pos) (gCall p gs) := by
  obtain ⟨t, pt, dt⟩ := ha
  refine ⟨_, pe_callB hc hg hm hv pt hn hdb he hpl, λ F σ H δ rx Q z => dt F σ H δ rx _ ?_⟩
  obtain ⟨ds, e1, z⟩ := post_bindG (T := Post X.K C F m true H Q) (λ o_ o_ q => q) (λ q => q) z
  rw [e1]
  intro vs H1 s1 a1
  refine hp H1 _ vs ds Q a1 ?_
  cases q : p ds with
  | ok d => rw [q] at z; exact λ v av => z v H1 s1 (av _) λ o_ => Nw.small (hi ds d q)
  | er c s => rw [q] at z; exact z
  | un => rw [q] at z; exact z
theorem de_callT {id : String} {r : List V -> Hp -> VK -> Prop} {p : List D -> Rz D} {pp : Pos} (hc : CallR X (.type id) r) (hp : CallD X.K C.cl r p) (hg : Gl X x) (hm : X.mg x = none) (hv : bootBuiltins x = some (.type id)) (ha : DA X C κ m (e :: es) gs) (hn : x ≠ "__name__" := by decide) (hdb : (x == ("__debug__" : Str)) = false := by decide)
    (he : starEach (e :: es) X.env = (false, eval e X.env) :: starEach es X.env := by rfl) (hpl : (backTo pos (starEach es X.env)).any (·.1) = false := by rfl) : DE X C κ m true (.Call (.Name x pp) (e :: es) [] pos) (gCall p gs) := by
  obtain ⟨t, pt, dt⟩ := ha
  refine ⟨_, pe_callTy hc hg hm hv pt hn hdb he hpl, λ F σ H δ rx Q z => dt F σ H δ rx _ ?_⟩
  obtain ⟨ds, e1, z⟩ := post_bindG (T := Post X.K C F m true H Q) (λ o_ o_ q => q) (λ q => q) z
  rw [e1]
  intro vs H1 s1 a1
  exact hp H1 _ vs ds Q (λ a h => (rx.same s1).new m h) a1 (postS_of s1 z)
theorem len_big : ∀ ds d, pLen ds = .ok d -> d.big = false := λ ds d h => by
  match ds, h with
  | [x], h => cases x <;> first | (cases h; rfl) | (have q := (guard_ok h).2; cases q; rfl) | cases h
  | [], h => cases h
  | _ :: _ :: _, h => cases h
theorem callS_len {K : PySem.W.Frag} {cl : Nat -> Addr} : CallS K cl (λ xs H Q => (∃ p ys, xs = [.ref p] /\ (SqL K H p ys \/ SqT K H p ys) /\ Q (.int ys.length) H) \/ (∃ z, xs = [.str z] /\ z.length <= sizeLine /\ Q (.int z.length) H) \/ ∃ a kvs, xs = [V.ref a] /\ H a = some (.dK kvs) /\ Q (.int kvs.length) H) pLen := by
  intro H S vs ds Q w z
  match vs, ds, w, z with
  | [v], [d], w, z =>
    rw [Ats] at w
    have a := w.1
    cases d with
    | lst xs =>
      rw [At] at a
      obtain ⟨b, us, rfl, sb, hb, wb⟩ := a
      refine .inl ⟨b, us, rfl, .inl (.inl hb), ?_⟩
      rw [wb.length]
      exact z _ λ S' => by rw [At]
    | tup xs =>
      rw [At] at a
      obtain ⟨b, us, rfl, hb, wb⟩ := a
      refine .inl ⟨b, us, rfl, .inr (SqT.of hb), ?_⟩
      rw [wb.length]
      exact z _ λ S' => by rw [At]
    | str x =>
      rw [At] at a
      subst a
      by_cases h : x.length <= sizeLine
      · simp only [pLen, dLen, guard_pos h] at z
        exact .inr (.inl ⟨x, rfl, h, z _ λ S' => by rw [At]⟩)
      · simp only [pLen, dLen, Rz.guard, if_neg h] at z
    | dct ks xs =>
      rw [At] at a
      obtain ⟨b, us, rfl, sb, hb, l, wb⟩ := a
      refine .inr (.inr ⟨b, _, rfl, hb, ?_⟩)
      rw [List.length_zip, wb.length, l, Nat.min_self, <- l]
      exact z _ λ S' => by rw [At]
    | _ => exact z.elim
  | [], [], _, z => exact z.elim
  | _ :: _ :: _, [], w, _ => rw [Ats] at w; exact w.elim
  | [_], [], w, _ => rw [Ats] at w; exact w.elim
  | [], _ :: _, w, _ => rw [Ats] at w; exact w.elim
  | [_], _ :: _ :: _, w, z => exact z.elim
  | _ :: _ :: _, [_], w, _ => rw [Ats, Ats] at w; exact w.2.elim
  | _ :: _ :: _, _ :: _ :: _, w, z => exact z.elim
theorem call_lenU : CallR X (.builtin "len") (λ xs H Q => (∃ p ys, xs = [.ref p] /\ (SqL X.K H p ys \/ SqT X.K H p ys) /\ Q (.int ys.length) H) \/ (∃ z, xs = [.str z] /\ z.length <= sizeLine /\ Q (.int z.length) H) \/ ∃ a kvs, xs = [V.ref a] /\ H a = some (.dK kvs) /\ Q (.int kvs.length) H) :=
  CallR.or call_len_seq (CallR.or call_len_str call_lenD)
end
end Dl
namespace Dl
open PySem L2 PyProof.Rows
structure Df (K : PySem.W.Frag) (mg : Str -> Option Value) (x : Str) (st : Stmt) (ps : List Str) (f : Addr) (fd : FuncData) : Prop where
  F : Fun K x x st f fd
  b : Binds K fd ps []
  m : mg x = some (.ref f)
section
variable {X : Cx} {C : Dc} {L : List Kd × List Nat} {κ κ' : List Kd} {m kx : Kd} {fr fa fb fe : Bool} {a b e elt iter : Expr} {es : List Expr} {ga gb ge : GE} {gs : GA} {pos p : Pos} {x : Str}
theorem de_call {st : Stmt} {ps : List Str} {f : Addr} {fd : FuncData} {k n : Nat} {F : PF} (D : Df X.K X.mg x st ps f fd) (G : FnOk X.prog X.w X.K X.mg X.base CX0 k f fd ps (spD X.K C.cl n F)) (hr : Room k X.A) (hg : Gl X x) (hlen : ∀ δ ds, gs δ = .ok ds -> ds.length = n) (ha : DA X C κ .v (e :: es) gs)
    (hdb : (x == ("__debug__" : Str)) = false := by decide) (hst : starEach (e :: es) X.env = (false, eval e X.env) :: starEach es X.env := by rfl) (hpl : (backTo pos (starEach es X.env)).any (·.1) = false := by rfl) : DE X C κ m true (.Call (.Name x p) (e :: es) [] pos) (gCall F gs) := by
  obtain ⟨t, pt, dt⟩ := ha
  exact de_calls (n := n) (pe_call G hr hg D.m D.F.kp D.b .nil pass0 pt hdb hst hpl) hlen dt
theorem de_imI (h : DE X C κ .v true e ge) : DE X C κ m true e (gImI ge) := by
  obtain ⟨t, pt, dt⟩ := h
  refine ⟨t, pt, λ F σ H δ r Q p => dt F σ H δ r Q ?_⟩
  obtain ⟨d, e1, p⟩ := post_bind (T := Post X.K C F m true H Q) (λ o_ o_ q => q) (λ q => q) p
  obtain ⟨hi, p⟩ := post_guard (T := Post X.K C F m true H Q) (λ z => z) p
  rw [e1]
  intro v H1 s1 a n
  have n := n rfl
  cases d with
  | lst xs =>
    obtain ⟨l, ⟨b, vs, rfl, rfl, hb, w⟩, hl⟩ := n rfl
    have w2 : ∀ S, Ats X.K C.cl H1 S vs xs := λ S => w.imm TupK.refl hi
    have nb := hl b List.mem_cons_self
    refine p _ H1 s1 ?_ λ o_ o_ => ⟨[b], ⟨b, vs, rfl, rfl, hb, w2 _⟩, hl⟩
    rw [At]
    exact ⟨b, vs, rfl, r.new m nb, .inl hb, w2 _⟩
  | dct ks xs =>
    obtain ⟨l, ⟨b, vs, rfl, rfl, hb, kl, w⟩, hl⟩ := n rfl
    have w2 : ∀ S, Ats X.K C.cl H1 S vs xs := λ S => w.imm TupK.refl hi
    have nb := hl b List.mem_cons_self
    refine p _ H1 s1 ?_ λ o_ o_ => ⟨[b], ⟨b, vs, rfl, rfl, hb, kl, w2 _⟩, hl⟩
    rw [At]
    exact ⟨b, vs, rfl, r.new m nb, hb, kl, w2 _⟩
  | obj _ _ _ => exact absurd hi (by simp [D.imI, D.imm])
  | tup xs => exact p _ H1 s1 (At.imm TupK.refl hi a) λ o_ => Nw.small rfl
  | non => exact p _ H1 s1 (At.imm TupK.refl hi a) λ o_ => Nw.small rfl
  | bl _ => exact p _ H1 s1 (At.imm TupK.refl hi a) λ o_ => Nw.small rfl
  | int _ => exact p _ H1 s1 (At.imm TupK.refl hi a) λ o_ => Nw.small rfl
  | str _ => exact p _ H1 s1 (At.imm TupK.refl hi a) λ o_ => Nw.small rfl
theorem de_im (h : DE X C κ .v fr e ge) : DE X C κ m true e (gIm ge) := by
  obtain ⟨t, pt, dt⟩ := h
  refine ⟨t, pt, λ F σ H δ r Q p => dt F σ H δ r Q ?_⟩
  obtain ⟨d, e1, p⟩ := post_bind (T := Post X.K C F m true H Q) (λ o_ o_ q => q) (λ q => q) p
  obtain ⟨hi, p⟩ := post_guard (T := Post X.K C F m true H Q) (λ z => z) p
  rw [e1]
  intro v H1 s1 a n
  refine p _ H1 s1 (At.imm TupK.refl hi a) λ o_ => Nw.small ?_
  cases d <;> first | rfl | (rw [D.imm] at hi; cases hi)
end
section
variable {P : Program} {w : World} {K : PySem.W.Frag} {mg : Str -> Option Value} {base : Heap}
theorem start_get {N : List Str} {vs : List V} {ds : List D} {cl : Nat -> Addr} {H : Hp} {S : Addr -> Prop} (a : Ats K cl H S vs ds) {i : Nat} {d : D} (e : (startD N.length ds)[i]? = some (some d)) : i < ds.length /\ ∃ v, (L2.start N vs)[i]? = some (some v) /\ At K cl H S v d := by
  unfold startD at e
  by_cases h : i < ds.length
  · rw [List.getElem?_append_left (by simpa using h), List.getElem?_map] at e
    cases q : ds[i]? with
    | none => rw [q] at e; cases e
    | some x =>
      rw [q] at e
      have e : x = d := Option.some.inj (Option.some.inj e)
      subst e
      obtain ⟨v, h1, h2⟩ := a.get q
      refine ⟨h, v, ?_, h2⟩
      unfold L2.start
      rw [List.getElem?_append_left (by rw [List.length_map, a.length]; exact h), List.getElem?_map, h1]
      rfl
  · rw [List.getElem?_append_right (by simpa using h), List.getElem?_replicate] at e
    split at e <;> cases e
theorem fn_D {x qual : Str} {st : Stmt} {f : Addr} {fd : FuncData} {N ps : List Str} {k n : Nat} {cl : Nat -> Addr} {κ κ' : List Kd} {g : GS} (F : Fun K x qual st f fd) (S : FnScope N ps (defScope st)) (hn : ps.length = n) (hκ : ∀ i : Nat, i < n -> κ[i]? = some .b)
    (hbody : ∀ (cdv : Value) (A : Around) (outer : List Env) (s : Shared) (H : Hp) (E : XK), Room k (A.deeper (envOfC qual (defScope st) s.heap.objs.size f cdv)) ->
      DSs (cxOf CX0 P w K mg base N qual (defScope st) f cdv A outer s H E).nox ⟨cl, H, λ o_ => False, [], λ o_ => .non, λ o_ => []⟩ ([], []) κ κ' (defBody st) g) : FnOk P w K mg base CX0 (k + 1) f fd ps (spD K cl n (runB N.length g)) := by
  refine F.ok S (λ vs H Q E h => by rw [spD_len h, hn]) (λ cdv A outer s H vs Q E hr h => ?_)
  obtain ⟨ds, d, hl, wa, he, q⟩ := h
  obtain ⟨t, pt, dt⟩ := hbody cdv A outer s H E hr
  refine ⟨t, pt, dt (λ o_ => []) (L2.start N vs) H (startD N.length ds) ?_ _ ?_⟩
  · refine ⟨λ i d e => ?_, λ i j a m => absurd m (by simp), λ a f => ?_, λ a f => ?_, λ a o e o_ => e, λ a z => z.elim, TupK.refl, λ j hj => absurd hj (by simp), ?_⟩
    · obtain ⟨hi, v, h1, h2⟩ := start_get wa e
      refine ⟨v, .b, h1, hκ i (by omega), h2.sub λ b o_ o_ f => ?_⟩
      obtain ⟨j, hj⟩ := f
      exact absurd hj (by simp)
    · obtain ⟨j, hj⟩ := f
      exact absurd hj (by simp)
    · obtain ⟨j, hj⟩ := f
      exact absurd hj (by simp)
    · unfold L2.start startD
      rw [List.length_append, List.length_append, List.length_map, List.length_map, List.length_replicate, List.length_replicate, wa.length]
  · have he : (g (startD N.length ds)).bind _ = Rz.ok d := he
    cases e : g (startD N.length ds) with
    | ok o =>
      rw [e] at he
      cases o with
      | nx δ' =>
        cases he
        intro φ' σ' H' r _
        exact q .non H' (λ b u e => r.fr b u e (λ z => z)) (by rw [At]) (Nw.small rfl)
      | rt d' δ' =>
        cases he
        intro v κr φ' σ' H' _ r a nw
        exact q v H' (λ b u e => r.fr b u e (λ z => z)) a nw
      | bk δ' => cases he
      | ct δ' => cases he
    | er c s => rw [e] at he; cases he
    | un => rw [e] at he; cases he
end
end Dl
namespace Dl
open PySem L2 PyProof.Rows
mutual
noncomputable def toP : D -> PyData
  | .non => .none
  | .bl b => .bool b
  | .int i => .int i
  | .str x => .str x
  | .tup xs => .tuple (toPs xs)
  | .lst xs => .list (toPs xs)
  | .dct _ _ => .dict []
  | .obj _ _ _ => .dict []
noncomputable def toPs : List D -> List PyData
  | [] => []
  | x :: xs => toP x :: toPs xs
end
mutual
theorem okS_lay : ∀ d : D, okS d = true -> (toP d).canLay0 = true
  | .non, _ => by rw [toP]; rfl
  | .bl _, _ => by rw [toP]; rfl
  | .int _, _ => by rw [toP]; rfl
  | .str x, h => by rw [toP]; rw [okS] at h; exact h
  | .tup xs, h => by rw [toP, PyData.canLay0]; rw [okS] at h; exact okSs_lay xs h
  | .lst xs, h => by rw [toP, PyData.canLay0]; rw [okS] at h; exact okSs_lay xs h
  | .dct _ _, h => by rw [okS] at h; cases h
  | .obj _ _ _, h => by rw [okS] at h; cases h
theorem okSs_lay : ∀ ds : List D, okSs ds = true -> PyData.canLayAll0 (toPs ds) = true
  | [], _ => by rw [toPs]; rfl
  | d :: ds, h => by
    rw [okSs, Bool.and_eq_true] at h
    rw [toPs, PyData.canLayAll0, okS_lay d h.1, okSs_lay ds h.2]; rfl
end
mutual
theorem dep_toP : ∀ d : D, okS d = true -> (toP d).depth = depD d
  | .non, _ => by rw [toP, depD]; rfl
  | .bl _, _ => by rw [toP, depD]; rfl
  | .int _, _ => by rw [toP, depD]; rfl
  | .str x, h => by rw [toP, depD]; rfl
  | .tup xs, h => by rw [toP, PyData.depth, depD]; rw [okS] at h; rw [dep_toPs xs h]
  | .lst xs, h => by rw [toP, PyData.depth, depD]; rw [okS] at h; rw [dep_toPs xs h]
  | .dct _ _, h => by rw [okS] at h; cases h
  | .obj _ _ _, h => by rw [okS] at h; cases h
theorem dep_toPs : ∀ ds : List D, okSs ds = true -> PyData.depthAll (toPs ds) = depDs ds
  | [], _ => by rw [toPs, depDs]; rfl
  | d :: ds, h => by
    rw [okSs, Bool.and_eq_true] at h
    rw [toPs, PyData.depthAll, depDs, dep_toP d h.1, dep_toPs ds h.2]
end
mutual
theorem eqv_toP : ∀ x y : D, okS x = true -> okS y = true -> PyData.eqv (toP x) (toP y) = eqD x y
  | .tup xs, .tup ys, hx, hy => by rw [toP, toP, PyData.eqv, eqD]; rw [okS] at hx hy; exact eqv_toPs xs ys hx hy
  | .lst xs, .lst ys, hx, hy => by rw [toP, toP, PyData.eqv, eqD]; rw [okS] at hx hy; exact eqv_toPs xs ys hx hy
  | .dct _ _, _, h, _ => by rw [okS] at h; cases h
  | .obj _ _ _, _, h, _ => by rw [okS] at h; cases h
  | .non, y, _, hy => by cases y <;> first | (rw [okS] at hy; cases hy; done) | (simp [toP, PyData.eqv, eqD])
  | .bl _, y, _, hy => by cases y <;> first | (rw [okS] at hy; cases hy; done) | (simp [toP, PyData.eqv, eqD])
  | .int _, y, _, hy => by cases y <;> first | (rw [okS] at hy; cases hy; done) | (simp [toP, PyData.eqv, eqD])
  | .str _, y, _, hy => by cases y <;> first | (rw [okS] at hy; cases hy; done) | (simp [toP, PyData.eqv, eqD])
  | .tup _, .non, _, _ => by simp [toP, PyData.eqv, eqD]
  | .tup _, .bl _, _, _ => by simp [toP, PyData.eqv, eqD]
  | .tup _, .int _, _, _ => by simp [toP, PyData.eqv, eqD]
  | .tup _, .str _, _, _ => by simp [toP, PyData.eqv, eqD]
  | .tup _, .lst _, _, _ => by simp [toP, PyData.eqv, eqD]
  | .tup _, .dct _ _, _, h => by rw [okS] at h; cases h
  | .tup _, .obj _ _ _, _, h => by rw [okS] at h; cases h
  | .lst _, .non, _, _ => by simp [toP, PyData.eqv, eqD]
  | .lst _, .bl _, _, _ => by simp [toP, PyData.eqv, eqD]
  | .lst _, .int _, _, _ => by simp [toP, PyData.eqv, eqD]
  | .lst _, .str _, _, _ => by simp [toP, PyData.eqv, eqD]
  | .lst _, .tup _, _, _ => by simp [toP, PyData.eqv, eqD]
  | .lst _, .dct _ _, _, h => by rw [okS] at h; cases h
  | .lst _, .obj _ _ _, _, h => by rw [okS] at h; cases h
theorem eqv_toPs : ∀ xs ys : List D, okSs xs = true -> okSs ys = true -> PyData.eqvAll (toPs xs) (toPs ys) = eqDs xs ys
  | [], [], _, _ => by rw [toPs, eqDs]; rfl
  | [], _ :: _, _, _ => by rw [toPs, toPs, eqDs]; rfl; all_goals simp
  | _ :: _, [], _, _ => by rw [toPs, toPs, eqDs]; rfl; all_goals simp
  | x :: xs, y :: ys, hx, hy => by
    rw [okSs, Bool.and_eq_true] at hx hy
    rw [toPs, toPs, PyData.eqvAll, eqDs, eqv_toP x y hx.1 hy.1, eqv_toPs xs ys hx.2 hy.2]
end
section
variable {P : Program} {w : World} {K : PySem.W.Frag} {cl : Nat -> Addr} {H : Hp} {h : Heap} {S : Addr -> Prop}
mutual
theorem At.reads (ok : HOk P w H h) : ∀ {d : D} {v : V} {u : Value}, okS d = true -> At K cl H S v d -> RelV v u -> ∃ as, Reads h u (toP d) as
  | .non, v, u, _, a, r => by rw [At] at a; subst a; cases r; rw [toP]; exact ⟨_, .none⟩
  | .bl b, v, u, _, a, r => by rw [At] at a; subst a; cases r; rw [toP]; exact ⟨_, .bool b⟩
  | .int i, v, u, _, a, r => by rw [At] at a; subst a; obtain ⟨t, rfl⟩ := r; rw [toP]; exact ⟨_, .int i t⟩
  | .str x, v, u, _, a, r => by rw [At] at a; subst a; obtain ⟨t, rfl⟩ := r; rw [toP]; exact ⟨_, .str x t⟩
  | .tup ds, v, u, o, a, r => by
    rw [At] at a
    rw [okS] at o
    obtain ⟨b, vs, rfl, hb, wb⟩ := a
    cases r
    obtain ⟨_, its, rv, p⟩ := ok b _ hb
    obtain ⟨ob, e1, e2, n, e3⟩ := p
    obtain ⟨as, q⟩ := Ats.reads ok o wb rv
    rw [toP]
    exact ⟨_, .tuple e1 e2 e3 q⟩
  | .lst ds, v, u, o, a, r => by
    rw [At] at a
    rw [okS] at o
    obtain ⟨b, vs, rfl, _, hb, wb⟩ := a
    cases r
    obtain ⟨_, its, n, rv, e1⟩ := hb.ok ok
    obtain ⟨as, q⟩ := Ats.reads ok o wb rv
    rw [toP]
    exact ⟨_, .list e1 rfl rfl q⟩
  | .dct _ _, _, _, o, _, _ => by rw [okS] at o; cases o
  | .obj _ _ _, _, _, o, _, _ => by rw [okS] at o; cases o
theorem Ats.reads (ok : HOk P w H h) : ∀ {ds : List D} {vs : List V} {us : List Value}, okSs ds = true -> Ats K cl H S vs ds -> Vals vs us -> ∃ as, ReadsAll h us (toPs ds) as
  | [], [], _, _, _, .nil => by rw [toPs]; exact ⟨_, .nil⟩
  | d :: ds, v :: vs, u :: us, o, a, .cons r t => by
    rw [okSs, Bool.and_eq_true] at o
    rw [Ats] at a
    obtain ⟨as, q⟩ := At.reads ok o.1 a.1 r
    obtain ⟨bs, q2⟩ := Ats.reads ok o.2 a.2 t
    rw [toPs]
    exact ⟨_, .cons q q2⟩
  | [], _ :: _, _, _, z, _ => by rw [Ats] at z; exact z.elim
  | _ :: _, [], _, _, z, _ => by rw [Ats] at z; exact z.elim
end
end
noncomputable def rEqD (K : PySem.W.Frag) (cl : Nat -> Addr) (neg : Bool) : R2 := λ x y H Q => ∃ S dx dy, At K cl H S x dx /\ At K cl H S y dy /\ okS dx = true /\ okS dy = true /\ depD dx <= 64 /\ depD dy <= 64 /\ Q (.bl (if neg then !eqD dx dy else eqD dx dy)) H
section
variable {X : Cx} {cl : Nat -> Addr} {K : PySem.W.Frag} {C : Dc}
theorem op_eqD (hu : X.A.units + 64 < cLine) : OpR X (compareOp .Eq) (rEqD X.K cl false) := by
  intro pins s σ H x y v u Q I rx ry h
  obtain ⟨S, dx, dy, ax, ay, ox, oy, ex, ey, q⟩ := h
  obtain ⟨as, ra⟩ := ax.reads I.hok ox rx
  obtain ⟨bs, rb⟩ := ay.reads I.hok oy ry
  refine eq_dataH ra rb ?_ ?_ hu ?_
  · unfold SeqAt.shaped; rw [okS_lay dx ox, dep_toP dx ox, decide_eq_true ex]; rfl
  · unfold SeqAt.shaped; rw [okS_lay dy oy, dep_toP dy oy, decide_eq_true ey]; rfl
  · rw [eqv_toP dx dy ox oy]; exact ⟨.bl _, H, I, rfl, q⟩
theorem op_neD (hu : X.A.units + 64 < cLine) : OpR X (compareOp .NotEq) (rEqD X.K cl true) := by
  intro pins s σ H x y v u Q I rx ry h
  obtain ⟨S, dx, dy, ax, ay, ox, oy, ex, ey, q⟩ := h
  obtain ⟨as, ra⟩ := ax.reads I.hok ox rx
  obtain ⟨bs, rb⟩ := ay.reads I.hok oy ry
  refine ne_dataH ra rb ?_ ?_ hu ?_
  · unfold SeqAt.shaped; rw [okS_lay dx ox, dep_toP dx ox, decide_eq_true ex]; rfl
  · unfold SeqAt.shaped; rw [okS_lay dy oy, dep_toP dy oy, decide_eq_true ey]; rfl
  · rw [eqv_toP dx dy ox oy]; exact ⟨.bl _, H, I, rfl, q⟩
theorem op_eqU (hu : X.A.units + 64 < cLine) : OpR X (compareOp .Eq) (λ x y H Q => rEq x y H Q \/ rEqD X.K cl false x y H Q) := OpR.or op_eq (op_eqD hu)
theorem op_neU (hu : X.A.units + 64 < cLine) : OpR X (compareOp .NotEq) (λ x y H Q => rNe x y H Q \/ rEqD X.K cl true x y H Q) := OpR.or op_ne (op_neD hu)
theorem scal_eq {H : Hp} {S : Addr -> Prop} {x y : V} {dx dy : D} (ax : At K cl H S x dx) (ay : At K cl H S y dy) (h : scalD dx dy = true) : scal x y = true /\ decide (x = y) = eqD dx dy := by
  cases dx <;> cases dy <;> first | (cases h; done) | (rw [At] at ax; rw [At] at ay; subst ax; subst ay; refine ⟨rfl, ?_⟩; first | (simp [eqD]; done) | (rw [eqD, dec_str]) | (rw [eqD, dec_int]) | (rw [eqD, dec_bl]))
theorem opS_eq : OpS K cl (λ x y H Q => rEq x y H Q \/ rEqD K cl false x y H Q) dEq := by
  intro H S x y dx dy Q ax ay p
  unfold dEq at p
  by_cases c : cmpOk dx dy = true
  · rw [guard_pos c] at p
    have q := p.2 (.bl (eqD dx dy)) H (Same.refl H) λ S' => by rw [At]
    unfold cmpOk at c
    rw [Bool.or_eq_true] at c
    rcases c with c | c
    · obtain ⟨h1, h2⟩ := scal_eq ax ay c
      exact .inl ⟨h1, by rw [h2]; exact q⟩
    · simp only [Bool.and_eq_true, decide_eq_true_eq] at c
      exact .inr ⟨S, dx, dy, ax, ay, c.1.1.1, c.1.1.2, c.1.2, c.2, q⟩
  · unfold Rz.guard at p
    rw [if_neg c] at p
    exact p.elim
theorem opS_ne : OpS K cl (λ x y H Q => rNe x y H Q \/ rEqD K cl true x y H Q) dNe := by
  intro H S x y dx dy Q ax ay p
  unfold dNe at p
  by_cases c : cmpOk dx dy = true
  · rw [guard_pos c] at p
    have q := p.2 (.bl (!eqD dx dy)) H (Same.refl H) λ S' => by rw [At]
    unfold cmpOk at c
    rw [Bool.or_eq_true] at c
    rcases c with c | c
    · obtain ⟨h1, h2⟩ := scal_eq ax ay c
      exact .inl ⟨h1, by rw [h2]; exact q⟩
    · simp only [Bool.and_eq_true, decide_eq_true_eq] at c
      exact .inr ⟨S, dx, dy, ax, ay, c.1.1.1, c.1.1.2, c.1.2, c.2, q⟩
  · unfold Rz.guard at p
    rw [if_neg c] at p
    exact p.elim
theorem eq_imm : ∀ x y d, dEq x y = .ok d -> d.imm = true := λ x y d h => by have q := (guard_ok h).2; cases q; rfl
theorem ne_imm : ∀ x y d, dNe x y = .ok d -> d.imm = true := λ x y d h => by have q := (guard_ok h).2; cases q; rfl
theorem flat_at {H : Hp} {S : Addr -> Prop} {x : V} {d : D} (a : At K cl H S x d) (f : flatD d = true) : flatV x = true /\ ∀ {y : V} {e : D}, At K cl H S y e -> flatD e = true -> eqV y x = eqD e d := by
  cases d <;> first | (cases f; done) | (rw [At] at a; subst a; refine ⟨rfl, λ {y e} b g => ?_⟩; cases e <;> first | (cases g; done) | (rw [At] at b; subst b; simp [eqV, eqD]))
theorem flat_all {H : Hp} {S : Addr -> Prop} {x : V} {d : D} (a : At K cl H S x d) (f : flatD d = true) : ∀ {vs : List V} {ds : List D}, Ats K cl H S vs ds -> ds.all flatD = true -> vs.all flatV = true /\ inV x vs = ds.any λ y => eqD y d
  | [], [], _, _ => ⟨rfl, rfl⟩
  | v :: vs, e :: ds, w, g => by
    rw [Ats] at w
    rw [List.all_cons, Bool.and_eq_true] at g
    obtain ⟨h1, h2⟩ := flat_all a f w.2 g.2
    unfold inV at h2 ⊢
    rw [List.all_cons, List.any_cons, List.any_cons, h1, h2, (flat_at w.1 g.1).1, (flat_at a f).2 w.1 g.1]
    exact ⟨rfl, rfl⟩
  | [], _ :: _, z, _ => by rw [Ats] at z; exact z.elim
  | _ :: _, [], z, _ => by rw [Ats] at z; exact z.elim
theorem op_din (hu : X.A.units + 64 < cLine) : OpR X (compareOp .In) (λ x y H Q => ∃ a o, y = .ref a /\ DGet H a x o /\ Q (.bl o.isSome) H) := by
  intro pins s σ H x y v u Q I rx ry h
  obtain ⟨a, o, rfl, g, q⟩ := h
  cases ry
  exact d_in (by omega) I g rx λ s3 I3 => ⟨.bl o.isSome, H, I3, rfl, q⟩
theorem op_dnotin (hu : X.A.units + 64 < cLine) : OpR X (compareOp .NotIn) (λ x y H Q => ∃ a o, y = .ref a /\ DGet H a x o /\ Q (.bl (!o.isSome)) H) := by
  intro pins s σ H x y v u Q I rx ry h
  obtain ⟨a, o, rfl, g, q⟩ := h
  cases ry
  exact d_notIn (by omega) I g rx λ s3 I3 => ⟨.bl (!o.isSome), H, I3, rfl, q⟩
theorem op_inU (hu : X.A.units + 64 < cLine) : OpR X (compareOp .In) (λ x y H Q => rIn X.K false x y H Q \/ ∃ a o, y = .ref a /\ DGet H a x o /\ Q (.bl o.isSome) H) := OpR.or op_in_seq (op_din hu)
theorem op_notinU (hu : X.A.units + 64 < cLine) : OpR X (compareOp .NotIn) (λ x y H Q => rIn X.K true x y H Q \/ ∃ a o, y = .ref a /\ DGet H a x o /\ Q (.bl (!o.isSome)) H) := OpR.or op_notIn_seq (op_dnotin hu)
theorem val_some (k : Ky) : ∀ (ks : List Ky) (vs : List V), ks.length = vs.length -> (valD k ks vs).isSome = ks.any λ j => decide (j = k)
  | [], [], _ => rfl
  | [], _ :: _, h => by simp at h
  | _ :: _, [], h => by simp at h
  | x :: ks, v :: vs, h => by
    rw [valD, List.any_cons]
    by_cases e : x = k
    · rw [if_pos e, decide_eq_true e]; rfl
    · rw [if_neg e, decide_eq_false e, Bool.false_or, val_some k ks vs (by simpa using h)]
theorem in_all {H : Hp} {S : Addr -> Prop} {x y : V} {dx dy : D} {b : Bool} (ax : At K cl H S x dx) (ay : At K cl H S y dy) (h : inD dx dy = .ok b) :
    (∃ p xs, y = .ref p /\ (SqL K H p xs \/ SqT K H p xs) /\ flatV x = true /\ xs.all flatV = true /\ inV x xs = b) \/ ∃ a o, y = .ref a /\ DGet H a x o /\ o.isSome = b := by
  cases dy with
  | lst ys =>
    obtain ⟨c, e⟩ := guard_ok h
    cases e
    rw [Bool.and_eq_true] at c
    rw [At] at ay
    obtain ⟨p, vs, rfl, _, hp, w⟩ := ay
    obtain ⟨h1, h2⟩ := flat_all ax c.1 w c.2
    exact .inl ⟨p, vs, rfl, .inl (.inl hp), (flat_at ax c.1).1, h1, h2⟩
  | tup ys =>
    obtain ⟨c, e⟩ := guard_ok h
    cases e
    rw [Bool.and_eq_true] at c
    rw [At] at ay
    obtain ⟨p, vs, rfl, hp, w⟩ := ay
    obtain ⟨h1, h2⟩ := flat_all ax c.1 w c.2
    exact .inl ⟨p, vs, rfl, .inr (SqT.of hp), (flat_at ax c.1).1, h1, h2⟩
  | dct ks ds =>
    have h : (match keyD dx with | some k => Rz.ok (ks.any λ j => decide (j = k)) | none => .un) = .ok b := h
    cases e : keyD dx with
    | none => rw [e] at h; cases h
    | some k =>
      rw [e] at h
      cases h
      have hk := at_key ax e
      subst hk
      rw [At] at ay
      obtain ⟨p, vs, rfl, _, hp, l, w⟩ := ay
      refine .inr ⟨p, valV (ks.zip vs) k, rfl, DGet.k hp, ?_⟩
      rw [val_zip, val_some k ks vs (by rw [w.length]; exact l)]
  | _ => cases h
theorem opS_in : OpS K cl (λ x y H Q => rIn K false x y H Q \/ ∃ a o, y = .ref a /\ DGet H a x o /\ Q (.bl o.isSome) H) dIn := by
  intro H S x y dx dy Q ax ay p
  unfold dIn at p
  cases e : inD dx dy with
  | ok b =>
    rw [e] at p
    have q := p.2 (.bl b) H (Same.refl H) λ S' => by rw [At]
    rcases in_all ax ay e with ⟨r, xs, h1, h2, h3, h4, h5⟩ | ⟨a, o, h1, h2, h3⟩
    · exact .inl ⟨r, xs, h1, h2, h3, h4, by rw [if_neg Bool.false_ne_true, h5]; exact q⟩
    · exact .inr ⟨a, o, h1, h2, by rw [h3]; exact q⟩
  | er c s => rw [e] at p; exact p.elim
  | un => rw [e] at p; exact p.elim
theorem opS_notin : OpS K cl (λ x y H Q => rIn K true x y H Q \/ ∃ a o, y = .ref a /\ DGet H a x o /\ Q (.bl (!o.isSome)) H) dNotIn := by
  intro H S x y dx dy Q ax ay p
  unfold dNotIn at p
  cases e : inD dx dy with
  | ok b =>
    rw [e] at p
    have q := p.2 (.bl (!b)) H (Same.refl H) λ S' => by rw [At]
    rcases in_all ax ay e with ⟨r, xs, h1, h2, h3, h4, h5⟩ | ⟨a, o, h1, h2, h3⟩
    · exact .inl ⟨r, xs, h1, h2, h3, h4, by rw [if_pos rfl, h5]; exact q⟩
    · exact .inr ⟨a, o, h1, h2, by rw [h3]; exact q⟩
  | er c s => rw [e] at p; exact p.elim
  | un => rw [e] at p; exact p.elim
theorem in_imm : ∀ x y d, dIn x y = .ok d -> d.imm = true := λ x y d h => by
  obtain ⟨b, _, h⟩ := post_bindG (T := λ r => r = Rz.ok d) (λ o_ o_ z => by cases z) (λ z => by cases z) h
  cases h; rfl
theorem notin_imm : ∀ x y d, dNotIn x y = .ok d -> d.imm = true := λ x y d h => by
  obtain ⟨b, _, h⟩ := post_bindG (T := λ r => r = Rz.ok d) (λ o_ o_ z => by cases z) (λ z => by cases z) h
  cases h; rfl
theorem op_addS : OpR X (binaryOp .Add) (λ x y H Q => rI0 (λ i j => .int (i + j)) x y H Q \/ ∃ i j, x = .str i /\ y = .str j /\ i.length + j.length <= sizeLine /\ Q (.str (i ++ j)) H) := OpR.or op_add op_add_str
theorem op_addU : OpR X (binaryOp .Add) (λ x y H Q => (rI0 (λ i j => .int (i + j)) x y H Q \/ ∃ i j, x = .str i /\ y = .str j /\ i.length + j.length <= sizeLine /\ Q (.str (i ++ j)) H) \/
    (∃ l b xs zs, x = .ref l /\ y = .ref b /\ Rd H l (.lst xs) /\ Rd H b (.lst zs) /\ xs.length + zs.length <= sizeLine /\ ∀ p, H p = none -> Q (.ref p) (upd H p (.lst (xs ++ zs)))) \/ rCatT X.K x y H Q) := OpR.or (OpR.or op_add op_add_str) (OpR.or op_catR op_catT)
theorem one_ats {H : Hp} {S : Addr -> Prop} {vs : List V} {ds : List D} {r : Prop} (w : Ats K cl H S vs ds) (h1 : ∀ v d, vs = [v] -> ds = [d] -> At K cl H S v d -> r) (h2 : (∀ d, ds ≠ [d]) -> r) : r := by
  match vs, ds, w with
  | [v], [d], w => rw [Ats] at w; exact h1 v d rfl rfl w.1
  | _, [], _ => exact h2 λ d z => by cases z
  | _, _ :: _ :: _, _ => exact h2 λ d z => by cases z
  | [], [_], w => rw [Ats] at w; exact w.elim
  | _ :: _ :: _, [_], w => rw [Ats, Ats] at w; exact w.2.elim
theorem bls_ats {H : Hp} {S : Addr -> Prop} : ∀ {vs : List V} {ds : List D} {bs : List Bool}, Ats K cl H S vs ds -> blsD ds = some bs -> vs = bs.map V.bl
  | [], [], bs, _, e => by cases e; rfl
  | v :: vs, d :: ds, bs, w, e => by
    rw [Ats] at w
    cases d with
    | bl b =>
      rw [blsD] at e
      cases q : blsD ds with
      | none => rw [q] at e; cases e
      | some r =>
        rw [q] at e
        cases e
        have w1 := w.1
        rw [At] at w1
        rw [List.map_cons, w1, bls_ats w.2 q]
    | _ => cases e
  | [], _ :: _, _, z, _ => by rw [Ats] at z; exact z.elim
  | _ :: _, [], _, z, _ => by rw [Ats] at z; exact z.elim
theorem callS_all : CallS K cl (λ xs H Q => ∃ (a : Addr) (bs : List Bool), xs = [.ref a] /\ SqL K H a (bs.map V.bl) /\ Q (.bl (bs.all id)) H) pAll := by
  intro H S vs ds Q w z
  refine one_ats w (λ v d e1 e2 a => ?_) (λ n => ?_)
  · subst e1 e2
    cases d with
    | lst xs =>
      rw [At] at a
      obtain ⟨b, us, rfl, _, hb, wb⟩ := a
      have z : match (optR (blsD xs)).bind λ bs => Rz.ok (D.bl (bs.all id)) with | .ok d => ∀ v, (∀ S', At K cl H S' v d) -> Q v H | _ => False := z
      cases e : blsD xs with
      | none => rw [e] at z; exact z.elim
      | some bs =>
        rw [e] at z
        refine ⟨b, bs, rfl, ?_, z _ λ S' => by rw [At]⟩
        rw [<- bls_ats wb e]
        exact .inl hb
    | _ => exact z.elim
  · match ds, n, z with
    | [], _, z => exact z.elim
    | [d], n, _ => exact absurd rfl (n d)
    | _ :: _ :: _, _, z => exact z.elim
theorem one_big {f : D -> Rz D} (h : ∀ x d, f x = .ok d -> d.big = false) : ∀ ds d, one1 f ds = .ok d -> d.big = false := λ ds d e => by
  match ds, e with
  | [x], e => exact h x d e
  | [], e => cases e
  | _ :: _ :: _, e => cases e
theorem all_big : ∀ ds d, pAll ds = .ok d -> d.big = false := one_big λ x d h => by
  cases x <;> first | (cases h; done) | skip
  obtain ⟨b, _, h⟩ := post_bindG (T := λ r => r = Rz.ok d) (λ o_ o_ z => by cases z) (λ z => by cases z) h
  cases h; rfl
theorem call_listU (hc : X.calm = true) : CallR X (.type "list") (λ xs H Q => (∃ p ys, xs = [.ref p] /\ (SqL X.K H p ys \/ SqT X.K H p ys) /\ ∀ l, H l = none -> Q (.ref l) (upd H l (.lst ys))) \/ ∃ a kvs, xs = [.ref a] /\ H a = some (.dK kvs) /\ ∀ l, H l = none -> Q (.ref l) (upd H l (.lst (keysV kvs)))) :=
  CallR.or call_list_of (call_list_dict hc)
theorem keys_ats {H : Hp} {S : Addr -> Prop} : ∀ (ks : List Ky) (vs : List V), ks.length = vs.length -> Ats K cl H S (keysV (ks.zip vs)) (ks.map kyD)
  | [], [], _ => Ats.nil
  | [], _ :: _, h => by simp at h
  | _ :: _, [], h => by simp at h
  | k :: ks, v :: vs, h => by
    have e : keysV ((k :: ks).zip (v :: vs)) = kV k :: keysV (ks.zip vs) := rfl
    rw [e, List.map_cons]
    refine Ats.cons ?_ (keys_ats ks vs (by simpa using h))
    cases k <;> (show At K cl H S _ _; unfold kyD kV; rw [At])
theorem callD_list : CallD K cl (λ xs H Q => (∃ p ys, xs = [.ref p] /\ (SqL K H p ys \/ SqT K H p ys) /\ ∀ l, H l = none -> Q (.ref l) (upd H l (.lst ys))) \/ ∃ a kvs, xs = [.ref a] /\ H a = some (.dK kvs) /\ ∀ l, H l = none -> Q (.ref l) (upd H l (.lst (keysV kvs)))) pList := by
  intro H S vs ds Q cs w z
  refine one_ats w (λ v d e1 e2 a => ?_) (λ n => ?_)
  · subst e1 e2
    cases d with
    | lst xs =>
      rw [At] at a
      obtain ⟨b, us, rfl, _, hb, wb⟩ := a
      refine .inl ⟨b, us, rfl, .inl (.inl hb), λ l hl => ?_⟩
      obtain ⟨q1, q2⟩ := own_lst hl wb (cs l hl)
      exact z _ _ (same_new' hl _) q1 q2
    | tup xs =>
      rw [At] at a
      obtain ⟨b, us, rfl, hb, wb⟩ := a
      refine .inl ⟨b, us, rfl, .inr (SqT.of hb), λ l hl => ?_⟩
      obtain ⟨q1, q2⟩ := own_lst hl wb (cs l hl)
      exact z _ _ (same_new' hl _) q1 q2
    | dct ks xs =>
      rw [At] at a
      obtain ⟨b, us, rfl, _, hb, kl, wb⟩ := a
      refine .inr ⟨b, _, rfl, hb, λ l hl => ?_⟩
      obtain ⟨q1, q2⟩ := own_lst hl (keys_ats (K := K) (cl := cl) (H := H) (S := S) ks us (by rw [wb.length]; exact kl)) (cs l hl)
      exact z _ _ (same_new' hl _) q1 q2
    | _ => exact z.elim
  · match ds, n, z with
    | [], _, z => exact z.elim
    | [d], n, _ => exact absurd rfl (n d)
    | _ :: _ :: _, _, z => exact z.elim
theorem callD_tuple : CallD K cl (λ xs H Q => ∃ p ys, xs = [.ref p] /\ ((SqL K H p ys /\ ∀ l, H l = none -> Q (.ref l) (upd H l (.tup ys))) \/ (SqT K H p ys /\ Q (.ref p) H))) pTuple := by
  intro H S vs ds Q cs w z
  refine one_ats w (λ v d e1 e2 a => ?_) (λ n => ?_)
  · subst e1 e2
    cases d with
    | lst xs =>
      rw [At] at a
      obtain ⟨b, us, rfl, _, hb, wb⟩ := a
      refine ⟨b, us, rfl, .inl ⟨.inl hb, λ l hl => z _ _ (same_new' hl _) ?_ (Nw.small rfl)⟩⟩
      rw [At]
      exact ⟨l, us, rfl, upd_same, wb.same (same_new' hl _)⟩
    | tup xs =>
      have a' := a
      rw [At] at a
      obtain ⟨b, us, rfl, hb, wb⟩ := a
      exact ⟨b, us, rfl, .inr ⟨SqT.of hb, z _ H (Same.refl H) a' (Nw.small rfl)⟩⟩
    | _ => exact z.elim
  · match ds, n, z with
    | [], _, z => exact z.elim
    | [d], n, _ => exact absurd rfl (n d)
    | _ :: _ :: _, _, z => exact z.elim
end
section
variable {X : Cx} {C : Dc} {L : List Kd × List Nat} {κ : List Kd} {kx : Kd} {fe : Bool} {elt iter : Expr} {ifs : List Expr} {ge : GE} {gi : GI} {gt : GT} {pos px : Pos} {x : Str} {sc : Scope}
end
theorem de_glob {X : Cx} {C : Dc} {κ : List Kd} {m : Kd} {x : Str} {i : Int} {t : Tok} {pos : Pos} (hg : Gl X x) (hm : X.mg x = some (.int i t)) (hd : (x == ("__debug__" : Str)) = false := by decide) : DE X C κ m true (.Name x pos) (gC (.int i)) :=
  ⟨_, pe_glob (v := .int i) hg hm ⟨t, rfl⟩ hd, λ F σ H δ r Q p => p _ H (Same.refl H) (by rw [At]) λ o_ => Nw.small rfl⟩
theorem de_chain {X : Cx} {C : Dc} {κ : List Kd} {m : Kd} {fa fb fc : Bool} {a b c : Expr} {ga gb gc : GE} {pos : Pos} {op op' : CmpOp} {r r' : R2} {p p' : D -> D -> Rz D} (ho : OpR X (compareOp op) r) (ho' : OpR X (compareOp op') r') (hp : OpS X.K C.cl r p) (hp' : OpS X.K C.cl r' p') (hi : ∀ x y d, p x y = .ok d -> d.imm = true) (hi' : ∀ x y d, p' x y = .ok d -> d.imm = true)
    (ha : DE X C κ .v fa a ga) (hb : DE X C κ .v fb b gb) (hc : DE X C κ .v fc c gc) (hm : lastMarks [op, op'] [b, c] = false := by with_unfolding_all rfl) : DE X C κ m true (.Compare a [op, op'] [b, c] pos) (gChain p p' ga gb gc) := by
  obtain ⟨ta, pa, da⟩ := ha
  obtain ⟨tb, pb, db⟩ := hb
  obtain ⟨tc, pc, dc⟩ := hc
  refine ⟨_, pe_chain ho ho' pa pb pc hm, λ F σ H δ rx Q z => da F σ H δ rx _ ?_⟩
  obtain ⟨d1, e1, z⟩ := post_bind (T := Post X.K C F m true H Q) (λ o_ o_ q => q) (λ q => q) z
  obtain ⟨d2, e2, z⟩ := post_bind (T := Post X.K C F m true H Q) (λ o_ o_ q => q) (λ q => q) z
  obtain ⟨d3, e3, z⟩ := post_bind (T := Post X.K C F m true H Q) (λ o_ o_ q => q) (λ q => q) z
  rw [e1]
  intro v H1 s1 a1 _
  refine db F σ H1 δ (rx.same s1) _ ?_
  rw [e2]
  intro u H2 s2 a2 _
  refine hp H2 _ v u d1 d2 _ (a1.same s2) a2 ?_
  rw [e3]
  refine ⟨hi _ _ _ e3, λ w H3 s3 aw => ?_⟩
  have s13 := (s1.trans s2).trans s3
  cases d3 with
  | bl k =>
    have q := aw (λ o_ => True)
    rw [At] at q
    refine ⟨k, q, ?_⟩
    cases k with
    | false => exact iteF (z _ H3 s13 (by rw [At]) λ o_ => Nw.small rfl)
    | true =>
      refine iteT (dc F σ H3 δ (rx.same s13) _ ?_)
      obtain ⟨d4, e4, z⟩ := post_bind (T := Post X.K C F m true H Q) (λ o_ o_ q => q) (λ q => q) z
      rw [e4]
      intro w4 H4 s4 a4 _
      refine hp' H4 _ u w4 d2 d4 Q (a2.same (s3.trans s4)) a4 ?_
      cases q5 : p' d2 d4 with
      | ok d5 =>
        rw [q5] at z
        have im := hi' _ _ _ q5
        exact ⟨im, λ w5 H5 s5 a5 => z w5 H5 ((s13.trans s4).trans s5) (a5 _) λ o_ => Nw.small (by cases d5 <;> first | rfl | (rw [D.imm] at im; cases im))⟩
      | er c s => rw [q5] at z; exact z.elim
      | un => rw [q5] at z; exact z.elim
  | _ => exact z.elim
theorem dt_inW {X : Cx} {C : Dc} {κ : List Kd} {fa : Bool} {a : Expr} {ga : GE} {x : Str} {pos p2 : Pos} {ad : Addr} {ob : Obj} {its : Array Value} {n : Nat} {ws : List Str} (hg : Gl X x) (hm : X.mg x = some (.ref ad)) (hk : X.K.lookup ad = some ob) (hc : ob.cls = .type "tuple") (hd : ob.data = .seq its n) (hz : its.size <= sizeLine) (hv : Vals (ws.map V.str) its.toList)
    (ha : DE X C κ .v fa a ga) (hmk : behindInMarks .In (.Name x p2) = false := by rfl) (hdb : (x == ("__debug__" : Str)) = false := by decide) : DT X C κ (.Compare a [.In] [.Name x p2] pos) (gB (gUn (dInW ws) ga)) := by
  obtain ⟨ta, pa, da⟩ := ha
  refine ⟨_, pt_cmpR op_in_seq pa (pe_glob (v := .ref ad) hg hm rfl hdb) hmk, λ F σ H δ rx Q z => da F σ H δ rx _ ?_⟩
  have z : PostT H Q (((ga δ).bind (dInW ws)).bind λ x => match x with | .bl c => .ok c | _ => .un) := z
  obtain ⟨d0, e0, z⟩ := post_bind (T := PostT H Q) (λ o_ o_ q => q) (λ q => q) z
  obtain ⟨d1, e1, e0⟩ := post_bind (T := λ r => r = Rz.ok d0) (λ o_ o_ z => by cases z) (λ z => by cases z) e0
  rw [e1]
  intro v H1 s1 a1 _
  cases d1 with
  | str y =>
    cases e0
    rw [At] at a1
    subst a1
    refine ⟨ad, ws.map V.str, rfl, .inr (.inr ⟨ob, its, n, hk, hc, hd, hz, hv⟩), rfl, by rw [List.all_map, List.all_eq_true]; intro _ _; rfl, ?_⟩
    have e : inV (.str y) (ws.map V.str) = decide (y ∈ ws) := by
      unfold inV
      rw [List.any_map, Bool.eq_iff_iff, List.any_eq_true, decide_eq_true_iff]
      constructor
      · rintro ⟨q, hq, e⟩
        have e : (q == y) = true := e
        rw [<- eq_of_beq e]
        exact hq
      · intro h
        exact ⟨y, h, beq_self_eq_true y⟩
    rw [if_neg Bool.false_ne_true, e]
    exact ⟨_, rfl, z H1 s1⟩
  | _ => cases e0
theorem boot_tuple' : bootBuiltins "tuple" = some (.type "tuple") := by decide +kernel
theorem boot_list' : bootBuiltins "list" = some (.type "list") := by decide +kernel
theorem boot_all' : bootBuiltins "all" = some (.builtin "all") := by decide +kernel
end Dl
namespace Dl
open PySem L2 PyProof.Rows
section
variable {X : Cx} {C : Dc} {L : List Kd × List Nat} {κ κ' : List Kd} {m : Kd} {fr fa fb fk : Bool} {a b e o : Expr} {es : List Expr} {ga gb ge gk : GE} {gs : GA} {pos p apos : Pos} {x : Str} {c : Nat} {f : Str}
set_option tactic.hygienic true in
theorem de_fld (cls : Cls X.K (C.cl c)) (na : NoAttr X.K (C.cl c) f) (ha : DE X C κ m fa e ga) (hb : attributeBase e f X.env (eval e X.env) = eval e X.env := by rfl) : DE X C κ m false (.Attribute e f pos) (gUn (dFld c f) ga) := by
  obtain ⟨t, pt, dt⟩ := ha
  refine ⟨_, pe_fld pt hb, λ F σ H δ r Q z => dt F σ H δ r _ ?_⟩
  obtain ⟨d, e1, z⟩ := post_bind (T := Post X.K C F m false H Q) (λ o_ o_ q => q) (λ q => q) z
  rw [e1]
  intro v H1 s1 a1 _
  cases d with
  | obj c' f' d =>
    have z : Post X.K C F m false H Q (Rz.guard (c' = c /\ f' = f) (.ok d)) := z
    obtain ⟨hh, z2⟩ := post_guard (T := Post X.K C F m false H Q) (λ z => z) z
    clear z
    obtain ⟨rfl, rfl⟩ := hh
    rw [At] at a1
    obtain ⟨a, dx, u, rfl, sa, ha, wu⟩ := a1
    exact ⟨a, _, dx, _, u, rfl, ha, cls, na, by simp [List.lookup], z2 u H1 s1 wu (λ z => by cases z)⟩
  | _ => exact z.elim
theorem obj_look {K : PySem.W.Frag} {cl : Nat -> Addr} {H : Hp} {S : Addr -> Prop} {v : V} {d : D} {mm : Str} (a : At K cl H S v d) (i : isObj c mm d = true) : ∃ q dx fs, v = .ref q /\ H q = some (.ins (cl c) dx fs) /\ fs.lookup mm = none := by
  cases d with
  | obj c' f' d =>
    simp only [isObj, Bool.and_eq_true, decide_eq_true_eq, Bool.not_eq_true', decide_eq_false_iff_not] at i
    obtain ⟨rfl, ne⟩ := i
    rw [At] at a
    obtain ⟨q, dx, u, rfl, _, h, _⟩ := a
    refine ⟨q, dx, _, rfl, h, ?_⟩
    have e : (mm == f') = false := by
      cases h : mm == f' with
      | false => rfl
      | true => exact absurd (eq_of_beq h).symm ne
    simp only [List.lookup, e]
  | _ => cases i
theorem meth_sem {F : PF} {n : Nat} {mm : Str} {ta : TE} {t : TA} (hlen : ∀ δ ds, gs δ = .ok ds -> ds.length + 1 = n) (da : ∀ F σ H δ, Rx X.K C κ F σ H δ -> ∀ Q, Post X.K C F .v fa H Q (ga δ) -> ta σ H Q)
    (dt : ∀ F σ H δ, Rx X.K C κ F σ H δ -> ∀ Q, PostA X.K C F .v H Q (gs δ) -> t σ H Q) : ∀ Fo σ H δ, Rx X.K C κ Fo σ H δ -> ∀ Q, Post X.K C Fo m true H Q (gMeth c mm F ga gs δ) -> tMeth (C.cl c) mm (spD X.K C.cl n F) [] E0 ta t σ H Q := by
  intro Fo σ H δ r Q z
  refine da Fo σ H δ r _ ?_
  obtain ⟨d, e1, z⟩ := post_bind (T := Post X.K C Fo m true H Q) (λ o_ o_ q => q) (λ q => q) z
  obtain ⟨ds, e2, z⟩ := post_bindG (T := Post X.K C Fo m true H Q) (λ o_ o_ q => q) (λ q => q) z
  obtain ⟨hi, z⟩ := post_guard (T := Post X.K C Fo m true H Q) (λ z => z) z
  rw [e1]
  intro v H1 s1 a1 _
  obtain ⟨q, dx, fs, rfl, hq, hl⟩ := obj_look a1 hi
  refine ⟨q, dx, fs, rfl, hq, hl, dt Fo σ H1 δ (r.same s1) _ ?_⟩
  rw [e2]
  intro vs H2 s2 a2
  rw [List.append_nil]
  have s12 := s1.trans s2
  cases q' : F (d :: ds) with
  | ok d' =>
    rw [q'] at z
    refine ⟨d :: ds, d', by rw [List.length_cons]; exact hlen δ ds e2, Ats.cons ((a1.same s2).sub λ o_ o_ o_ => trivial) (a2.sub λ o_ o_ o_ => trivial), q', λ v H' s' a n => z v H' (s12.trans s') (a.sub λ b h o_ => (r.same s12).new m h) λ o_ => ?_⟩
    intro hb
    obtain ⟨l, o, hn⟩ := n hb
    exact ⟨l, o.mono TupK.refl (λ o_ o_ o_ e => e) (λ o_ o_ o_ e => e) λ b h o_ => (r.same s12).new m h, λ b mb => s12.free (hn b mb)⟩
  | er c s => rw [q'] at z; exact z.elim
  | un => rw [q'] at z; exact z.elim
theorem de_meth {ps : List Str} {fx : Addr} {fd : FuncData} {k n : Nat} {F : PF} {mm : Str} {pl : Sem Bool} (cls : Cls X.K (C.cl c)) (hm : Meth X.K (C.cl c) mm fx) (G : FnOk X.prog X.w X.K X.mg X.base CX0 k fx fd ps (spD X.K C.cl n F)) (hr : Room k X.A) (hb : Binds X.K fd ps []) (hlen : ∀ δ ds, gs δ = .ok ds -> ds.length + 1 = n)
    (ho : DE X C κ .v fa o ga) (ha : DA X C κ .v (e :: es) gs) (hst : starEach (e :: es) X.env = (false, eval e X.env) :: starEach es X.env := by rfl) (hpl : (backTo pos (starEach es X.env)).any (·.1) = false := by rfl)
    (ht : eval (.Call (.Attribute o mm apos) (e :: es) [] pos) X.env = (do
      let ov <- eval o X.env
      standAt apos.atName
      let (f, first) <- holding [ov] (getMethod ov mm pl)
      callWith pos f first (backTo pos (starEach (e :: es) X.env)) (backToKw pos (keywordEach [] X.env))) := by rfl) : DE X C κ m true (.Call (.Attribute o mm apos) (e :: es) [] pos) (gMeth c mm F ga gs) := by
  obtain ⟨ta, pa, da⟩ := ho
  obtain ⟨t, pt, dt⟩ := ha
  exact ⟨_, pe_meth pa cls hm G hr hb .nil pass0 pt hst hpl ht, meth_sem hlen da dt⟩
theorem de_meth0 {ps : List Str} {fx : Addr} {fd : FuncData} {k : Nat} {F : PF} {mm : Str} {pl : Sem Bool} (cls : Cls X.K (C.cl c)) (hm : Meth X.K (C.cl c) mm fx) (G : FnOk X.prog X.w X.K X.mg X.base CX0 k fx fd ps (spD X.K C.cl 1 F)) (hr : Room k X.A) (hb : Binds X.K fd ps [])
    (ho : DE X C κ .v fa o ga)
    (ht : eval (.Call (.Attribute o mm apos) [] [] pos) X.env = (do
      let ov <- eval o X.env
      standAt apos.atName
      let (f, first) <- holding [ov] (getMethod ov mm pl)
      callWith pos f first (backTo pos (starEach [] X.env)) (backToKw pos (keywordEach [] X.env))) := by rfl) : DE X C κ m true (.Call (.Attribute o mm apos) [] [] pos) (gMeth c mm F ga gNil) := by
  obtain ⟨ta, pa, da⟩ := ho
  exact ⟨_, pe_meth0 pa cls hm G hr hb .nil pass0 ht, meth_sem (λ δ ds h => by rw [gNil_len δ ds h]) da λ F σ H δ r Q z => z [] H (Same.refl H) Ats.nil⟩
noncomputable def spInit (C : Addr) (f : Str) : Sp := λ vs H Q o_ => ∃ (q dx : Addr), vs = [.ref q] /\ H q = some (.ins C dx []) /\ ∀ (d : Addr), H d = none -> Q .non (upd (upd H d (.dK [])) q (.ins C dx [(f, .ref d)]))
theorem de_make {ps : List Str} {fx : Addr} {fd : FuncData} {k : Nat} {x : Str} (M : Mk X.K (C.cl c) fx) (G : FnOk X.prog X.w X.K X.mg X.base CX0 k fx fd ps (spInit (C.cl c) f)) (hr : Room (k + 1) X.A) (hg : Gl X x) (hm : X.mg x = some (.ref (C.cl c))) (hb : Binds X.K fd ps []) (hdb : (x == ("__debug__" : Str)) = false := by decide) :
    DE X C κ m true (.Call (.Name x p) [] [] pos) (gC (.obj c f (.dct [] []))) := by
  refine ⟨_, pe_make0 M G hr hg hm hb .nil pass0 hdb, λ F σ H δ r Q z q dx hq hdx ne => ?_⟩
  refine ⟨q, dx, rfl, upd_same, λ d hd => ⟨rfl, ?_⟩⟩
  have s0 : Same H (upd (upd H dx (.own q)) q (.ins (C.cl c) dx [])) := (same_new' hdx _).trans (same_new' (by rw [upd_ne (Ne.symm ne)]; exact hq) _)
  have nqd : q ≠ d := λ z => by rw [<- z, upd_same] at hd; cases hd
  have hd0 : H d = none := s0.free hd
  have s1 : Same H (upd (upd (upd (upd H dx (.own q)) q (.ins (C.cl c) dx [])) d (.dK [])) q (.ins (C.cl c) dx [(f, .ref d)])) := λ b u e => by
    rw [upd_ne (ne_of_none e hq), upd_ne (ne_of_none e hd0)]
    exact s0 b u e
  refine z _ _ s1 ?_ λ o_ o_ => ⟨[q, d], ⟨q, dx, d, [], rfl, rfl, nqd, upd_same, by rw [upd_ne (Ne.symm nqd), upd_same]; rfl, rfl, Ats.nil⟩, λ b mb => ?_⟩
  · rw [At]
    refine ⟨q, dx, .ref d, rfl, r.new m hq, upd_same, ?_⟩
    rw [At]
    exact ⟨d, [], rfl, r.new m hd0, by rw [upd_ne (Ne.symm nqd), upd_same]; rfl, rfl, Ats.nil⟩
  · rcases List.mem_cons.mp mb with rfl | mb
    · exact hq
    · rw [List.mem_singleton.mp mb]; exact hd0
noncomputable def gNames : List Nat -> TGs
  | [] => L2.gNil
  | i :: r => L2.gCons (L2.gName i) (gNames r)
noncomputable def setKs (κ : List Kd) (is : List Nat) : List Kd := is.foldl (λ κ i => κ.set i .s) κ
theorem unp_sem {K : PySem.W.Frag} : ∀ {is : List Nat} {κ : List Kd} {φ : Nat -> List Addr} {σ : L2.St} {H : Hp} {δ δ' : DS} {vs : List V} {ds : List D} {Q : L2.St -> Hp -> Prop} {F0 : Addr -> Prop} {H0 : Hp}, Rs K C κ φ σ H δ -> (∀ i ∈ is, i < κ.length /\ i ∉ C.io) -> Ats K C.cl H (Sk C (Fo φ) .s) vs ds -> setT is ds δ = some δ' -> Kp F0 H0 (Fo φ) H ->
    (∀ φ' σ', Rs K C (setKs κ is) φ' σ' H δ' -> Kp F0 H0 (Fo φ') H -> Q σ' H) -> gNames is vs σ H Q
  | [], κ, φ, σ, H, δ, δ', vs, ds, Q, F0, H0, r, _, w, e, kp, q => by
    match vs, ds, w with
    | [], [], _ => cases e; exact ⟨rfl, q φ σ r kp⟩
    | _ :: _, [], w => rw [Ats] at w; exact w.elim
    | _, _ :: _, _ => cases e
  | i :: is, κ, φ, σ, H, δ, δ', vs, ds, Q, F0, H0, r, hi, w, e, kp, q => by
    match vs, ds, w with
    | v :: vs, d :: ds, w =>
      rw [Ats] at w
      rw [setT] at e
      obtain ⟨h1, h2⟩ := hi i List.mem_cons_self
      obtain ⟨r2, kp2⟩ := r.put (k := .s) (l := []) (Same.refl H) h1 (show SlOk K C (Fo (φset φ i [])) H [] v d .s from w.1.sub λ b z o_ => ⟨z.1, λ f => z.2 (fo_sub f)⟩) (λ a m => absurd m (by simp)) h2
      refine ⟨v, vs, rfl, ?_⟩
      exact unp_sem r2 (λ j hj => by rw [List.length_set]; exact hi j (List.mem_cons_of_mem _ hj)) (w.2.sub λ b z o_ => ⟨z.1, λ f => z.2 (fo_sub f)⟩) e (kp.trans kp2) q
    | _, [], _ => cases e
    | [], _ :: _, w => rw [Ats] at w; exact w.elim
theorem ds_unp {is : List Nat} {k : Nat} {tpos : Pos} (his : ∀ i ∈ is, i < κ.length /\ C.io.contains i = false) (hc : X.calm = true) (hg : PGs X es (gNames is)) (hn : (assignEach es X.env).length = is.length) (h : DE X C κ .s fr e ge)
    (hst : (assignEach es X.env).findIdx? (·.1) = none := by rfl) (hs : swapsWithSole [.Tuple es k tpos] e pos.line X.env = pure false := by rfl) (hw : swappedStores [.Tuple es k tpos] e X.env = pure none := by rfl)
    (h1 : (assignEach [.Tuple es k tpos] X.env).map (·.2) = [assign (.Tuple es k tpos) X.env] := by rfl) : DSt X C L κ (setKs κ is) (.Assign [.Tuple es k tpos] e pos) (gUnp is ge) := by
  obtain ⟨t, pt, dt⟩ := h
  refine ⟨_, ps_asg pt (pg_tup hc hg hn hst) hs hw h1, λ φ σ H δ r D p => dt (Fo φ) σ H δ r.rx _ ?_⟩
  obtain ⟨d, e1, p⟩ := post_bind (T := FinS X.K C L (setKs κ is) (Fo φ) H D) (λ o_ o_ q => q) (λ q => q) p
  rw [e1]
  intro v H1 s1 a1 _
  cases d with
  | tup ds =>
    have p : FinS X.K C L (setKs κ is) (Fo φ) H D ((optR (setT is ds δ)).bind λ δ' => .ok (.nx δ')) := p
    cases e2 : setT is ds δ with
    | none => rw [e2] at p; exact p.elim
    | some δ' =>
      rw [e2] at p
      rw [At] at a1
      obtain ⟨q, vs, rfl, hq, w⟩ := a1
      have hl : ∀ {is : List Nat} {ds : List Dl.D} {δ δ' : DS}, setT is ds δ = some δ' -> ds.length = is.length := by
        intro is
        induction is with
        | nil => intro ds δ δ' h; cases ds with
          | nil => rfl
          | cons _ _ => cases h
        | cons i is ih => intro ds δ δ' h; cases ds with
          | nil => cases h
          | cons d ds => rw [setT] at h; rw [List.length_cons, List.length_cons, ih h]
      exact ⟨q, vs, rfl, SqT.of hq, by rw [w.length]; exact hl e2, unp_sem (r.same s1) (λ i hi => ⟨(his i hi).1, notmem (his i hi).2⟩) w e2 (Kp.of s1 λ a f => .inl f) λ φ' σ' r' kp' => p φ' σ' H1 r' kp'⟩
  | _ => exact p.elim
end
end Dl
namespace Dl
open PySem L2
noncomputable def PostIO (K : PySem.W.Frag) (cl : Nat -> Addr) (p : Nat) (l : Nat -> List Addr) (vs : List V) (H : Hp) (Q : VK) : Rz (D × List D) -> Prop
  | .ok (d, es) => ∀ v H', (∀ a o, H a = some o -> (∀ j, j < p -> a ∉ l j) -> H' a = some o) -> TupK H H' -> (∀ a, H a ≠ none -> H' a ≠ none) -> (∀ (j : Nat) e, j < p -> es[j]? = some e -> ∃ u, vs[j]? = some u /\ Own K cl H' (λ o_ => False) (l j) u e) ->
      At K cl H' (λ a => H a = none) v d -> Nw K cl H H' (λ a => H a = none) v d -> Q v H'
  | _ => False
noncomputable def spI (K : PySem.W.Frag) (cl : Nat -> Addr) (n p : Nat) (F : PFI) : Sp := λ vs H Q o_ => ∃ (ds : List D) (l : Nat -> List Addr), ds.length = n /\ vs.length = n /\
  (∀ (i : Nat) d, ds[i]? = some d -> ∃ v, vs[i]? = some v /\ (i < p -> Own K cl H (λ o_ => False) (l i) v d) /\ (p <= i -> At K cl H (λ a => ∀ j, j < p -> a ∉ l j) v d)) /\
  (∀ i j a, i < p -> j < p -> a ∈ l i -> a ∈ l j -> i = j) /\ PostIO K cl p l vs H Q (F ds)
section
variable {K : PySem.W.Frag} {cl : Nat -> Addr} {H H' : Hp} {S S' : Addr -> Prop}
theorem Own.imO {l : List Addr} {v : V} : ∀ {d : D}, d.imO = true -> Own K cl H S l v d -> Own K cl H S' l v d
  | .lst ds, i, ⟨a, vs, e, el, q, r⟩ => ⟨a, vs, e, el, q, r.imm TupK.refl i⟩
  | .dct ks ds, i, ⟨a, vs, e, el, q, k, r⟩ => ⟨a, vs, e, el, q, k, r.imm TupK.refl i⟩
  | .obj c f (.dct ks ds), i, ⟨a, dx, b, vs, e, el, ne, q, qb, k, r⟩ => ⟨a, dx, b, vs, e, el, ne, q, qb, k, r.imm TupK.refl i⟩
set_option tactic.hygienic true in
theorem getS_at : ∀ {is : List Nat} {δ : DS} {es : List D}, getS is δ = .ok es -> es.length = is.length /\ ∀ (k i : Nat), is[k]? = some i -> ∃ e, δ[i]? = some (some e) /\ es[k]? = some e /\ e.imO = true
  | [], δ, es, h => by cases h; exact ⟨rfl, λ k i e => by simp at e⟩
  | i :: is, δ, es, h => by
    rw [getS] at h
    split at h
    · rename_i d q
      obtain ⟨hi, h⟩ := guard_ok h
      obtain ⟨ds, h1, h⟩ := post_bindG (T := λ r => r = Rz.ok es) (λ o_ o_ z => by cases z) (λ z => by cases z) h
      cases h
      obtain ⟨hl, hs⟩ := getS_at h1
      refine ⟨by rw [List.length_cons, List.length_cons, hl], λ k j e => ?_⟩
      cases k with
      | zero =>
        have e : i = j := Option.some.inj e
        subst e
        exact ⟨d, q, rfl, hi⟩
      | succ k => exact hs k j e
    · cases h
theorem setS_len : ∀ (is : List Nat) (es : List D) (δ : DS), (setS is es δ).length = δ.length
  | [], _, δ => by rw [setS]; simp
  | _ :: _, [], δ => by rw [setS]; simp
  | i :: is, e :: es, δ => by rw [setS, setS_len is es, List.length_set]
theorem setS_get : ∀ {is : List Nat} {es : List D} {δ : DS} {j : Nat} {d : D}, is.Nodup -> es.length = is.length -> (setS is es δ)[j]? = some (some d) -> (∃ k : Nat, is[k]? = some j /\ es[k]? = some d) \/ (j ∉ is /\ δ[j]? = some (some d))
  | [], [], δ, j, d, _, _, h => .inr ⟨by simp, h⟩
  | [], _ :: _, _, _, _, _, l, _ => by simp at l
  | _ :: _, [], _, _, _, _, l, _ => by simp at l
  | i :: is, e :: es, δ, j, d, nd, l, h => by
    rw [setS] at h
    obtain ⟨n1, n2⟩ := List.nodup_cons.mp nd
    rcases setS_get n2 (by simpa using l) h with ⟨k, h1, h2⟩ | ⟨h1, h2⟩
    · exact .inl ⟨k + 1, h1, h2⟩
    · rcases get_set h2 with ⟨rfl, e', _⟩ | ⟨ne, e'⟩
      · cases e'
        exact .inl ⟨0, rfl, rfl⟩
      · exact .inr ⟨λ m => (List.mem_cons.mp m).elim (λ z => ne z.symm) h1, e'⟩
end
theorem io_ok {io : List Nat} {κ : List Kd} (h : (io.all λ j => decide (κ[j]? = some Kd.i)) = true) : ∀ j : Nat, j ∈ io -> κ[j]? = some .i := λ j m => of_decide_eq_true (List.all_eq_true.mp h j m)
section
variable {P : Program} {w : World} {K : PySem.W.Frag} {mg : Str -> Option Value} {base : Heap}
theorem startD_get {n : Nat} {ds : List D} {i : Nat} {d : D} (e : (startD n ds)[i]? = some (some d)) : ds[i]? = some d := by
  unfold startD at e
  by_cases h : i < ds.length
  · rw [List.getElem?_append_left (by simpa using h), List.getElem?_map] at e
    cases q : ds[i]? with
    | none => rw [q] at e; cases e
    | some x => rw [q] at e; exact Option.some.inj e
  · rw [List.getElem?_append_right (by simpa using h), List.getElem?_replicate] at e
    split at e <;> cases e
theorem start_at {N : List Str} {vs : List V} {i : Nat} {v : V} (e : vs[i]? = some v) : (L2.start N vs)[i]? = some (some v) := by
  have h := (List.getElem?_eq_some_iff.mp e).1
  unfold L2.start
  rw [List.getElem?_append_left (by rw [List.length_map]; exact h), List.getElem?_map, e]
  rfl
theorem fn_I {x qual : Str} {st : Stmt} {f : Addr} {fd : FuncData} {N ps : List Str} {k n p : Nat} {io : List Nat} {cl : Nat -> Addr} {κ κ' : List Kd} {g : GS} (F : Fun K x qual st f fd) (S : FnScope N ps (defScope st)) (hn : ps.length = n) (hp : p <= n) (hio : io = List.range p) (hκ : ∀ i : Nat, i < n -> κ[i]? = some (if i < p then .i else .b)) (hend : (io.all λ j => decide (κ'[j]? = some Kd.i)) = true)
    (hbody : ∀ (cdv : Value) (A : Around) (outer : List Env) (s : Shared) (H : Hp) (E : XK) (iv : Nat -> V) (l : Nat -> List Addr), Room k (A.deeper (PyProof.Rows.envOfC qual (defScope st) s.heap.objs.size f cdv)) ->
      DSs (cxOf CX0 P w K mg base N qual (defScope st) f cdv A outer s H E).nox ⟨cl, H, λ a => ∃ j, j < p /\ a ∈ l j, io, iv, l⟩ ([], []) κ κ' (defBody st) g) : FnOk P w K mg base CX0 (k + 1) f fd ps (spI K cl n p (runI N.length p g)) := by
  refine F.ok S (λ vs H Q E h => by obtain ⟨ds, l, h1, h2, _⟩ := h; rw [h2, hn]) (λ cdv A outer s H vs Q E hr h => ?_)
  obtain ⟨ds, l, hl, hvl, hs, hdj, q⟩ := h
  obtain ⟨t, pt, dt⟩ := hbody cdv A outer s H E (λ j => (vs[j]?).getD .non) l hr
  have hmem : ∀ j, j ∈ io ↔ j < p := λ j => by rw [hio]; exact List.mem_range
  have Fiff : ∀ a, Fo (λ j => if j < p then l j else []) a ↔ ∃ j, j < p /\ a ∈ l j := λ a => by
    constructor
    · rintro ⟨j, hj⟩
      have hj : a ∈ (if j < p then l j else []) := hj
      by_cases c : j < p
      · exact ⟨j, c, by rw [if_pos c] at hj; exact hj⟩
      · rw [if_neg c] at hj; exact absurd hj (by simp)
    · rintro ⟨j, c, hj⟩
      exact ⟨j, by show a ∈ (if j < p then l j else []); rw [if_pos c]; exact hj⟩
  have own : ∀ j, j < p -> ∃ d v, ds[j]? = some d /\ vs[j]? = some v /\ Own K cl H (λ o_ => False) (l j) v d := λ j c => by
    have e : ds[j]? = some ds[j] := List.getElem?_eq_getElem (by omega)
    obtain ⟨v, h1, h2, _⟩ := hs j _ e
    exact ⟨_, v, e, h1, h2 c⟩
  have ex : ∀ a, (∃ j, j < p /\ a ∈ l j) -> H a ≠ none := by
    rintro a ⟨j, c, m⟩
    obtain ⟨d, v, _, _, o⟩ := own j c
    exact o.ex m
  refine ⟨t, pt, dt (λ j => if j < p then l j else []) (L2.start N vs) H (startD N.length ds) ?_ _ ?_⟩
  · refine ⟨λ i d e => ?_, λ i j a hi hj => ?_, λ a f => ex a ((Fiff a).mp f), λ a f => .inr ((Fiff a).mp f), λ a o e o_ => e, λ a z => ex a z, TupK.refl, λ j hj => ?_, ?_⟩
    · have e := startD_get e
      have hi : i < n := by rw [<- hl]; exact (List.getElem?_eq_some_iff.mp e).1
      obtain ⟨v, h1, h2, h3⟩ := hs i d e
      refine ⟨v, _, start_at h1, hκ i hi, ?_⟩
      show SlOk K _ _ H (if i < p then l i else []) v d (if i < p then .i else .b)
      by_cases c : i < p
      · rw [if_pos c, if_pos c]
        exact (h2 c).mono TupK.refl (λ a o z => z.elim) (λ o_ o_ o_ e => e) λ a z => z.elim
      · rw [if_neg c, if_neg c]
        exact At.sub (h3 (by omega)) λ a z o_ f => by
          obtain ⟨j, c, m⟩ := (Fiff a).mp f
          exact z j c m
    · have hi : a ∈ (if i < p then l i else []) := hi
      have hj : a ∈ (if j < p then l j else []) := hj
      by_cases ci : i < p
      · by_cases cj : j < p
        · rw [if_pos ci] at hi
          rw [if_pos cj] at hj
          exact hdj i j a ci cj hi hj
        · rw [if_neg cj] at hj; exact absurd hj (by simp)
      · rw [if_neg ci] at hi; exact absurd hi (by simp)
    · have c := (hmem j).mp hj
      obtain ⟨d, v, _, h2, _⟩ := own j c
      refine ⟨?_, by show (if j < p then l j else []) = l j; rw [if_pos c]⟩
      rw [start_at h2]
      show some (some v) = some (some ((vs[j]?).getD .non))
      rw [h2]
      rfl
    · unfold L2.start startD
      rw [List.length_append, List.length_append, List.length_map, List.length_map, List.length_replicate, List.length_replicate, hvl, hl]
  · have fin : ∀ {κr : List Kd} {φ' : Nat -> List Addr} {σ' : L2.St} {H' : Hp} {δ' : DS} {es : List Dl.D} {v : V} {d : Dl.D}, (∀ j : Nat, j ∈ io -> κr[j]? = some .i) -> Rs K ⟨cl, H, λ a => ∃ j, j < p /\ a ∈ l j, io, λ j => (vs[j]?).getD .non, l⟩ κr φ' σ' H' δ' -> getS (List.range p) δ' = .ok es ->
        PostIO K cl p l vs H Q (.ok (d, es)) -> At K cl H' (λ a => H a = none) v d -> Nw K cl H H' (λ a => H a = none) v d -> Q v H' := λ {κr φ' σ' H' δ' es v d} hk r hg q a nw => by
      refine q v H' (λ a o e z => r.fr a o e λ ⟨j, c, m⟩ => z j c m) r.tk (λ a h => ?_) (λ j e c he => ?_) a nw
      · by_cases x : ∃ j, j < p /\ a ∈ l j
        · exact r.xo a x
        · cases eo : H a with
          | none => exact absurd eo h
          | some o => rw [r.fr a o eo x]; exact λ z => by cases z
      · obtain ⟨_, hget⟩ := getS_at hg
        obtain ⟨e', h1, h2, h3⟩ := hget j j (List.getElem?_range c)
        rw [he] at h2
        cases h2
        obtain ⟨u, k', g1, g2, g3⟩ := r.sl j e h1
        have hj : j ∈ io := (hmem j).mpr c
        rw [hk j hj] at g2
        cases g2
        obtain ⟨i1, i2⟩ := r.ii j hj
        rw [g1] at i1
        have i1 : u = (vs[j]?).getD .non := Option.some.inj (Option.some.inj i1)
        obtain ⟨d0, v0, _, h4, _⟩ := own j c
        rw [h4] at i1
        have i1 : u = v0 := i1
        subst i1
        refine ⟨u, h4, ?_⟩
        have g3 : Own K cl H' _ (φ' j) u e := g3
        rw [i2] at g3
        exact g3.imO h3
    have q : PostIO K cl p l vs H Q ((g (startD N.length ds)).bind _) := q
    cases e : g (startD N.length ds) with
    | ok o =>
      rw [e] at q
      cases o with
      | nx δ' =>
        intro φ' σ' H' r _
        have q : PostIO K cl p l vs H Q ((getS (List.range p) δ').bind λ es => .ok (.non, es)) := q
        obtain ⟨es, h1, q⟩ := post_bindG (T := PostIO K cl p l vs H Q) (λ o_ o_ z => z) (λ z => z) q
        exact fin (io_ok hend) r h1 q (by rw [At]) (Nw.small rfl)
      | rt d' δ' =>
        intro v κr φ' σ' H' hk r a nw
        have q : PostIO K cl p l vs H Q ((getS (List.range p) δ').bind λ es => .ok (d', es)) := q
        obtain ⟨es, h1, q⟩ := post_bindG (T := PostIO K cl p l vs H Q) (λ o_ o_ z => z) (λ z => z) q
        exact fin hk r h1 q a nw
      | bk δ' => exact q.elim
      | ct δ' => exact q.elim
    | er c s => rw [e] at q; exact q.elim
    | un => rw [e] at q; exact q.elim
end
noncomputable def PostX (K : PySem.W.Frag) (C : Dc) (κ : List Kd) (φ : Nat -> List Addr) (σ : St) (m : Kd) (fr : Bool) (H : Hp) (Q : VK) : Rz (D × DS) -> Prop
  | .ok (d, δ') => ∀ v H', Rs K C κ φ σ H' δ' -> Kp (Fo φ) H (Fo φ) H' -> At K C.cl H' (Sk C (Fo φ) m) v d -> (fr = true -> Nw K C.cl H H' (Sk C (Fo φ) m) v d) -> Q v H'
  | _ => False
noncomputable def DX (X : Cx) (C : Dc) (κ : List Kd) (m : Kd) (fr : Bool) (e : Expr) (g : GX) : Prop :=
  ∃ t, PE X e t /\ ∀ φ σ H δ, Rs X.K C κ φ σ H δ -> ∀ Q, PostX X.K C κ φ σ m fr H Q (g δ) -> t σ H Q
section
variable {X : Cx} {C : Dc} {L : List Kd × List Nat} {κ κ' : List Kd} {m : Kd} {fr fa fb fk : Bool} {a b e o : Expr} {es : List Expr} {ga gb ge gk : GE} {gs : GA} {gx : GX} {pos p apos : Pos} {x : Str} {c : Nat} {f : Str} {is : List Nat}
theorem Rs.io {K : PySem.W.Frag} {φ : Nat -> List Addr} {σ : St} {H H' : Hp} {δ : DS} {es : List D} (r : Rs K C κ φ σ H δ) (nd : is.Nodup) (hk : ∀ i ∈ is, κ[i]? = some .o \/ κ[i]? = some .i) (hb : ∀ (k i : Nat), is[k]? = some i -> ∃ d, δ[i]? = some (some d)) (hl : es.length = is.length)
    (fr : ∀ a o, H a = some o -> (∀ i ∈ is, a ∉ φ i) -> H' a = some o) (tk : TupK H H') (ex : ∀ a, H a ≠ none -> H' a ≠ none) (ow : ∀ (k i : Nat) e, is[k]? = some i -> es[k]? = some e -> ∃ u, σ[i]? = some (some u) /\ Own K C.cl H' (λ o_ => False) (φ i) u e) :
    Rs K C κ φ σ H' (setS is es δ) /\ Kp (Fo φ) H (Fo φ) H' := by
  have kp : Kp (Fo φ) H (Fo φ) H' := ⟨λ a o e n => fr a o e λ i o_ m => n ⟨i, m⟩, tk, λ a f => .inl f, ex⟩
  refine ⟨⟨λ j d e => ?_, r.dj, λ a f => ex a (r.ow a f), r.fi, λ a o e x => fr a o (r.fr a o e x) λ i o_ m => ?_, λ a x => ex a (r.xo a x), r.tk.trans tk, r.ii, by rw [setS_len]; exact r.len⟩, kp⟩
  · rcases setS_get nd hl e with ⟨k, h1, h2⟩ | ⟨h1, h2⟩
    · obtain ⟨u, hu, o⟩ := ow k j d h1 h2
      obtain ⟨d0, hd0⟩ := hb k j h1
      obtain ⟨v, k', g1, g2, g3⟩ := r.sl j d0 hd0
      rw [hu] at g1
      cases g1
      refine ⟨u, k', hu, g2, ?_⟩
      have o' : Own K C.cl H' (Sk C (Fo φ) .s) (φ j) u d := o.mono TupK.refl (λ o_ o_ z => z.elim) (λ o_ o_ o_ e => e) λ o_ z => z.elim
      rcases hk j (List.mem_of_getElem? h1) with q | q
      · rw [q] at g2; cases g2; exact ⟨o', g3.2⟩
      · rw [q] at g2; cases g2; exact o'
    · obtain ⟨v, k', g1, g2, g3⟩ := r.sl j d h2
      refine ⟨v, k', g1, g2, g3.mono kp λ a m o e => fr a o e λ i hi m' => ?_⟩
      have := r.dj j i a m m'
      subst this
      exact h1 hi
  · rcases r.fi a ⟨i, m⟩ with q | q
    · rw [q] at e; cases e
    · exact x q
theorem idx_inj {α : Type} {l : List α} (nd : l.Nodup) {i j : Nat} {a : α} (h1 : l[i]? = some a) (h2 : l[j]? = some a) : i = j := by
  obtain ⟨li, ei⟩ := List.getElem?_eq_some_iff.mp h1
  obtain ⟨lj, ej⟩ := List.getElem?_eq_some_iff.mp h2
  have q := List.pairwise_iff_getElem.mp nd
  rcases Nat.lt_trichotomy i j with c | c | c
  · exact absurd (ei.trans ej.symm) (q i j li lj c)
  · exact c
  · exact absurd (ej.trans ei.symm) (q j i lj li c)
theorem io_call {F : PFI} {n : Nat} {φ : Nat -> List Addr} {σ : St} {H H1 : Hp} {δ : DS} {us vs : List V} {ds os : List D} {Q : VK} {E : XK} (r : Rs X.K C κ φ σ H δ) (nd : is.Nodup) (hk : ∀ i ∈ is, κ[i]? = some .o \/ κ[i]? = some .i) (hn : os.length + ds.length = n) (ho : getS is δ = .ok os)
    (s1 : Same H H1) (hul : us.length = is.length) (hu : ∀ (k i : Nat), is[k]? = some i -> ∃ u, us[k]? = some u /\ σ[i]? = some (some u)) (w : Ats X.K C.cl H1 (Sk C (Fo φ) .b) vs ds)
    (z : PostX X.K C κ φ σ m true H Q ((F (os ++ ds)).bind λ r => Rz.guard (r.2.length = is.length) (.ok (r.1, setS is r.2 δ)))) : spI X.K C.cl n is.length F (us ++ vs) H1 Q E := by
  obtain ⟨hol, hoa⟩ := getS_at ho
  have r1 := r.same s1
  have lk : ∀ {k i : Nat}, is[k]? = some i -> (λ k => match is[k]? with | some i => φ i | none => []) k = φ i := λ {k i} e => by show (match is[k]? with | some i => φ i | none => []) = φ i; rw [e]
  have isome : ∀ {k : Nat}, k < is.length -> ∃ i, is[k]? = some i := λ {k} h => ⟨_, List.getElem?_eq_getElem h⟩
  refine ⟨os ++ ds, λ k => match is[k]? with | some i => φ i | none => [], by rw [List.length_append]; exact hn, by rw [List.length_append, hul, w.length, <- hol]; exact hn, λ i d e => ?_, λ i j a hi hj mi mj => ?_, ?_⟩
  · by_cases c : i < is.length
    · obtain ⟨j, hj⟩ := isome c
      obtain ⟨d', h1, h2, h3⟩ := hoa i j hj
      rw [List.getElem?_append_left (by omega), h2] at e
      cases e
      obtain ⟨u, g1, g2⟩ := hu i j hj
      refine ⟨u, by rw [List.getElem?_append_left (by omega)]; exact g1, λ o_ => ?_, λ h => absurd c (by omega)⟩
      rw [lk hj]
      have hk' := hk j (List.mem_of_getElem? hj)
      rcases hk' with q | q
      · obtain ⟨v, hv, ov⟩ := r1.own (.inl rfl) q h1
        rw [g2] at hv
        cases hv
        exact ov.imO h3
      · obtain ⟨v, hv, ov⟩ := r1.own (.inr rfl) q h1
        rw [g2] at hv
        cases hv
        exact ov.imO h3
    · rw [List.getElem?_append_right (by omega)] at e
      obtain ⟨v, g1, g2⟩ := w.get e
      refine ⟨v, by rw [List.getElem?_append_right (by omega), hul, <- hol]; exact g1, λ h => absurd h c, λ o_ => g2.sub λ a z o_ j hj m => ?_⟩
      obtain ⟨i', hi'⟩ := isome hj
      rw [lk hi'] at m
      exact z ⟨i', m⟩
  · obtain ⟨i', hi'⟩ := isome hi
    obtain ⟨j', hj'⟩ := isome hj
    rw [lk hi'] at mi
    rw [lk hj'] at mj
    have := r.dj i' j' a mi mj
    subst this
    exact idx_inj nd hi' hj'
  · cases q : F (os ++ ds) with
    | ok res =>
      obtain ⟨d, es⟩ := res
      rw [q] at z
      have z : PostX X.K C κ φ σ m true H Q (Rz.guard (es.length = is.length) (.ok (d, setS is es δ))) := z
      obtain ⟨hel, z⟩ := post_guard (T := PostX X.K C κ φ σ m true H Q) (λ z => z) z
      intro v H' fr tk ex ow a nw
      have hb : ∀ (k i : Nat), is[k]? = some i -> ∃ d, δ[i]? = some (some d) := λ k i e => let ⟨d, h, _⟩ := hoa k i e; ⟨d, h⟩
      obtain ⟨r2, kp⟩ := r1.io nd hk hb hel (λ a o e n => fr a o e λ j hj m => by
        obtain ⟨i', hi'⟩ := isome hj
        rw [lk hi'] at m
        exact n i' (List.mem_of_getElem? hi') m) tk ex (λ k i e hi he => by
        have c : k < is.length := (List.getElem?_eq_some_iff.mp hi).1
        obtain ⟨u, g1, g2⟩ := ow k e c he
        rw [lk hi] at g2
        rw [List.getElem?_append_left (by omega)] at g1
        obtain ⟨u', h1, h2⟩ := hu k i hi
        rw [g1] at h1
        cases h1
        exact ⟨u, h2, g2⟩)
      refine z v H' r2 ((Kp.of s1 λ a f => .inl f).trans kp) (a.sub λ b h o_ => r1.rx.new m h) λ o_ hbig => ?_
      obtain ⟨l, o, hn'⟩ := nw hbig
      exact ⟨l, o.mono TupK.refl (λ o_ o_ o_ e => e) (λ o_ o_ o_ e => e) λ b h o_ => r1.rx.new m h, λ b mb => s1.free (hn' b mb)⟩
    | er c s => rw [q] at z; exact z.elim
    | un => rw [q] at z; exact z.elim
theorem hkB {is : List Nat} {κ : List Kd} (h : (is.all λ i => decide (κ[i]? = some Kd.o) || decide (κ[i]? = some Kd.i)) = true) : ∀ i ∈ is, κ[i]? = some .o \/ κ[i]? = some .i := λ i m => by
  have q := List.all_eq_true.mp h i m
  rw [Bool.or_eq_true] at q
  exact q.elim (λ z => .inl (of_decide_eq_true z)) λ z => .inr (of_decide_eq_true z)
theorem dx_meth {ps : List Str} {fx : Addr} {fd : FuncData} {k n : Nat} {F : PFI} {mm : Str} {pl : Sem Bool} (i : Nat) (cls : Cls X.K (C.cl c)) (hm : Meth X.K (C.cl c) mm fx) (hk : ([i].all λ i => decide (κ[i]? = some Kd.o) || decide (κ[i]? = some Kd.i)) = true) (G : FnOk X.prog X.w X.K X.mg X.base CX0 k fx fd ps (spI X.K C.cl n 1 F)) (hr : Room k X.A) (hb : Binds X.K fd ps []) (hlen : ∀ δ ds, gs δ = .ok ds -> 1 + ds.length = n) (ha : DA X C κ .b (e :: es) gs)
    (hN : X.N[i]? = some x := by rfl) (hv : Vis X.env.scope x := by first | exact Or.inl rfl | exact Or.inr (Or.inl rfl) | exact Or.inr (Or.inr rfl)) (hd : (x == ("__debug__" : Str)) = false := by decide)
    (hcd : (x == ("__classdict__" : Str)) = false := by decide) (hst : starEach (e :: es) X.env = (false, eval e X.env) :: starEach es X.env := by rfl) (hpl : (backTo pos (starEach es X.env)).any (·.1) = false := by rfl)
    (ht : eval (.Call (.Attribute (.Name x p) mm apos) (e :: es) [] pos) X.env = (do
      let ov <- eval (.Name x p) X.env
      standAt apos.atName
      let (f, first) <- holding [ov] (getMethod ov mm pl)
      callWith pos f first (backTo pos (starEach (e :: es) X.env)) (backToKw pos (keywordEach [] X.env))) := by rfl) : DX X C κ m true (.Call (.Attribute (.Name x p) mm apos) (e :: es) [] pos) (gMethI c mm F i gs) := by
  obtain ⟨t, pt, dt⟩ := ha
  refine ⟨_, pe_meth (pe_var hN hv hd hcd) cls hm G hr hb .nil pass0 pt hst hpl ht, λ φ σ H δ r Q z => ?_⟩
  obtain ⟨ds, e1, z⟩ := post_bindG (T := PostX X.K C κ φ σ m true H Q) (λ o_ o_ q => q) (λ q => q) z
  obtain ⟨os, e2, z⟩ := post_bindG (T := PostX X.K C κ φ σ m true H Q) (λ o_ o_ q => q) (λ q => q) z
  obtain ⟨hob, z⟩ := post_guard (T := PostX X.K C κ φ σ m true H Q) (λ z => z) z
  obtain ⟨hol, hoa⟩ := getS_at e2
  obtain ⟨d, h1, h2, h3⟩ := hoa 0 i rfl
  have hi : isObj c mm d = true := List.all_eq_true.mp hob d (List.mem_of_getElem? h2)
  obtain ⟨v, k', g1, g2, a0⟩ := r.rx.sl i d h1
  obtain ⟨q, dx, fs, rfl, hq, hl⟩ := obj_look a0 hi
  refine ⟨.ref q, g1, q, dx, fs, rfl, hq, hl, dt (Fo φ) σ H δ r.rx _ ?_⟩
  rw [e1]
  intro vs H1 s1 w
  rw [List.append_nil]
  refine io_call (is := [i]) (us := [.ref q]) r (by simp) (hkB hk) (by rw [hol]; exact hlen δ ds e1) e2 s1 rfl (λ k j e => ?_) w z
  cases k with
  | zero =>
    have e : i = j := Option.some.inj e
    subst e
    exact ⟨.ref q, rfl, g1⟩
  | succ k => simp at e
theorem ds_dropX (h : DX X C κ .v fr e gx) (hs : swapsWith e none pos.line X.env = pure false := by rfl) : DSt X C L κ κ (.Expr e pos) (gDropX gx) := by
  obtain ⟨t, pt, dt⟩ := h
  refine ⟨_, ps_expr pt hs, λ φ σ H δ r D p => dt φ σ H δ r _ ?_⟩
  obtain ⟨⟨d, δ'⟩, e1, p⟩ := post_bindG (T := FinS X.K C L κ (Fo φ) H D) (λ o_ o_ q => q) (λ q => q) p
  rw [e1]
  exact λ v H1 r1 kp o_ o_ => p φ σ H1 r1 kp
variable {gt : GTX} {g1 g2 : GS}
end
end Dl
namespace Dl
open PySem L2
section
variable {X : Cx} {C : Dc} {L : List Kd × List Nat} {κ κ' : List Kd} {m : Kd} {fr fa fb fk : Bool} {e ek : Expr} {ge gk : GE} {pos p p1 apos cpos pf pos' : Pos} {x : Str} {c : Nat} {f : Str}
theorem own_put2 {K : PySem.W.Frag} {φ : Nat -> List Addr} {H : Hp} {a : Addr} {i : Nat} {o o' : HO} {vs : List V} {ds : List D} (fa : a ∈ φ i) (hH : H a = some o) (nt : ∀ xs, o ≠ .tup xs) (w : Ats K C.cl H (Sk C (Fo φ) .s) vs ds) : Ats K C.cl (upd H a o') (λ b => Sk C (Fo φ) .s b /\ b ∉ φ i) vs ds :=
  w.mono (λ b xs e => by
    rw [upd_ne]; exact e
    intro z; subst z; rw [hH] at e; exact nt xs (Option.some.inj e)) (λ b u z e => by rw [upd_ne (λ q => z.2 ⟨i, by rw [q]; exact fa⟩)]; exact e) λ b z o_ => ⟨z, λ m => z.2 ⟨i, m⟩⟩
theorem dct_put {K : PySem.W.Frag} {cl : Nat -> Addr} {H : Hp} {S : Addr -> Prop} {ks : List Ky} {vs : List V} {ds : List D} {kk : Ky} {vv : V} {d : D} (kl : ks.length = ds.length) (w : Ats K cl H S vs ds) (a1 : At K cl H S vv d) :
    ∃ ks' vs' ds', putK (ks.zip vs) kk vv = ks'.zip vs' /\ putD ks ds kk d = .dct ks' ds' /\ ks'.length = ds'.length /\ Ats K cl H S vs' ds' := by
  have wl := w.length
  unfold putD putK
  rw [any_zip kk ks vs (by omega)]
  by_cases c : (ks.any λ x => decide (x = kk)) = true
  · rw [if_pos c, if_pos c, map_zip]
    exact ⟨_, _, _, rfl, rfl, by rw [setK_len]; exact kl, w.setK a1⟩
  · rw [if_neg c, if_neg c]
    refine ⟨ks ++ [kk], vs ++ [vv], ds ++ [d], ?_, rfl, by rw [List.length_append, List.length_append, kl]; rfl, w.append (Ats.cons a1 Ats.nil)⟩
    rw [List.zip_append (by omega)]
    rfl
set_option tactic.hygienic true in
theorem ds_putF (i : Nat) {k : Kd} (cls : Cls X.K (C.cl c)) (na : NoAttr X.K (C.cl c) f) (ho : k = .o \/ k = .i) (hk : κ[i]? = some k) (hu : X.A.units + 64 < cLine) (hkey : DE X C κ .v fk ek gk) (h : DE X C κ .s fr e ge) (hN : X.N[i]? = some x := by rfl) (hv : Vis X.env.scope x := by first | exact Or.inl rfl | exact Or.inr (Or.inl rfl) | exact Or.inr (Or.inr rfl)) (hd : (x == ("__debug__" : Str)) = false := by decide)
    (hcd : (x == ("__classdict__" : Str)) = false := by decide) (hb : attributeBase (.Name x p1) f X.env (eval (.Name x p1) X.env) = eval (.Name x p1) X.env := by rfl) (hs : swapsWith e (some (.Subscript (.Attribute (.Name x p1) f pf) ek pos')) pos.line X.env = pure false := by rfl) :
    DSt X C L κ κ (.Assign [.Subscript (.Attribute (.Name x p1) f pf) ek pos'] e pos) (gPutF i c f gk ge) := by
  obtain ⟨t, pt, dt⟩ := h
  obtain ⟨u, pu, du⟩ := hkey
  refine ⟨_, ps_dput (by omega) (pe_fld (pe_var hN hv hd hcd) hb) pu pt hs, λ φ σ H δ r D p => ?_⟩
  obtain ⟨d, e1, p⟩ := post_bind (T := FinS X.K C L κ (Fo φ) H D) (λ o_ o_ q => q) (λ q => q) p
  obtain ⟨dk, e2, p⟩ := post_bind (T := FinS X.K C L κ (Fo φ) H D) (λ o_ o_ q => q) (λ q => q) p
  split at p
  · rename_i c' f' dx q
    obtain ⟨hh, p2⟩ := post_guard (T := FinS X.K C L κ (Fo φ) H D) (λ z => z) p
    clear p
    obtain ⟨rfl, rfl⟩ := hh
    have p := p2
    cases dx with
    | dct ks ds =>
      obtain ⟨y, e3, p⟩ := post_bind (T := FinS X.K C L κ (Fo φ) H D) (λ o_ o_ q => q) (λ q => q) p
      have e3 : (match keyD dk with | some k => Rz.guard (ks.length < sizeLine) (.ok (putD ks ds k d)) | none => .un) = .ok y := e3
      cases ek' : keyD dk with
      | none => rw [ek'] at e3; cases e3
      | some kk =>
        rw [ek'] at e3
        obtain ⟨hz, e3⟩ := guard_ok e3
        cases e3
        obtain ⟨v, hvv, a, ax, b, vs, rfl, hl, nab, hH, hB, kl, w⟩ := r.own ho hk q
        have hbm : b ∈ φ i := by rw [hl]; simp
        refine dt (Fo φ) σ H δ r.rx _ ?_
        rw [e1]
        intro vv H1 s1 a1 _
        refine ⟨.ref a, hvv, a, _, ax, _, .ref b, rfl, s1 _ _ hH, cls, na, by simp [List.lookup], du (Fo φ) σ H1 δ (r.same s1).rx _ ?_⟩
        rw [e2]
        intro vk H2 s2 a2 _
        have hvk := at_key a2 ek'
        subst hvk
        have s12 := s1.trans s2
        have r2 := r.same s12
        have hB2 := s12 _ _ hB
        have wl := w.length
        refine ⟨b, _, rfl, DPut.k (k := kk) hB2 (by rw [List.length_zip, kl, wl, Nat.min_self, <- kl]; exact hz), ?_⟩
        have nt : ∀ xs, HO.dK (ks.zip vs) ≠ .tup xs := λ o_ z => by cases z
        have w2 := (w.same s12).sub (S' := Sk C (Fo φ) .s) λ b z o_ => z.1
        obtain ⟨ks', vs', ds', q1, q2, q3, q4⟩ := dct_put (kk := kk) kl w2 (a1.same s2)
        rw [q1]
        rw [q2] at p
        obtain ⟨r3, kp⟩ := r2.write (o' := .dK (ks'.zip vs')) (d' := .obj c' f' (.dct ks' ds')) ho hk hvv q hbm hB2 nt
          ⟨a, ax, b, vs', rfl, hl, nab, by rw [upd_ne nab]; exact s12 _ _ hH, upd_same, q3, own_put2 hbm hB2 nt q4⟩
        exact p φ σ _ r3 ((Kp.of s12 λ a f => .inl f).trans kp)
    | _ => exact p.elim
  · exact p.elim
end
end Dl
namespace Dl
open PySem L2 PyProof.Rows
section
variable {X : Cx} {C : Dc} {L : List Kd × List Nat} {κ κ' : List Kd} {m kx : Kd} {fr fa fb fe : Bool} {a b e o elt iter : Expr} {ifs : List Expr} {ga gb ge : GE} {gi : GI} {gt : GT} {pos p px px2 pt apos cpos : Pos} {kt : Nat} {x x2 : Str} {caps : Caps} {sc : Scope}
end
end Dl
namespace Dl
open PySem L2 PyProof.Rows
section
variable {X : Cx} {C : Dc} {κ : List Kd} {m : Kd} {fa fb : Bool} {e o e1 e2 : Expr} {es : List Expr} {ga gb : GE} {gs : GA} {pos apos cpos : Pos}
end
end Dl
namespace Dl
open PySem L2 PyProof.Rows
noncomputable def tIs (ea : Addr) (b : Bool) : TE := λ σ H Q => σ[0]? = some (some (.ref ea)) /\ Q (.bl b) H
noncomputable def rCat : R2 := λ x y H Q => ∃ l b xs zs, x = .ref l /\ y = .ref b /\ Rd H l (.lst xs) /\ Rd H b (.lst zs) /\ xs.length + zs.length <= sizeLine /\ ∀ p, H p = none -> Q (.ref p) (upd H p (.lst (xs ++ zs)))
noncomputable def kindT (K : PySem.W.Frag) (ea : Addr) (c : Nat) : TS :=
  tSeq (tAsg (tLst (tCons (tIs ea (c == 0)) (tCons (tIs ea (c == 1)) (tCons (tIs ea (c == 2)) (tCons (tIs ea (c == 3)) tNil))))) (gName 1))
  (tSeq (tAsg (tOp rCat (tVar 1) (tLst (tCons (tIs ea (c == 4)) (tCons (tIs ea (c == 5)) (tCons (tIs ea (c == 6)) tNil))))) (gName 1))
  (tSeq (tIfS (tOr (tNot (tB (tIs ea true))) (tB (tNeI (tCountT (tVar 1)) (tC (.int 1))))) (tRet (tC (.str "other"))) tNext)
  (tRet (tOp (rIxL K) (tLst (tCons (tC (.str "name")) (tCons (tC (.str "twice")) (tCons (tC (.str "full")) (tCons (tC (.str "kind")) (tCons (tC (.str "large")) (tCons (tC (.str "plain")) (tCons (tC (.str "note")) tNil)))))))) (tIndexT (tVar 1))))))
theorem same_upd {H : Hp} {p : Addr} {o : HO} (h : H p = none) : Same H (upd H p o) := same_new' h o
theorem kind_read {K : PySem.W.Frag} {ea : Addr} {c : Nat} (hc : c < 7) {H : Hp} {D : Ends} (h : ∀ H', Same H H' -> D.rt (.str ((kindW[c]?).getD "")) H') : kindT K ea c D [some (.ref ea), none] H := by
  have hz : ∀ n : Nat, n <= 100 -> n <= sizeLine := λ n hn => Nat.le_trans hn (by decide)
  refine ⟨rfl, rfl, rfl, rfl, hz 4 (by decide), λ p hp => ?_⟩
  show (tSeq _ _) D [some (.ref ea), some (.ref p)] _
  refine ⟨.ref p, rfl, rfl, rfl, rfl, hz 3 (by decide), λ q hq => ?_⟩
  have hpq : p ≠ q := λ z => by rw [<- z, upd_same] at hq; cases hq
  refine ⟨p, q, [.bl (c == 0), .bl (c == 1), .bl (c == 2), .bl (c == 3)], [.bl (c == 4), .bl (c == 5), .bl (c == 6)], rfl, rfl, .inl ?_, .inl upd_same, hz 7 (by decide), λ r hr => ?_⟩
  · rw [upd_ne hpq]; exact upd_same
  have s3 : Same H (upd (upd (upd H p (.lst [.bl (c == 0), .bl (c == 1), .bl (c == 2), .bl (c == 3)])) q (.lst [.bl (c == 4), .bl (c == 5), .bl (c == 6)])) r (.lst ([.bl (c == 0), .bl (c == 1), .bl (c == 2), .bl (c == 3)] ++ [.bl (c == 4), .bl (c == 5), .bl (c == 6)]))) :=
    ((same_upd hp).trans (same_upd hq)).trans (same_upd hr)
  show (tSeq _ _) D [some (.ref ea), some (.ref r)] _
  have hl : (upd (upd (upd H p (.lst [.bl (c == 0), .bl (c == 1), .bl (c == 2), .bl (c == 3)])) q (.lst [.bl (c == 4), .bl (c == 5), .bl (c == 6)])) r (.lst ([.bl (c == 0), .bl (c == 1), .bl (c == 2), .bl (c == 3)] ++ [.bl (c == 4), .bl (c == 5), .bl (c == 6)]))) r = some (.lst (([c == 0, c == 1, c == 2, c == 3, c == 4, c == 5, c == 6] : List Bool).map V.bl)) := upd_same
  have h1 : (([c == 0, c == 1, c == 2, c == 3, c == 4, c == 5, c == 6] : List Bool).count true) = 1 := by
    have : c = 0 \/ c = 1 \/ c = 2 \/ c = 3 \/ c = 4 \/ c = 5 \/ c = 6 := by omega
    rcases this with rfl | rfl | rfl | rfl | rfl | rfl | rfl <;> decide
  have h2 : (([c == 0, c == 1, c == 2, c == 3, c == 4, c == 5, c == 6] : List Bool).idxOf true) = c := by
    have : c = 0 \/ c = 1 \/ c = 2 \/ c = 3 \/ c = 4 \/ c = 5 \/ c = 6 := by omega
    rcases this with rfl | rfl | rfl | rfl | rfl | rfl | rfl <;> decide
  generalize (upd (upd (upd H p (.lst [.bl (c == 0), .bl (c == 1), .bl (c == 2), .bl (c == 3)])) q (.lst [.bl (c == 4), .bl (c == 5), .bl (c == 6)])) r (.lst ([.bl (c == 0), .bl (c == 1), .bl (c == 2), .bl (c == 3)] ++ [.bl (c == 4), .bl (c == 5), .bl (c == 6)]))) = H3 at s3 hl ⊢
  refine ⟨rfl, true, rfl, ?_⟩
  refine iteF ?_
  refine ⟨.ref r, rfl, r, [c == 0, c == 1, c == 2, c == 3, c == 4, c == 5, c == 6], rfl, hl, ?_⟩
  rw [h1]
  refine ⟨1, 1, rfl, rfl, false, rfl, ?_⟩
  refine iteF ?_
  refine ⟨hz 7 (by decide), λ t ht => ⟨.ref r, rfl, r, [c == 0, c == 1, c == 2, c == 3, c == 4, c == 5, c == 6], c, rfl, ?_, h2, by show c < 7; exact hc, by omega, ?_⟩⟩
  · have hrt : r ≠ t := λ z => by rw [<- z, hl] at ht; cases ht
    rw [upd_ne hrt]
    exact hl
  · refine ⟨t, _, (c : Int), .str ((kindW[c]?).getD ""), rfl, rfl, .inl (.inl upd_same), ?_, h _ (s3.trans (same_upd ht))⟩
    have : c = 0 \/ c = 1 \/ c = 2 \/ c = 3 \/ c = 4 \/ c = 5 \/ c = 6 := by omega
    rcases this with rfl | rfl | rfl | rfl | rfl | rfl | rfl <;> rfl
section
variable {X : Cx} {pn : List (Addr × Obj)} {ea C f : Addr} {oe : Obj} {n kf p res : Str} {i k : Nat} {fd : FuncData} {p1 p2 p3 p4 p5 : Pos}
theorem pe_kind (G : FnM X.prog X.w X.K X.mg X.base k f fd p C res) (hr : Room k X.A) (hg : Gl X kf) (hm : X.mg kf = some (.ref f)) (hk : PySem.W.keepIn X.K (.ref f) = true) (hb : Binds X.K fd [p] []) (hpn : (ea, oe) ∈ pn) (hcl : oe.cls = .ref C) (hcell : ∀ v, oe.data ≠ .cell v)
    (hN : X.N[i]? = some n) (hv : Vis X.env.scope n) (hdb : (kf == ("__debug__" : Str)) = false := by decide) (hd : (n == ("__debug__" : Str)) = false := by decide) (hcd : (n == ("__classdict__" : Str)) = false := by decide)
    (he : starEach [.Name n p2] X.env = (false, eval (.Name n p2) X.env) :: starEach [] X.env := by rfl) :
    PE (X.hd pn ea) (.Call (.Name kf p1) [.Name n p2] [] p3) (λ σ H Q => σ[i]? = some (some (.ref ea)) /\ ∀ H', Same H H' -> Q (.str res) H') := by
  intro pins s σ H Q I h
  have ha : PA (X.hd pn ea) [.Name n p2] (tCons (tVar i) tNil) := pa_cons (pe_var (X := X.hd pn ea) hN hv hd hcd) pa_nil he
  refine wpAny_Call_Name_kw (ld_glob I hg hm ?_ hdb)
  refine PySem.W.callWith_K (h₀ := X.base) I.ok.mod.kin hk (thn (ha p3 pins s σ H (λ vs H1 => vs = [.ref ea] /\ H1 = H) I ⟨.ref ea, h.1, rfl, rfl⟩) λ us s1 ⟨vs, H1, I1, r, ev, eh⟩ => ⟨I1.kIn, ?_⟩) he rfl
  subst ev eh
  obtain rfl : us = [Value.ref ea] := by
    cases r with
    | cons r1 r2 =>
      cases r2
      rw [show _ = Value.ref ea from r1]
  obtain ⟨q1, q2, q3, q4, q5⟩ := I1.pin (ea, oe) (List.mem_append_left _ hpn)
  have hnf : ea ∉ frs X.stack := λ z => by
    rcases List.mem_cons.mp (I1.stkSub ea z) with e | e
    · exact q3 e
    · exact q4 e
  refine wpAny_call (codeAny_mono (G (X.A.mark (some (.ref ea))) X.stack s1 H1 ⟨[.ref ea], []⟩ ea oe Q (hr.mark _) I1.env0 (hb s1 [.ref ea] I1.kIn rfl) q1 hcl hcell q2 hnf h.2) λ r s' hq => ?_)
  cases r with
  | error e => exact hq.elim
  | ok fl =>
    cases fl with
    | ret u => exact I1.after hq
    | next => exact False.elim hq
    | brk => exact False.elim hq
    | cont => exact False.elim hq
theorem ph_ret (G : FnM X.prog X.w X.K X.mg X.base k f fd p C res) (hr : Room k X.A) (hg : Gl X kf) (hm : X.mg kf = some (.ref f)) (hk : PySem.W.keepIn X.K (.ref f) = true) (hb : Binds X.K fd [p] []) (hv : Vis X.env.scope n) (hdb : (kf == ("__debug__" : Str)) = false := by decide) (hd : (n == ("__debug__" : Str)) = false := by decide) (hcd : (n == ("__classdict__" : Str)) = false := by decide)
    (he : starEach [.Name n p2] X.env = (false, eval (.Name n p2) X.env) :: starEach [] X.env := by rfl) :
    PH X n [.Return (some (.Call (.Name kf p1) [.Name n p2] [] p3)) p4] C λ Q H => ∀ H', Same H H' -> Q (.str res) H' := by
  intro i pn ea oe s σ H Q hi hcl hcell hpn I hσ hts
  have h := pss_one (ps_ret (pos := p4) (pe_kind (p1 := p1) (p3 := p3) G hr hg hm hk hb hpn hcl hcell hi hv hdb hd hcd he))
  refine wpAny_mono (h [] s σ H { nx := λ o_ o_ => False, rt := Q } I ⟨hσ, hts⟩) (λ fl s' hs => ?_) λ o_ o_ z => z.elim
  cases fl with
  | ret u => obtain ⟨x, σ', H', J, r, q⟩ := hs; exact ⟨u, x, σ', H', rfl, J, r, q⟩
  | next => obtain ⟨_, _, _, q⟩ := hs; exact q.elim
  | brk => obtain ⟨_, _, _, q⟩ := hs; exact q.elim
  | cont => obtain ⟨_, _, _, q⟩ := hs; exact q.elim
end
structure KindOk (K : PySem.W.Frag) (ce : Nat -> Addr) (FE : Addr) (c : Nat) : Prop where
  lt : c < 7
  xc : PySem.W.XCls K (ce c)
  k0 : PySem.W.kitOne K (.ref (ce c)) (.ref (ce 0)) = some (c == 0)
  k1 : PySem.W.kitOne K (.ref (ce c)) (.ref (ce 1)) = some (c == 1)
  k2 : PySem.W.kitOne K (.ref (ce c)) (.ref (ce 2)) = some (c == 2)
  k3 : PySem.W.kitOne K (.ref (ce c)) (.ref (ce 3)) = some (c == 3)
  k4 : PySem.W.kitOne K (.ref (ce c)) (.ref (ce 4)) = some (c == 4)
  k5 : PySem.W.kitOne K (.ref (ce c)) (.ref (ce 5)) = some (c == 5)
  k6 : PySem.W.kitOne K (.ref (ce c)) (.ref (ce 6)) = some (c == 6)
  kv : PySem.W.kitOne K (.ref (ce c)) (.type "ValueError") = some true
  xm : PySem.W.exmOne K (.ref (ce c)) (.ref FE) = some true
noncomputable def ceOf (l : List Addr) (i : Nat) : Addr := (l[i]?).getD 0
theorem boot_ValueError' : bootBuiltins "ValueError" = some (.type "ValueError") := by decide +kernel
end Dl
namespace Dl
open PySem L2 PyProof.Rows
noncomputable def ExW (K : PySem.W.Frag) (C : Dc) (E : XK) (ce : Nat -> Addr) (c : Nat) (δ' : DS) : Prop := ∀ κr φ' σ' H', (∀ j : Nat, j ∈ C.io -> κr[j]? = some .i) -> Rs K C κr φ' σ' H' δ' -> E (.ref (ce c)) none H'
noncomputable def DR (X : Cx) (C : Dc) (κ : List Kd) (st : Stmt) (h : HS) (E : XK) (ce : Nat -> Addr) : Prop :=
  ∃ t, PS X st t /\ ∀ φ σ H δ, Rs X.K C κ φ σ H δ -> ∀ D c δ', h δ = some (c, δ') -> ExW X.K C E ce c δ' -> t D σ H
noncomputable def DRs (X : Cx) (C : Dc) (κ : List Kd) (st : List Stmt) (h : HS) (E : XK) (ce : Nat -> Addr) : Prop :=
  ∃ t, PSs X st t /\ ∀ φ σ H δ, Rs X.K C κ φ σ H δ -> ∀ D c δ', h δ = some (c, δ') -> ExW X.K C E ce c δ' -> t D σ H
noncomputable def DEX (X : Cx) (C : Dc) (κ : List Kd) (e : Expr) (h : HE) (E : XK) (ce : Nat -> Addr) : Prop :=
  ∃ t, PE X e t /\ ∀ F σ H δ, Rx X.K C κ F σ H δ -> ∀ Q c, h δ = some c -> (∀ H', Same H H' -> E (.ref (ce c)) none H') -> t σ H Q
section
variable {X : Cx} {C : Dc} {L : List Kd × List Nat} {κ κ' κ1 : List Kd} {st : Stmt} {sts rest : List Stmt} {g g1 : GS} {h h1 h2 : HS} {he : HE} {ge ga : GE} {gs : GA} {tA : GT} {e a : Expr} {es : List Expr} {m : Kd} {fr fa : Bool} {pos p : Pos} {E : XK} {ce : Nat -> Addr}
theorem rf_one (hd : DR X C κ st h E ce) : DRs X C κ (st :: rest) h E ce := by
  obtain ⟨t, pt, dt⟩ := hd
  exact ⟨_, pss_cons pt pss_never, λ φ σ H δ r D c δ' e w => dt φ σ H δ r _ c δ' e w⟩
theorem rf_or (a : DRs X C κ sts h1 E ce) (b : DRs X C κ sts h2 E ce) : DRs X C κ sts (hOr h1 h2) E ce := by
  obtain ⟨t, pt, dt⟩ := a
  obtain ⟨u, pu, du⟩ := b
  refine ⟨λ D σ H => t D σ H \/ u D σ H, λ pins s σ H D I q => ?_, λ φ σ H δ r D c δ' e w => ?_⟩
  · rcases q with q | q
    · exact pt pins s σ H D I q
    · exact pu pins s σ H D I q
  · unfold hOr at e
    cases q : h1 δ with
    | some x => rw [q] at e; cases e; exact .inl (dt φ σ H δ r D c δ' q w)
    | none => rw [q] at e; exact .inr (du φ σ H δ r D c δ' e w)
theorem rf_ift {c : Expr} {b : List Stmt} (hc : DT X C κ c tA) (hd : DRs X C κ sts h E ce) : DR X C κ (.If c sts b pos) (hIf tA true h) E ce := by
  obtain ⟨tc, pc, dc⟩ := hc
  obtain ⟨t, pt, dt⟩ := hd
  refine ⟨_, ps_if pc pt pss_never, λ φ σ H δ r D cc δ' e w => dc (Fo φ) σ H δ r.rx _ ?_⟩
  unfold hIf at e
  cases q : tA δ with
  | ok b =>
    rw [q] at e
    cases b with
    | true => exact λ H1 s1 => iteT (dt φ σ H1 δ (r.same s1) D cc δ' e w)
    | false => cases e
  | er c s => rw [q] at e; cases e
  | un => rw [q] at e; cases e
theorem rf_iff {c : Expr} {b : List Stmt} (hc : DT X C κ c tA) (hd : DRs X C κ sts h E ce) : DR X C κ (.If c b sts pos) (hIf tA false h) E ce := by
  obtain ⟨tc, pc, dc⟩ := hc
  obtain ⟨t, pt, dt⟩ := hd
  refine ⟨_, ps_if pc pss_never pt, λ φ σ H δ r D cc δ' e w => dc (Fo φ) σ H δ r.rx _ ?_⟩
  unfold hIf at e
  cases q : tA δ with
  | ok b =>
    rw [q] at e
    cases b with
    | false => exact λ H1 s1 => iteF (dt φ σ H1 δ (r.same s1) D cc δ' e w)
    | true => cases e
  | er c s => rw [q] at e; cases e
  | un => rw [q] at e; cases e
noncomputable def Raises (X : Cx) (E : XK) : Prop := ∀ pins σ H s h' a C vs, Inv X pins σ H s -> Heap.MadeExcOf s.heap h' a (.ref C) vs -> E (.ref C) none H -> X.xe (.ref a) { s with heap := h' }
set_option tactic.hygienic true in
theorem rf_raiseN {x y lit : Str} {c i j : Nat} {conv : Int} {np cpos p1 p2 p3 p4 : Pos} (hx : Raises X E) (hc : X.calm = true) (hg : Gl X x) (hm : X.mg x = some (.ref (ce c))) (hq : PySem.W.excIn X.K (ce c) bmVE "ValueError.__new__" = true) (hio : ∀ j : Nat, j ∈ C.io -> κ[j]? = some .i)
    (hl : lit.length <= 1000) (hcv : conv = -1 \/ conv = 114) (hN : X.N[i]? = some y) (hv : Vis X.env.scope y := by first | exact Or.inl rfl | exact Or.inr (Or.inl rfl) | exact Or.inr (Or.inr rfl)) (hd : (y == ("__debug__" : Str)) = false := by decide) (hcd : (y == ("__classdict__" : Str)) = false := by decide)
    (hs : evalEach [.Constant (.str lit) j p1, .FormattedValue (.Name y p3) conv none p2] X.env = [eval (.Constant (.str lit) j p1) X.env, eval (.FormattedValue (.Name y p3) conv none p2) X.env] := by rfl)
    (hdb : (x == ("__debug__" : Str)) = false := by decide) (hst : starEach [.JoinedStr [.Constant (.str lit) j p1, .FormattedValue (.Name y p3) conv none p2] p4] X.env = [(false, eval (.JoinedStr [.Constant (.str lit) j p1, .FormattedValue (.Name y p3) conv none p2] p4) X.env)] := by rfl) :
    DR X C κ (.Raise (some (.Call (.Name x np) [.JoinedStr [.Constant (.str lit) j p1, .FormattedValue (.Name y p3) conv none p2] p4] [] cpos)) none pos) (hRaiseN c i) E ce := by
  refine ⟨_, ps_raise (W := λ H => E (.ref (ce c)) none H) hc hg hm hq (pv_msg hl hcv hN hv hd hcd hs) (λ pins σ H s h' a vs I mk w => hx pins σ H s h' a _ vs I mk w) hdb hst, λ φ σ H δ r D c' δ' e w => ?_⟩
  unfold hRaiseN at e
  split at e
  · rename_i z q
    split at e
    · rename_i hz
      cases e
      obtain ⟨v, k, h1, h2, h3⟩ := r.rx.sl i _ q
      rw [At] at h3
      subst h3
      exact ⟨z, h1, hz, w κ φ σ H hio r⟩
    · cases e
  · cases e
theorem rf_expr (hd : DEX X C κ e he E ce) (hio : ∀ j : Nat, j ∈ C.io -> κ[j]? = some .i) (hs : swapsWith e none pos.line X.env = pure false := by rfl) : DR X C κ (.Expr e pos) (hOf he) E ce := by
  obtain ⟨t, pt, dt⟩ := hd
  refine ⟨_, ps_expr pt hs, λ φ σ H δ r D c δ' q w => ?_⟩
  unfold hOf at q
  cases z : he δ with
  | none => rw [z] at q; cases q
  | some c' =>
    rw [z] at q
    cases q
    exact dt (Fo φ) σ H δ r.rx _ c z λ H' s' => w κ φ σ H' hio (r.same s')
theorem rf_ret (hd : DEX X C κ e he E ce) (hio : ∀ j : Nat, j ∈ C.io -> κ[j]? = some .i) : DR X C κ (.Return (some e) pos) (hOf he) E ce := by
  obtain ⟨t, pt, dt⟩ := hd
  refine ⟨_, ps_ret pt, λ φ σ H δ r D c δ' q w => ?_⟩
  unfold hOf at q
  cases z : he δ with
  | none => rw [z] at q; cases q
  | some c' =>
    rw [z] at q
    cases q
    exact dt (Fo φ) σ H δ r.rx _ c z λ H' s' => w κ φ σ H' hio (r.same s')
noncomputable def spE (K : PySem.W.Frag) (cl ce : Nat -> Addr) (n : Nat) (F : PX) : Sp := λ vs H o_ E => ∃ ds c, ds.length = n /\ Ats K cl H (λ o_ => True) vs ds /\ F ds = some c /\ ∀ H', Same H H' -> E (.ref (ce c)) none H'
theorem spE_len {K : PySem.W.Frag} {cl ce : Nat -> Addr} {n : Nat} {F : PX} {vs : List V} {H : Hp} {Q : VK} {E : XK} (h : spE K cl ce n F vs H Q E) : vs.length = n := by
  obtain ⟨ds, d, l, a, _⟩ := h
  rw [a.length]; exact l
theorem dex_call {x : Str} {st : Stmt} {ps : List Str} {f : Addr} {fd : FuncData} {k n : Nat} {F : PX} (hx : Passes (CXF X.prog X.w) X E) (D : Df X.K X.mg x st ps f fd) (G : FnOk X.prog X.w X.K X.mg X.base (CXF X.prog X.w) k f fd ps (spE X.K C.cl ce n F)) (hr : Room k X.A) (hg : Gl X x) (hlen : ∀ δ ds, gs δ = .ok ds -> ds.length = n) (ha : DA X C κ .v (e :: es) gs)
    (hdb : (x == ("__debug__" : Str)) = false := by decide) (hst : starEach (e :: es) X.env = (false, eval e X.env) :: starEach es X.env := by rfl) (hpl : (backTo pos (starEach es X.env)).any (·.1) = false := by rfl) : DEX X C κ (.Call (.Name x p) (e :: es) [] pos) (hCall F gs) E ce := by
  obtain ⟨t, pt, dt⟩ := ha
  refine ⟨_, pe_call G hr hg D.m D.F.kp D.b .nil hx pt hdb hst hpl, λ Fo σ H δ r Q c q w => dt Fo σ H δ r _ ?_⟩
  unfold hCall at q
  cases z : gs δ with
  | ok ds =>
    rw [z] at q
    intro vs H1 s1 a1
    rw [List.append_nil]
    exact ⟨ds, c, hlen δ ds z, a1.sub λ o_ o_ o_ => trivial, q, λ H' s' => w H' (s1.trans s')⟩
  | er c s => rw [z] at q; cases q
  | un => rw [z] at q; cases q
set_option tactic.hygienic true in
theorem dex_meth {ps : List Str} {fx : Addr} {fd : FuncData} {k n c : Nat} {F : PX} {mm : Str} {pl : Sem Bool} {o : Expr} {apos : Pos} (hx : Passes (CXF X.prog X.w) X E) (cls : Cls X.K (C.cl c)) (hm : Meth X.K (C.cl c) mm fx) (G : FnOk X.prog X.w X.K X.mg X.base (CXF X.prog X.w) k fx fd ps (spE X.K C.cl ce n F)) (hr : Room k X.A) (hb : Binds X.K fd ps []) (hlen : ∀ δ ds, gs δ = .ok ds -> ds.length + 1 = n)
    (ho : DE X C κ .v fa o ga) (ha : DA X C κ .v (e :: es) gs) (hst : starEach (e :: es) X.env = (false, eval e X.env) :: starEach es X.env := by rfl) (hpl : (backTo pos (starEach es X.env)).any (·.1) = false := by rfl)
    (ht : eval (.Call (.Attribute o mm apos) (e :: es) [] pos) X.env = (do
      let ov <- eval o X.env
      standAt apos.atName
      let (f, first) <- holding [ov] (getMethod ov mm pl)
      callWith pos f first (backTo pos (starEach (e :: es) X.env)) (backToKw pos (keywordEach [] X.env))) := by rfl) : DEX X C κ (.Call (.Attribute o mm apos) (e :: es) [] pos) (hMeth c mm F ga gs) E ce := by
  obtain ⟨ta, pa, da⟩ := ho
  obtain ⟨t, pt, dt⟩ := ha
  refine ⟨_, pe_meth pa cls hm G hr hb .nil hx pt hst hpl ht, λ Fo σ H δ r Q cc q w => da Fo σ H δ r _ ?_⟩
  unfold hMeth at q
  cases z : ga δ with
  | er c s => rw [z] at q; cases q
  | un => rw [z] at q; cases q
  | ok d =>
    rw [z] at q
    have q : (match gs δ with | .ok ds => if isObj c mm d = true then F (d :: ds) else none | _ => none) = some cc := q
    intro v H1 s1 a1 _
    cases z2 : gs δ with
    | er c s => rw [z2] at q; cases q
    | un => rw [z2] at q; cases q
    | ok ds =>
      rw [z2] at q
      have q : (if isObj c mm d = true then F (d :: ds) else none) = some cc := q
      split at q
      · rename_i hi
        obtain ⟨qa, dx, fs, rfl, hq, hl⟩ := obj_look a1 hi
        refine ⟨qa, dx, fs, rfl, hq, hl, dt Fo σ H1 δ (r.same s1) _ ?_⟩
        rw [z2]
        intro vs H2 s2 a2
        rw [List.append_nil]
        exact ⟨d :: ds, cc, by rw [List.length_cons]; exact hlen δ ds z2, Ats.cons ((a1.same s2).sub λ o_ o_ o_ => trivial) (a2.sub λ o_ o_ o_ => trivial), q, λ H' s' => w H' ((s1.trans s2).trans s')⟩
      · cases q
end
section
variable {P : Program} {w : World} {K : PySem.W.Frag} {mg : Str -> Option Value} {base : Heap}
theorem fn_X {x qual : Str} {st : Stmt} {f : Addr} {fd : FuncData} {N ps : List Str} {k n : Nat} {cl ce : Nat -> Addr} {κ : List Kd} {h : HS} (F : Fun K x qual st f fd) (S : FnScope N ps (defScope st)) (hn : ps.length = n) (hκ : ∀ i : Nat, i < n -> κ[i]? = some .b)
    (hbody : ∀ (cdv : Value) (A : Around) (outer : List Env) (s : Shared) (H : Hp) (E : XK), Room k (A.deeper (envOfC qual (defScope st) s.heap.objs.size f cdv)) -> Raises (cxOf (CXF P w) P w K mg base N qual (defScope st) f cdv A outer s H E) E -> Passes (CXF P w) (cxOf (CXF P w) P w K mg base N qual (defScope st) f cdv A outer s H E) E ->
      DRs (cxOf (CXF P w) P w K mg base N qual (defScope st) f cdv A outer s H E) ⟨cl, H, λ o_ => False, [], λ o_ => .non, λ o_ => []⟩ κ (defBody st) h E ce) : FnOk P w K mg base (CXF P w) (k + 1) f fd ps (spE K cl ce n (runX N.length h)) := by
  obtain ⟨oc, od, kV, doc, pm, an, cdv, ct, osl, rfl, lk, hcd⟩ := F.ex
  refine fn_of lk hcd S (λ vs H Q E h => by rw [spE_len h, hn]) λ A outer s H vs Q E hr hsp => ?_
  obtain ⟨ds, c, hl, wa, he, q⟩ := hsp
  obtain ⟨t, pt, dt⟩ := hbody cdv A outer s H E hr (λ pins σ H s h' a C vs I mk hw => raise_xe I mk hw) pass_xe
  unfold runX at he
  cases z : h (startD N.length ds) with
  | none => rw [z] at he; cases he
  | some x =>
    rw [z] at he
    obtain ⟨c', δ'⟩ := x
    have he : c' = c := Option.some.inj he
    subst he
    refine ⟨t, pt, dt (λ o_ => []) (L2.start N vs) H (startD N.length ds) ?_ _ c' δ' z λ κr φ' σ' H' o_ r => q H' λ b u e => r.fr b u e λ z => z⟩
    refine ⟨λ i d e => ?_, λ i j a m => absurd m (by simp), λ a f => ?_, λ a f => ?_, λ a o e o_ => e, λ a z => z.elim, TupK.refl, λ j hj => absurd hj (by simp), ?_⟩
    · obtain ⟨hi, v, h1, h2⟩ := start_get wa e
      refine ⟨v, .b, h1, hκ i (by omega), h2.sub λ b o_ o_ f => ?_⟩
      obtain ⟨j, hj⟩ := f
      exact absurd hj (by simp)
    · obtain ⟨j, hj⟩ := f
      exact absurd hj (by simp)
    · obtain ⟨j, hj⟩ := f
      exact absurd hj (by simp)
    · unfold L2.start startD
      rw [List.length_append, List.length_append, List.length_map, List.length_map, List.length_replicate, List.length_replicate, wa.length]
end
section
variable {X : Cx} {C : Dc} {L : List Kd × List Nat} {κ κ' : List Kd} {body : List Stmt} {gb : GS} {hb : HS} {ce : Nat -> Addr} {kd : Nat -> Option D}
theorem ds_try {FE : Addr} {tn n : Str} {i : Nat} {b₀ : Stmt} {suite : List Stmt} {np hpos pos : Pos} (hstk : X.stack = X.env :: X.outer) (hfr : X.env.frame = some X.env.locals) (hN : X.N.Nodup) (hi : X.N[i]? = some n) (hloc : X.env.scope.names.lookup n = some .local)
    (hg : Gl X tn) (hm : X.mg tn = some (.ref FE)) (hbN : ∀ pn xe, DSs (X.tr pn xe) C L κ κ' body gb) (hbX : ∀ pn xe E', Passes (CXF X.prog X.w) (X.tr pn xe) E' -> DRs (X.tr pn xe) C κ body hb E' ce)
    (hph : ∀ c d, kd c = some d -> PySem.W.exmOne X.K (.ref (ce c)) (.ref FE) = some true /\ ∃ ts, PH X n (b₀ :: suite) (ce c) ts /\ ∀ Q H, (∀ v H', Same H H' -> (∀ S, (∀ a, H a = none -> S a) -> At X.K C.cl H' S v d) -> d.big = false -> Q v H') -> ts Q H)
    (hbig : ∀ c d, kd c = some d -> d.big = false) (hdb : (tn == ("__debug__" : Str)) = false := by decide) :
    DSt X C L κ κ' (.Try body [.ExceptHandler (some (.Name tn np)) (some n) (b₀ :: suite) hpos] [] [] pos) (gTry gb hb kd) := by
  classical
  let tb : XK -> TS := λ E' D σ H => ∀ pn xe, (∀ (hp : Passes (CXF X.prog X.w) (X.tr pn xe) E'), (Classical.choose (hbN pn xe) D σ H \/ Classical.choose (hbX pn xe E' hp) D σ H))
  refine ⟨_, ps_try (tb := tb) hstk hfr hN hi hloc hg hm (λ pn xe E' hp pins s σ H D I q => ?_) hdb, λ φ σ H δ r D p => λ pn xe hp => ?_⟩
  · rcases q pn xe hp with q | q
    · exact (Classical.choose_spec (hbN pn xe)).1 pins s σ H D I q
    · exact (Classical.choose_spec (hbX pn xe E' hp)).1 pins s σ H D I q
  · unfold gTry at p
    cases q : hb δ with
    | none =>
      rw [q] at p
      exact .inl ((Classical.choose_spec (hbN pn xe)).2 φ σ H δ r D p)
    | some x =>
      obtain ⟨c, δ'⟩ := x
      rw [q] at p
      refine .inr ((Classical.choose_spec (hbX pn xe _ hp)).2 φ σ H δ r D c δ' q λ κr φ' σ' H' hio r' => ?_)
      cases z : kd c with
      | none => simp only [z] at p; exact p.elim
      | some d =>
        simp only [z] at p
        obtain ⟨hm, ts, hp1, hp2⟩ := hph c d z
        refine ⟨ce c, ts, rfl, hm, hp1, hp2 _ _ λ v H'' s'' ha hb' => ?_⟩
        exact p v κr φ' σ' H'' hio (r'.same s'') (ha _ λ a h => r'.old h) (Nw.small hb')
end
theorem kdW_big {cs : List Nat} : ∀ c d, kdW cs c = some d -> d.big = false := λ c d h => by
  unfold kdW at h
  split at h
  · cases h; rfl
  · cases h
section
variable {X : Cx} {C : Dc} {FE : Addr} {n kf : Str} {ce : Nat -> Addr} {cs : List Nat} {f : Addr} {fd : FuncData} {p : Str} {k : Nat} {p1 p2 p3 p4 p5 p6 : Pos} {j kt : Nat}
set_option tactic.hygienic true in
theorem hph_W (hx : ∀ c ∈ cs, PySem.W.exmOne X.K (.ref (ce c)) (.ref FE) = some true) (G : ∀ c ∈ cs, FnM X.prog X.w X.K X.mg X.base k f fd p (ce c) ((kindW[c]?).getD "")) (hr : Room k X.A) (hg : Gl X kf) (hm : X.mg kf = some (.ref f)) (hk : PySem.W.keepIn X.K (.ref f) = true) (hb : Binds X.K fd [p] []) (hv : Vis X.env.scope n) (hdb : (kf == ("__debug__" : Str)) = false := by decide) (hd : (n == ("__debug__" : Str)) = false := by decide) (hcd : (n == ("__classdict__" : Str)) = false := by decide)
    (he : starEach [.Name n p2] X.env = (false, eval (.Name n p2) X.env) :: starEach [] X.env := by rfl) :
    ∀ c d, kdW cs c = some d -> PySem.W.exmOne X.K (.ref (ce c)) (.ref FE) = some true /\ ∃ ts, PH X n [.Return (some (.Call (.Name kf p1) [.Name n p2] [] p3)) p4] (ce c) ts /\ ∀ Q H, (∀ v H', Same H H' -> (∀ S, (∀ a, H a = none -> S a) -> At X.K C.cl H' S v d) -> d.big = false -> Q v H') -> ts Q H := λ c d h => by
  unfold kdW at h
  split at h
  · rename_i hc
    cases h
    exact ⟨hx c hc, _, ph_ret (G c hc) hr hg hm hk hb hv hdb hd hcd he, λ Q H q H' s' => q _ H' s' (λ S o_ => by rw [At]) rfl⟩
  · cases h
end
end Dl
namespace Dl
open PySem
end Dl
namespace Dl
open PySem
end Dl
namespace Dl
open PySem
end Dl
namespace Dl
open PySem
end Dl
namespace Dl
open PySem L2 PyProof.Rows
section
variable {X : Cx} {C : Dc} {L : List Kd × List Nat} {κ κ' κ1 : List Kd} {st : Stmt} {sts rest : List Stmt} {g gb : GS} {h hb h1 h2 : HS} {he : HE} {ge ga : GE} {gs : GA} {tA : GT} {e a : Expr} {es : List Expr} {m : Kd} {fr fa : Bool} {pos p : Pos} {E : XK} {ce : Nat -> Addr}
theorem rf_turn {i : Nat} {k : Kd} {fg : List Nat} {tb t2 : TS} {D : Ends} {F0 : Addr -> Prop} {H0 : Hp} (hkk : k = .b \/ k = .s) (hk : i < κ.length) (hni : i ∉ C.io) (ok : okK κ1 κ fg = true)
    (db : ∀ φ σ H δ, Rs X.K C (κ.set i k) φ σ H δ -> ∀ D, FinS X.K C (κ, fg) κ1 (Fo φ) H D (gb δ) -> tb D σ H) (dx : ∀ φ σ H δ, Rs X.K C (κ.set i k) φ σ H δ -> ∀ D c δ', hb δ = some (c, δ') -> ExW X.K C E ce c δ' -> t2 D σ H) {N : L2.St -> Hp -> Prop}
    {φ : Nat -> List Addr} {σ : L2.St} {H : Hp} {δ δe : DS} {c : Nat} {v : V} {d : Dl.D} {rest : List Dl.D} (w : ExW X.K C E ce c δe) (r : Rs X.K C κ φ σ H δ) (kp : Kp F0 H0 (Fo φ) H) (a : At X.K C.cl H (Sk C (Fo φ) k) v d) (p : hLoop i fg gb hb (d :: rest) δ = some (c, δe))
    (hN : ∀ φ' σ' H' δ', Rs X.K C κ φ' σ' H' δ' -> Kp F0 H0 (Fo φ') H' -> hLoop i fg gb hb rest δ' = some (c, δe) -> N σ' H') :
    tb { D with nx := N, ct := N, bk := D.nx } (σ.set i (some v)) H \/ t2 { D with nx := N, ct := N, bk := D.nx } (σ.set i (some v)) H := by
  have so : SlOk X.K C (Fo (φset φ i [])) H [] v d k := by
    rcases hkk with rfl | rfl
    · exact At.sub a λ b z o_ f => z (fo_sub f)
    · exact At.sub a λ b z o_ => ⟨z.1, λ f => z.2 (fo_sub f)⟩
  obtain ⟨r2, kp2⟩ := r.put (Same.refl H) hk so (λ a m => absurd m (by simp)) hni
  have kp3 := kp.trans kp2
  rw [hLoop] at p
  cases q : hb (δ.set i (some d)) with
  | some x =>
    rw [q] at p
    obtain ⟨c', δ'⟩ := x
    cases p
    exact .inr (dx _ _ H _ r2 _ c δe q w)
  | none =>
    rw [q] at p
    cases q2 : gb (δ.set i (some d)) with
    | ok o =>
      rw [q2] at p
      cases o with
      | nx δ' => exact .inl (db _ _ H _ r2 _ (by rw [q2]; exact λ φ' σ' H' r' k' => hN φ' σ' H' _ (r'.forget ok) (kp3.trans k') p))
      | ct δ' => exact .inl (db _ _ H _ r2 _ (by rw [q2]; exact λ φ' σ' H' r' k' => hN φ' σ' H' _ r' (kp3.trans k') p))
      | bk δ' => cases p
      | rt d δ' => cases p
    | er c s => rw [q2] at p; cases p
    | un => rw [q2] at p; cases p
theorem hLoop_nil {i : Nat} {fg : List Nat} {δ : DS} : hLoop i fg gb hb [] δ = none := by rw [hLoop]
theorem rf_for {i : Nat} {x : Str} {k : Kd} {fg : List Nat} {iter : Expr} {gi : GI} {body : List Stmt} {px : Pos} (hkk : k = .b \/ k = .s) (hk : i < κ.length) (hN : X.N.Nodup) (hi : X.N[i]? = some x) (hx : Loc X.env.scope x) (hp : PassesOwn (model X.prog X.w) X.A X.env X.xe) (hc : X.calm = true)
    (hw : DI X C κ k (.Name x px) iter gi) (hbd : DSs X C (κ, fg) (κ.set i k) κ1 body gb) (hrf : DRs X C (κ.set i k) body hb E ce) (ok : okK κ1 κ fg = true) (hs : ∀ x, foldedSetIterable iter X.env x = pure x := by intro _; rfl)
    (hf : X.fn x = true \/ X.env.scope.names.lookup x = some .local := by first | exact .inl rfl | exact .inr rfl | assumption) (hni : C.io.contains i = false := by rfl) : DR X C κ (.For (.Name x px) iter body [] pos) (hFor gi i fg gb hb) E ce := by
  obtain ⟨wi, pw, dw⟩ := hw
  obtain ⟨tb, pb, db⟩ := hbd
  obtain ⟨t2, p2, dx⟩ := hrf
  obtain ⟨tc, pb2, hor⟩ : ∃ tc : TS, PSs X body tc /\ ∀ D σ H, tb D σ H \/ t2 D σ H -> tc D σ H := ⟨λ D σ H => tb D σ H \/ t2 D σ H, λ pins s σ H D I q => by
    rcases q with q | q
    · exact pb pins s σ H D I q
    · exact p2 pins s σ H D I q, λ o_ o_ o_ q => q⟩
  refine ⟨_, ps_for hp hc pw (pg_name hN hi hx hf) pb2 hs, λ φ σ H δ r D c δe p we => dw (Fo φ) σ H δ r.rx _ ?_⟩
  unfold hFor at p
  cases e1 : gi δ with
  | er c s => rw [e1] at p; cases p
  | un => rw [e1] at p; cases p
  | ok xs =>
  rw [e1] at p
  have p : hLoop i fg gb hb xs (forget fg δ) = some (c, δe) := p
  intro J H1 s1 w
  have r1 := (r.same s1).forget (okK_self κ fg)
  have kp1 : Kp (Fo φ) H (Fo φ) H1 := Kp.of s1 λ a f => .inl f
  have sk : ∀ {φ' : Nat -> List Addr} {H' : Hp} {a : Addr}, Kp (Fo φ) H1 (Fo φ') H' -> H1 a ≠ none -> Sk C (Fo φ) k a -> ¬ Fo φ a /\ Sk C (Fo φ') k a := λ {φ' H' a} kp e z => by
    have m : ¬ Fo φ a -> ¬ Fo φ' a := λ n f => (kp.ow a f).elim n e
    rcases hkk with rfl | rfl
    · exact ⟨z, m z⟩
    · exact ⟨z.2, z.1, m z.2⟩
  have items : ∀ {φ' : Nat -> List Addr} {H' : Hp} {vs : List V}, Kp (Fo φ) H1 (Fo φ') H' -> Ats X.K C.cl H1 (Sk C (Fo φ) k) vs xs -> Ats X.K C.cl H' (Sk C (Fo φ') k) vs xs := λ {φ' H' vs} kp z =>
    z.mono kp.tk (λ a o za e => kp.st a o e (sk kp (by rw [e]; exact λ z => by cases z) za).1) λ a za e => (sk kp e za).2
  rcases w with ⟨a, vs, rfl, sa, ha, wa⟩ | ⟨a, vs, rfl, ha, wa⟩ | ⟨lo, n, rfl, rfl⟩ | ⟨z, rfl, rfl⟩
  · have hl := wa.length
    refine for_list (K := X.K) (a := a) (xs := vs) (λ j σ' H' => ∃ φ' δ', Rs X.K C κ φ' σ' H' δ' /\ Kp (Fo φ) H1 (Fo φ') H' /\ hLoop i fg gb hb (xs.drop j) δ' = some (c, δe))
      ⟨φ, _, r1, Kp.refl, p⟩ (λ j σ' H' o1_ ⟨φ', δ', r', kp, o2_⟩ => ?_) ?_ ?_
    · refine .inl ?_
      rcases ha with ha | ⟨o, ha⟩
      · exact .inl (kp.st _ _ ha (sk kp (by rw [ha]; exact λ z => by cases z) sa).1)
      · exact .inr ⟨o, kp.st _ _ ha (sk kp (by rw [ha]; exact λ z => by cases z) sa).1⟩
    · rintro j v σ' H' hj ⟨φ', δ', r', kp, q⟩
      obtain ⟨d, hd, ad⟩ := (items kp wa).get' hj
      rw [drop_get hd] at q
      exact hor _ _ _ <| rf_turn hkk hk (notmem hni) ok db dx we r' kp ad q λ φ2 σ2 H2 δ2 r2 kp2 q2 => ⟨φ2, δ2, r2, kp2, q2⟩
    · rintro σ' H' ⟨φ', δ', r', kp, q⟩
      rw [hl, List.drop_length, hLoop_nil] at q
      cases q
  · have hl := wa.length
    refine for_tup (K := X.K) (a := a) (xs := vs) (λ j σ' H' => ∃ φ' δ', Rs X.K C κ φ' σ' H' δ' /\ Kp (Fo φ) H1 (Fo φ') H' /\ hLoop i fg gb hb (xs.drop j) δ' = some (c, δe))
      ⟨φ, _, r1, Kp.refl, p⟩ (λ j σ' H' o1_ ⟨φ', δ', r', kp, o2_⟩ => SqT.of (kp.tk _ _ ha)) ?_ ?_
    · rintro j v σ' H' hj ⟨φ', δ', r', kp, q⟩
      obtain ⟨d, hd, ad⟩ := (items kp wa).get' hj
      rw [drop_get hd] at q
      exact hor _ _ _ <| rf_turn hkk hk (notmem hni) ok db dx we r' kp ad q λ φ2 σ2 H2 δ2 r2 kp2 q2 => ⟨φ2, δ2, r2, kp2, q2⟩
    · rintro σ' H' ⟨φ', δ', r', kp, q⟩
      rw [hl, List.drop_length, hLoop_nil] at q
      cases q
  · refine for_range (lo := lo) (n := n) (λ j σ' H' => ∃ φ' δ', Rs X.K C κ φ' σ' H' δ' /\ Kp (Fo φ) H1 (Fo φ') H' /\ hLoop i fg gb hb ((rangeD lo n).drop j) δ' = some (c, δe))
      ⟨φ, _, r1, Kp.refl, p⟩ ?_ ?_
    · rintro j σ' H' hj ⟨φ', δ', r', kp, q⟩
      have hd : (rangeD lo n)[j]? = some (.int (lo + (j : Int))) := by unfold rangeD; rw [List.getElem?_map, List.getElem?_range hj]; rfl
      rw [drop_get hd] at q
      exact hor _ _ _ <| rf_turn hkk hk (notmem hni) ok db dx we r' kp (by rw [At]) q λ φ2 σ2 H2 δ2 r2 kp2 q2 => ⟨φ2, δ2, r2, kp2, q2⟩
    · rintro σ' H' ⟨φ', δ', r', kp, q⟩
      have hl : (rangeD lo n).length = n := by unfold rangeD; rw [List.length_map, List.length_range]
      rw [show (rangeD lo n).drop n = [] by rw [List.drop_eq_nil_iff]; omega, hLoop_nil] at q
      cases q
  · refine for_str (z := z) (λ j σ' H' => ∃ φ' δ', Rs X.K C κ φ' σ' H' δ' /\ Kp (Fo φ) H1 (Fo φ') H' /\ hLoop i fg gb hb ((signsD z).drop j) δ' = some (c, δe))
      ⟨φ, _, r1, Kp.refl, p⟩ ?_ ?_
    · rintro j c' σ' H' hj ⟨φ', δ', r', kp, q⟩
      have hd : (signsD z)[j]? = some (.str ⟨#[c']⟩) := by unfold signsD; rw [List.getElem?_map, Array.getElem?_toList, hj]; rfl
      rw [drop_get hd] at q
      exact hor _ _ _ <| rf_turn hkk hk (notmem hni) ok db dx we r' kp (by rw [At]) q λ φ2 σ2 H2 δ2 r2 kp2 q2 => ⟨φ2, δ2, r2, kp2, q2⟩
    · rintro σ' H' ⟨φ', δ', r', kp, q⟩
      have hl : (signsD z).length = z.cps.size := by unfold signsD; rw [List.length_map, Array.length_toList]
      rw [show (signsD z).drop z.cps.size = [] by rw [List.drop_eq_nil_iff]; omega, hLoop_nil] at q
      cases q
end
end Dl
namespace Dl
open PySem L2 PyProof.Rows
noncomputable def scOkB (o sc : Scope) : Bool := sc.kind == .function && sc.names.all λ y => (y.2 != .local || sc.names.lookup y.1 == some .local) && (y.2 != .free || (o.names.lookup y.1 == some .cell || o.names.lookup y.1 == some .free))
section
variable {X : Cx} {C : Dc} {κ : List Kd} {he : HE} {E : XK} {ce : Nat -> Addr} {tg elt iter : Expr} {ifs : List Expr} {sc : Scope} {pos : Pos}
theorem dex_compR (hk : scOkB X.env.scope sc = true) (hd : DEX X C κ iter he E ce) (hs : ∀ v, foldedSetIterable iter X.env v = pure v := by intro _; rfl) : DEX X C κ (.ListComp elt [⟨tg, iter, ifs, 0⟩] sc pos) he E ce := by
  obtain ⟨t, pt, dt⟩ := hd
  refine ⟨λ σ H o_ => t σ H λ o_ o_ => False, λ pins s σ H Q I h => ?_, λ F σ H δ r Q c q w => dt F σ H δ r _ c q w⟩
  unfold scOkB at hk
  rw [Bool.and_eq_true, List.all_eq_true] at hk
  obtain ⟨k1, k2⟩ := hk
  have k3 : ∀ y ∈ sc.names, (y.2 ≠ .local \/ sc.names.lookup y.1 = some .local) /\ (y.2 ≠ .free \/ (X.env.scope.names.lookup y.1 = some .cell \/ X.env.scope.names.lookup y.1 = some .free)) := λ y hy => by
    have := k2 y hy
    simpa only [Bool.and_eq_true, Bool.or_eq_true, bne_iff_ne, beq_iff_eq] using this
  rw [eval_ListComp]
  refine wpAny_comprehension_free (use := none) (cl := clOf sc X.env) rfl hs (closureFor_of λ p hp e => I.ok.has p.1 ((k3 p hp).2.resolve_left λ z => z e)) (by simpa using k1) (λ y hy e => (k3 y hy).1.resolve_left λ z => z e) (wpAny_mono (pt pins s σ H _ I h) (λ v s1 ⟨x, H1, I1, r1, q1⟩ => q1.elim) λ o_ o_ e => e)
end
end Dl
namespace Dl
open PySem L2 PyProof.Rows
section
variable {X : Cx} {C : Dc} {L : List Kd × List Nat} {κ κ' κ1 : List Kd} {ge go : GE} {e o : Expr} {fr : Bool} {pos p : Pos}
end
end Dl
namespace Dl
open PySem L2 PyProof.Rows
section
variable {X : Cx} {cl : Nat -> Addr} {K : PySem.W.Frag} {C : Dc}
end
end Dl
namespace Dl
open PySem L2 PyProof.Rows
section
variable {X : Cx} {C : Dc} {L : List Kd × List Nat} {κ κ' κ1 : List Kd} {ge go : GE} {e o : Expr} {fr : Bool} {pos p : Pos}
end
end Dl
namespace Dl
open PySem L2 PyProof.Rows
section
variable {K : PySem.W.Frag} {cl : Nat -> Addr} {H : Hp} {S : Addr -> Prop}
end
section
variable {X : Cx} {C : Dc} {L : List Kd × List Nat} {κ κ' κ1 : List Kd} {ge go : GE} {gs : GA} {e o : Expr} {es : List Expr} {fr : Bool} {pos p apos : Pos} {x : Str}
end
end Dl
namespace Dl
open PySem L2 PyProof.Rows
section
variable {X : Cx} {C : Dc} {L : List Kd × List Nat} {κ κ' κ1 : List Kd} {x y : Str} {pos : Pos}
theorem Rs.loose {K : PySem.W.Frag} {φ : Nat -> List Addr} {σ σ' : L2.St} {H : Hp} {δ : DS} {j : Nat} (r : Rs K C κ φ σ H δ) (hl : σ'.length = σ.length) (he : ∀ t, t ≠ j -> σ'[t]? = σ[t]?) (hj : j ∉ C.io) : Rs K C κ φ σ' H (δ.set j none) := by
  refine ⟨λ t d e => ?_, r.dj, r.ow, r.fi, r.fr, r.xo, r.tk, λ t m => ?_, by rw [List.length_set, hl]; exact r.len⟩
  · rcases get_set e with ⟨_, h, _⟩ | ⟨hij, e⟩
    · cases h
    · obtain ⟨v, k, h1, h2, h3⟩ := r.sl t d e
      exact ⟨v, k, by rw [he t (λ z => hij z.symm)]; exact h1, h2, h3⟩
  · obtain ⟨h1, h2⟩ := r.ii t m
    exact ⟨by rw [he t (λ z => hj (z ▸ m))]; exact h1, h2⟩
end
end Dl
namespace L2
open PySem PySem.Spec PyProof.Rows PySem.W
noncomputable def KeysOk (H : Hp) : List V -> List (List Int) -> List Value -> Prop
  | [], [], [] => True
  | x :: xs, ns :: nss, u :: us => (∃ a p, x = .ref a /\ u = .ref p /\ Rd H a (.lst (ns.map V.int)) /\ H p = some (.tup [.int ns.length, .ref a])) /\ KeysOk H xs nss us
  | _, _, _ => False
theorem rd_same {H H' : Hp} {a : Addr} {u : HO} (s : ∀ a o, H a = some o -> H' a = some o) (h : Rd H a u) : Rd H' a u := by
  rcases h with h | ⟨o, h⟩
  · exact .inl (s _ _ h)
  · exact .inr ⟨o, s _ _ h⟩
theorem KeysOk.snoc {H : Hp} {x : V} {ns : List Int} {u : Value} (h : ∃ a p, x = .ref a /\ u = .ref p /\ Rd H a (.lst (ns.map V.int)) /\ H p = some (.tup [.int ns.length, .ref a])) : ∀ {xs : List V} {nss : List (List Int)} {us : List Value}, KeysOk H xs nss us -> KeysOk H (xs ++ [x]) (nss ++ [ns]) (us ++ [u])
  | [], [], [], _ => ⟨h, trivial⟩
  | _ :: xs, _ :: nss, _ :: us, t => ⟨t.1, KeysOk.snoc h t.2⟩
  | [], [], _ :: _, h => h.elim
  | [], _ :: _, _, h => h.elim
  | _ :: _, [], _, h => h.elim
  | _ :: _, _ :: _, [], h => h.elim
theorem KeysOk.len {H : Hp} : ∀ {xs : List V} {nss : List (List Int)} {us : List Value}, KeysOk H xs nss us -> us.length = nss.length /\ xs.length = nss.length
  | [], [], [], _ => ⟨rfl, rfl⟩
  | _ :: xs, _ :: nss, _ :: us, t => by have := KeysOk.len t.2; exact ⟨by rw [List.length_cons, List.length_cons, this.1], by rw [List.length_cons, List.length_cons, this.2]⟩
  | [], [], _ :: _, h => h.elim
  | [], _ :: _, _, h => h.elim
  | _ :: _, [], _, h => h.elim
  | _ :: _, _ :: _, [], h => h.elim
section
variable {X : Cx}
end
end L2
namespace Dl
open PySem L2 PyProof.Rows
section
variable {X : Cx} {C : Dc} {κ : List Kd} {m : Kd} {fr : Bool} {e : Expr} {ge : GE} {pos p p2 p3 : Pos} {y : Str}
end
end Dl
namespace Dl
open PySem L2 PyProof.Rows
section
variable {X : Cx} {C : Dc} {κ : List Kd} {m kx : Kd} {fe : Bool} {elt iter : Expr} {ifs : List Expr} {gi : GI} {gt : GT} {ge : GE} {sc : Scope} {x : Str} {px pos : Pos}
end
end Dl
namespace Dl
open PySem L2 PyProof.Rows
section
variable {X : Cx} {C : Dc} {L : List Kd × List Nat} {κ κ' κ1 : List Kd} {ge gk : GE} {e ek : Expr} {fr fk : Bool} {pos p : Pos} {x : Str}
end
end Dl
namespace L2
open PySem PySem.Spec PyProof.Rows
section
variable {X : Cx}
end
end L2
namespace Dl
open PySem L2 PyProof.Rows
section
variable {X : Cx} {C : Dc} {L : List Kd × List Nat} {κ κ' κ1 : List Kd} {m : Kd} {ge gk gv : GE} {e ek ev : Expr} {fr fk fv : Bool} {pos p : Pos} {x y : Str}
end
end Dl
namespace L2
open PySem PySem.Spec PyProof.Rows
section
variable {X : Cx}
end
end L2
namespace Dl
open PySem L2 PyProof.Rows
section
variable {X : Cx} {C : Dc} {κ : List Kd} {m : Kd} {go ge : GE} {o e : Expr} {fo fr : Bool} {pos p : Pos} {K : PySem.W.Frag} {cl : Nat -> Addr}
end
end Dl
namespace L2
open PySem PySem.Spec PyProof.Rows
end L2
namespace Dl
open PySem L2 PyProof.Rows
section
variable {X : Cx} {C : Dc} {κ : List Kd} {m : Kd} {K : PySem.W.Frag} {cl : Nat -> Addr} {e : Expr} {es : List Expr} {gs : GA} {x : Str} {pos : Pos}
end
end Dl
namespace L2
open PySem PySem.Spec PyProof.Rows PySem.Builtin PySem.Builtin.Str
section
variable {X : Cx}
noncomputable def r1 (r : R2) : V -> List V -> Hp -> VK -> Prop := λ x vs H Q => ∃ y, vs = [y] /\ r x y H Q
end
end L2
namespace Dl
open PySem L2 PyProof.Rows
section
variable {X : Cx} {C : Dc} {κ : List Kd} {m : Kd} {K : PySem.W.Frag} {cl : Nat -> Addr} {o e : Expr} {go ge : GE} {fo fr : Bool} {apos cpos : Pos} {name : Str} {id : String} {r : R2} {p : D -> D -> Rz D}
end
end Dl
namespace Dl
open PySem L2
section
variable {P : Program} {w : World} {K : PySem.W.Frag} {mg : Str -> Option Value} {base : Heap}
end
section
variable {X : Cx} {C : Dc} {κ : List Kd} {m : Kd} {fr : Bool} {e0 : Expr} {g0 : GE} {pos p pv : Pos} {x y : Str}
end
end Dl
namespace L2
open PySem PySem.Spec PyProof.Rows
end L2
namespace Dl
open PySem L2
end Dl
namespace L2
open PySem PySem.Spec PyProof.Rows
end L2
namespace Dl
open PySem L2
section
variable {X : Cx} {C : Dc} {L : List Kd × List Nat} {κ : List Kd} {es ts : List Expr} {e : Expr} {gs : GA} {pos p cpos : Pos} {x : Str}
end
end Dl
namespace Dl
open PySem L2 PyProof.Rows
noncomputable def scV : D -> V
  | .str x => .str x
  | .int i => .int i
  | _ => .non
structure KDict (P : Program) (w : World) (K : PySem.W.Frag) (ad : Addr) (tb : List (Str × List D)) : Prop where
  sys : (ad == sysModules) = false
  ex : ∃ ob vs, K.lookup ad = some ob /\ ob.IsDictOf (mixKind P w) vs /\ ∀ z, match tb.lookup z with
    | some ds => ∃ b o its n, valueAt vs (.inr z) = some (.ref b) /\ K.lookup b = some o /\ o.cls = .type "tuple" /\ o.data = .seq its n /\ its.size <= sizeLine /\ Vals (ds.map scV) its.toList
    | none => valueAt vs (.inr z) = none
section
variable {X : Cx} {ad : Addr} {tb : List (Str × List D)}
variable {C : Dc} {κ : List Kd} {m : Kd} {fa fb : Bool} {a e : Expr} {ga ge : GE} {x : Str} {pos p2 p3 : Pos}
end
end Dl
namespace Dl
open PySem L2 PyProof.Rows
noncomputable def RowK (w : World) (K : PySem.W.Frag) (e : DictEntry) (p : Str × List D) : Prop :=
  ∃ t b o its n, e = ⟨keyH w (.inr p.1), .str p.1 t, .ref b⟩ /\ K.lookup b = some o /\ o.cls = .type "tuple" /\ o.data = .seq its n /\ its.size <= sizeLine /\ Vals (p.2.map scV) its.toList
end Dl
namespace Dl
open PySem L2
section
variable {X : Cx} {C : Dc} {κ : List Kd} {m : Kd} {fa : Bool} {a : Expr} {ga : GE} {pos p2 : Pos}
end
end Dl
namespace Dl
open PySem
noncomputable def ifK {α : Type} (s r : DS -> Rz α) (δ : DS) : Bool -> Rz α := λ c => if c = true then s δ else r δ
noncomputable def seqK (r : GS) : Out -> Rz Out := λ o => match o with | .nx δ' => r δ' | o => .ok o
@[simp] theorem ifK_true {α : Type} (s r : DS -> Rz α) (δ : DS) : ifK s r δ true = s δ := rfl
@[simp] theorem ifK_false {α : Type} (s r : DS -> Rz α) (δ : DS) : ifK s r δ false = r δ := rfl
@[simp] theorem seqK_nx (r : GS) (δ : DS) : seqK r (.nx δ) = r δ := rfl
@[simp] theorem seqK_rt (r : GS) (d : D) (δ : DS) : seqK r (.rt d δ) = .ok (.rt d δ) := rfl
@[simp] theorem seqK_bk (r : GS) (δ : DS) : seqK r (.bk δ) = .ok (.bk δ) := rfl
@[simp] theorem seqK_ct (r : GS) (δ : DS) : seqK r (.ct δ) = .ok (.ct δ) := rfl
noncomputable def itD : D -> Rz (List D) := λ x => match x with | .lst xs => .ok xs | .tup xs => .ok xs | .str z => .guard (z.cps.all (· < 128) = true) (.ok (signsD z)) | _ => .un
@[simp] theorem itD_lst (xs : List D) : itD (.lst xs) = .ok xs := rfl
@[simp] theorem itD_tup (xs : List D) : itD (.tup xs) = .ok xs := rfl
@[simp] theorem itD_str (z : Str) : itD (.str z) = .guard (z.cps.all (· < 128) = true) (.ok (signsD z)) := rfl
section
variable (δ : DS) (a b : GE) (ga : GA) (t u : GT) (s r : GS) (x : GX) (i : Nat)
@[simp] theorem gVar_ap : gVar i δ = (match δ[i]? with | some (some d) => .ok d | _ => .un) := rfl
@[simp] theorem gVarI_ap : gVarI i δ = (match δ[i]? with | some (some d) => .guard (d.imm = true) (.ok d) | _ => .un) := rfl
@[simp] theorem gC_ap (d : D) : gC d δ = .ok d := rfl
@[simp] theorem gOp_ap (f : D -> D -> Rz D) : gOp f a b δ = (a δ).bind λ x => (b δ).bind λ y => f x y := rfl
@[simp] theorem gUn_ap (f : D -> Rz D) : gUn f a δ = (a δ).bind f := rfl
@[simp] theorem gB_ap : gB a δ = (a δ).bind λ x => match x with | .bl c => .ok c | _ => .un := rfl
@[simp] theorem gTru_ap : gTru a δ = (a δ).bind dTru := rfl
@[simp] theorem gtOr_ap : gtOr t u δ = (t δ).bind (ifK (λ o_ => .ok true) u δ) := rfl
@[simp] theorem gtNot_ap : gtNot t δ = (t δ).bind λ c => .ok (!c) := rfl
@[simp] theorem gYes_ap : gYes δ = .ok true := rfl
@[simp] theorem gNil_ap : gNil δ = .ok [] := rfl
@[simp] theorem gCons_ap : gCons a ga δ = (a δ).bind λ x => (ga δ).bind λ xs => .ok (x :: xs) := rfl
@[simp] theorem gTup_ap : gTup ga δ = (ga δ).bind λ xs => .guard (xs.length <= sizeLine) (.ok (.tup xs)) := rfl
@[simp] theorem gLst_ap : gLst ga δ = (ga δ).bind λ xs => .guard (xs.length <= sizeLine) (.ok (.lst xs)) := rfl
@[simp] theorem gCall_ap (F : PF) : gCall F ga δ = (ga δ).bind F := rfl
@[simp] theorem gOI_ap : gOI a δ = (a δ).bind λ x => match x with | .int i => .ok (some i) | _ => .un := rfl
@[simp] theorem gON_ap : gON δ = .ok none := rfl
@[simp] theorem gSl_ap (lo hi : DS -> Rz (Option Int)) : gSl a lo hi δ = (a δ).bind λ x => (lo δ).bind λ l => (hi δ).bind λ h => dCut x l h := rfl
@[simp] theorem gItS_ap : gItS a δ = (a δ).bind itD := rfl
@[simp] theorem gRng1_ap : gRng1 a δ = (a δ).bind λ x => match x with | .int j => .guard (Rng j) (.ok (rangeD 0 j.toNat)) | _ => .un := rfl
@[simp] theorem gComp_ap (it : GI) (caps : List Nat) : gComp it caps t a δ = (it δ).bind λ xs => (compL (capD caps δ) t a xs).bind λ ys => .guard (ys.length <= sizeLine) (.ok (.lst ys)) := rfl
@[simp] theorem gNext_ap : gNext δ = .ok (.nx δ) := rfl
@[simp] theorem gSeq_ap : gSeq s r δ = (s δ).bind (seqK r) := rfl
@[simp] theorem gIfS_ap : gIfS t s r δ = (t δ).bind (ifK s r δ) := rfl
@[simp] theorem gRet_ap : gRet a δ = (a δ).bind λ d => .ok (.rt d δ) := rfl
@[simp] theorem gDrop_ap : gDrop a δ = (a δ).bind λ o_ => .ok (.nx δ) := rfl
@[simp] theorem gSet_ap : gSet i a δ = (a δ).bind λ d => .ok (.nx (δ.set i (some d))) := rfl
@[simp] theorem gSetO_ap : gSetO i a δ = (a δ).bind λ d => .guard (d.big = true) (.ok (.nx (δ.set i (some d)))) := rfl
@[simp] theorem gNever_ap : gNever δ = .un := rfl
@[simp] theorem gApp_ap : gApp i a δ = (a δ).bind λ d => match δ[i]? with | some (some (.lst xs)) => .guard (xs.length < sizeLine) (.ok (.nx (δ.set i (some (.lst (xs ++ [d])))))) | _ => .un := rfl
@[simp] theorem gPut_ap : gPut i b a δ = (a δ).bind λ d => (b δ).bind λ k => match δ[i]? with | some (some x) => (dPut x k d).bind λ y => .ok (.nx (δ.set i (some y))) | _ => .un := rfl
@[simp] theorem gFor_ap (it : GI) (fg : List Nat) : gFor it i fg s δ = (it δ).bind λ xs => loopF i fg s xs (forget fg δ) := rfl
@[simp] theorem gImI_ap : gImI a δ = (a δ).bind λ d => .guard (d.imI = true) (.ok d) := rfl
@[simp] theorem gIm_ap : gIm a δ = (a δ).bind λ d => .guard (d.imm = true) (.ok d) := rfl
@[simp] theorem gMeth_ap (c : Nat) (m : Str) (F : PF) : gMeth c m F a ga δ = (a δ).bind λ x => (ga δ).bind λ ds => .guard (isObj c m x = true) (F (x :: ds)) := rfl
@[simp] theorem gMethI_ap (c : Nat) (m : Str) (F : PFI) : gMethI c m F i ga δ = (ga δ).bind λ ds => (getS [i] δ).bind λ os => .guard ((os.all (isObj c m)) = true) ((F (os ++ ds)).bind λ r => .guard (r.2.length = [i].length) (.ok (r.1, setS [i] r.2 δ))) := rfl
@[simp] theorem gDropX_ap : gDropX x δ = (x δ).bind λ r => .ok (.nx r.2) := rfl
@[simp] theorem gPutF_ap (c : Nat) (f : Str) : gPutF i c f b a δ = (a δ).bind λ d => (b δ).bind λ k => match δ[i]? with
  | some (some (.obj c' f' x)) => .guard (c' = c /\ f' = f) (match x with
    | .dct ks vs => (dPut (.dct ks vs) k d).bind λ y => .ok (.nx (δ.set i (some (.obj c' f' y))))
    | _ => .un)
  | _ => .un := rfl
@[simp] theorem gUnp_ap (is : List Nat) : gUnp is a δ = (a δ).bind λ d => match d with | .tup ds => (optR (setT is ds δ)).bind λ δ' => .ok (.nx δ') | _ => .un := rfl
@[simp] theorem gChain_ap (f g : D -> D -> Rz D) (c : GE) : gChain f g a b c δ = (a δ).bind λ x => (b δ).bind λ y => (f x y).bind λ z => match z with
  | .bl true => (c δ).bind λ w => g y w
  | .bl false => .ok (.bl false)
  | _ => .un := rfl
@[simp] theorem dInW_ap (ws : List Str) (x : Str) : dInW ws (.str x) = .ok (.bl (decide (x ∈ ws))) := rfl
@[simp] theorem forget_nil : forget [] δ = δ := rfl
@[simp] theorem forget_cons (r : List Nat) : forget (i :: r) δ = forget r (δ.set i none) := rfl
end
@[simp] theorem guard_eq {α : Type} (c : Prop) [Decidable c] (r : Rz α) : Rz.guard c r = if c then r else .un := rfl
@[simp] theorem line_val : sizeLine = 16777216 := by decide
@[simp] theorem two_line : (2 : Nat) ^ 24 = 16777216 := rfl
theorem str_inj {a b : String} : Str.ofString a = Str.ofString b ↔ a = b := by
  constructor
  · intro h
    rw [Str.ofString_eq_toList, Str.ofString_eq_toList] at h
    injection h with h
    have h2 : a.toList.map Char.toNat = b.toList.map Char.toNat := by
      have := congrArg Array.toList h
      simpa using this
    have inj : ∀ (l m : List Char), l.map Char.toNat = m.map Char.toNat -> l = m := by
      intro l
      induction l with
      | nil => intro m h; cases m with
        | nil => rfl
        | cons _ _ => simp at h
      | cons c l ih => intro m h; cases m with
        | nil => simp at h
        | cons d m =>
          simp only [List.map_cons, List.cons.injEq] at h
          have : c = d := by
            have h1 : c.toNat = d.toNat := h.1
            exact Char.ext (UInt32.toNat_inj.mp h1)
          rw [this, ih m h.2]
    have := inj _ _ h2
    exact String.toList_inj.mp this
  · rintro rfl; rfl
@[simp] theorem str_beq (a b : String) : (Str.ofString a == Str.ofString b) = (a == b) := by
  rw [Bool.eq_iff_iff]
  simp [str_inj]
@[simp] theorem eqD_str (a b : Str) : eqD (.str a) (.str b) = (a == b) := by rw [eqD]
@[simp] theorem eqD_int (a b : Int) : eqD (.int a) (.int b) = (a == b) := by rw [eqD]
@[simp] theorem eqD_bl (a b : Bool) : eqD (.bl a) (.bl b) = (a == b) := by rw [eqD]
@[simp] theorem cmp_str (a b : Str) : cmpOk (.str a) (.str b) = true := rfl
@[simp] theorem cmp_int (a b : Int) : cmpOk (.int a) (.int b) = true := rfl
@[simp] theorem cmp_bl (a b : Bool) : cmpOk (.bl a) (.bl b) = true := rfl
@[simp] theorem dEq_ap (x y : D) : dEq x y = .guard (cmpOk x y = true) (.ok (.bl (eqD x y))) := rfl
@[simp] theorem dNe_ap (x y : D) : dNe x y = .guard (cmpOk x y = true) (.ok (.bl (!eqD x y))) := rfl
@[simp] theorem dAddS_int (i j : Int) : dAddS (.int i) (.int j) = .ok (.int (i + j)) := rfl
@[simp] theorem dAddS_str (x y : Str) : dAddS (.str x) (.str y) = .guard (x.length + y.length <= sizeLine) (.ok (.str (x ++ y))) := rfl
@[simp] theorem dAdd_int (i j : Int) : dAdd (.int i) (.int j) = .ok (.int (i + j)) := rfl
@[simp] theorem dAdd_lst (x y : List D) : dAdd (.lst x) (.lst y) = .guard (x.length + y.length <= sizeLine) (.ok (.lst (x ++ y))) := rfl
@[simp] theorem dAdd_tup (x y : List D) : dAdd (.tup x) (.tup y) = .guard (x ≠ [] /\ x.length + y.length <= sizeLine) (.ok (.tup (x ++ y))) := rfl
@[simp] theorem dSub_ap (i j : Int) : dSub (.int i) (.int j) = .ok (.int (i - j)) := rfl
@[simp] theorem dMul_ap (i j : Int) : dMul (.int i) (.int j) = .guard ((-(2 ^ 64) < i /\ i < 2 ^ 64) \/ (-(2 ^ 64) < j /\ j < 2 ^ 64)) (.ok (.int (i * j))) := rfl
@[simp] theorem dDiv_ap (i j : Int) : dDiv (.int i) (.int j) = .guard (0 < j /\ j < 1073741824) (.ok (.int (i / j))) := rfl
@[simp] theorem dMod_ap (i j : Int) : dMod (.int i) (.int j) = .guard (0 < j) (.ok (.int (i % j))) := rfl
@[simp] theorem dLt_ap (i j : Int) : dLt (.int i) (.int j) = .ok (.bl (decide (i < j))) := rfl
@[simp] theorem dLe_ap (i j : Int) : dLe (.int i) (.int j) = .ok (.bl (decide (i <= j))) := rfl
@[simp] theorem dLe_str (x y : Str) : dLe (.str x) (.str y) = .ok (.bl (!decide (y.cps.toList < x.cps.toList))) := rfl
@[simp] theorem dGe_str (x y : Str) : dGe (.str x) (.str y) = .ok (.bl (!decide (x.cps.toList < y.cps.toList))) := rfl
@[simp] theorem dGt_ap (i j : Int) : dGt (.int i) (.int j) = .ok (.bl (decide (j < i))) := rfl
@[simp] theorem dGe_ap (i j : Int) : dGe (.int i) (.int j) = .ok (.bl (decide (j <= i))) := rfl
@[simp] theorem dIx_lst (xs : List D) (i : Int) : dIx (.lst xs) (.int i) = optR (atD xs i) := rfl
@[simp] theorem dIx_tup (xs : List D) (i : Int) : dIx (.tup xs) (.int i) = optR (atD xs i) := rfl
@[simp] theorem dIx_str (z : Str) (i : Int) : dIx (.str z) (.int i) = .guard (z.length <= sizeLine) ((optR (atD z.cps.toList i)).bind λ c => .ok (.str ⟨#[c]⟩)) := rfl
@[simp] theorem dIx_dct (ks : List Ky) (vs : List D) (x : Str) : dIx (.dct ks vs) (.str x) = optR (valD (.inr x) ks vs) := rfl
@[simp] theorem pLen_lst (xs : List D) : pLen [.lst xs] = .ok (.int xs.length) := rfl
@[simp] theorem pLen_tup (xs : List D) : pLen [.tup xs] = .ok (.int xs.length) := rfl
@[simp] theorem pLen_str (z : Str) : pLen [.str z] = .guard (z.length <= sizeLine) (.ok (.int z.length)) := rfl
@[simp] theorem pLen_dct (ks : List Ky) (vs : List D) : pLen [.dct ks vs] = .ok (.int ks.length) := rfl
@[simp] theorem pAll_ap (xs : List D) : pAll [.lst xs] = (optR (blsD xs)).bind λ bs => .ok (.bl (bs.all id)) := rfl
@[simp] theorem pList_lst (xs : List D) : pList [.lst xs] = .ok (.lst xs) := rfl
@[simp] theorem pList_tup (xs : List D) : pList [.tup xs] = .ok (.lst xs) := rfl
@[simp] theorem pList_dct (ks : List Ky) (vs : List D) : pList [.dct ks vs] = .ok (.lst (ks.map kyD)) := rfl
@[simp] theorem pTuple_lst (xs : List D) : pTuple [.lst xs] = .ok (.tup xs) := rfl
@[simp] theorem pTuple_tup (xs : List D) : pTuple [.tup xs] = .ok (.tup xs) := rfl
@[simp] theorem dTru_bl (b : Bool) : dTru (.bl b) = .ok b := rfl
@[simp] theorem dTru_lst (xs : List D) : dTru (.lst xs) = .ok (!xs.isEmpty) := rfl
@[simp] theorem dIn_ap (x y : D) : dIn x y = (inD x y).bind λ b => .ok (.bl b) := rfl
@[simp] theorem dNotIn_ap (x y : D) : dNotIn x y = (inD x y).bind λ b => .ok (.bl (!b)) := rfl
@[simp] theorem dCut_lst (xs : List D) (lo hi : Option Int) : dCut (.lst xs) lo hi = .ok (.lst (cutD xs lo hi)) := rfl
@[simp] theorem dCut_str (z : Str) (lo hi : Option Int) : dCut (.str z) lo hi = .guard (z.length <= sizeLine) (.ok (.str ⟨(cutD z.cps.toList lo hi).toArray⟩)) := rfl
@[simp] theorem imm_int (i : Int) : (D.int i).imm = true := by rw [D.imm]
@[simp] theorem imm_str (i : Str) : (D.str i).imm = true := by rw [D.imm]
@[simp] theorem imm_bl (i : Bool) : (D.bl i).imm = true := by rw [D.imm]
@[simp] theorem imm_non : D.non.imm = true := by rw [D.imm]
@[simp] theorem imm_tup (xs : List D) : (D.tup xs).imm = xs.all D.imm := by rw [D.imm, immL_all]
@[simp] theorem imI_lst (xs : List D) : (D.lst xs).imI = xs.all D.imm := by unfold D.imI; exact immL_all xs
@[simp] theorem big_int (i : Int) : (D.int i).big = false := rfl
@[simp] theorem big_bl (i : Bool) : (D.bl i).big = false := rfl
@[simp] theorem big_str (i : Str) : (D.str i).big = false := rfl
@[simp] theorem big_tup (i : List D) : (D.tup i).big = false := rfl
@[simp] theorem big_non : D.non.big = false := rfl
@[simp] theorem big_lst (i : List D) : (D.lst i).big = true := rfl
@[simp] theorem big_dct (k : List Ky) (i : List D) : (D.dct k i).big = true := rfl
@[simp] theorem big_obj (c : Nat) (f : Str) (k : List Ky) (i : List D) : (D.obj c f (.dct k i)).big = true := rfl
theorem at_nat {α : Type} (xs : List α) (k : Nat) : atD xs (k : Int) = xs[k]? := by
  unfold atD ixD
  rw [if_pos (by omega)]
  by_cases h : (k : Int) < (xs.length : Int)
  · rw [if_pos h]; simp
  · rw [if_neg h]; simp; omega
theorem at_pos {α : Type} (xs : List α) (i : Int) (h : 0 <= i) : atD xs i = xs[i.toNat]? := by
  have := at_nat xs i.toNat
  rwa [show ((i.toNat : Nat) : Int) = i by omega] at this
@[simp] theorem at_zero {α : Type} (x : α) (xs : List α) : atD (x :: xs) 0 = some x := at_nat (x :: xs) 0
@[simp] theorem at_one {α : Type} (x y : α) (xs : List α) : atD (x :: y :: xs) 1 = some y := at_nat (x :: y :: xs) 1
@[simp] theorem at_two {α : Type} (x y z : α) (xs : List α) : atD (x :: y :: z :: xs) 2 = some z := at_nat (x :: y :: z :: xs) 2
@[simp] theorem at_m1_two {α : Type} (x y : α) : atD [x, y] (-1) = some y := rfl
@[simp] theorem at_m1_three {α : Type} (x y z : α) : atD [x, y, z] (-1) = some z := rfl
theorem loop_nx {i : Nat} {fg : List Nat} {body : GS} : ∀ {xs : List D} {δ : DS} (J : Nat -> DS), J 0 = δ -> (∀ k x, xs[k]? = some x -> ∃ δ', (body ((J k).set i (some x)) = .ok (.nx δ') \/ body ((J k).set i (some x)) = .ok (.ct δ')) /\ forget fg δ' = J (k + 1)) -> loopF i fg body xs δ = .ok (.nx (J xs.length))
  | [], δ, J, h0, _ => by rw [loopF, <- h0]; rfl
  | x :: xs, δ, J, h0, h => by
    obtain ⟨δ', h1, h2⟩ := h 0 x rfl
    rw [h0] at h1
    have ih := loop_nx (i := i) (fg := fg) (body := body) (xs := xs) (δ := forget fg δ') (λ k => J (k + 1)) h2.symm (λ k y e => h (k + 1) y e)
    rw [loopF]
    rcases h1 with h1 | h1 <;> (rw [h1]; exact ih)
theorem filter_yes {α : Type} : ∀ l : List α, l.filter (λ o_ => true) = l
  | [] => rfl
  | x :: r => by rw [List.filter_cons, if_pos rfl, filter_yes r]
theorem comp_of {α : Type} {g : α -> D} {cap : DS} {t : GT} {e : GE} {p : α -> Bool} {f : α -> D} : ∀ {l : List α}, (∀ x ∈ l, t (some (g x) :: cap) = .ok (p x) /\ (p x = true -> e (some (g x) :: cap) = .ok (f x))) -> compL cap t e (l.map g) = .ok ((l.filter p).map f)
  | [], _ => by rw [List.map_nil, compL]; rfl
  | x :: xs, h => by
    obtain ⟨h1, h2⟩ := h x List.mem_cons_self
    have ih := comp_of (g := g) (cap := cap) (t := t) (e := e) (p := p) (f := f) (l := xs) λ y hy => h y (List.mem_cons_of_mem _ hy)
    rw [List.map_cons, compL, h1, bind_ok]
    cases q : p x with
    | true => rw [if_pos rfl, h2 q, bind_ok, ih, bind_ok, List.filter_cons, if_pos q]; rfl
    | false => rw [if_neg Bool.false_ne_true, ih, List.filter_cons, if_neg (by rw [q]; exact Bool.false_ne_true)]
theorem comp_of0 {α : Type} {g : α -> D} {cap : DS} {e : GE} {f : α -> D} {l : List α} (h : ∀ x ∈ l, e (some (g x) :: cap) = .ok (f x)) : compL cap gYes e (l.map g) = .ok (l.map f) := by
  have := comp_of (g := g) (cap := cap) (t := gYes) (e := e) (p := λ o_ => true) (f := f) (l := l) λ x hx => ⟨rfl, λ o_ => h x hx⟩
  rwa [filter_yes] at this
theorem comp_rng {cap : DS} {e : GE} {f : Nat -> D} {lo : Int} {n : Nat} (h : ∀ k, k < n -> e (some (.int (lo + (k : Int))) :: cap) = .ok (f k)) : compL cap gYes e (rangeD lo n) = .ok ((List.range n).map f) :=
  comp_of0 λ k hk => h k (List.mem_range.mp hk)
theorem comp_rngP {cap : DS} {t : GT} {e : GE} {p : Nat -> Bool} {f : Nat -> D} {lo : Int} {n : Nat} (h : ∀ k, k < n -> t (some (.int (lo + (k : Int))) :: cap) = .ok (p k) /\ (p k = true -> e (some (.int (lo + (k : Int))) :: cap) = .ok (f k))) : compL cap t e (rangeD lo n) = .ok (((List.range n).filter p).map f) :=
  comp_of λ k hk => h k (List.mem_range.mp hk)
theorem loop_of {α : Type} {g : α -> D} {i : Nat} {fg : List Nat} {body : GS} {l : List α} {δ : DS} (J : Nat -> DS) (h0 : J 0 = δ) (h : ∀ k x, l[k]? = some x -> ∃ δ', (body ((J k).set i (some (g x))) = .ok (.nx δ') \/ body ((J k).set i (some (g x))) = .ok (.ct δ')) /\ forget fg δ' = J (k + 1)) : loopF i fg body (l.map g) δ = .ok (.nx (J l.length)) := by
  have := loop_nx (i := i) (fg := fg) (body := body) (xs := l.map g) J h0 λ k x e => by
    rw [List.getElem?_map] at e
    cases q : l[k]? with
    | none => rw [q] at e; cases e
    | some y => rw [q] at e; cases e; exact h k y q
  rwa [List.length_map] at this
theorem loop_rng {i : Nat} {fg : List Nat} {body : GS} {lo : Int} {n : Nat} {δ : DS} (J : Nat -> DS) (h0 : J 0 = δ) (h : ∀ k, k < n -> ∃ δ', (body ((J k).set i (some (.int (lo + (k : Int))))) = .ok (.nx δ') \/ body ((J k).set i (some (.int (lo + (k : Int))))) = .ok (.ct δ')) /\ forget fg δ' = J (k + 1)) : loopF i fg body (rangeD lo n) δ = .ok (.nx (J n)) := by
  have := loop_of (g := λ k : Nat => D.int (lo + (k : Int))) (i := i) (fg := fg) (body := body) (l := List.range n) J h0 λ k x e => by
    have hk : k < n := by have := (List.getElem?_eq_some_iff.mp e).1; rwa [List.length_range] at this
    rw [List.getElem?_range hk] at e
    cases e
    exact h k hk
  rwa [List.length_range] at this
@[simp] theorem rng_nat (n : Nat) : Rng (n : Int) ↔ n < 4611686018427387904 := by unfold Rng; omega
@[simp] theorem int_beq (i j : Int) : (i == j) = decide (i = j) := by
  by_cases h : i = j
  · simp [h]
  · rw [decide_eq_false h]; exact beq_eq_false_iff_ne.mpr h
theorem sIx_nat (n d k : Nat) : sIxD n d (some (k : Int)) = min k n := by
  show (if (k : Int) < 0 then ((k : Int) + (n : Int)).toNat else min (Int.toNat (k : Int)) n) = _
  rw [if_neg (by omega), Int.toNat_natCast]
@[simp] theorem cut_to {α : Type} (xs : List α) (k : Nat) : cutD xs none (some (k : Int)) = xs.take k := by
  unfold cutD
  rw [sIx_nat]
  show List.take (min k xs.length - 0) (List.drop 0 xs) = _
  rw [List.drop_zero, Nat.sub_zero, Nat.min_def]
  split
  · rfl
  · rw [List.take_length, List.take_of_length_le (by omega)]
@[simp] theorem cut_from {α : Type} (xs : List α) (k : Nat) : cutD xs (some (k : Int)) none = xs.drop k := by
  unfold cutD
  rw [sIx_nat]
  show List.take (xs.length - min k xs.length) (List.drop (min k xs.length) xs) = _
  rw [Nat.min_def]
  split
  · exact List.take_of_length_le (by rw [List.length_drop]; omega)
  · rw [List.drop_length, List.take_nil, List.drop_of_length_le (by omega)]
theorem put_lst (xs : List D) (i : Int) (v : D) (h : 0 <= i) (h2 : i < (xs.length : Int)) : dPut (.lst xs) (.int i) v = .ok (.lst (xs.set i.toNat v)) := by
  have : ixD xs.length i = some i.toNat := by unfold ixD; rw [if_pos h, if_pos h2]
  show (match ixD xs.length i with | some j => Rz.ok (D.lst (xs.set j v)) | none => .un) = _
  rw [this]
@[simp] theorem put_dct (ks : List Ky) (vs : List D) (x : Str) (v : D) : dPut (.dct ks vs) (.str x) v = .guard (ks.length < sizeLine) (.ok (putD ks vs (.inr x) v)) := rfl
@[simp] theorem bls_map {α : Type} (f : α -> Bool) : ∀ l : List α, blsD (l.map λ x => D.bl (f x)) = some (l.map f)
  | [] => rfl
  | x :: r => by
    show (blsD (r.map λ x => D.bl (f x))).map (f x :: ·) = _
    rw [bls_map f r]; rfl
@[simp] theorem imO_lst' (xs : List D) : (D.lst xs).imO = xs.all D.imm := by rw [D.imO, immL_all]
@[simp] theorem imO_dct' (ks : List Ky) (vs : List D) : (D.dct ks vs).imO = vs.all D.imm := by rw [D.imO, immL_all]
@[simp] theorem imO_obj' (c : Nat) (f : Str) (ks : List Ky) (vs : List D) : (D.obj c f (.dct ks vs)).imO = vs.all D.imm := by rw [D.imO, immL_all]
@[simp] theorem getS_nil (δ : DS) : getS [] δ = .ok [] := rfl
@[simp] theorem getS_cons (i : Nat) (r : List Nat) (δ : DS) : getS (i :: r) δ = match δ[i]? with | some (some d) => .guard (d.imO = true) ((getS r δ).bind λ ds => .ok (d :: ds)) | _ => .un := rfl
@[simp] theorem setS_nil (ds : List D) (δ : DS) : setS [] ds δ = δ := by rw [setS]; exact λ o_ o_ o_ o_ h => nomatch h
@[simp] theorem setS_cons (i : Nat) (r : List Nat) (d : D) (ds : List D) (δ : DS) : setS (i :: r) (d :: ds) δ = setS r ds (δ.set i (some d)) := rfl
@[simp] theorem isObj_obj (c c' : Nat) (m f : Str) (d : D) : isObj c m (.obj c' f d) = (decide (c' = c) && !decide (f = m)) := rfl
@[simp] theorem str_eq (a b : String) : (Str.ofString a = Str.ofString b) ↔ a = b := ⟨λ h => by
    have := str_beq a b
    rw [h, beq_self_eq_true] at this
    exact beq_iff_eq.1 this.symm, λ h => by rw [h]⟩
@[simp] theorem setT_nil (δ : DS) : setT [] [] δ = some δ := rfl
@[simp] theorem setT_cons (i : Nat) (r : List Nat) (d : D) (ds : List D) (δ : DS) : setT (i :: r) (d :: ds) δ = setT r ds (δ.set i (some d)) := rfl
@[simp] theorem gTry_ap (g : GS) (h : HS) (kd : Nat -> Option D) (δ : DS) : gTry g h kd δ = match h δ with | some (c, δ') => (match kd c with | some d => .ok (.rt d δ') | none => .un) | none => g δ := rfl
end Dl
namespace Dl
open PySem
end Dl
namespace Fw
open PySem
inductive Nd where
  | sun
  | eats (x : Str)
  | any (ps : List Nd)
  | all (ps : List Nd)
  | some (n : Int) (ps : List Nd)
noncomputable def Nd.parts : Nd -> List Nd
  | .sun => []
  | .eats _ => []
  | .any ps => ps
  | .all ps => ps
  | .some _ ps => ps
mutual
noncomputable def Nd.depth : Nd -> Nat
  | .sun => 1
  | .eats _ => 1
  | .any ps => depthL ps + 1
  | .all ps => depthL ps + 1
  | .some _ ps => depthL ps + 1
noncomputable def depthL : List Nd -> Nat
  | [] => 0
  | d :: r => max d.depth (depthL r)
end
mutual

noncomputable def Nd.leaves : Nd -> Nat
  | .sun => 0
  | .eats _ => 1
  | .any ps => leavesL ps
  | .all ps => leavesL ps
  | .some _ ps => leavesL ps
noncomputable def leavesL : List Nd -> Nat
  | [] => 0
  | d :: r => d.leaves + leavesL r
end
noncomputable def addN (acc : List Str) (x : Str) : List Str := if x ∈ acc then acc else acc ++ [x]
noncomputable def addAll (acc : List Str) (ns : List Str) : List Str := ns.foldl addN acc
mutual
noncomputable def Nd.names : Nd -> List Str
  | .sun => []
  | .eats x => [x]
  | .any ps => namesL ps []
  | .all ps => namesL ps []
  | .some _ ps => namesL ps []
noncomputable def namesL : List Nd -> List Str -> List Str
  | [], acc => acc
  | d :: r, acc => namesL r (addAll acc d.names)
end
mutual
noncomputable def Nd.met (alive : List Str) : Nd -> Bool
  | .sun => true
  | .eats x => decide (x ∈ alive)
  | .any ps => decide (1 <= metL alive ps)
  | .all ps => decide (ps.length <= metL alive ps)
  | .some n ps => decide (n <= (metL alive ps : Int))
noncomputable def metL (alive : List Str) : List Nd -> Nat
  | [] => 0
  | d :: r => (if d.met alive then 1 else 0) + metL alive r
end
mutual
noncomputable def Nd.ok (ss : List Str) (sm : Bool) : Nd -> Prop
  | .sun => True
  | .eats x => x ∈ ss
  | .any ps => 1 <= ps.length /\ ps.length <= 4 /\ okL ss sm ps
  | .all ps => sm = false /\ 1 <= ps.length /\ ps.length <= 4 /\ okL ss sm ps
  | .some n ps => sm = false /\ 1 <= n /\ n <= (ps.length : Int) /\ ps.length <= 4 /\ okL ss sm ps
noncomputable def okL (ss : List Str) (sm : Bool) : List Nd -> Prop
  | [] => True
  | d :: r => d.ok ss sm /\ okL ss sm r
end
end Fw
namespace Fw
open PySem Dl
noncomputable abbrev CS : List Nat := [3]
noncomputable def wKEPT_WORDS : List Str := ["any", "all", "of", "sun"]
noncomputable def g_add (F_is_name : PF) : GS :=
  (gSeq (gIfS (gtNot (gTru (gCall F_is_name (gCons (gVar 1) gNil)))) gNever gNext)
    (gSeq (gIfS (gB (gOp dIn (gVar 1) (gUn (dFld 0 "need_by_name") (gVar 0)))) gNever gNext)
    (gSeq (gIfS (gB (gOp dGe (gCall pLen (gCons (gUn (dFld 0 "need_by_name") (gVar 0)) gNil)) (gC (.int 16)))) gNever gNext)
    (gPutF 0 0 "need_by_name" (gVar 1) (gVarI 2)))))
noncomputable def g_kinds : GS :=
  (gRet (gImI (gCall pList (gCons (gUn (dFld 0 "need_by_name") (gVar 0)) gNil))))
noncomputable def g_refuse_unknown : GS :=
  (gIfS (gB (gOp dNotIn (gVar 1) (gUn (dFld 0 "need_by_name") (gVar 0)))) gNever gNext)
noncomputable def h_refuse_unknown : HS :=
  (hIf (gB (gOp dNotIn (gVar 1) (gUn (dFld 0 "need_by_name") (gVar 0)))) true (hRaiseN 3 1))
noncomputable def h_levels (F_refuse_unknown : PF) (E_refuse_unknown : PX) : HS :=
  (hFor (gItS (gVar 1)) 2 [2] (gDrop (gMeth 0 "refuse_unknown" F_refuse_unknown (gVar 0) (gCons (gVar 2) gNil))) (hOf (hMeth 0 "refuse_unknown" E_refuse_unknown (gVar 0) (gCons (gVar 2) gNil))))
noncomputable def h_living (E_levels : PX) : HS :=
  (hOf (hCall E_levels (gCons (gVar 0) (gCons (gVar 1) gNil))))
noncomputable def h_hangs_on (E_refuse_unknown : PX) : HS :=
  (hOf (hMeth 0 "refuse_unknown" E_refuse_unknown (gVar 0) (gCons (gVar 1) gNil)))
noncomputable def h_cut (E_refuse_unknown : PX) : HS :=
  (hOf (hMeth 0 "refuse_unknown" E_refuse_unknown (gVar 0) (gCons (gVar 1) gNil)))
noncomputable def h_felled (E_refuse_unknown : PX) : HS :=
  (hOf (hMeth 0 "refuse_unknown" E_refuse_unknown (gVar 0) (gCons (gVar 1) gNil)))
noncomputable def g_is_name : GS :=
  (gSeq (gIfS (gtOr (gB (gOp dLt (gCall pLen (gCons (gVar 0) gNil)) (gC (.int 1)))) (gtOr (gB (gOp dGt (gCall pLen (gCons (gVar 0) gNil)) (gC (.int 8)))) (gB (gUn (dInW wKEPT_WORDS) (gVar 0))))) (gRet (gC (.bl false))) gNext)
    (gRet (gCall pAll (gCons (gComp (gItS (gVar 0)) [] gYes (gChain dLe dLe (gC (.str "a")) (gVar 0) (gC (.str "z")))) gNil))))
noncomputable def g__law_cell_at : GS :=
  (gSeq (gIfS (gB (gOp dLt (gVar 1) (gCall pLen (gCons (gVar 0) gNil)))) (gRet (gIm (gOp dIx (gVar 0) (gVar 1)))) gNext)
    (gRet (gC (.int 0))))
noncomputable def g__law_next : GS :=
  (gSeq (gSet 0 (gOp dMod (gOp dAddS (gVar 0) (gC (.int 7919))) (gC (.int 2147483647))))
    (gRet (gOp dMod (gOp dAddS (gOp dAddS (gOp dMul (gVar 0) (gVar 0)) (gOp dMul (gC (.int 48271)) (gVar 0))) (gC (.int 12345))) (gC (.int 2147483629)))))
noncomputable def g__law_names : GS :=
  (gSeq (gSet 2 (gOp dIx (gLst (gCons (gC (.str "z")) (gCons (gC (.str "qz")) (gCons (gC (.str "zab")) (gCons (gC (.str "mzk")) (gCons (gC (.str "zoozz")) (gCons (gC (.str "zoozzpa")) gNil))))))) (gOp dMod (gVar 0) (gC (.int 6)))))
    (gSeq (gSet 3 (gOp dMod (gOp dDiv (gVar 0) (gC (.int 6))) (gOp dAddS (gCall pLen (gCons (gVar 2) gNil)) (gC (.int 1)))))
    (gRet (gComp (gRng1 (gVar 1)) [2, 3, 0] gYes (gOp dAddS (gOp dAddS (gSl (gVar 1) gON (gOI (gVar 2))) (gOp dIx (gC (.str "abcdefghijklmnopqrstuvwxyz")) (gOp dMod (gOp dAddS (gVar 0) (gOp dDiv (gVar 3) (gC (.int 97)))) (gC (.int 26))))) (gSl (gVar 1) (gOI (gVar 2)) gON))))))
noncomputable def g__law_need (F__law_need : PF) (F__law_next : PF) : GS :=
  (gSeq (gSet 4 (gOp dMod (gVar 0) (gC (.int 9))))
    (gSeq (gIfS (gtOr (gB (gOp dEq (gVar 1) (gC (.int 0)))) (gB (gOp dLt (gVar 4) (gC (.int 4))))) (gSeq (gIfS (gB (gOp dEq (gOp dMod (gOp dDiv (gVar 0) (gC (.int 9))) (gC (.int 6))) (gC (.int 0)))) (gRet (gTup (gCons (gC (.str "sun")) gNil))) gNext)
    (gRet (gTup (gCons (gC (.str "eats")) (gCons (gIm (gOp dIx (gVar 2) (gOp dMod (gOp dDiv (gVar 0) (gC (.int 54))) (gCall pLen (gCons (gVar 2) gNil))))) gNil))))) gNext)
    (gSeq (gSetO 5 (gLst gNil))
    (gSeq (gFor (gRng1 (gOp dAddS (gC (.int 1)) (gOp dMod (gOp dDiv (gVar 0) (gC (.int 9))) (gC (.int 4))))) 6 [6] (gApp 5 (gCall F__law_need (gCons (gCall F__law_next (gCons (gOp dAddS (gOp dAddS (gVar 0) (gOp dMul (gC (.int 3)) (gVar 6))) (gC (.int 1))) gNil)) (gCons (gOp dSub (gVar 1) (gC (.int 1))) (gCons (gVar 2) (gCons (gVar 3) gNil)))))))
    (gSeq (gIfS (gtOr (gB (gOp dLt (gVar 4) (gC (.int 6)))) (gTru (gVar 3))) (gRet (gTup (gCons (gC (.str "any")) (gCons (gCall pTuple (gCons (gVar 5) gNil)) gNil)))) gNext)
    (gSeq (gIfS (gB (gOp dLt (gVar 4) (gC (.int 8)))) (gRet (gTup (gCons (gC (.str "all")) (gCons (gCall pTuple (gCons (gVar 5) gNil)) gNil)))) gNext)
    (gRet (gTup (gCons (gC (.str "some")) (gCons (gOp dAddS (gC (.int 1)) (gOp dMod (gOp dDiv (gVar 0) (gC (.int 36))) (gCall pLen (gCons (gVar 5) gNil)))) (gCons (gCall pTuple (gCons (gVar 5) gNil)) gNil)))))))))))
noncomputable def g__law_drawn (F__law_cell_at : PF) (F__law_names : PF) (F__law_need : PF) (F__law_next : PF) : GS :=
  (gSeq (gSet 2 (gOp dAddS (gC (.int 1)) (gOp dMod (gCall F__law_cell_at (gCons (gVar 0) (gCons (gC (.int 0)) gNil))) (gC (.int 7)))))
    (gSeq (gIfS (gB (gOp dEq (gOp dMod (gOp dDiv (gCall F__law_cell_at (gCons (gVar 0) (gCons (gC (.int 0)) gNil))) (gC (.int 7))) (gC (.int 4))) (gC (.int 1)))) (gSet 2 (gOp dAddS (gC (.int 1)) (gOp dMod (gOp dDiv (gCall F__law_cell_at (gCons (gVar 0) (gCons (gC (.int 0)) gNil))) (gC (.int 28))) (gC (.int 16))))) gNext)
    (gSeq (gSet 3 (gCall F__law_names (gCons (gCall F__law_cell_at (gCons (gVar 0) (gCons (gC (.int 1)) gNil))) (gCons (gOp dAddS (gVar 2) (gC (.int 2))) gNil))))
    (gSeq (gSetO 4 (gLst gNil))
    (gSeq (gFor (gRng1 (gVar 2)) 5 [5, 6] (gSeq (gSet 6 (gCall F__law_next (gCons (gOp dAddS (gCall F__law_cell_at (gCons (gVar 0) (gCons (gOp dAddS (gC (.int 2)) (gOp dMod (gVar 5) (gC (.int 12)))) gNil))) (gOp dMul (gC (.int 5003)) (gVar 5))) gNil)))
    (gApp 4 (gCall F__law_need (gCons (gVar 6) (gCons (gOp dAddS (gC (.int 1)) (gOp dMod (gOp dDiv (gVar 6) (gC (.int 7))) (gC (.int 2)))) (gCons (gVar 3) (gCons (gVar 1) gNil))))))))
    (gSeq (gIfS (gB (gOp dGt (gOp dMod (gOp dDiv (gCall F__law_cell_at (gCons (gVar 0) (gCons (gC (.int 1)) gNil))) (gC (.int 30))) (gC (.int 3))) (gC (.int 0)))) (gPut 4 (gOp dMod (gOp dDiv (gCall F__law_cell_at (gCons (gVar 0) (gCons (gC (.int 1)) gNil))) (gC (.int 90))) (gVar 2)) (gTup (gCons (gC (.str "sun")) gNil))) gNext)
    (gRet (gTup (gCons (gSl (gVar 3) gON (gOI (gVar 2))) (gCons (gVar 4) (gCons (gSl (gVar 3) (gOI (gVar 2)) gON) gNil)))))))))))
noncomputable def g__law_built (F_add : PFI) : GS :=
  (gSeq (gSetO 2 (gC (.obj 0 "need_by_name" (.dct [] []))))
    (gSeq (gFor (gRng1 (gCall pLen (gCons (gVar 0) gNil))) 3 [3] (gDropX (gMethI 0 "add" F_add 2 (gCons (gOp dIx (gVar 0) (gVar 3)) (gCons (gOp dIx (gVar 1) (gVar 3)) gNil)))))
    (gRet (gVar 2))))
noncomputable def g__law_tried (E_cut : PX) (E_felled : PX) (E_hangs_on : PX) (E_levels : PX) (E_living : PX) : GS :=
  (gSeq (gTry gNever (hOr (hIf (gB (gOp dEq (gVar 0) (gC (.int 0)))) true (hOf (hCall E_levels (gCons (gVar 1) (gCons (gVar 3) gNil))))) (hIf (gB (gOp dEq (gVar 0) (gC (.int 0)))) false (hOr (hIf (gB (gOp dEq (gVar 0) (gC (.int 1)))) true (hOf (hCall E_living (gCons (gVar 1) (gCons (gVar 3) gNil))))) (hIf (gB (gOp dEq (gVar 0) (gC (.int 1)))) false (hOr (hIf (gB (gOp dEq (gVar 0) (gC (.int 2)))) true (hOf (hCall E_hangs_on (gCons (gVar 1) (gCons (gVar 2) gNil))))) (hIf (gB (gOp dEq (gVar 0) (gC (.int 2)))) false (hOr (hIf (gB (gOp dEq (gVar 0) (gC (.int 3)))) true (hOf (hCall E_cut (gCons (gVar 1) (gCons (gVar 2) gNil))))) (hIf (gB (gOp dEq (gVar 0) (gC (.int 3)))) false (hOf (hCall E_felled (gCons (gVar 1) (gCons (gVar 2) gNil)))))))))))) (kdW CS))
    (gRet (gC (.str "told"))))
noncomputable def g_law (F__law_built : PF) (F__law_cell_at : PF) (F__law_drawn : PF) (F__law_next : PF) (F__law_tried : PF) (F_kinds : PF) : GS :=
  (gSeq (gUnp [1, 2, 3] (gCall F__law_drawn (gCons (gVar 0) (gCons (gOp dEq (gOp dMod (gCall F__law_cell_at (gCons (gVar 0) (gCons (gC (.int 17)) gNil))) (gC (.int 2))) (gC (.int 1))) gNil))))
    (gSeq (gSet 4 (gCall F__law_built (gCons (gVar 1) (gCons (gVar 2) gNil))))
    (gSeq (gSet 5 (gOp dIx (gLst (gCons (gOp dIx (gVar 3) (gC (.int 0))) (gCons (gOp dIx (gVar 3) (gC (.int 1))) (gCons (gC (.str "other")) (gCons (gC (.str "")) (gCons (gC (.str "sun")) gNil)))))) (gOp dMod (gCall F__law_cell_at (gCons (gVar 0) (gCons (gC (.int 14)) gNil))) (gC (.int 5)))))
    (gSeq (gSet 6 (gComp (gRng1 (gCall pLen (gCons (gVar 1) gNil))) [0, 1] (gB (gOp dEq (gOp dMod (gOp dDiv (gCall F__law_next (gCons (gOp dAdd (gCall F__law_cell_at (gCons (gVar 1) (gCons (gC (.int 15)) gNil))) (gVar 0)) gNil)) (gC (.int 7))) (gC (.int 3))) (gC (.int 0)))) (gOp dIx (gVar 2) (gVar 0))))
    (gSeq (gSet 7 (gOp dMod (gCall F__law_cell_at (gCons (gVar 0) (gCons (gC (.int 16)) gNil))) (gOp dAddS (gCall pLen (gCons (gVar 6) gNil)) (gC (.int 1)))))
    (gSeq (gFor (gRng1 (gC (.int 5))) 8 [8] (gIfS (gB (gOp dNe (gCall F__law_tried (gCons (gVar 8) (gCons (gVar 4) (gCons (gVar 5) (gCons (gOp dAdd (gOp dAdd (gSl (gVar 6) gON (gOI (gVar 7))) (gLst (gCons (gVar 5) gNil))) (gSl (gVar 6) (gOI (gVar 7)) gON)) gNil))))) (gC (.str "kind")))) (gRet (gC (.bl false))) gNext))
    (gRet (gOp dEq (gMeth 0 "kinds" F_kinds (gVar 4) gNil) (gVar 1)))))))))
noncomputable def F_is_name : PF := runB 1 (g_is_name)
noncomputable def F_add : PFI := runI 3 1 (g_add F_is_name)
noncomputable def F_kinds : PF := runB 1 (g_kinds)
noncomputable def F_refuse_unknown : PF := runB 2 (g_refuse_unknown)
noncomputable def F__law_cell_at : PF := runB 2 (g__law_cell_at)
noncomputable def F__law_next : PF := runB 1 (g__law_next)
noncomputable def F__law_names : PF := runB 4 (g__law_names)
noncomputable def F__law_need : Nat -> PF
  | 0 => λ o_ => .un
  | n + 1 => runB 7 (g__law_need (F__law_need n) F__law_next)
noncomputable def F__law_drawn : PF := runB 7 (g__law_drawn F__law_cell_at F__law_names (F__law_need 8) F__law_next)
noncomputable def F__law_built : PF := runB 4 (g__law_built F_add)
noncomputable def E_refuse_unknown : PX := runX 2 (h_refuse_unknown)
noncomputable def E_cut : PX := runX 6 (h_cut E_refuse_unknown)
noncomputable def E_felled : PX := runX 5 (h_felled E_refuse_unknown)
noncomputable def E_hangs_on : PX := runX 2 (h_hangs_on E_refuse_unknown)
noncomputable def E_levels : PX := runX 7 (h_levels F_refuse_unknown E_refuse_unknown)
noncomputable def E_living : PX := runX 2 (h_living E_levels)
noncomputable def F__law_tried : PF := runB 5 (g__law_tried E_cut E_felled E_hangs_on E_levels E_living)
noncomputable def F_law : PF := runB 9 (g_law F__law_built F__law_cell_at F__law_drawn F__law_next F__law_tried F_kinds)
end Fw
namespace Fw
open PySem Dl
mutual
noncomputable def Nd.toD : Nd -> D
  | .sun => .tup [.str "sun"]
  | .eats x => .tup [.str "eats", .str x]
  | .any ps => .tup [.str "any", .tup (toDs ps)]
  | .all ps => .tup [.str "all", .tup (toDs ps)]
  | .some n ps => .tup [.str "some", .int n, .tup (toDs ps)]
noncomputable def toDs : List Nd -> List D
  | [] => []
  | d :: r => d.toD :: toDs r
end
theorem toDs_map : ∀ l : List Nd, toDs l = l.map Nd.toD
  | [] => by rw [toDs]; rfl
  | d :: r => by rw [toDs, toDs_map r]; rfl
@[simp] theorem toD_sun : Nd.sun.toD = .tup [.str "sun"] := by rw [Nd.toD]
@[simp] theorem toD_eats (x : Str) : (Nd.eats x).toD = .tup [.str "eats", .str x] := by rw [Nd.toD]
@[simp] theorem toD_any (ps : List Nd) : (Nd.any ps).toD = .tup [.str "any", .tup (ps.map Nd.toD)] := by rw [Nd.toD, toDs_map]
@[simp] theorem toD_all (ps : List Nd) : (Nd.all ps).toD = .tup [.str "all", .tup (ps.map Nd.toD)] := by rw [Nd.toD, toDs_map]
@[simp] theorem toD_some (n : Int) (ps : List Nd) : (Nd.some n ps).toD = .tup [.str "some", .int n, .tup (ps.map Nd.toD)] := by rw [Nd.toD, toDs_map]
mutual
theorem toD_imm : ∀ d : Nd, d.toD.imm = true
  | .sun => by simp
  | .eats x => by simp
  | .any ps => by rw [Nd.toD]; simp [toDs_imm ps]
  | .all ps => by rw [Nd.toD]; simp [toDs_imm ps]
  | .some n ps => by rw [Nd.toD]; simp [toDs_imm ps]
theorem toDs_imm : ∀ l : List Nd, (toDs l).all D.imm = true
  | [] => by rw [toDs]; rfl
  | d :: r => by rw [toDs, List.all_cons, toD_imm d, toDs_imm r]; rfl
end
@[simp] theorem imm_nd (d : Nd) : d.toD.imm = true := toD_imm d
@[simp] theorem imm_nds (l : List Nd) : (l.map Nd.toD).all D.imm = true := by rw [<- toDs_map]; exact toDs_imm l
@[simp] theorem imm_comp_nds (l : List Nd) : l.all (D.imm ∘ Nd.toD) = true := by rw [<- List.all_map]; exact imm_nds l
noncomputable def strsL (l : List Str) : D := .lst (l.map D.str)
@[simp] theorem itD_strs (l : List Str) : itD (strsL l) = .ok (l.map D.str) := rfl
@[simp] theorem big_strs (l : List Str) : (strsL l).big = true := rfl
@[simp] theorem imm_strs (l : List Str) : (l.map D.str).all D.imm = true := by rw [List.all_map, List.all_eq_true]; intro _ _; rfl
@[simp] theorem imI_strs (l : List Str) : (strsL l).imI = true := by unfold strsL; rw [imI_lst, imm_strs]
theorem add_strs (a b : List Str) (h : a.length + b.length <= 1000) : dAdd (strsL a) (strsL b) = .ok (strsL (a ++ b)) := by
  unfold strsL
  show Rz.guard _ _ = _
  rw [guard_pos (by rw [List.length_map, List.length_map, line_val]; omega), List.map_append]
noncomputable def Alive (a : D) (al : List Str) : Prop := ∀ x : Str, inD (.str x) a = .ok (decide (x ∈ al))
theorem alive_dct (ks : List Str) (vs : List D) : Alive (.dct (ks.map Sum.inr) vs) ks := λ x => by
  show (Rz.ok _ : Rz Bool) = _
  congr 1
  rw [List.any_map, Bool.eq_iff_iff, List.any_eq_true, decide_eq_true_iff]
  constructor
  · rintro ⟨y, hy, e⟩
    have e : (Sum.inr y : Ky) = Sum.inr x := of_decide_eq_true e
    cases e; exact hy
  · intro h; exact ⟨x, h, decide_eq_true rfl⟩
end Fw
namespace Fw
open PySem Dl
noncomputable def intsL (ns : List Int) : D := .lst (ns.map D.int)
noncomputable def cellD (ns : List Int) (k : Nat) : Int := (ns[k]?).getD 0
theorem cell_eq (ns : List Int) (k : Nat) : F__law_cell_at [intsL ns, .int (k : Int)] = .ok (.int (cellD ns k)) := by
  unfold F__law_cell_at runB g__law_cell_at cellD intsL
  by_cases h : k < ns.length
  · simp [startD, h, at_nat]
  · simp [startD, h]
noncomputable def nextD (s : Int) : Int := (((s + 7919) % 2147483647) * ((s + 7919) % 2147483647) + 48271 * ((s + 7919) % 2147483647) + 12345) % 2147483629
@[simp] theorem next_eq (s : Int) : F__law_next [.int s] = .ok (.int (nextD s)) := by
  have b1 : 0 <= (s + 7919) % 2147483647 := Int.emod_nonneg _ (by decide)
  have b2 : (s + 7919) % 2147483647 < 2147483647 := Int.emod_lt_of_pos _ (by decide)
  unfold F__law_next runB g__law_next nextD
  simp [startD]
  generalize (s + 7919) % 2147483647 = x at b1 b2
  rw [if_pos (by omega)]
  simp
noncomputable def stubs : List Str := ["z", "qz", "zab", "mzk", "zoozz", "zoozzpa"]
noncomputable def stubOf (c : Int) : Str := (stubs[(c % 6).toNat]?).getD "z"
noncomputable def atOf (c : Int) : Int := c / 6 % (((stubOf c).length : Int) + 1)
noncomputable def letters : Str := "abcdefghijklmnopqrstuvwxyz"
noncomputable def signOf (j : Int) : Nat := (letters.cps.toList[(j % 26).toNat]?).getD 0
noncomputable def nameOf (c : Int) (k : Nat) : Str := (⟨(cutD (stubOf c).cps.toList none (some (atOf c))).toArray⟩ ++ ⟨#[signOf ((k : Int) + c / 97)]⟩ : Str) ++ ⟨(cutD (stubOf c).cps.toList (some (atOf c)) none).toArray⟩
theorem stub_in (c : Int) : stubOf c ∈ stubs := by
  have b1 : 0 <= c % 6 := Int.emod_nonneg _ (by decide)
  have b2 : c % 6 < 6 := Int.emod_lt_of_pos _ (by decide)
  unfold stubOf
  have hl : (c % 6).toNat < stubs.length := by show (c % 6).toNat < 6; omega
  rw [List.getElem?_eq_getElem hl]
  exact List.getElem_mem hl
theorem stub_len (c : Int) : (stubOf c).length <= 7 := by
  have : ∀ s ∈ stubs, s.length <= 7 := by decide +kernel
  exact this _ (stub_in c)
theorem stub_at (c : Int) : atD (stubs.map D.str) (c % 6) = some (.str (stubOf c)) := by
  have b1 : 0 <= c % 6 := Int.emod_nonneg _ (by decide)
  have b2 : c % 6 < 6 := Int.emod_lt_of_pos _ (by decide)
  rw [at_pos _ _ b1, List.getElem?_map]
  unfold stubOf
  have hl : (c % 6).toNat < stubs.length := by show (c % 6).toNat < 6; omega
  rw [List.getElem?_eq_getElem hl]
  rfl
theorem sign_at (j : Int) : atD letters.cps.toList (j % 26) = some (signOf j) := by
  have b1 : 0 <= j % 26 := Int.emod_nonneg _ (by decide)
  have b2 : j % 26 < 26 := Int.emod_lt_of_pos _ (by decide)
  have hl : (j % 26).toNat < letters.cps.toList.length := by
    have z : letters.cps.toList.length = 26 := by decide +kernel
    omega
  rw [at_pos _ _ b1]
  unfold signOf
  rw [List.getElem?_eq_getElem hl]
  rfl
theorem cut_len {α : Type} (xs : List α) (lo hi : Option Int) : (cutD xs lo hi).length <= xs.length := by
  unfold cutD
  rw [List.length_take, List.length_drop]
  omega
theorem str_len (a b : Str) : (a ++ b).length = a.length + b.length := by
  show (a.cps ++ b.cps).size = _
  rw [Array.size_append]; rfl
theorem name_len (c : Int) (k : Nat) : (nameOf c k).length <= 15 := by
  have hl := stub_len c
  have l1 := cut_len (stubOf c).cps.toList none (some (atOf c))
  have l2 := cut_len (stubOf c).cps.toList (some (atOf c)) none
  have l3 : (stubOf c).cps.toList.length = (stubOf c).length := by rw [Array.length_toList]; rfl
  unfold nameOf
  rw [str_len, str_len]
  show (cutD (stubOf c).cps.toList none (some (atOf c))).toArray.size + 1 + (cutD (stubOf c).cps.toList (some (atOf c)) none).toArray.size <= 15
  rw [List.size_toArray, List.size_toArray]
  omega
theorem name_elt (c : Int) (k : Nat) (δ : DS) (h0 : δ[0]? = some (some (.int (0 + (k : Int))))) (h1 : δ[1]? = some (some (.str (stubOf c)))) (h2 : δ[2]? = some (some (.int (atOf c)))) (h3 : δ[3]? = some (some (.int c))) :
    (gOp dAddS (gOp dAddS (gSl (gVar 1) gON (gOI (gVar 2))) (gOp dIx (gC (.str letters)) (gOp dMod (gOp dAddS (gVar 0) (gOp dDiv (gVar 3) (gC (.int 97)))) (gC (.int 26))))) (gSl (gVar 1) (gOI (gVar 2)) gON)) δ = .ok (.str (nameOf c k)) := by
  have hsg := sign_at ((k : Int) + c / 97)
  have h26 : letters.length = 26 := by decide +kernel
  have hn := name_len c k
  have hl := stub_len c
  unfold nameOf at hn ⊢
  rw [str_len] at hn
  simp [h0, h1, h2, h3, line_val, hsg, show letters.length <= 16777216 by omega, show (stubOf c).length <= 16777216 by omega]
  rw [if_pos (by rw [str_len] at hn; omega)]
  simp [line_val]
  omega
theorem hstub : [D.str "z", D.str "qz", D.str "zab", D.str "mzk", D.str "zoozz", D.str "zoozzpa"] = stubs.map D.str := rfl
theorem hcx (c : Int) (n : Nat) : compL [some (D.str (stubOf c)), some (D.int (atOf c)), some (D.int c)] gYes
      (gOp dAddS (gOp dAddS (gSl (gVar 1) gON (gOI (gVar 2))) (gOp dIx (gC (.str "abcdefghijklmnopqrstuvwxyz")) (gOp dMod (gOp dAddS (gVar 0) (gOp dDiv (gVar 3) (gC (.int 97)))) (gC (.int 26))))) (gSl (gVar 1) (gOI (gVar 2)) gON)) (rangeD 0 n) = .ok ((List.range n).map λ k => D.str (nameOf c k)) := by
    refine comp_rng λ k hk => ?_
    exact name_elt c k _ rfl rfl rfl rfl
theorem names_eq (c : Int) (n : Nat) (hn : n <= 1000) : F__law_names [.int c, .int (n : Int)] = .ok (strsL ((List.range n).map (nameOf c))) := by
  have hs := stub_at c
  have hl := stub_len c
  have hc := hcx c n
  have e6 : stubs.length = 6 := rfl
  unfold F__law_names runB g__law_names
  generalize hE : (gOp dAddS (gOp dAddS (gSl (gVar 1) gON (gOI (gVar 2))) (gOp dIx (gC (.str "abcdefghijklmnopqrstuvwxyz")) (gOp dMod (gOp dAddS (gVar 0) (gOp dDiv (gVar 3) (gC (.int 97)))) (gC (.int 26))))) (gSl (gVar 1) (gOI (gVar 2)) gON)) = E at hc ⊢
  simp only [startD, runB]
  simp [hstub, hs, line_val, e6]
  rw [if_pos (by omega)]
  have hp : (0 : Int) < ((stubOf c).length : Int) + 1 := by omega
  have ea : atOf c = c / 6 % (((stubOf c).length : Int) + 1) := rfl
  rw [ea] at hc
  simp [hp, capD]
  rw [if_pos (by omega)]
  simp [hc]
  rw [if_pos (by omega)]
  simp [strsL]
end Fw
namespace Fw
open PySem Dl
noncomputable def leafOf (ss : List Str) (s : Int) : Nd := if s / 9 % 6 = 0 then .sun else .eats ((ss[(s / 54 % (ss.length : Int)).toNat]?).getD "")
noncomputable def wideOf (s : Int) : Nat := (1 + s / 9 % 4).toNat
noncomputable def needOf (ss : List Str) (sm : Bool) : Nat -> Int -> Nd
  | 0, s => leafOf ss s
  | k + 1, s => if s % 9 < 4 then leafOf ss s else
      let ps := (List.range (wideOf s)).map λ j : Nat => needOf ss sm k (nextD (s + 3 * (j : Int) + 1))
      if s % 9 < 6 \/ sm = true then .any ps else if s % 9 < 8 then .all ps else .some (1 + s / 36 % (ps.length : Int)) ps
theorem wide_le (s : Int) : 1 <= wideOf s /\ wideOf s <= 4 := by
  have b1 : 0 <= s / 9 % 4 := Int.emod_nonneg _ (by decide)
  have b2 : s / 9 % 4 < 4 := Int.emod_lt_of_pos _ (by decide)
  unfold wideOf; omega
theorem wide_cast (s : Int) : ((wideOf s : Nat) : Int) = 1 + s / 9 % 4 := by
  have b1 : 0 <= s / 9 % 4 := Int.emod_nonneg _ (by decide)
  unfold wideOf; omega
theorem leaf_eq {F G : PF} (ss : List Str) (hs : ss ≠ []) (hl : ss.length <= 1000) (sm : Bool) (k s : Int) (h : k = 0 \/ s % 9 < 4) : runB 7 (g__law_need F G) [.int s, .int k, strsL ss, .bl sm] = .ok (leafOf ss s).toD := by
  have hp : 0 < ss.length := List.length_pos_iff.2 hs
  have b1 : 0 <= s / 54 % (ss.length : Int) := Int.emod_nonneg _ (by omega)
  have b2 : s / 54 % (ss.length : Int) < (ss.length : Int) := Int.emod_lt_of_pos _ (by omega)
  have hg : atD (ss.map D.str) (s / 54 % (ss.length : Int)) = some (.str ((ss[(s / 54 % (ss.length : Int)).toNat]?).getD "")) := by
    rw [at_pos _ _ b1, List.getElem?_map, List.getElem?_eq_getElem (by omega)]
    rfl
  unfold runB g__law_need leafOf
  simp [startD, strsL, line_val]
  by_cases h6 : s / 9 % 6 = 0
  · by_cases h0 : k = 0
    · simp [h0, h6]
    · have h4 : s % 9 < 4 := by rcases h with h | h; exact absurd h h0; exact h
      simp [h0, h4, h6]
  · by_cases h0 : k = 0
    · simp [h0, h6, hg, show ss.length <= 16777216 by omega, hp, line_val]
    · have h4 : s % 9 < 4 := by rcases h with h | h; exact absurd h h0; exact h
      simp [h0, h4, h6, hg, show ss.length <= 16777216 by omega, hp, line_val]
theorem need_eq (ss : List Str) (hs : ss ≠ []) (hl : ss.length <= 1000) (sm : Bool) : ∀ (n k : Nat) (s : Int), k < n -> F__law_need n [.int s, .int (k : Int), strsL ss, .bl sm] = .ok (needOf ss sm k s).toD
  | n + 1, 0, s, _ => by
    rw [F__law_need, needOf]
    exact leaf_eq ss hs hl sm _ s (.inl rfl)
  | n + 1, k + 1, s, hkn => by
    rw [F__law_need, needOf]
    by_cases h4 : s % 9 < 4
    · rw [if_pos h4]
      exact leaf_eq ss hs hl sm _ s (.inr h4)
    rw [if_neg h4]
    have ih := λ s => need_eq ss hs hl sm n k s (by omega)
    have hw := wide_le s
    have hk0 : ¬ ((k : Int) + 1 = 0) := by omega
    let ps := λ m : Nat => (List.range m).map λ j : Nat => needOf ss sm k (nextD (s + 3 * (j : Int) + 1))
    have hps : ∀ m, (ps m).length = m := λ m => by show ((List.range m).map _).length = m; rw [List.length_map, List.length_range]
    let J : Nat -> DS := λ m => [some (.int s), some (.int ((k : Int) + 1)), some (strsL ss), some (.bl sm), some (.int (s % 9)), some (.lst ((ps m).map Nd.toD)), none]
    have hloop : loopF 6 [6] (gApp 5 (gCall (F__law_need n) (gCons (gCall F__law_next (gCons (gOp dAddS (gOp dAddS (gVar 0) (gOp dMul (gC (.int 3)) (gVar 6))) (gC (.int 1))) gNil)) (gCons (gOp dSub (gVar 1) (gC (.int 1))) (gCons (gVar 2) (gCons (gVar 3) gNil)))))) (rangeD 0 (wideOf s)) [some (D.int s), some (.int ((k : Int) + 1)), some (strsL ss), some (.bl sm), some (.int (s % 9)), some (.lst []), none] = .ok (.nx [some (D.int s), some (.int ((k : Int) + 1)), some (strsL ss), some (.bl sm), some (.int (s % 9)), some (.lst ((ps (wideOf s)).map Nd.toD)), none]) := by
      refine loop_rng (n := wideOf s) J rfl λ m hm => ?_
      refine ⟨(J (m + 1)).set 6 (some (.int (0 + (m : Int)))), .inl ?_, rfl⟩
      have e : ps (m + 1) = ps m ++ [needOf ss sm k (nextD (s + 3 * (m : Int) + 1))] := by
        show (List.range (m + 1)).map _ = (List.range m).map _ ++ _
        rw [List.range_succ, List.map_append]; rfl
      simp [J, ih, e, line_val, hps]
      omega
    unfold runB g__law_need
    generalize hE : (gApp 5 (gCall (F__law_need n) (gCons (gCall F__law_next (gCons (gOp dAddS (gOp dAddS (gVar 0) (gOp dMul (gC (.int 3)) (gVar 6))) (gC (.int 1))) gNil)) (gCons (gOp dSub (gVar 1) (gC (.int 1))) (gCons (gVar 2) (gCons (gVar 3) gNil)))))) = E at hloop ⊢
    simp [startD, h4, hk0, <- wide_cast]
    rw [if_pos (by omega)]
    simp [hloop]
    have hq : ((List.range (wideOf s)).map λ j : Nat => needOf ss sm k (nextD (s + 3 * (j : Int) + 1))) = ps (wideOf s) := rfl
    rw [hq]
    have hpl := hps (wideOf s)
    generalize ps (wideOf s) = P at hpl ⊢
    have hw' : 0 < wideOf s := hw.1
    by_cases h6 : s % 9 < 6
    · simp [h6, hpl]
    by_cases h8 : s % 9 < 8
    · cases sm <;> simp [h6, h8, hpl]
    · cases sm <;> simp [h6, h8, hpl, hw']
theorem okL_of {ss : List Str} {sm : Bool} : ∀ {l : List Nd}, (∀ e ∈ l, e.ok ss sm) -> okL ss sm l
  | [], _ => by rw [okL]; trivial
  | a :: r, h => by rw [okL]; exact ⟨h a (List.mem_cons_self ..), okL_of λ e m => h e (List.mem_cons_of_mem _ m)⟩
theorem depthL_of {n : Nat} : ∀ {l : List Nd}, (∀ e ∈ l, e.depth <= n) -> depthL l <= n
  | [], _ => by rw [depthL]; omega
  | a :: r, h => by
    rw [depthL]
    have h1 := h a (List.mem_cons_self ..)
    have h2 := depthL_of λ e m => h e (List.mem_cons_of_mem _ m)
    omega
theorem leaf_ok (ss : List Str) (hs : ss ≠ []) (sm : Bool) (s : Int) : (leafOf ss s).ok ss sm /\ (leafOf ss s).depth = 1 := by
  have hp : 0 < ss.length := List.length_pos_iff.2 hs
  have b1 : 0 <= s / 54 % (ss.length : Int) := Int.emod_nonneg _ (by omega)
  have b2 : s / 54 % (ss.length : Int) < (ss.length : Int) := Int.emod_lt_of_pos _ (by omega)
  unfold leafOf
  by_cases h6 : s / 9 % 6 = 0
  · rw [if_pos h6, Nd.ok, Nd.depth]; exact ⟨trivial, rfl⟩
  · rw [if_neg h6, Nd.ok, Nd.depth, List.getElem?_eq_getElem (by omega)]
    exact ⟨List.getElem_mem _, rfl⟩
theorem need_ok (ss : List Str) (hs : ss ≠ []) (sm : Bool) : ∀ (k : Nat) (s : Int), (needOf ss sm k s).ok ss sm /\ (needOf ss sm k s).depth <= k + 1
  | 0, s => by
    rw [needOf]
    exact ⟨(leaf_ok ss hs sm s).1, Nat.le_of_eq (leaf_ok ss hs sm s).2⟩
  | k + 1, s => by
    rw [needOf]
    by_cases h4 : s % 9 < 4
    · rw [if_pos h4]
      refine ⟨(leaf_ok ss hs sm s).1, ?_⟩
      rw [(leaf_ok ss hs sm s).2]; omega
    rw [if_neg h4]
    have ih := need_ok ss hs sm k
    have hw := wide_le s
    generalize hP : ((List.range (wideOf s)).map λ j : Nat => needOf ss sm k (nextD (s + 3 * (j : Int) + 1))) = P
    have hl : P.length = wideOf s := by rw [<- hP, List.length_map, List.length_range]
    have hm : ∀ e ∈ P, e.ok ss sm /\ e.depth <= k + 1 := λ e m => by
      rw [<- hP] at m
      obtain ⟨j, _, rfl⟩ := List.mem_map.1 m
      exact ih _
    have ho := okL_of λ e m => (hm e m).1
    have hd := depthL_of λ e m => (hm e m).2
    dsimp only
    by_cases h6 : s % 9 < 6 \/ sm = true
    · rw [if_pos h6, Nd.ok, Nd.depth]
      exact ⟨⟨by omega, by omega, ho⟩, by omega⟩
    rw [if_neg h6]
    have hf : sm = false := by cases sm; rfl; exact absurd (.inr rfl) h6
    by_cases h8 : s % 9 < 8
    · rw [if_pos h8, Nd.ok, Nd.depth]
      exact ⟨⟨hf, by omega, by omega, ho⟩, by omega⟩
    · have b1 : 0 <= s / 36 % (P.length : Int) := Int.emod_nonneg _ (by omega)
      have b2 : s / 36 % (P.length : Int) < (P.length : Int) := Int.emod_lt_of_pos _ (by omega)
      rw [if_neg h8, Nd.ok, Nd.depth]
      exact ⟨⟨hf, by omega, by omega, by omega, ho⟩, by omega⟩
end Fw
namespace Fw
open PySem Dl
noncomputable def cnt (ns : List Int) : Nat := (if cellD ns 0 / 7 % 4 = 1 then 1 + cellD ns 0 / 28 % 16 else 1 + cellD ns 0 % 7).toNat
theorem cnt_le (ns : List Int) : 1 <= cnt ns /\ cnt ns <= 16 := by
  have b1 : 0 <= cellD ns 0 / 28 % 16 := Int.emod_nonneg _ (by decide)
  have b2 : cellD ns 0 / 28 % 16 < 16 := Int.emod_lt_of_pos _ (by decide)
  have b3 : 0 <= cellD ns 0 % 7 := Int.emod_nonneg _ (by decide)
  have b4 : cellD ns 0 % 7 < 7 := Int.emod_lt_of_pos _ (by decide)
  unfold cnt; split <;> omega
theorem cnt_cast (ns : List Int) : ((cnt ns : Nat) : Int) = if cellD ns 0 / 7 % 4 = 1 then 1 + cellD ns 0 / 28 % 16 else 1 + cellD ns 0 % 7 := by
  have b1 : 0 <= cellD ns 0 / 28 % 16 := Int.emod_nonneg _ (by decide)
  have b3 : 0 <= cellD ns 0 % 7 := Int.emod_nonneg _ (by decide)
  unfold cnt; split <;> omega
noncomputable def pool (ns : List Int) : List Str := (List.range (cnt ns + 2)).map (nameOf (cellD ns 1))
theorem pool_len (ns : List Int) : (pool ns).length = cnt ns + 2 := by unfold pool; rw [List.length_map, List.length_range]
theorem pool_ne (ns : List Int) : pool ns ≠ [] := by
  intro h
  have := pool_len ns
  rw [h] at this; simp at this
noncomputable def seedOf (ns : List Int) (i : Nat) : Int := nextD (cellD ns (2 + i % 12) + 5003 * (i : Int))
noncomputable def rawN (ns : List Int) (sm : Bool) (m : Nat) : List Nd := (List.range m).map λ i => needOf (pool ns) sm (1 + seedOf ns i / 7 % 2).toNat (seedOf ns i)
theorem raw_len (ns : List Int) (sm : Bool) (m : Nat) : (rawN ns sm m).length = m := by unfold rawN; rw [List.length_map, List.length_range]
noncomputable def drawN (ns : List Int) (sm : Bool) : List Nd := if 0 < cellD ns 1 / 30 % 3 then (rawN ns sm (cnt ns)).set (cellD ns 1 / 90 % (cnt ns : Int)).toNat .sun else rawN ns sm (cnt ns)
theorem draw_len (ns : List Int) (sm : Bool) : (drawN ns sm).length = cnt ns := by
  unfold drawN; split
  · rw [List.length_set, raw_len]
  · rw [raw_len]
noncomputable def drawD (ns : List Int) (sm : Bool) : D := .tup [strsL ((pool ns).take (cnt ns)), .lst ((drawN ns sm).map Nd.toD), strsL ((pool ns).drop (cnt ns))]
theorem cellI (ns : List Int) (i : Int) (h : 0 <= i) : F__law_cell_at [intsL ns, .int i] = .ok (.int (cellD ns i.toNat)) := by
  have := cell_eq ns i.toNat
  rwa [Int.toNat_of_nonneg h] at this
theorem cell0 (ns : List Int) : F__law_cell_at [intsL ns, .int 0] = .ok (.int (cellD ns 0)) := cellI ns 0 (by decide)
theorem cell1 (ns : List Int) : F__law_cell_at [intsL ns, .int 1] = .ok (.int (cellD ns 1)) := cellI ns 1 (by decide)
theorem drawn_eq (ns : List Int) (sm : Bool) : F__law_drawn [intsL ns, .bl sm] = .ok (drawD ns sm) := by
  have hc := cnt_le ns
  have c0 := cell0 ns
  have c1 := cell1 ns
  have hnm : F__law_names [.int (cellD ns 1), .int ((cnt ns : Int) + 2)] = .ok (strsL (pool ns)) := by
    have := names_eq (cellD ns 1) (cnt ns + 2) (by omega)
    rwa [show (((cnt ns + 2 : Nat)) : Int) = (cnt ns : Int) + 2 by omega] at this
  have hcc := cnt_cast ns
  unfold F__law_drawn runB g__law_drawn
  generalize hE : (gSeq (gSet 6 (gCall F__law_next (gCons (gOp dAddS (gCall F__law_cell_at (gCons (gVar 0) (gCons (gOp dAddS (gC (.int 2)) (gOp dMod (gVar 5) (gC (.int 12)))) gNil))) (gOp dMul (gC (.int 5003)) (gVar 5))) gNil)))
    (gApp 4 (gCall (F__law_need 8) (gCons (gVar 6) (gCons (gOp dAddS (gC (.int 1)) (gOp dMod (gOp dDiv (gVar 6) (gC (.int 7))) (gC (.int 2)))) (gCons (gVar 3) (gCons (gVar 1) gNil))))))) = E
  have hloop : loopF 5 [5, 6] E (rangeD 0 (cnt ns)) [some (intsL ns), some (.bl sm), some (.int (cnt ns : Int)), some (strsL (pool ns)), some (.lst []), none, none] = .ok (.nx [some (intsL ns), some (.bl sm), some (.int (cnt ns : Int)), some (strsL (pool ns)), some (.lst ((rawN ns sm (cnt ns)).map Nd.toD)), none, none]) := by
    refine loop_rng (n := cnt ns) (λ m => [some (intsL ns), some (.bl sm), some (.int (cnt ns : Int)), some (strsL (pool ns)), some (.lst ((rawN ns sm m).map Nd.toD)), none, none]) rfl λ m hm => ?_
    refine ⟨[some (intsL ns), some (.bl sm), some (.int (cnt ns : Int)), some (strsL (pool ns)), some (.lst ((rawN ns sm (m + 1)).map Nd.toD)), some (.int (0 + (m : Int))), some (.int (seedOf ns m))], .inl ?_, rfl⟩
    have e : rawN ns sm (m + 1) = rawN ns sm m ++ [needOf (pool ns) sm (1 + seedOf ns m / 7 % 2).toNat (seedOf ns m)] := by
      unfold rawN; rw [List.range_succ, List.map_append]; rfl
    have b1 : 0 <= seedOf ns m / 7 % 2 := Int.emod_nonneg _ (by decide)
    have b2 : seedOf ns m / 7 % 2 < 2 := Int.emod_lt_of_pos _ (by decide)
    have hn := need_eq (pool ns) (pool_ne ns) (by rw [pool_len]; omega) sm 8 (1 + seedOf ns m / 7 % 2).toNat (seedOf ns m) (by omega)
    rw [Int.toNat_of_nonneg (by omega)] at hn
    have hi := cellI ns (2 + (m : Int) % 12) (by omega)
    rw [show (2 + (m : Int) % 12).toNat = 2 + m % 12 by omega] at hi
    have hs : nextD (cellD ns (2 + m % 12) + 5003 * (m : Int)) = seedOf ns m := rfl
    rw [<- hE]
    simp [hi, hs, hn, e, raw_len]
    omega
  have b1 : 0 <= cellD ns 1 / 90 % (cnt ns : Int) := Int.emod_nonneg _ (by omega)
  have b2 : cellD ns 1 / 90 % (cnt ns : Int) < (cnt ns : Int) := Int.emod_lt_of_pos _ (by omega)
  have b3 : 0 < cnt ns := hc.1
  have hput := put_lst ((rawN ns sm (cnt ns)).map Nd.toD) (cellD ns 1 / 90 % (cnt ns : Int)) (.tup [.str "sun"]) b1 (by rw [List.length_map, raw_len]; exact b2)
  by_cases h1 : cellD ns 0 / 7 % 4 = 1
  all_goals
    simp only [h1, if_true, if_false] at hcc
    simp [startD, c0, c1, h1, <- hcc, hnm]
    rw [if_pos (by omega)]
    simp [hloop, c1]
    unfold drawD drawN
    by_cases h3 : 0 < cellD ns 1 / 30 % 3
    · simp [h3, c1, raw_len, strsL, b3, hput]
    · simp [h3, c1, raw_len, strsL]
end Fw
namespace Fw
open PySem Dl
noncomputable def Nm (x : Str) : Prop := 2 <= x.length /\ x.length <= 8 /\ (∀ c ∈ x.cps.toList, 97 <= c /\ c <= 122) /\ (122 ∈ x.cps.toList \/ x.length = 4)
theorem stub_facts (c : Int) : 1 <= (stubOf c).length /\ (∀ d ∈ (stubOf c).cps.toList, 97 <= d /\ d <= 122) /\ (122 ∈ (stubOf c).cps.toList \/ (stubOf c).length = 3) := by
  have : ∀ s ∈ stubs, 1 <= s.length /\ (∀ d ∈ s.cps.toList, 97 <= d /\ d <= 122) /\ (122 ∈ s.cps.toList \/ s.length = 3) := by decide +kernel
  exact this _ (stub_in c)
theorem at_le (c : Int) : 0 <= atOf c /\ atOf c <= ((stubOf c).length : Int) := by
  have b1 : 0 <= atOf c := Int.emod_nonneg _ (by omega)
  have b2 : atOf c < ((stubOf c).length : Int) + 1 := Int.emod_lt_of_pos _ (by omega)
  omega
theorem name_cps (c : Int) (k : Nat) : (nameOf c k).cps.toList = (stubOf c).cps.toList.take (atOf c).toNat ++ signOf ((k : Int) + c / 97) :: (stubOf c).cps.toList.drop (atOf c).toNat := by
  have h := at_le c
  have e : atOf c = (((atOf c).toNat : Nat) : Int) := by omega
  unfold nameOf
  rw [e, cut_to, cut_from, <- e]
  show ((List.take _ _).toArray ++ #[_] ++ (List.drop _ _).toArray).toList = _
  simp
theorem letters_get (i : Nat) (h : i < 26) : letters.cps.toList[i]? = some (97 + i) := by
  have : ∀ i : Fin 26, letters.cps.toList[i.val]? = some (97 + i.val) := by decide +kernel
  exact this ⟨i, h⟩
theorem sign_val (j : Int) : signOf j = 97 + (j % 26).toNat := by
  have b1 : 0 <= j % 26 := Int.emod_nonneg _ (by decide)
  have b2 : j % 26 < 26 := Int.emod_lt_of_pos _ (by decide)
  unfold signOf
  rw [letters_get _ (by omega)]
  rfl
theorem name_nm (c : Int) (k : Nat) : Nm (nameOf c k) := by
  obtain ⟨h1, h2, h3⟩ := stub_facts c
  have h4 := stub_len c
  have hl : (nameOf c k).length = (stubOf c).length + 1 := by
    show (nameOf c k).cps.size = (stubOf c).cps.size + 1
    rw [<- Array.length_toList, name_cps, <- Array.length_toList, List.length_append, List.length_cons, List.length_take, List.length_drop]
    have := at_le c
    have z : ((stubOf c).length : Int) = (stubOf c).cps.toList.length := by rw [Array.length_toList]; rfl
    omega
  refine ⟨by omega, by omega, ?_, ?_⟩
  · intro d m
    rw [name_cps] at m
    rcases List.mem_append.1 m with m | m
    · exact h2 d (List.mem_of_mem_take m)
    · rcases List.mem_cons.1 m with rfl | m
      · rw [sign_val]
        have b1 : 0 <= ((k : Int) + c / 97) % 26 := Int.emod_nonneg _ (by decide)
        have b2 : ((k : Int) + c / 97) % 26 < 26 := Int.emod_lt_of_pos _ (by decide)
        omega
      · exact h2 d (List.mem_of_mem_drop m)
  · rcases h3 with h3 | h3
    · refine .inl ?_
      rw [name_cps]
      rw [<- List.take_append_drop (atOf c).toNat (stubOf c).cps.toList] at h3
      rcases List.mem_append.1 h3 with m | m
      · exact List.mem_append.2 (.inl m)
      · exact List.mem_append.2 (.inr (List.mem_cons_of_mem _ m))
    · exact .inr (by omega)
theorem name_inj (c : Int) {j k : Nat} (hj : j < 26) (hk : k < 26) (h : nameOf c j = nameOf c k) : j = k := by
  have h' := congrArg (λ s : Str => s.cps.toList) h
  simp only [name_cps] at h'
  have h2 := List.append_cancel_left h'
  have h3 := (List.cons.inj h2).1
  rw [sign_val, sign_val] at h3
  have b1 : 0 <= ((k : Int) + c / 97) % 26 := Int.emod_nonneg _ (by decide)
  have b2 : 0 <= ((j : Int) + c / 97) % 26 := Int.emod_nonneg _ (by decide)
  omega
theorem pool_nodup (ns : List Int) : (pool ns).Nodup := by
  have hc := cnt_le ns
  unfold pool
  rw [List.nodup_iff_pairwise_ne, List.pairwise_map]
  refine List.Pairwise.imp_of_mem ?_ (List.nodup_iff_pairwise_ne.1 List.nodup_range)
  intro a b ha hb hne he
  exact hne (name_inj _ (by have := List.mem_range.1 ha; omega) (by have := List.mem_range.1 hb; omega) he)
theorem pool_nm (ns : List Int) : ∀ x ∈ pool ns, Nm x := λ x m => by
  unfold pool at m
  obtain ⟨k, _, rfl⟩ := List.mem_map.1 m
  exact name_nm _ _
theorem kept_no (x : Str) (h : Nm x) : x ∉ wKEPT_WORDS := by
  intro m
  have : ∀ w ∈ wKEPT_WORDS, 122 ∉ w.cps.toList /\ w.length ≠ 4 := by decide +kernel
  rcases h.2.2.2 with q | q
  · exact (this x m).1 q
  · exact (this x m).2 q
theorem is_name_of (x : Str) (h1 : 1 <= x.length) (h2 : x.length <= 8) (h3 : ∀ c ∈ x.cps.toList, 97 <= c /\ c <= 122) (hk : x ∉ wKEPT_WORDS) : F_is_name [.str x] = .ok (.bl true) := by
  have hc : compL [] gYes (gChain dLe dLe (gC (.str "a")) (gVar 0) (gC (.str "z"))) (signsD x) = .ok (x.cps.toList.map λ o_ => D.bl true) := by
    unfold signsD
    refine comp_of0 λ c m => ?_
    have := h3 c m
    have ea : (Str.ofString "a").cps.toList = [97] := by decide +kernel
    have ez : (Str.ofString "z").cps.toList = [122] := by decide +kernel
    have l1 : dLe (.str "a") (.str ⟨#[c]⟩) = .ok (.bl true) := by
      show Rz.ok (D.bl (!decide ([c] < (Str.ofString "a").cps.toList))) = _
      rw [ea, decide_eq_false (by intro h; cases h with | rel h => omega | cons h => cases h)]; rfl
    have l2 : dLe (.str ⟨#[c]⟩) (.str "z") = .ok (.bl true) := by
      show Rz.ok (D.bl (!decide ((Str.ofString "z").cps.toList < [c]))) = _
      rw [ez, decide_eq_false (by intro h; cases h with | rel h => omega | cons h => cases h)]; rfl
    simp [l1, l2]
  have ha : ∀ (i : Nat) (_ : i < x.cps.size), x.cps[i] < 128 := λ i h => by
    have := h3 x.cps[i] (by rw [Array.mem_toList_iff]; exact Array.getElem_mem h)
    omega
  have hl : x.cps.toList.length = x.length := by rw [Array.length_toList]; rfl
  unfold F_is_name runB g_is_name
  simp [startD, hk, show ¬ (x.length : Int) < 1 by omega, show ¬ 8 < (x.length : Int) by omega, show x.length <= 16777216 by omega]
  rw [if_pos ha]
  simp [capD, hc]
  rw [if_pos (by show x.length <= 16777216; omega)]
  simp
@[simp] theorem pLen_strs (l : List Str) : pLen [strsL l] = .ok (.int (l.length : Int)) := by unfold strsL; simp
theorem is_name_eq (x : Str) (h : Nm x) : F_is_name [.str x] = .ok (.bl true) := is_name_of x (Nat.le_trans (by decide) h.1) h.2.1 h.2.2.1 (kept_no x h)
noncomputable def webD (ks : List Str) (vs : List Nd) : D := .obj 0 "need_by_name" (.dct (ks.map Sum.inr) (vs.map Nd.toD))
@[simp] theorem imO_web (ks : List Str) (vs : List Nd) : (webD ks vs).imO = true := by unfold webD; simp
@[simp] theorem big_web (ks : List Str) (vs : List Nd) : (webD ks vs).big = true := rfl
@[simp] theorem isObj_web (m : String) (ks : List Str) (vs : List Nd) : isObj 0 (Str.ofString m) (webD ks vs) = !decide ("need_by_name" = m) := by unfold webD; simp
@[simp] theorem fld_web (ks : List Str) (vs : List Nd) : dFld 0 (Str.ofString "need_by_name") (webD ks vs) = .ok (.dct (ks.map Sum.inr) (vs.map Nd.toD)) := by unfold webD; simp [dFld]
theorem any_ky (ks : List Str) (x : Str) : ((ks.map Sum.inr).any λ j : Ky => decide (j = Sum.inr x)) = decide (x ∈ ks) := by
  rw [List.any_map]
  induction ks with
  | nil => rfl
  | cons a r ih => rw [List.any_cons, ih]; by_cases h : a = x <;> simp [h, Ne.symm, eq_comm]
theorem add_eq (ks : List Str) (vs : List Nd) (x : Str) (v : Nd) (h1 : F_is_name [.str x] = .ok (.bl true)) (hn : x ∉ ks) (hl : ks.length < 16) : F_add [webD ks vs, .str x, v.toD] = .ok (.non, [webD (ks ++ [x]) (vs ++ [v])]) := by
  have h2 : inD (.str x) (.dct (ks.map Sum.inr) (vs.map Nd.toD)) = .ok false := by
    rw [alive_dct ks]; simp [hn]
  have h3 : putD (ks.map Sum.inr) (vs.map Nd.toD) (.inr x) v.toD = .dct ((ks ++ [x]).map Sum.inr) ((vs ++ [v]).map Nd.toD) := by
    unfold putD
    rw [any_ky, if_neg (by simp [hn])]
    simp
  unfold F_add runI g_add webD
  simp [startD, h1, dFld, h2, show ¬ (16 : Int) <= (ks.length : Int) by omega, h3]
  rw [if_pos (by omega)]
  simp
theorem kinds_eq (ks : List Str) (vs : List Nd) : F_kinds [webD ks vs] = .ok (strsL ks) := by
  unfold F_kinds runB g_kinds webD strsL
  have e : (kyD ∘ Sum.inr : Str -> D) = D.str := rfl
  have e2 : ∀ x : Str, (kyD (Sum.inr x)).imm = true := λ o_ => rfl
  simp [startD, dFld, e, e2]
theorem refuse_eq (ks : List Str) (vs : List Nd) (x : Str) (h : x ∈ ks) : F_refuse_unknown [webD ks vs, .str x] = .ok .non := by
  have h2 : inD (.str x) (.dct (ks.map Sum.inr) (vs.map Nd.toD)) = .ok true := by
    rw [alive_dct ks]; simp [h]
  unfold F_refuse_unknown runB g_refuse_unknown webD
  simp [startD, dFld, h2]
theorem built_eq (ks : List Str) (vs : List Nd) (hl : ks.length = vs.length) (hm : ks.length <= 16) (hn : ∀ x ∈ ks, Nm x) (hd : ks.Nodup) : F__law_built [strsL ks, .lst (vs.map Nd.toD)] = .ok (webD ks vs) := by
  unfold F__law_built runB g__law_built
  generalize hE : (gDropX (gMethI 0 "add" F_add 2 (gCons (gOp dIx (gVar 0) (gVar 3)) (gCons (gOp dIx (gVar 1) (gVar 3)) gNil)))) = E
  have hloop : loopF 3 [3] E (rangeD 0 ks.length) [some (strsL ks), some (.lst (vs.map Nd.toD)), some (webD [] []), none] = .ok (.nx [some (strsL ks), some (.lst (vs.map Nd.toD)), some (webD (ks.take ks.length) (vs.take ks.length)), none]) := by
    refine loop_rng (n := ks.length) (λ m => [some (strsL ks), some (.lst (vs.map Nd.toD)), some (webD (ks.take m) (vs.take m)), none]) rfl λ m hm => ?_
    refine ⟨[some (strsL ks), some (.lst (vs.map Nd.toD)), some (webD (ks.take (m + 1)) (vs.take (m + 1))), some (.int (0 + (m : Int)))], .inl ?_, rfl⟩
    have e1 : ks[m]? = some ks[m] := List.getElem?_eq_getElem hm
    have hv : m < vs.length := by omega
    have e2 : vs[m]? = some vs[m] := List.getElem?_eq_getElem hv
    have k1 : ks.take (m + 1) = ks.take m ++ [ks[m]] := by rw [List.take_succ, e1]; rfl
    have k2 : vs.take (m + 1) = vs.take m ++ [vs[m]] := by rw [List.take_succ, e2]; rfl
    have hnot : ks[m] ∉ ks.take m := by
      have z : (ks.take (m + 1)).Nodup := hd.sublist (List.take_sublist _ _)
      rw [k1] at z
      intro q
      exact (List.nodup_append.1 z).2.2 _ q _ (List.mem_singleton.2 rfl) rfl
    have ha := add_eq (ks.take m) (vs.take m) ks[m] vs[m] (is_name_eq _ (hn _ (List.getElem_mem hm))) hnot (by rw [List.length_take]; omega)
    rw [k1, k2, <- hE]
    simp [strsL, at_nat, hm, hv, e1, e2, ha]
  rw [List.take_length, hl, List.take_length, <- hl] at hloop
  have h0 : D.obj 0 (Str.ofString "need_by_name") (.dct [] []) = webD [] [] := rfl
  have hs : ks.length < 4611686018427387904 := by omega
  simp [startD, hs, h0, hloop]
end Fw
namespace Dl
open PySem
theorem okSs_all : ∀ l : List D, okSs l = l.all okS
  | [] => by rw [okSs]; rfl
  | x :: r => by rw [okSs, List.all_cons, okSs_all r]
theorem depDs_le {n : Nat} : ∀ {l : List D}, (∀ x ∈ l, depD x <= n) -> depDs l <= n
  | [], _ => by rw [depDs]; omega
  | x :: r, h => by
    rw [depDs]
    have h1 := h x (List.mem_cons_self ..)
    have h2 := depDs_le (l := r) λ y m => h y (List.mem_cons_of_mem _ m)
    omega
noncomputable def CmpD (n : Nat) (d : D) : Prop := okS d = true /\ depD d <= n
theorem CmpD.int (i : Int) (n : Nat) : CmpD n (.int i) := ⟨by rw [okS], by rw [depD]; omega⟩
theorem CmpD.bl (i : Bool) (n : Nat) : CmpD n (.bl i) := ⟨by rw [okS], by rw [depD]; omega⟩
theorem CmpD.non (n : Nat) : CmpD n .non := ⟨by rw [okS], by rw [depD]; omega⟩
theorem CmpD.lst {n : Nat} {l : List D} (h : ∀ x ∈ l, CmpD n x) : CmpD (n + 1) (.lst l) := by
  refine ⟨?_, ?_⟩
  · rw [okS, okSs_all, List.all_eq_true]; exact λ x m => (h x m).1
  · rw [depD]; have := depDs_le λ x m => (h x m).2; omega
theorem CmpD.tup {n : Nat} {l : List D} (h : ∀ x ∈ l, CmpD n x) : CmpD (n + 1) (.tup l) := by
  refine ⟨?_, ?_⟩
  · rw [okS, okSs_all, List.all_eq_true]; exact λ x m => (h x m).1
  · rw [depD]; have := depDs_le λ x m => (h x m).2; omega
theorem cmp_of {m n : Nat} {x y : D} (hx : CmpD m x) (hy : CmpD n y) (hm : m <= 64) (hn : n <= 64) : cmpOk x y = true := by
  unfold cmpOk
  rw [hx.1, hy.1, decide_eq_true (Nat.le_trans hx.2 hm), decide_eq_true (Nat.le_trans hy.2 hn)]
  simp
theorem eqDs_map {α : Type} [DecidableEq α] {f : α -> D} (hf : ∀ a b, eqD (f a) (f b) = decide (a = b)) : ∀ l m : List α, eqDs (l.map f) (m.map f) = decide (l = m)
  | [], [] => by simp [eqDs]
  | [], b :: m => by simp [eqDs]
  | a :: l, [] => by simp [eqDs]
  | a :: l, b :: m => by
    rw [List.map_cons, List.map_cons, eqDs, hf, eqDs_map hf l m]
    by_cases h : a = b <;> by_cases h2 : l = m <;> simp [h, h2]
end Dl
namespace Fw
open PySem Dl
noncomputable def Tx (x : Str) : Prop := ∀ c ∈ x.cps.toList, c < 0x110000
theorem Nm.tx {x : Str} (h : Nm x) : Tx x := λ c m => by have := h.2.2.1 c m; omega
theorem tx_cmp {x : Str} (h : Tx x) (n : Nat) : CmpD n (.str x) := by
  refine ⟨?_, by rw [depD]; omega⟩
  rw [okS, <- Array.all_toList, List.all_eq_true]
  intro c m
  have := h c m
  simp; omega
theorem strs_cmp {l : List Str} (h : ∀ x ∈ l, Tx x) (n : Nat) : CmpD (n + 1) (strsL l) := CmpD.lst λ x m => by
  obtain ⟨y, hy, rfl⟩ := List.mem_map.1 m
  exact tx_cmp (h y hy) n
theorem eqD_texts (a b : Str) : eqD (.str a) (.str b) = decide (a = b) := by
  rw [eqD]
  by_cases h : a = b
  · simp [h]
  · rw [decide_eq_false h]; exact beq_eq_false_iff_ne.mpr h
theorem strs_eq {a b : List Str} (ha : ∀ x ∈ a, Tx x) (hb : ∀ x ∈ b, Tx x) : dEq (strsL a) (strsL b) = .ok (.bl (decide (a = b))) := by
  show Rz.guard _ _ = _
  rw [guard_pos (cmp_of (strs_cmp ha 0) (strs_cmp hb 0) (by omega) (by omega))]
  unfold strsL
  rw [eqD, eqDs_map eqD_texts]
end Fw
namespace Fw
open PySem Dl
noncomputable def Good (v : Nd) : Prop := (∃ ss sm, v.ok ss sm) /\ v.depth <= 3
end Fw
namespace Fw
open PySem Dl
theorem pool_take_nm (ns : List Int) (k : Nat) : ∀ x ∈ (pool ns).take k, Nm x := λ x m => pool_nm ns x (List.mem_of_mem_take m)
theorem raw_ok (ns : List Int) (sm : Bool) (m : Nat) : ∀ v ∈ rawN ns sm m, v.ok (pool ns) sm /\ v.depth <= 3 := λ v h => by
  unfold rawN at h
  obtain ⟨i, _, rfl⟩ := List.mem_map.1 h
  have b1 : 0 <= seedOf ns i / 7 % 2 := Int.emod_nonneg _ (by decide)
  have b2 : seedOf ns i / 7 % 2 < 2 := Int.emod_lt_of_pos _ (by decide)
  obtain ⟨h1, h2⟩ := need_ok (pool ns) (pool_ne ns) sm (1 + seedOf ns i / 7 % 2).toNat (seedOf ns i)
  exact ⟨h1, by omega⟩
theorem draw_ok (ns : List Int) (sm : Bool) : ∀ v ∈ drawN ns sm, v.ok (pool ns) sm /\ v.depth <= 3 := λ v h => by
  unfold drawN at h
  split at h
  · rcases List.mem_or_eq_of_mem_set h with h | rfl
    · exact raw_ok ns sm _ v h
    · exact ⟨by rw [Nd.ok]; trivial, by rw [Nd.depth]; omega⟩
  · exact raw_ok ns sm _ v h
structure WebOk (ks : List Str) (vs : List Nd) : Prop where
  len : ks.length = vs.length
  le : ks.length <= 16
  nd : ks.Nodup
  good : ∀ v ∈ vs, Good v
  tx : ∀ x ∈ ks, Tx x
theorem draw_web (ns : List Int) (sm : Bool) : WebOk ((pool ns).take (cnt ns)) (drawN ns sm) := by
  have hcn := cnt_le ns
  have hlk : ((pool ns).take (cnt ns)).length = cnt ns := by rw [List.length_take, pool_len]; omega
  have hlv := draw_len ns sm
  exact ⟨by omega, by omega, (pool_nodup ns).sublist (List.take_sublist _ _), λ v m => ⟨⟨_, _, (draw_ok ns sm v m).1⟩, (draw_ok ns sm v m).2⟩, λ x m => (pool_take_nm ns _ x m).tx⟩
theorem draw_len1 (ns : List Int) : ((pool ns).take (cnt ns)).length = cnt ns := by
  have hcn := cnt_le ns
  rw [List.length_take, pool_len]; omega
theorem draw_rest (ns : List Int) : ∃ y z, (pool ns).drop (cnt ns) = [y, z] /\ Nm y /\ Nm z /\ y ≠ z /\ y ∉ (pool ns).take (cnt ns) /\ z ∉ (pool ns).take (cnt ns) := by
  have hl : ((pool ns).drop (cnt ns)).length = 2 := by rw [List.length_drop, pool_len]; omega
  match h : (pool ns).drop (cnt ns), hl with
  | [y, z], _ =>
    have e := List.take_append_drop (cnt ns) (pool ns)
    rw [h] at e
    have hn := pool_nodup ns
    rw [<- e] at hn
    have hn2 := List.nodup_append.1 hn
    have my : y ∈ pool ns := by rw [<- e]; simp
    have mz : z ∈ pool ns := by rw [<- e]; simp
    refine ⟨y, z, rfl, pool_nm ns y my, pool_nm ns z mz, ?_, λ q => hn2.2.2 _ q _ (by simp) rfl, λ q => hn2.2.2 _ q _ (by simp) rfl⟩
    have := hn2.2.1
    simp at this
    exact this
theorem WebOk.add {ks : List Str} {vs : List Nd} (w : WebOk ks vs) {x : Str} {v : Nd} (h : ks.length < 16) (hx : x ∉ ks) (tx : Tx x) (g : Good v) : WebOk (ks ++ [x]) (vs ++ [v]) := by
  refine ⟨by simp [w.len], by simp; omega, List.nodup_append.2 ⟨w.nd, by simp, λ a ha b hb e => ?_⟩, λ u m => ?_, λ y m => ?_⟩
  · rw [List.mem_singleton] at hb; exact hx (hb ▸ e ▸ ha)
  · rcases List.mem_append.1 m with m | m
    · exact w.good u m
    · rw [List.mem_singleton] at m; exact m ▸ g
  · rcases List.mem_append.1 m with m | m
    · exact w.tx y m
    · rw [List.mem_singleton] at m; exact m ▸ tx
theorem web_built {ks : List Str} {vs : List Nd} (w : WebOk ks vs) (hn : ∀ x ∈ ks, Nm x) : F__law_built [strsL ks, .lst (vs.map Nd.toD)] = .ok (webD ks vs) := built_eq ks vs w.len w.le hn w.nd
theorem at_strs (l : List Str) (a : Nat) (h : a < l.length) : dIx (strsL l) (.int (a : Int)) = .ok (.str l[a]) := by unfold strsL; simp [at_nat, h]
theorem cut_strs1 (l : List Str) (a : Nat) : dCut (strsL l) none (some (a : Int)) = .ok (strsL (l.take a)) := by unfold strsL; rw [dCut_lst, cut_to, List.map_take]
theorem mod_nat (z : Int) (n : Nat) (h : 0 < n) : ∃ a : Nat, a < n /\ z % (n : Int) = (a : Int) := by
  have b1 : 0 <= z % (n : Int) := Int.emod_nonneg _ (by omega)
  have b2 : z % (n : Int) < (n : Int) := Int.emod_lt_of_pos _ (by omega)
  exact ⟨(z % (n : Int)).toNat, by omega, by omega⟩
end Fw
namespace Fw
open PySem Dl
theorem erefuse (ks : List Str) (vs : List Nd) (x : Str) (h : x ∈ ks) : E_refuse_unknown [webD ks vs, .str x] = none := by
  unfold E_refuse_unknown runX h_refuse_unknown
  have hin := alive_dct ks (vs.map Nd.toD) x
  simp [startD, hIf, dNotIn, hin, h]
theorem erefuse' (ks : List Str) (vs : List Nd) (x : Str) (h : x ∉ ks) (hm : okMsgD x) : E_refuse_unknown [webD ks vs, .str x] = some 3 := by
  unfold E_refuse_unknown runX h_refuse_unknown
  have hin := alive_dct ks (vs.map Nd.toD) x
  simp [startD, hIf, dNotIn, hin, h, hRaiseN, hm]
theorem hloop_of {i : Nat} {fg : List Nat} {body : GS} {hb : HS} {δ : DS} {x : D} {r : Nat × DS} : ∀ {l m : List D}, (∀ y ∈ l, hb (δ.set i (some y)) = none /\ ∃ δ', body (δ.set i (some y)) = .ok (.nx δ') /\ forget fg δ' = δ) -> hb (δ.set i (some x)) = some r -> hLoop i fg body hb (l ++ x :: m) δ = some r
  | [], m, _, h => by rw [List.nil_append, hLoop, h]
  | y :: l, m, hl, h => by
    obtain ⟨h1, δ', h2, h3⟩ := hl y (List.mem_cons_self ..)
    rw [List.cons_append, hLoop, h1, h2]
    show hLoop i fg body hb (l ++ x :: m) (forget fg δ') = some r
    rw [h3]
    exact hloop_of (λ z hz => hl z (List.mem_cons_of_mem _ hz)) h
theorem elevels (ks : List Str) (vs : List Nd) (a b : List Str) (x : Str) (ha : ∀ y ∈ a, y ∈ ks) (h : x ∉ ks) (hm : okMsgD x) : E_levels [webD ks vs, strsL (a ++ [x] ++ b)] = some 3 := by
  have h1 : ∀ y ∈ a, F_refuse_unknown [webD ks vs, .str y] = .ok .non := λ y m => refuse_eq ks vs y (ha y m)
  have h2 : ∀ y ∈ a, E_refuse_unknown [webD ks vs, .str y] = none := λ y m => erefuse ks vs y (ha y m)
  have h3 := erefuse' ks vs x h hm
  unfold E_levels runX h_levels
  generalize F_refuse_unknown = FR at *
  generalize E_refuse_unknown = ER at *
  have hl : hLoop 2 [2] (gDrop (gMeth 0 "refuse_unknown" FR (gVar 0) (gCons (gVar 2) gNil))) (hOf (hMeth 0 "refuse_unknown" ER (gVar 0) (gCons (gVar 2) gNil))) (a.map D.str ++ D.str x :: b.map D.str) [some (webD ks vs), some (strsL (a ++ [x] ++ b)), none, none, none, none, none]
      = some (3, [some (webD ks vs), some (strsL (a ++ [x] ++ b)), some (.str x), none, none, none, none]) := by
    refine hloop_of (λ y hy => ?_) ?_
    · obtain ⟨z, hz, rfl⟩ := List.mem_map.1 hy
      refine ⟨?_, [some (webD ks vs), some (strsL (a ++ [x] ++ b)), some (.str z), none, none, none, none], ?_, rfl⟩
      · simp [hOf, hMeth, h2 z hz]
      · simp [h1 z hz]
    · simp [hOf, hMeth, h3]
  have e : itD (strsL (a ++ [x] ++ b)) = .ok (a.map D.str ++ D.str x :: b.map D.str) := by
    rw [itD_strs]; simp
  generalize strsL (a ++ [x] ++ b) = TK at *
  simp [startD, hFor, e, rzO, hl]
theorem eliving (w tk : D) {c : Nat} (h : E_levels [w, tk] = some c) : E_living [w, tk] = some c := by
  unfold E_living runX h_living
  generalize E_levels = EL at *
  simp [startD, hOf, hCall, h]
theorem ehangs (ks : List Str) (vs : List Nd) (x : Str) (h : x ∉ ks) (hm : okMsgD x) : E_hangs_on [webD ks vs, .str x] = some 3 := by
  have h3 := erefuse' ks vs x h hm
  unfold E_hangs_on runX h_hangs_on
  generalize E_refuse_unknown = ER at *
  simp [startD, hOf, hMeth, h3]
theorem ecut (ks : List Str) (vs : List Nd) (x : Str) (h : x ∉ ks) (hm : okMsgD x) : E_cut [webD ks vs, .str x] = some 3 := by
  have h3 := erefuse' ks vs x h hm
  unfold E_cut runX h_cut
  generalize E_refuse_unknown = ER at *
  simp [startD, hOf, hMeth, h3]
theorem efelled' (ks : List Str) (vs : List Nd) (x : Str) (h : x ∉ ks) (hm : okMsgD x) : E_felled [webD ks vs, .str x] = some 3 := by
  have h3 := erefuse' ks vs x h hm
  unfold E_felled runX h_felled
  generalize E_refuse_unknown = ER at *
  simp [startD, hOr, hOf, hMeth, h3]
theorem tried_no (ks : List Str) (vs : List Nd) (a b : List Str) (x : Str) (ha : ∀ y ∈ a, y ∈ ks) (h : x ∉ ks) (hm : okMsgD x) (t : Nat) (ht : t < 5) : F__law_tried [.int (t : Int), webD ks vs, .str x, strsL (a ++ [x] ++ b)] = .ok (.str "kind") := by
  have h1 := elevels ks vs a b x ha h hm
  have h2 := eliving _ _ h1
  have h3 := ehangs ks vs x h hm
  have h4 := ecut ks vs x h hm
  have h5 := efelled' ks vs x h hm
  unfold F__law_tried runB g__law_tried
  generalize E_levels = E1 at *
  generalize E_living = E2 at *
  generalize E_hangs_on = E3 at *
  generalize E_cut = E4 at *
  generalize E_felled = E5 at *
  generalize strsL (a ++ [x] ++ b) = TK at *
  have : t = 0 \/ t = 1 \/ t = 2 \/ t = 3 \/ t = 4 := by omega
  rcases this with rfl | rfl | rfl | rfl | rfl <;> simp [startD, hOr, hIf, hOf, hCall, h1, h2, h3, h4, h5, kdW, CS, kindW]
theorem okMsg_nm {x : Str} (h : x.length <= 100) (ht : Tx x) : okMsgD x := ⟨by omega, λ c m => by have := ht c m; omega⟩
theorem strange_at (ns : List Int) (i : Int) (y z : Str) (hy : Nm y) (hz : Nm z) (ks : List Str) (hk : ∀ k ∈ ks, Nm k) (ny : y ∉ ks) (nz : z ∉ ks) : ∃ x, dIx (.lst [.str y, .str z, .str "other", .str "", .str "sun"]) (.int (i % 5)) = .ok (.str x) /\ x ∉ ks /\ okMsgD x := by
  have hq : ∀ x : Str, (¬ Nm x) -> x ∉ ks := λ x h m => h (hk x m)
  have : i % 5 = 0 \/ i % 5 = 1 \/ i % 5 = 2 \/ i % 5 = 3 \/ i % 5 = 4 := by omega
  rcases this with h | h | h | h | h
  · exact ⟨y, by simp [h], ny, okMsg_nm (by have := hy.2.1; omega) hy.tx⟩
  · exact ⟨z, by simp [h], nz, okMsg_nm (by have := hz.2.1; omega) hz.tx⟩
  · exact ⟨"other", by rw [h]; rfl, hq _ (λ q => by revert q; unfold Nm; decide), by unfold okMsgD; decide⟩
  · exact ⟨"", by rw [h]; rfl, hq _ (λ q => by revert q; unfold Nm; decide), by unfold okMsgD; decide⟩
  · exact ⟨"sun", by rw [h]; rfl, hq _ (λ q => by revert q; unfold Nm; decide), by unfold okMsgD; decide⟩
theorem law_k08 (ns : List Int) : F_law [intsL ns] = .ok (.bl true) := by
  have c14 := cellI ns 14 (by decide)
  have c15 := cellI ns 15 (by decide)
  have c16 := cellI ns 16 (by decide)
  have c17 := cellI ns 17 (by decide)
  rw [show Int.toNat 14 = 14 from rfl] at c14
  rw [show Int.toNat 15 = 15 from rfl] at c15
  rw [show Int.toNat 16 = 16 from rfl] at c16
  rw [show Int.toNat 17 = 17 from rfl] at c17
  have hd : F__law_drawn [intsL ns, .bl (decide (cellD ns 17 % 2 = 1))] = .ok (.tup [strsL ((pool ns).take (cnt ns)), .lst ((drawN ns (decide (cellD ns 17 % 2 = 1))).map Nd.toD), strsL ((pool ns).drop (cnt ns))]) := drawn_eq ns (decide (cellD ns 17 % 2 = 1))
  have w := draw_web ns (decide (cellD ns 17 % 2 = 1))
  have hpos := draw_len1 ns
  have hcn := cnt_le ns
  have hnm := pool_take_nm ns (cnt ns)
  obtain ⟨y, z, hyz, ny, nz, _, hy, hz⟩ := draw_rest ns
  rw [hyz] at hd
  generalize (pool ns).take (cnt ns) = ks at *
  generalize drawN ns (decide (cellD ns 17 % 2 = 1)) = vs at *
  obtain ⟨x, hx1, hx2, hx3⟩ := strange_at ns (cellD ns 14) y z ny nz ks hnm hy hz
  have hb := web_built w hnm
  have hk := kinds_eq ks vs
  have hle := w.le
  have hke := strs_eq w.tx w.tx
  rw [decide_eq_true rfl] at hke
  -- the kinds taken
  let tk : List Str := ((List.range ks.length).filter λ k : Nat => decide (nextD (cellD ns 15 + (k : Int)) / 7 % 3 = 0)).map λ k => (ks[k]?).getD ""
  have htk : ∀ t ∈ tk, t ∈ ks := λ t m => by
    obtain ⟨k, hk, rfl⟩ := List.mem_map.1 m
    have hk := List.mem_range.1 (List.mem_filter.1 hk).1
    rw [List.getElem?_eq_getElem hk]
    exact List.getElem_mem _
  have htl : tk.length <= 16 := by
    show (List.map _ _).length <= 16
    rw [List.length_map]
    have := List.length_filter_le (λ k : Nat => decide (nextD (cellD ns 15 + (k : Int)) / 7 % 3 = 0)) (List.range ks.length)
    rw [List.length_range] at this
    omega
  have hcomp : compL [some (intsL ns), some (strsL ks)] (gB (gOp dEq (gOp dMod (gOp dDiv (gCall F__law_next (gCons (gOp dAdd (gCall F__law_cell_at (gCons (gVar 1) (gCons (gC (.int 15)) gNil))) (gVar 0)) gNil)) (gC (.int 7))) (gC (.int 3))) (gC (.int 0)))) (gOp dIx (gVar 2) (gVar 0)) (rangeD 0 ks.length) = .ok (tk.map D.str) := by
    show _ = Rz.ok ((List.map _ _).map D.str)
    rw [List.map_map]
    refine comp_rngP λ k hk => ⟨?_, λ o_ => ?_⟩
    · simp [c15]
    · have := at_strs ks k hk
      simp [this, hk]
  generalize tk = tk at *
  obtain ⟨a, ha, hae⟩ := mod_nat (cellD ns 16) (tk.length + 1) (by omega)
  have hae' : cellD ns 16 % ((tk.length : Int) + 1) = (a : Int) := by rw [<- hae]; congr 1
  have k1 := cut_strs1 tk a
  have k2 : dCut (strsL tk) (some (a : Int)) none = .ok (strsL (tk.drop a)) := by
    unfold strsL; rw [dCut_lst, cut_from, List.map_drop]
  have a1 : dAdd (strsL (tk.take a)) (.lst [.str x]) = .ok (strsL (tk.take a ++ [x])) := add_strs (tk.take a) [x] (by simp; omega)
  have a2 := add_strs (tk.take a ++ [x]) (tk.drop a) (by simp; omega)
  have htr : ∀ t : Nat, t < 5 -> F__law_tried [.int (t : Int), webD ks vs, .str x, strsL (tk.take a ++ [x] ++ tk.drop a)] = .ok (.str "kind") := λ t ht => tried_no ks vs (tk.take a) (tk.drop a) x (λ y m => htk y (List.mem_of_mem_take m)) hx2 hx3 t ht
  have hkd : dNe (.str "kind") (.str "kind") = .ok (.bl false) := by rw [dNe_ap, guard_pos (cmp_str _ _), eqD_str]; simp
  have hln : pLen [strsL ks] = .ok (.int (ks.length : Int)) := pLen_strs ks
  have hlt : pLen [strsL tk] = .ok (.int (tk.length : Int)) := pLen_strs tk
  unfold F_law runB g_law
  generalize F__law_cell_at = FC at *
  generalize F__law_drawn = FD at *
  generalize F__law_built = FB at *
  generalize F__law_next = FN at *
  generalize F__law_tried = FT at *
  generalize F_kinds = FK at *
  generalize hA : (gIfS (gB (gOp dNe (gCall FT (gCons (gVar 8) (gCons (gVar 4) (gCons (gVar 5) (gCons (gOp dAdd (gOp dAdd (gSl (gVar 6) gON (gOI (gVar 7))) (gLst (gCons (gVar 5) gNil))) (gSl (gVar 6) (gOI (gVar 7)) gON)) gNil))))) (gC (.str "kind")))) (gRet (gC (.bl false))) gNext) = A
  have hl : loopF 8 [8] A (rangeD 0 5) [some (intsL ns), some (strsL ks), some (.lst (vs.map Nd.toD)), some (strsL [y, z]), some (webD ks vs), some (.str x), some (strsL tk), some (.int (a : Int)), none] = .ok (.nx [some (intsL ns), some (strsL ks), some (.lst (vs.map Nd.toD)), some (strsL [y, z]), some (webD ks vs), some (.str x), some (strsL tk), some (.int (a : Int)), none]) := by
    refine loop_rng (λ o_ => [some (intsL ns), some (strsL ks), some (.lst (vs.map Nd.toD)), some (strsL [y, z]), some (webD ks vs), some (.str x), some (strsL tk), some (.int (a : Int)), none]) rfl λ k hk => ?_
    refine ⟨[some (intsL ns), some (strsL ks), some (.lst (vs.map Nd.toD)), some (strsL [y, z]), some (webD ks vs), some (.str x), some (strsL tk), some (.int (a : Int)), some (.int (0 + (k : Int)))], .inl ?_, rfl⟩
    have q := htr k hk
    have e0 : (0 + (k : Int)) = (k : Int) := by omega
    rw [<- hA, e0]
    generalize strsL (tk.take a ++ [x] ++ tk.drop a) = T3 at *
    generalize strsL (tk.take a ++ [x]) = T2 at *
    generalize dNe = N at *
    simp [k1, k2, a1, a2, q, hkd]
  have e2 : strsL [y, z] = .lst [.str y, .str z] := rfl
  have g1 : (tk.map D.str).length <= 16777216 := by rw [List.length_map]; omega
  have e3 : strsL tk = .lst (tk.map D.str) := rfl
  have hb17 : dEq (.int (cellD ns 17 % 2)) (.int 1) = .ok (.bl (decide (cellD ns 17 % 2 = 1))) := by simp
  have r5 : Rng 5 := by unfold Rng; omega
  have t5 : (5 : Int).toNat = 5 := rfl
  have rk : Rng (ks.length : Int) := (rng_nat _).2 (by omega)
  have tp : (0 : Int) < (tk.length : Int) + 1 := by omega
  clear htr k1 k2 a1 a2 hA htk
  rw [e3] at hl hlt
  rw [e2] at hl hd
  generalize tk.map D.str = TS at *
  generalize dEq = Q at *
  simp -implicitDefEqProofs [startD, c17, hb17, hd, hb, c14, hx1, hln, rk, capD, hcomp, g1, c16, hlt, tp, hae', r5, t5, hl, hk, hke]
end Fw
namespace Fw
open PySem Dl PyProof.Rows
open L2 hiding gNil gCons gTup
def top (i : Nat) : Stmt := PySem.Challenge.pw_feedweb_k08_no_kind.main.body.getD i (.Pass ⟨0, 0, 0, 0⟩)
noncomputable abbrev s_levels : Stmt := top 18
noncomputable abbrev s_living : Stmt := top 20
noncomputable abbrev s_hangs_on : Stmt := top 21
noncomputable abbrev s_cut : Stmt := top 29
noncomputable abbrev s_felled : Stmt := top 37
noncomputable abbrev s_is_name : Stmt := top 42
noncomputable abbrev s___init__ : Stmt := inClass (top 43) 0
noncomputable abbrev s_add : Stmt := inClass (top 43) 1
noncomputable abbrev s_kinds : Stmt := inClass (top 43) 3
noncomputable abbrev s_refuse_unknown : Stmt := inClass (top 43) 5
noncomputable abbrev s__law_cell_at : Stmt := top 45
noncomputable abbrev s__law_next : Stmt := top 46
noncomputable abbrev s__law_names : Stmt := top 47
noncomputable abbrev s__law_need : Stmt := top 48
noncomputable abbrev s__law_drawn : Stmt := top 49
noncomputable abbrev s__law_built : Stmt := top 50
noncomputable abbrev s__law_kind : Stmt := top 51
noncomputable abbrev s__law_tried : Stmt := top 52
noncomputable abbrev s_law : Stmt := top 53
section
variable {P : Program} {w : World} {K : PySem.W.Frag} {mg : Str -> Option Value} {base : Heap} {cl ce : Nat -> Addr}
theorem sc__law_kind : FnScope ["e", "kinds"] ["e"] (defScope s__law_kind) := ⟨rfl, rfl, rfl, by decide +kernel, rfl, by decide +kernel, by decide +kernel⟩
theorem m__law_kind {f__law_kind : Addr} {e__law_kind : FuncData} (D__law_kind : Df K mg "_law_kind" s__law_kind ["e"] f__law_kind e__law_kind) {FE : Addr} {c : Nat} (ko : KindOk K ce FE c) (e_NoName : mg "NoName" = some (.ref (ce 0))) (e_Twice : mg "Twice" = some (.ref (ce 1))) (e_Full : mg "Full" = some (.ref (ce 2))) (e_NoKind : mg "NoKind" = some (.ref (ce 3))) (e_TooLarge : mg "TooLarge" = some (.ref (ce 4))) (e_NotPlain : mg "NotPlain" = some (.ref (ce 5))) (e_NoNote : mg "NoNote" = some (.ref (ce 6))) (m_isinstance : mg "isinstance" = none) (m_ValueError : mg "ValueError" = none) :
    FnM P w K mg base 1 f__law_kind e__law_kind "e" (ce c) ((kindW[c]?).getD "") :=
  fn_M (N := ["e", "kinds"]) D__law_kind.F sc__law_kind λ cdv A outer s H ea oe hcl hr => ⟨_,
    pss_cons (ps_set (i := 1) sc__law_kind.nd rfl (Or.inl rfl) (pe_lst (pa_cons (pe_isexc (i := 0) (List.mem_singleton.mpr rfl) hcl ko.xc ko.k0 rfl m_isinstance rfl (Or.inl e_NoName) rfl (Or.inl rfl)) (pa_cons (pe_isexc (i := 0) (List.mem_singleton.mpr rfl) hcl ko.xc ko.k1 rfl m_isinstance rfl (Or.inl e_Twice) rfl (Or.inl rfl)) (pa_cons (pe_isexc (i := 0) (List.mem_singleton.mpr rfl) hcl ko.xc ko.k2 rfl m_isinstance rfl (Or.inl e_Full) rfl (Or.inl rfl)) (pa_cons (pe_isexc (i := 0) (List.mem_singleton.mpr rfl) hcl ko.xc ko.k3 rfl m_isinstance rfl (Or.inl e_NoKind) rfl (Or.inl rfl)) pa_nil))))))
    (pss_cons (ps_set (i := 1) sc__law_kind.nd rfl (Or.inl rfl) (pe_op op_catR (pv 1) (pe_lst (pa_cons (pe_isexc (i := 0) (List.mem_singleton.mpr rfl) hcl ko.xc ko.k4 rfl m_isinstance rfl (Or.inl e_TooLarge) rfl (Or.inl rfl)) (pa_cons (pe_isexc (i := 0) (List.mem_singleton.mpr rfl) hcl ko.xc ko.k5 rfl m_isinstance rfl (Or.inl e_NotPlain) rfl (Or.inl rfl)) (pa_cons (pe_isexc (i := 0) (List.mem_singleton.mpr rfl) hcl ko.xc ko.k6 rfl m_isinstance rfl (Or.inl e_NoNote) rfl (Or.inl rfl)) pa_nil))))))
    (pss_cons (ps_if (PW.pt (pw_or (pt_not (pt_val (pe_isexc (i := 0) (List.mem_singleton.mpr rfl) hcl ko.xc ko.kv rfl m_isinstance rfl (Or.inr ⟨m_ValueError, boot_ValueError'⟩) rfl (Or.inl rfl)))) (pw_or1 (pt_cmp (pc_neI (pe_countT (pv 1) ⟨rfl, rfl, rfl, rfl⟩) pe_int))))) (pss_one (ps_ret pe_str)) pss_nil)
    (by refine pss_one ?_; refine ps_ret ?_; refine pe_ix ix_list ?_ ?_ ?_
        · exact pe_lst (pa_cons pe_str (pa_cons pe_str (pa_cons pe_str (pa_cons pe_str (pa_cons pe_str (pa_cons pe_str (pa_cons pe_str pa_nil)))))))
        · exact pe_indexT (pv 1) ⟨rfl, rfl, rfl, rfl⟩
        · exact (λ o_ o_ => rfl)))), λ Q hq => kind_read (K := K) (ea := ea) (c := c) ko.lt hq⟩
theorem sc_is_name : FnScope ["text"] ["text"] (defScope s_is_name) := ⟨rfl, rfl, rfl, by decide +kernel, rfl, by decide +kernel, by decide +kernel⟩
theorem d_is_name {r : Nat} {f_is_name : Addr} {e_is_name : FuncData} (D_is_name : Df K mg "is_name" s_is_name ["text"] f_is_name e_is_name) {tk_MOST_LETTERS : Tok} (c_MOST_LETTERS : mg "MOST_LETTERS" = some (.int 8 tk_MOST_LETTERS)) {ad_KEPT_WORDS : Addr} {ob_KEPT_WORDS : Obj} {its_KEPT_WORDS : Array Value} {n_KEPT_WORDS : Nat} (w_KEPT_WORDS : mg "KEPT_WORDS" = some (.ref ad_KEPT_WORDS)) (k_KEPT_WORDS : K.lookup ad_KEPT_WORDS = some ob_KEPT_WORDS) (c_KEPT_WORDS : ob_KEPT_WORDS.cls = .type "tuple") (d_KEPT_WORDS : ob_KEPT_WORDS.data = .seq its_KEPT_WORDS n_KEPT_WORDS) (z_KEPT_WORDS : its_KEPT_WORDS.size <= sizeLine) (v_KEPT_WORDS : Vals (wKEPT_WORDS.map V.str) its_KEPT_WORDS.toList) (m_all : mg "all" = none) (m_len : mg "len" = none) :
    FnOk P w K mg base CX0 (r + 1) f_is_name e_is_name ["text"] (spD K cl 1 (runB 1 (g_is_name))) :=
  fn_D (κ := [.b]) (κ' := [.b]) D_is_name.F sc_is_name rfl (by decide) λ cdv A outer s H E hr => have hu := hr.units; 
  (ds_cons (ds_if (DW.dt (dw_or (dt_cmp op_lt opS_lt lt_imm (de_callS call_lenU callS_len len_big rfl m_len PySem.boot_len (da_cons (de_var 0 rfl rfl) da_nil)) de_int (nomark _)) (dw_or (dt_cmp op_gt opS_gt gt_imm (de_callS call_lenU callS_len len_big rfl m_len PySem.boot_len (da_cons (de_var 0 rfl rfl) da_nil)) (de_glob rfl c_MOST_LETTERS) (nomark _)) (dw_or1 (dt_inW rfl w_KEPT_WORDS k_KEPT_WORDS c_KEPT_WORDS d_KEPT_WORDS z_KEPT_WORDS v_KEPT_WORDS (de_var 0 rfl rfl)))))) (ds_one (ds_ret de_bl (λ o_ h => nomatch h))) ds_nil)
    (ds_one (ds_ret (de_callS (call_all_list rfl) callS_all all_big rfl m_all boot_all' (da_cons (de_comp (kx := .v) [] rfl rfl (di_seq (de_var 0 rfl rfl)) (λ o_ => difs_nil) (λ o_ => (de_chain op_leU op_leU opS_le opS_le le_imm le_imm de_str (de_var 0 rfl rfl) de_str))) da_nil)) (λ o_ h => nomatch h))))
theorem sc_add : FnScope ["self", "name", "need"] ["self", "name", "need"] (defScope s_add) := ⟨rfl, rfl, rfl, by decide +kernel, rfl, by decide +kernel, by decide +kernel⟩
theorem d_add {r : Nat} {f_add : Addr} {e_add : FuncData} (R_add : Fun K "add" "Web.add" s_add f_add e_add) {f_is_name : Addr} {e_is_name : FuncData} {F_is_name : PF} (D_is_name : Df K mg "is_name" s_is_name ["text"] f_is_name e_is_name) (G_is_name : FnOk P w K mg base CX0 r f_is_name e_is_name ["text"] (spD K cl 1 F_is_name)) (ClW : Cls K (cl 0)) (NaW : NoAttr K (cl 0) "need_by_name") {tk_MOST_KINDS : Tok} (c_MOST_KINDS : mg "MOST_KINDS" = some (.int 16 tk_MOST_KINDS)) (m_len : mg "len" = none) :
    FnOk P w K mg base CX0 (r + 1) f_add e_add ["self", "name", "need"] (spI K cl 3 1 (runI 3 1 (g_add F_is_name))) :=
  fn_I (io := [0]) (κ := [.i, .b, .b]) (κ' := [.i, .b, .b]) R_add sc_add rfl (by decide) rfl (by decide) rfl λ cdv A outer s H E iv l hr => have hu := hr.units; 
  (ds_cons (ds_if (dt_not (dt_tru (de_call D_is_name G_is_name hr rfl (gCons_len gNil_len) (da_cons (de_var 1 rfl rfl) da_nil)))) (ds_one ds_never) ds_nil)
    (ds_cons (ds_if (dt_cmp (op_inU hu) opS_in in_imm (de_var 1 rfl rfl) (de_fld (c := 0) ClW NaW (de_var 0 rfl rfl)) rfl) (ds_one ds_never) ds_nil)
    (ds_cons (ds_if (dt_cmp op_geU opS_ge ge_imm (de_callS call_lenU callS_len len_big rfl m_len PySem.boot_len (da_cons (de_fld (c := 0) ClW NaW (de_var 0 rfl rfl)) da_nil)) (de_glob rfl c_MOST_KINDS) (nomark _)) (ds_one ds_never) ds_nil)
    (ds_one (ds_putF (c := 0) 0 ClW NaW (Or.inr rfl) rfl hu (de_var 1 rfl rfl) (de_varI 2))))))
theorem sc_kinds : FnScope ["self"] ["self"] (defScope s_kinds) := ⟨rfl, rfl, rfl, by decide +kernel, rfl, by decide +kernel, by decide +kernel⟩
theorem d_kinds {r : Nat} {f_kinds : Addr} {e_kinds : FuncData} (R_kinds : Fun K "kinds" "Web.kinds" s_kinds f_kinds e_kinds) (ClW : Cls K (cl 0)) (NaW : NoAttr K (cl 0) "need_by_name") (m_list : mg "list" = none) :
    FnOk P w K mg base CX0 (r + 1) f_kinds e_kinds ["self"] (spD K cl 1 (runB 1 (g_kinds))) :=
  fn_D (κ := [.b]) (κ' := [.b]) R_kinds sc_kinds rfl (by decide) λ cdv A outer s H E hr => have hu := hr.units; 
  (ds_one (ds_ret (de_imI (de_callT (call_listU rfl) callD_list rfl m_list boot_list' (da_cons (de_fld (c := 0) ClW NaW (de_var 0 rfl rfl)) da_nil))) (λ o_ h => nomatch h)))
theorem sc_refuse_unknown : FnScope ["self", "name"] ["self", "name"] (defScope s_refuse_unknown) := ⟨rfl, rfl, rfl, by decide +kernel, rfl, by decide +kernel, by decide +kernel⟩
theorem d_refuse_unknown {r : Nat} {f_refuse_unknown : Addr} {e_refuse_unknown : FuncData} (R_refuse_unknown : Fun K "refuse_unknown" "Web.refuse_unknown" s_refuse_unknown f_refuse_unknown e_refuse_unknown) (ClW : Cls K (cl 0)) (NaW : NoAttr K (cl 0) "need_by_name") :
    FnOk P w K mg base CX0 (r + 1) f_refuse_unknown e_refuse_unknown ["self", "name"] (spD K cl 2 (runB 2 (g_refuse_unknown))) :=
  fn_D (κ := [.b, .b]) (κ' := [.b, .b]) R_refuse_unknown sc_refuse_unknown rfl (by decide) λ cdv A outer s H E hr => have hu := hr.units; 
  (ds_one (ds_if (dt_cmp (op_notinU hu) opS_notin notin_imm (de_var 1 rfl rfl) (de_fld (c := 0) ClW NaW (de_var 0 rfl rfl)) rfl) (ds_one ds_never) ds_nil))
theorem sc__law_cell_at : FnScope ["script", "k"] ["script", "k"] (defScope s__law_cell_at) := ⟨rfl, rfl, rfl, by decide +kernel, rfl, by decide +kernel, by decide +kernel⟩
theorem d__law_cell_at {r : Nat} {f__law_cell_at : Addr} {e__law_cell_at : FuncData} (D__law_cell_at : Df K mg "_law_cell_at" s__law_cell_at ["script", "k"] f__law_cell_at e__law_cell_at) (m_len : mg "len" = none) :
    FnOk P w K mg base CX0 (r + 1) f__law_cell_at e__law_cell_at ["script", "k"] (spD K cl 2 (runB 2 (g__law_cell_at))) :=
  fn_D (κ := [.b, .b]) (κ' := [.b, .b]) D__law_cell_at.F sc__law_cell_at rfl (by decide) λ cdv A outer s H E hr => have hu := hr.units; 
  (ds_cons (ds_if (dt_cmp op_lt opS_lt lt_imm (de_var 1 rfl rfl) (de_callS call_lenU callS_len len_big rfl m_len PySem.boot_len (da_cons (de_var 0 rfl rfl) da_nil)) (nomark _)) (ds_one (ds_ret (de_im (de_item hu (de_var 0 rfl rfl) (de_var 1 rfl rfl) (λ o_ o_ => rfl) (λ o_ o_ => rfl))) (λ o_ h => nomatch h))) ds_nil)
    (ds_one (ds_ret de_int (λ o_ h => nomatch h))))
theorem sc__law_next : FnScope ["seed"] ["seed"] (defScope s__law_next) := ⟨rfl, rfl, rfl, by decide +kernel, rfl, by decide +kernel, by decide +kernel⟩
theorem d__law_next {r : Nat} {f__law_next : Addr} {e__law_next : FuncData} (D__law_next : Df K mg "_law_next" s__law_next ["seed"] f__law_next e__law_next) :
    FnOk P w K mg base CX0 (r + 1) f__law_next e__law_next ["seed"] (spD K cl 1 (runB 1 (g__law_next))) :=
  fn_D (κ := [.b]) (κ' := [.b]) D__law_next.F sc__law_next rfl (by decide) λ cdv A outer s H E hr => have hu := hr.units; 
  (ds_cons (ds_set (i := 0) (k := .b) (Or.inl rfl) (by decide) sc__law_next.nd rfl (Or.inl rfl) (de_binS op_mod opS_mod mod_imm (de_binS op_addS opS_add addS_imm (de_var 0 rfl rfl) de_int) de_int))
    (ds_one (ds_ret (de_binS op_mod opS_mod mod_imm (de_binS op_addS opS_add addS_imm (de_binS op_addS opS_add addS_imm (de_binS op_mul opS_mul mul_imm (de_var 0 rfl rfl) (de_var 0 rfl rfl)) (de_binS op_mul opS_mul mul_imm de_int (de_var 0 rfl rfl))) de_int) de_int) (λ o_ h => nomatch h))))
theorem sc__law_names : FnScope ["cell", "many", "stub", "at"] ["cell", "many"] (defScope s__law_names) := ⟨rfl, rfl, rfl, by decide +kernel, rfl, by decide +kernel, by decide +kernel⟩
theorem d__law_names {r : Nat} {f__law_names : Addr} {e__law_names : FuncData} (D__law_names : Df K mg "_law_names" s__law_names ["cell", "many"] f__law_names e__law_names) (m_len : mg "len" = none) (m_range : mg "range" = none) :
    FnOk P w K mg base CX0 (r + 1) f__law_names e__law_names ["cell", "many"] (spD K cl 2 (runB 4 (g__law_names))) :=
  fn_D (κ := [.b, .b, .s, .s]) (κ' := [.b, .b, .s, .s]) D__law_names.F sc__law_names rfl (by decide) λ cdv A outer s H E hr => have hu := hr.units; 
  (ds_cons (ds_set (i := 2) (k := .s) (Or.inr rfl) (by decide) sc__law_names.nd rfl (Or.inr rfl) (de_item hu (de_lst (da_cons de_str (da_cons de_str (da_cons de_str (da_cons de_str (da_cons de_str (da_cons de_str da_nil))))))) (de_binS op_mod opS_mod mod_imm (de_var 0 rfl rfl) de_int) (λ o_ o_ => rfl) (λ o_ o_ => rfl)))
    (ds_cons (ds_set (i := 3) (k := .s) (Or.inr rfl) (by decide) sc__law_names.nd rfl (Or.inr rfl) (de_binS op_mod opS_mod mod_imm (de_binS op_fdiv opS_div div_imm (de_var 0 rfl rfl) de_int) (de_binS op_addS opS_add addS_imm (de_callS call_lenU callS_len len_big rfl m_len PySem.boot_len (da_cons (de_var 2 rfl rfl) da_nil)) de_int)))
    (ds_one (ds_ret (de_comp (kx := .v) [("stub", 2), ("at", 3), ("cell", 0)] rfl rfl (di_rng1 rfl m_range (de_var 1 rfl rfl)) (λ o_ => difs_nil) (λ o_ => (de_binS op_addS opS_add addS_imm (de_binS op_addS opS_add addS_imm (de_slice (de_var 1 rfl rfl) do_none (do_some (de_var 2 rfl rfl))) (de_item hu de_str (de_binS op_mod opS_mod mod_imm (de_binS op_addS opS_add addS_imm (de_var 0 rfl rfl) (de_binS op_fdiv opS_div div_imm (de_var 3 rfl rfl) de_int)) de_int) (λ o_ o_ => rfl) (λ o_ o_ => rfl))) (de_slice (de_var 1 rfl rfl) (do_some (de_var 2 rfl rfl)) do_none)))) (λ o_ h => nomatch h)))))
theorem sc__law_need : FnScope ["seed", "deep", "pool", "simple", "way", "parts", "k"] ["seed", "deep", "pool", "simple"] (defScope s__law_need) := ⟨rfl, rfl, rfl, by decide +kernel, rfl, by decide +kernel, by decide +kernel⟩
theorem d__law_need {r : Nat} {f__law_need : Addr} {e__law_need : FuncData} (D__law_need : Df K mg "_law_need" s__law_need ["seed", "deep", "pool", "simple"] f__law_need e__law_need) {F__law_need : PF} (G__law_need : FnOk P w K mg base CX0 r f__law_need e__law_need ["seed", "deep", "pool", "simple"] (spD K cl 4 F__law_need)) {f__law_next : Addr} {e__law_next : FuncData} {F__law_next : PF} (D__law_next : Df K mg "_law_next" s__law_next ["seed"] f__law_next e__law_next) (G__law_next : FnOk P w K mg base CX0 r f__law_next e__law_next ["seed"] (spD K cl 1 F__law_next)) (m_len : mg "len" = none) (m_range : mg "range" = none) (m_tuple : mg "tuple" = none) :
    FnOk P w K mg base CX0 (r + 1) f__law_need e__law_need ["seed", "deep", "pool", "simple"] (spD K cl 4 (runB 7 (g__law_need F__law_need F__law_next))) :=
  fn_D (κ := [.b, .b, .b, .b, .s, .o, .s]) (κ' := [.b, .b, .b, .b, .s, .o, .s]) D__law_need.F sc__law_need rfl (by decide) λ cdv A outer s H E hr => have hu := hr.units; 
  (ds_cons (ds_set (i := 4) (k := .s) (Or.inr rfl) (by decide) sc__law_need.nd rfl (Or.inl rfl) (de_binS op_mod opS_mod mod_imm (de_var 0 rfl rfl) de_int))
    (ds_cons (ds_if (DW.dt (dw_or (dt_cmp (op_eqU hu) opS_eq eq_imm (de_var 1 rfl rfl) de_int (nomark _)) (dw_or1 (dt_cmp op_lt opS_lt lt_imm (de_var 4 rfl rfl) de_int (nomark _))))) (ds_cons (ds_if (dt_cmp (op_eqU hu) opS_eq eq_imm (de_binS op_mod opS_mod mod_imm (de_binS op_fdiv opS_div div_imm (de_var 0 rfl rfl) de_int) de_int) de_int (nomark _)) (ds_one (ds_ret (de_tup (da_cons de_str da_nil)) (λ o_ h => nomatch h))) ds_nil)
    (ds_one (ds_ret (de_tup (da_cons de_str (da_cons (de_im (de_item hu (de_var 2 rfl rfl) (de_binS op_mod opS_mod mod_imm (de_binS op_fdiv opS_div div_imm (de_var 0 rfl rfl) de_int) (de_callS call_lenU callS_len len_big rfl m_len PySem.boot_len (da_cons (de_var 2 rfl rfl) da_nil))) (λ o_ o_ => rfl) (λ o_ o_ => rfl))) da_nil))) (λ o_ h => nomatch h)))) ds_nil)
    (ds_cons (ds_setO (i := 5) (by decide) sc__law_need.nd rfl (Or.inl rfl) (de_lst da_nil))
    (ds_cons (ds_for (i := 6) (k := .b) (fg := [6]) (Or.inl rfl) (by decide) sc__law_need.nd rfl (Or.inl rfl) PassesOwn.never rfl (di_rng1 rfl m_range (de_binS op_addS opS_add addS_imm de_int (de_binS op_mod opS_mod mod_imm (de_binS op_fdiv opS_div div_imm (de_var 0 rfl rfl) de_int) de_int))) (ds_one (ds_app 5 (Or.inl rfl) rfl (de_call D__law_need G__law_need hr rfl (gCons_len (gCons_len (gCons_len (gCons_len gNil_len)))) (da_cons (de_call D__law_next G__law_next hr rfl (gCons_len gNil_len) (da_cons (de_binS op_addS opS_add addS_imm (de_binS op_addS opS_add addS_imm (de_var 0 rfl rfl) (de_binS op_mul opS_mul mul_imm de_int (de_var 6 rfl rfl))) de_int) da_nil)) (da_cons (de_binS op_sub opS_sub sub_imm (de_var 1 rfl rfl) de_int) (da_cons (de_var 2 rfl rfl) (da_cons (de_var 3 rfl rfl) da_nil))))))) rfl)
    (ds_cons (ds_if (DW.dt (dw_or (dt_cmp op_lt opS_lt lt_imm (de_var 4 rfl rfl) de_int (nomark _)) (dw_or1 (dt_tru (de_var 3 rfl rfl))))) (ds_one (ds_ret (de_tup (da_cons de_str (da_cons (de_callT call_tuple_of callD_tuple rfl m_tuple boot_tuple' (da_cons (de_var 5 rfl rfl) da_nil)) da_nil))) (λ o_ h => nomatch h))) ds_nil)
    (ds_cons (ds_if (dt_cmp op_lt opS_lt lt_imm (de_var 4 rfl rfl) de_int (nomark _)) (ds_one (ds_ret (de_tup (da_cons de_str (da_cons (de_callT call_tuple_of callD_tuple rfl m_tuple boot_tuple' (da_cons (de_var 5 rfl rfl) da_nil)) da_nil))) (λ o_ h => nomatch h))) ds_nil)
    (ds_one (ds_ret (de_tup (da_cons de_str (da_cons (de_binS op_addS opS_add addS_imm de_int (de_binS op_mod opS_mod mod_imm (de_binS op_fdiv opS_div div_imm (de_var 0 rfl rfl) de_int) (de_callS call_lenU callS_len len_big rfl m_len PySem.boot_len (da_cons (de_var 5 rfl rfl) da_nil)))) (da_cons (de_callT call_tuple_of callD_tuple rfl m_tuple boot_tuple' (da_cons (de_var 5 rfl rfl) da_nil)) da_nil)))) (λ o_ h => nomatch h)))))))))
theorem sc__law_drawn : FnScope ["script", "simple", "many", "pool", "needs", "k", "seed"] ["script", "simple"] (defScope s__law_drawn) := ⟨rfl, rfl, rfl, by decide +kernel, rfl, by decide +kernel, by decide +kernel⟩
theorem d__law_drawn {r : Nat} {f__law_drawn : Addr} {e__law_drawn : FuncData} (D__law_drawn : Df K mg "_law_drawn" s__law_drawn ["script", "simple"] f__law_drawn e__law_drawn) {f__law_cell_at : Addr} {e__law_cell_at : FuncData} {F__law_cell_at : PF} (D__law_cell_at : Df K mg "_law_cell_at" s__law_cell_at ["script", "k"] f__law_cell_at e__law_cell_at) (G__law_cell_at : FnOk P w K mg base CX0 r f__law_cell_at e__law_cell_at ["script", "k"] (spD K cl 2 F__law_cell_at)) {f__law_names : Addr} {e__law_names : FuncData} {F__law_names : PF} (D__law_names : Df K mg "_law_names" s__law_names ["cell", "many"] f__law_names e__law_names) (G__law_names : FnOk P w K mg base CX0 r f__law_names e__law_names ["cell", "many"] (spD K cl 2 F__law_names)) {f__law_need : Addr} {e__law_need : FuncData} {F__law_need : PF} (D__law_need : Df K mg "_law_need" s__law_need ["seed", "deep", "pool", "simple"] f__law_need e__law_need) (G__law_need : FnOk P w K mg base CX0 r f__law_need e__law_need ["seed", "deep", "pool", "simple"] (spD K cl 4 F__law_need)) {f__law_next : Addr} {e__law_next : FuncData} {F__law_next : PF} (D__law_next : Df K mg "_law_next" s__law_next ["seed"] f__law_next e__law_next) (G__law_next : FnOk P w K mg base CX0 r f__law_next e__law_next ["seed"] (spD K cl 1 F__law_next)) (m_range : mg "range" = none) :
    FnOk P w K mg base CX0 (r + 1) f__law_drawn e__law_drawn ["script", "simple"] (spD K cl 2 (runB 7 (g__law_drawn F__law_cell_at F__law_names F__law_need F__law_next))) :=
  fn_D (κ := [.b, .b, .s, .s, .o, .s, .s]) (κ' := [.b, .b, .s, .s, .o, .s, .s]) D__law_drawn.F sc__law_drawn rfl (by decide) λ cdv A outer s H E hr => have hu := hr.units; 
  (ds_cons (ds_set (i := 2) (k := .s) (Or.inr rfl) (by decide) sc__law_drawn.nd rfl (Or.inl rfl) (de_binS op_addS opS_add addS_imm de_int (de_binS op_mod opS_mod mod_imm (de_call D__law_cell_at G__law_cell_at hr rfl (gCons_len (gCons_len gNil_len)) (da_cons (de_var 0 rfl rfl) (da_cons de_int da_nil))) de_int)))
    (ds_cons (ds_if (dt_cmp (op_eqU hu) opS_eq eq_imm (de_binS op_mod opS_mod mod_imm (de_binS op_fdiv opS_div div_imm (de_call D__law_cell_at G__law_cell_at hr rfl (gCons_len (gCons_len gNil_len)) (da_cons (de_var 0 rfl rfl) (da_cons de_int da_nil))) de_int) de_int) de_int (nomark _)) (ds_one (ds_set (i := 2) (k := .s) (Or.inr rfl) (by decide) sc__law_drawn.nd rfl (Or.inl rfl) (de_binS op_addS opS_add addS_imm de_int (de_binS op_mod opS_mod mod_imm (de_binS op_fdiv opS_div div_imm (de_call D__law_cell_at G__law_cell_at hr rfl (gCons_len (gCons_len gNil_len)) (da_cons (de_var 0 rfl rfl) (da_cons de_int da_nil))) de_int) de_int)))) ds_nil)
    (ds_cons (ds_set (i := 3) (k := .s) (Or.inr rfl) (by decide) sc__law_drawn.nd rfl (Or.inl rfl) (de_call D__law_names G__law_names hr rfl (gCons_len (gCons_len gNil_len)) (da_cons (de_call D__law_cell_at G__law_cell_at hr rfl (gCons_len (gCons_len gNil_len)) (da_cons (de_var 0 rfl rfl) (da_cons de_int da_nil))) (da_cons (de_binS op_addS opS_add addS_imm (de_var 2 rfl rfl) de_int) da_nil))))
    (ds_cons (ds_setO (i := 4) (by decide) sc__law_drawn.nd rfl (Or.inl rfl) (de_lst da_nil))
    (ds_cons (ds_for (i := 5) (k := .b) (fg := [5, 6]) (Or.inl rfl) (by decide) sc__law_drawn.nd rfl (Or.inl rfl) PassesOwn.never rfl (di_rng1 rfl m_range (de_var 2 rfl rfl)) (ds_cons (ds_set (i := 6) (k := .s) (Or.inr rfl) (by decide) sc__law_drawn.nd rfl (Or.inl rfl) (de_call D__law_next G__law_next hr rfl (gCons_len gNil_len) (da_cons (de_binS op_addS opS_add addS_imm (de_call D__law_cell_at G__law_cell_at hr rfl (gCons_len (gCons_len gNil_len)) (da_cons (de_var 0 rfl rfl) (da_cons (de_binS op_addS opS_add addS_imm de_int (de_binS op_mod opS_mod mod_imm (de_var 5 rfl rfl) de_int)) da_nil))) (de_binS op_mul opS_mul mul_imm de_int (de_var 5 rfl rfl))) da_nil)))
    (ds_one (ds_app 4 (Or.inl rfl) rfl (de_call D__law_need G__law_need hr rfl (gCons_len (gCons_len (gCons_len (gCons_len gNil_len)))) (da_cons (de_var 6 rfl rfl) (da_cons (de_binS op_addS opS_add addS_imm de_int (de_binS op_mod opS_mod mod_imm (de_binS op_fdiv opS_div div_imm (de_var 6 rfl rfl) de_int) de_int)) (da_cons (de_var 3 rfl rfl) (da_cons (de_var 1 rfl rfl) da_nil)))))))) rfl)
    (ds_cons (ds_if (dt_cmp op_gt opS_gt gt_imm (de_binS op_mod opS_mod mod_imm (de_binS op_fdiv opS_div div_imm (de_call D__law_cell_at G__law_cell_at hr rfl (gCons_len (gCons_len gNil_len)) (da_cons (de_var 0 rfl rfl) (da_cons de_int da_nil))) de_int) de_int) de_int (nomark _)) (ds_one (ds_put 4 (Or.inl rfl) rfl hu (de_binS op_mod opS_mod mod_imm (de_binS op_fdiv opS_div div_imm (de_call D__law_cell_at G__law_cell_at hr rfl (gCons_len (gCons_len gNil_len)) (da_cons (de_var 0 rfl rfl) (da_cons de_int da_nil))) de_int) (de_var 2 rfl rfl)) (de_tup (da_cons de_str da_nil)))) ds_nil)
    (ds_one (ds_ret (de_tup (da_cons (de_slice (de_var 3 rfl rfl) do_none (do_some (de_var 2 rfl rfl))) (da_cons (de_var 4 rfl rfl) (da_cons (de_slice (de_var 3 rfl rfl) (do_some (de_var 2 rfl rfl)) do_none) da_nil)))) (λ o_ h => nomatch h)))))))))
theorem sc__law_built : FnScope ["kinds", "needs", "web", "k"] ["kinds", "needs"] (defScope s__law_built) := ⟨rfl, rfl, rfl, by decide +kernel, rfl, by decide +kernel, by decide +kernel⟩
theorem d__law_built {r : Nat} {f__law_built : Addr} {e__law_built : FuncData} (D__law_built : Df K mg "_law_built" s__law_built ["kinds", "needs"] f__law_built e__law_built) {f_add : Addr} {e_add : FuncData} {F_add : PFI} (M_add : Meth K (cl 0) "add" f_add) (B_add : Binds K e_add ["self", "name", "need"] []) (G_add : FnOk P w K mg base CX0 r f_add e_add ["self", "name", "need"] (spI K cl 3 1 F_add)) (ClW : Cls K (cl 0)) (NaW : NoAttr K (cl 0) "need_by_name") {f_init : Addr} {e_init : FuncData} (MkW : Mk K (cl 0) f_init) (G_init : FnOk P w K mg base CX0 1 f_init e_init ["self"] (spInit (cl 0) "need_by_name")) (b_init : Binds K e_init ["self"] []) (m_Web : mg "Web" = some (.ref (cl 0))) (m_len : mg "len" = none) (m_range : mg "range" = none) :
    FnOk P w K mg base CX0 (r + 2 + 1) f__law_built e__law_built ["kinds", "needs"] (spD K cl 2 (runB 4 (g__law_built F_add))) :=
  fn_D (κ := [.b, .b, .o, .s]) (κ' := [.b, .b, .o, .s]) D__law_built.F sc__law_built rfl (by decide) λ cdv A outer s H E hr => have hu := hr.units; have hrr := hr; have hr : Room r _ := hrr.mono (by omega); have hr2 : Room 2 _ := hrr.mono (by omega); 
  (ds_cons (ds_setO (i := 2) (by decide) sc__law_built.nd rfl (Or.inl rfl) (de_make MkW G_init hr2 rfl m_Web b_init))
    (ds_cons (ds_for (i := 3) (k := .b) (fg := [3]) (Or.inl rfl) (by decide) sc__law_built.nd rfl (Or.inl rfl) PassesOwn.never rfl (di_rng1 rfl m_range (de_callS call_lenU callS_len len_big rfl m_len PySem.boot_len (da_cons (de_var 0 rfl rfl) da_nil))) (ds_one (ds_dropX (dx_meth (c := 0) 2 ClW M_add rfl G_add hr B_add (λ δ ds h => congrArg (1 + ·) ((gCons_len (gCons_len gNil_len)) δ ds h)) (da_cons (de_item hu (de_var 0 rfl rfl) (de_var 3 rfl rfl) (λ o_ o_ => rfl) (λ o_ o_ => rfl)) (da_cons (de_item hu (de_var 1 rfl rfl) (de_var 3 rfl rfl) (λ o_ o_ => rfl) (λ o_ o_ => rfl)) da_nil))))) rfl)
    (ds_one (ds_retO 2 rfl (λ o_ h => nomatch h)))))
theorem sc__law_tried : FnScope ["turn", "web", "name", "taken", "e"] ["turn", "web", "name", "taken"] (defScope s__law_tried) := ⟨rfl, rfl, rfl, by decide +kernel, rfl, by decide +kernel, by decide +kernel⟩
theorem d__law_tried {r : Nat} {f__law_tried : Addr} {e__law_tried : FuncData} (D__law_tried : Df K mg "_law_tried" s__law_tried ["turn", "web", "name", "taken"] f__law_tried e__law_tried) {f_cut : Addr} {e_cut : FuncData} (D_cut : Df K mg "cut" s_cut ["web", "name"] f_cut e_cut) {f_felled : Addr} {e_felled : FuncData} (D_felled : Df K mg "felled" s_felled ["web", "name"] f_felled e_felled) {f_hangs_on : Addr} {e_hangs_on : FuncData} (D_hangs_on : Df K mg "hangs_on" s_hangs_on ["web", "name"] f_hangs_on e_hangs_on) {f_levels : Addr} {e_levels : FuncData} (D_levels : Df K mg "levels" s_levels ["web", "taken"] f_levels e_levels) {f_living : Addr} {e_living : FuncData} (D_living : Df K mg "living" s_living ["web", "taken"] f_living e_living) {E_cut : PX} (X_cut : FnOk P w K mg base (CXF P w) r f_cut e_cut ["web", "name"] (spE K cl ce 2 E_cut)) {E_felled : PX} (X_felled : FnOk P w K mg base (CXF P w) r f_felled e_felled ["web", "name"] (spE K cl ce 2 E_felled)) {E_hangs_on : PX} (X_hangs_on : FnOk P w K mg base (CXF P w) r f_hangs_on e_hangs_on ["web", "name"] (spE K cl ce 2 E_hangs_on)) {E_levels : PX} (X_levels : FnOk P w K mg base (CXF P w) r f_levels e_levels ["web", "taken"] (spE K cl ce 2 E_levels)) {E_living : PX} (X_living : FnOk P w K mg base (CXF P w) r f_living e_living ["web", "taken"] (spE K cl ce 2 E_living)) {FE : Addr} (e_FeedError : mg "FeedError" = some (.ref FE)) (xm : ∀ c ∈ CS, PySem.W.exmOne K (.ref (ce c)) (.ref FE) = some true) {f__law_kind : Addr} {e__law_kind : FuncData} (D__law_kind : Df K mg "_law_kind" s__law_kind ["e"] f__law_kind e__law_kind) (MK : ∀ c ∈ CS, FnM P w K mg base 1 f__law_kind e__law_kind "e" (ce c) ((kindW[c]?).getD "")) :
    FnOk P w K mg base CX0 (r + 1 + 1) f__law_tried e__law_tried ["turn", "web", "name", "taken"] (spD K cl 4 (runB 5 (g__law_tried E_cut E_felled E_hangs_on E_levels E_living))) :=
  fn_D (κ := [.b, .b, .b, .b, .s]) (κ' := [.b, .b, .b, .b, .s]) D__law_tried.F sc__law_tried rfl (by decide) λ cdv A outer s H E hr => have hu := hr.units; have hrr := hr; have hr : Room r _ := hrr.mono (by omega); have hr1 : Room 1 _ := hrr.mono (by omega); 
  (ds_cons (ds_try (i := 4) (kd := kdW CS) rfl rfl sc__law_tried.nd rfl rfl rfl e_FeedError (λ pn xe => (dss_never (κ' := [.b, .b, .b, .b, .s]))) (λ pn xe E' hp => (rf_or (rf_one (rf_ift (dt_cmp (op_eqU hu) opS_eq eq_imm (de_var 0 rfl rfl) de_int (nomark _)) (rf_one (rf_expr (dex_call hp D_levels X_levels hr rfl (gCons_len (gCons_len gNil_len)) (da_cons (de_var 1 rfl rfl) (da_cons (de_var 3 rfl rfl) da_nil))) (λ o_ h => nomatch h))))) (rf_one (rf_iff (dt_cmp (op_eqU hu) opS_eq eq_imm (de_var 0 rfl rfl) de_int (nomark _)) (rf_or (rf_one (rf_ift (dt_cmp (op_eqU hu) opS_eq eq_imm (de_var 0 rfl rfl) de_int (nomark _)) (rf_one (rf_expr (dex_call hp D_living X_living hr rfl (gCons_len (gCons_len gNil_len)) (da_cons (de_var 1 rfl rfl) (da_cons (de_var 3 rfl rfl) da_nil))) (λ o_ h => nomatch h))))) (rf_one (rf_iff (dt_cmp (op_eqU hu) opS_eq eq_imm (de_var 0 rfl rfl) de_int (nomark _)) (rf_or (rf_one (rf_ift (dt_cmp (op_eqU hu) opS_eq eq_imm (de_var 0 rfl rfl) de_int (nomark _)) (rf_one (rf_expr (dex_call hp D_hangs_on X_hangs_on hr rfl (gCons_len (gCons_len gNil_len)) (da_cons (de_var 1 rfl rfl) (da_cons (de_var 2 rfl rfl) da_nil))) (λ o_ h => nomatch h))))) (rf_one (rf_iff (dt_cmp (op_eqU hu) opS_eq eq_imm (de_var 0 rfl rfl) de_int (nomark _)) (rf_or (rf_one (rf_ift (dt_cmp (op_eqU hu) opS_eq eq_imm (de_var 0 rfl rfl) de_int (nomark _)) (rf_one (rf_expr (dex_call hp D_cut X_cut hr rfl (gCons_len (gCons_len gNil_len)) (da_cons (de_var 1 rfl rfl) (da_cons (de_var 2 rfl rfl) da_nil))) (λ o_ h => nomatch h))))) (rf_one (rf_iff (dt_cmp (op_eqU hu) opS_eq eq_imm (de_var 0 rfl rfl) de_int (nomark _)) (rf_one (rf_expr (dex_call hp D_felled X_felled hr rfl (gCons_len (gCons_len gNil_len)) (da_cons (de_var 1 rfl rfl) (da_cons (de_var 2 rfl rfl) da_nil))) (λ o_ h => nomatch h)))))))))))))))) (hph_W xm MK hr1 rfl D__law_kind.m D__law_kind.F.kp D__law_kind.b (Or.inl rfl)) kdW_big)
    (ds_one (ds_ret de_str (λ o_ h => nomatch h))))
theorem sc_law : FnScope ["script", "kinds", "needs", "strange", "web", "name", "taken", "at", "turn"] ["script"] (defScope s_law) := ⟨rfl, rfl, rfl, by decide +kernel, rfl, by decide +kernel, by decide +kernel⟩
theorem d_law {r : Nat} {f_law : Addr} {e_law : FuncData} (D_law : Df K mg "law" s_law ["script"] f_law e_law) {f__law_built : Addr} {e__law_built : FuncData} {F__law_built : PF} (D__law_built : Df K mg "_law_built" s__law_built ["kinds", "needs"] f__law_built e__law_built) (G__law_built : FnOk P w K mg base CX0 r f__law_built e__law_built ["kinds", "needs"] (spD K cl 2 F__law_built)) {f__law_cell_at : Addr} {e__law_cell_at : FuncData} {F__law_cell_at : PF} (D__law_cell_at : Df K mg "_law_cell_at" s__law_cell_at ["script", "k"] f__law_cell_at e__law_cell_at) (G__law_cell_at : FnOk P w K mg base CX0 r f__law_cell_at e__law_cell_at ["script", "k"] (spD K cl 2 F__law_cell_at)) {f__law_drawn : Addr} {e__law_drawn : FuncData} {F__law_drawn : PF} (D__law_drawn : Df K mg "_law_drawn" s__law_drawn ["script", "simple"] f__law_drawn e__law_drawn) (G__law_drawn : FnOk P w K mg base CX0 r f__law_drawn e__law_drawn ["script", "simple"] (spD K cl 2 F__law_drawn)) {f__law_next : Addr} {e__law_next : FuncData} {F__law_next : PF} (D__law_next : Df K mg "_law_next" s__law_next ["seed"] f__law_next e__law_next) (G__law_next : FnOk P w K mg base CX0 r f__law_next e__law_next ["seed"] (spD K cl 1 F__law_next)) {f__law_tried : Addr} {e__law_tried : FuncData} {F__law_tried : PF} (D__law_tried : Df K mg "_law_tried" s__law_tried ["turn", "web", "name", "taken"] f__law_tried e__law_tried) (G__law_tried : FnOk P w K mg base CX0 r f__law_tried e__law_tried ["turn", "web", "name", "taken"] (spD K cl 4 F__law_tried)) {f_kinds : Addr} {e_kinds : FuncData} {F_kinds : PF} (M_kinds : Meth K (cl 0) "kinds" f_kinds) (B_kinds : Binds K e_kinds ["self"] []) (G_kinds : FnOk P w K mg base CX0 r f_kinds e_kinds ["self"] (spD K cl 1 F_kinds)) (ClW : Cls K (cl 0)) (NaW : NoAttr K (cl 0) "need_by_name") (m_len : mg "len" = none) (m_range : mg "range" = none) :
    FnOk P w K mg base CX0 (r + 1) f_law e_law ["script"] (spD K cl 1 (runB 9 (g_law F__law_built F__law_cell_at F__law_drawn F__law_next F__law_tried F_kinds))) :=
  fn_D (κ := [.b, .s, .s, .s, .s, .s, .s, .s, .s]) (κ' := [.b, .s, .s, .s, .s, .s, .s, .s, .s]) D_law.F sc_law rfl (by decide) λ cdv A outer s H E hr => have hu := hr.units; 
  (ds_cons (ds_unp (is := [1, 2, 3]) (List.forall_mem_cons.2 ⟨⟨by decide, rfl⟩, (List.forall_mem_cons.2 ⟨⟨by decide, rfl⟩, (List.forall_mem_cons.2 ⟨⟨by decide, rfl⟩, (List.forall_mem_nil _)⟩)⟩)⟩) rfl (pgs_cons (pg_name (i := 1) sc_law.nd rfl (Or.inr rfl)) (pgs_cons (pg_name (i := 2) sc_law.nd rfl (Or.inl rfl)) (pgs_cons (pg_name (i := 3) sc_law.nd rfl (Or.inl rfl)) pgs_nil))) rfl (de_call D__law_drawn G__law_drawn hr rfl (gCons_len (gCons_len gNil_len)) (da_cons (de_var 0 rfl rfl) (da_cons (de_cmp (op_eqU hu) opS_eq eq_imm (de_binS op_mod opS_mod mod_imm (de_call D__law_cell_at G__law_cell_at hr rfl (gCons_len (gCons_len gNil_len)) (da_cons (de_var 0 rfl rfl) (da_cons de_int da_nil))) de_int) de_int (nomark _)) da_nil))))
    (ds_cons (ds_set (i := 4) (k := .s) (Or.inr rfl) (by decide) sc_law.nd rfl (Or.inl rfl) (de_call D__law_built G__law_built hr rfl (gCons_len (gCons_len gNil_len)) (da_cons (de_var 1 rfl rfl) (da_cons (de_var 2 rfl rfl) da_nil))))
    (ds_cons (ds_set (i := 5) (k := .s) (Or.inr rfl) (by decide) sc_law.nd rfl (Or.inl rfl) (de_item hu (de_lst (da_cons (de_item hu (de_var 3 rfl rfl) de_int (λ o_ o_ => rfl) (λ o_ o_ => rfl)) (da_cons (de_item hu (de_var 3 rfl rfl) de_int (λ o_ o_ => rfl) (λ o_ o_ => rfl)) (da_cons de_str (da_cons de_str (da_cons de_str da_nil)))))) (de_binS op_mod opS_mod mod_imm (de_call D__law_cell_at G__law_cell_at hr rfl (gCons_len (gCons_len gNil_len)) (da_cons (de_var 0 rfl rfl) (da_cons de_int da_nil))) de_int) (λ o_ o_ => rfl) (λ o_ o_ => rfl)))
    (ds_cons (ds_setC (i := 6) (k := .s) (kx := .v) [("script", 0), ("kinds", 1)] (Or.inr rfl) (by decide) sc_law.nd rfl (Or.inl rfl) rfl rfl (di_rng1 rfl m_range (de_callS call_lenU callS_len len_big rfl m_len PySem.boot_len (da_cons (de_var 1 rfl rfl) da_nil))) (λ o_ => difs_one (dt_cmp (op_eqU hu) opS_eq eq_imm (de_binS op_mod opS_mod mod_imm (de_binS op_fdiv opS_div div_imm (de_call D__law_next G__law_next hr rfl (gCons_len gNil_len) (da_cons (de_bin op_addU opD_add (de_call D__law_cell_at G__law_cell_at hr rfl (gCons_len (gCons_len gNil_len)) (da_cons (de_var 1 rfl rfl) (da_cons de_int da_nil))) (de_var 0 rfl rfl)) da_nil)) de_int) de_int) de_int (nomark _))) (λ o_ => (de_item hu (de_var 2 rfl rfl) (de_var 0 rfl rfl) (λ o_ o_ => rfl) (λ o_ o_ => rfl))))
    (ds_cons (ds_set (i := 7) (k := .s) (Or.inr rfl) (by decide) sc_law.nd rfl (Or.inl rfl) (de_binS op_mod opS_mod mod_imm (de_call D__law_cell_at G__law_cell_at hr rfl (gCons_len (gCons_len gNil_len)) (da_cons (de_var 0 rfl rfl) (da_cons de_int da_nil))) (de_binS op_addS opS_add addS_imm (de_callS call_lenU callS_len len_big rfl m_len PySem.boot_len (da_cons (de_var 6 rfl rfl) da_nil)) de_int)))
    (ds_cons (ds_for (i := 8) (k := .b) (fg := [8]) (Or.inl rfl) (by decide) sc_law.nd rfl (Or.inl rfl) PassesOwn.never rfl (di_rng1 rfl m_range de_int) (ds_one (ds_if (dt_cmp (op_neU hu) opS_ne ne_imm (de_call D__law_tried G__law_tried hr rfl (gCons_len (gCons_len (gCons_len (gCons_len gNil_len)))) (da_cons (de_var 8 rfl rfl) (da_cons (de_var 4 rfl rfl) (da_cons (de_var 5 rfl rfl) (da_cons (de_bin op_addU opD_add (de_bin op_addU opD_add (de_slice (de_var 6 rfl rfl) do_none (do_some (de_var 7 rfl rfl))) (de_lst (da_cons (de_var 5 rfl rfl) da_nil))) (de_slice (de_var 6 rfl rfl) (do_some (de_var 7 rfl rfl)) do_none)) da_nil))))) de_str (nomark _)) (ds_one (ds_ret de_bl (λ o_ h => nomatch h))) ds_nil)) rfl)
    (ds_one (ds_ret (de_cmp (op_eqU hu) opS_eq eq_imm (de_meth0 (c := 0) ClW M_kinds G_kinds hr B_kinds (de_var 4 rfl rfl)) (de_var 1 rfl rfl) (nomark _)) (λ o_ h => nomatch h)))))))))
theorem x_refuse_unknown {r : Nat} {f_refuse_unknown : Addr} {e_refuse_unknown : FuncData} (R_refuse_unknown : Fun K "refuse_unknown" "Web.refuse_unknown" s_refuse_unknown f_refuse_unknown e_refuse_unknown) (ClW : Cls K (cl 0)) (NaW : NoAttr K (cl 0) "need_by_name") (e_NoKind : mg "NoKind" = some (.ref (ce 3))) (q_NoKind : PySem.W.excIn K (ce 3) bmVE "ValueError.__new__" = true) :
    FnOk P w K mg base (CXF P w) (r + 1) f_refuse_unknown e_refuse_unknown ["self", "name"] (spE K cl ce 2 (runX 2 (h_refuse_unknown))) :=
  fn_X (κ := [.b, .b]) R_refuse_unknown sc_refuse_unknown rfl (by decide) λ cdv A outer s H E hr hx hp => have hu := hr.units; 
  (rf_one (rf_ift (dt_cmp (op_notinU hu) opS_notin notin_imm (de_var 1 rfl rfl) (de_fld (c := 0) ClW NaW (de_var 0 rfl rfl)) rfl) (rf_one (rf_raiseN (c := 3) (i := 1) hx rfl rfl e_NoKind q_NoKind (λ o_ h => nomatch h) (by decide +kernel) (Or.inr rfl) rfl))))
theorem sc_cut : FnScope ["web", "name", "start", "room", "reached", "kinds"] ["web", "name"] (defScope s_cut) := ⟨rfl, rfl, rfl, by decide +kernel, rfl, by decide +kernel, by decide +kernel⟩
theorem x_cut {r : Nat} {f_cut : Addr} {e_cut : FuncData} (D_cut : Df K mg "cut" s_cut ["web", "name"] f_cut e_cut) {f_refuse_unknown : Addr} {e_refuse_unknown : FuncData} (M_refuse_unknown : Meth K (cl 0) "refuse_unknown" f_refuse_unknown) (B_refuse_unknown : Binds K e_refuse_unknown ["self", "name"] []) {E_refuse_unknown : PX} (X_refuse_unknown : FnOk P w K mg base (CXF P w) r f_refuse_unknown e_refuse_unknown ["self", "name"] (spE K cl ce 2 E_refuse_unknown)) (ClW : Cls K (cl 0)) (NaW : NoAttr K (cl 0) "need_by_name") :
    FnOk P w K mg base (CXF P w) (r + 1) f_cut e_cut ["web", "name"] (spE K cl ce 2 (runX 6 (h_cut E_refuse_unknown))) :=
  fn_X (κ := [.b, .b, .s, .s, .s, .s]) D_cut.F sc_cut rfl (by decide) λ cdv A outer s H E hr hx hp => have hu := hr.units; 
  (rf_one (rf_expr (dex_meth (c := 0) hp ClW M_refuse_unknown X_refuse_unknown hr B_refuse_unknown (λ δ ds h => congrArg (· + 1) ((gCons_len gNil_len) δ ds h)) (de_var 0 rfl rfl) (da_cons (de_var 1 rfl rfl) da_nil)) (λ o_ h => nomatch h)))
theorem sc_felled : FnScope ["web", "name", "others", "places", "taken"] ["web", "name"] (defScope s_felled) := ⟨rfl, rfl, rfl, by decide +kernel, rfl, by decide +kernel, by decide +kernel⟩
theorem x_felled {r : Nat} {f_felled : Addr} {e_felled : FuncData} (D_felled : Df K mg "felled" s_felled ["web", "name"] f_felled e_felled) {f_refuse_unknown : Addr} {e_refuse_unknown : FuncData} (M_refuse_unknown : Meth K (cl 0) "refuse_unknown" f_refuse_unknown) (B_refuse_unknown : Binds K e_refuse_unknown ["self", "name"] []) {E_refuse_unknown : PX} (X_refuse_unknown : FnOk P w K mg base (CXF P w) r f_refuse_unknown e_refuse_unknown ["self", "name"] (spE K cl ce 2 E_refuse_unknown)) (ClW : Cls K (cl 0)) (NaW : NoAttr K (cl 0) "need_by_name") :
    FnOk P w K mg base (CXF P w) (r + 1) f_felled e_felled ["web", "name"] (spE K cl ce 2 (runX 5 (h_felled E_refuse_unknown))) :=
  fn_X (κ := [.b, .b, .s, .s, .o]) D_felled.F sc_felled rfl (by decide) λ cdv A outer s H E hr hx hp => have hu := hr.units; 
  (rf_one (rf_expr (dex_meth (c := 0) hp ClW M_refuse_unknown X_refuse_unknown hr B_refuse_unknown (λ δ ds h => congrArg (· + 1) ((gCons_len gNil_len) δ ds h)) (de_var 0 rfl rfl) (da_cons (de_var 1 rfl rfl) da_nil)) (λ o_ h => nomatch h)))
theorem sc_hangs_on : FnScope ["web", "name"] ["web", "name"] (defScope s_hangs_on) := ⟨rfl, rfl, rfl, by decide +kernel, rfl, by decide +kernel, by decide +kernel⟩
theorem x_hangs_on {r : Nat} {f_hangs_on : Addr} {e_hangs_on : FuncData} (D_hangs_on : Df K mg "hangs_on" s_hangs_on ["web", "name"] f_hangs_on e_hangs_on) {f_refuse_unknown : Addr} {e_refuse_unknown : FuncData} (M_refuse_unknown : Meth K (cl 0) "refuse_unknown" f_refuse_unknown) (B_refuse_unknown : Binds K e_refuse_unknown ["self", "name"] []) {E_refuse_unknown : PX} (X_refuse_unknown : FnOk P w K mg base (CXF P w) r f_refuse_unknown e_refuse_unknown ["self", "name"] (spE K cl ce 2 E_refuse_unknown)) (ClW : Cls K (cl 0)) (NaW : NoAttr K (cl 0) "need_by_name") :
    FnOk P w K mg base (CXF P w) (r + 1) f_hangs_on e_hangs_on ["web", "name"] (spE K cl ce 2 (runX 2 (h_hangs_on E_refuse_unknown))) :=
  fn_X (κ := [.b, .b]) D_hangs_on.F sc_hangs_on rfl (by decide) λ cdv A outer s H E hr hx hp => have hu := hr.units; 
  (rf_one (rf_expr (dex_meth (c := 0) hp ClW M_refuse_unknown X_refuse_unknown hr B_refuse_unknown (λ δ ds h => congrArg (· + 1) ((gCons_len gNil_len) δ ds h)) (de_var 0 rfl rfl) (da_cons (de_var 1 rfl rfl) da_nil)) (λ o_ h => nomatch h)))
theorem sc_levels : FnScope ["web", "taken", "name", "others", "level_by_name", "level", "fed"] ["web", "taken"] (defScope s_levels) := ⟨rfl, rfl, rfl, by decide +kernel, rfl, by decide +kernel, by decide +kernel⟩
theorem x_levels {r : Nat} {f_levels : Addr} {e_levels : FuncData} (D_levels : Df K mg "levels" s_levels ["web", "taken"] f_levels e_levels) {f_refuse_unknown : Addr} {e_refuse_unknown : FuncData} (M_refuse_unknown : Meth K (cl 0) "refuse_unknown" f_refuse_unknown) (B_refuse_unknown : Binds K e_refuse_unknown ["self", "name"] []) {F_refuse_unknown : PF} (G_refuse_unknown : FnOk P w K mg base CX0 r f_refuse_unknown e_refuse_unknown ["self", "name"] (spD K cl 2 F_refuse_unknown)) {E_refuse_unknown : PX} (X_refuse_unknown : FnOk P w K mg base (CXF P w) r f_refuse_unknown e_refuse_unknown ["self", "name"] (spE K cl ce 2 E_refuse_unknown)) (ClW : Cls K (cl 0)) (NaW : NoAttr K (cl 0) "need_by_name") :
    FnOk P w K mg base (CXF P w) (r + 1) f_levels e_levels ["web", "taken"] (spE K cl ce 2 (runX 7 (h_levels F_refuse_unknown E_refuse_unknown))) :=
  fn_X (κ := [.b, .b, .s, .s, .o, .s, .s]) D_levels.F sc_levels rfl (by decide) λ cdv A outer s H E hr hx hp => have hu := hr.units; 
  (rf_one (rf_for (i := 2) (k := .b) (fg := [2]) (Or.inl rfl) (by decide) sc_levels.nd rfl (Or.inl rfl) PassesOwn.leaving rfl (di_seq (de_var 1 rfl rfl)) (ds_one (ds_drop (de_meth (c := 0) ClW M_refuse_unknown G_refuse_unknown hr B_refuse_unknown (λ δ ds h => congrArg (· + 1) ((gCons_len gNil_len) δ ds h)) (de_var 0 rfl rfl) (da_cons (de_var 2 rfl rfl) da_nil)))) (rf_one (rf_expr (dex_meth (c := 0) hp ClW M_refuse_unknown X_refuse_unknown hr B_refuse_unknown (λ δ ds h => congrArg (· + 1) ((gCons_len gNil_len) δ ds h)) (de_var 0 rfl rfl) (da_cons (de_var 2 rfl rfl) da_nil)) (λ o_ h => nomatch h))) rfl))
theorem sc_living : FnScope ["web", "taken"] ["web", "taken"] (defScope s_living) := ⟨rfl, rfl, rfl, by decide +kernel, rfl, by decide +kernel, by decide +kernel⟩
theorem x_living {r : Nat} {f_living : Addr} {e_living : FuncData} (D_living : Df K mg "living" s_living ["web", "taken"] f_living e_living) {f_levels : Addr} {e_levels : FuncData} (D_levels : Df K mg "levels" s_levels ["web", "taken"] f_levels e_levels) {E_levels : PX} (X_levels : FnOk P w K mg base (CXF P w) r f_levels e_levels ["web", "taken"] (spE K cl ce 2 E_levels)) :
    FnOk P w K mg base (CXF P w) (r + 1) f_living e_living ["web", "taken"] (spE K cl ce 2 (runX 2 (h_living E_levels))) :=
  fn_X (κ := [.b, .b]) D_living.F sc_living rfl (by decide) λ cdv A outer s H E hr hx hp => have hu := hr.units; 
  (rf_one (rf_ret (dex_compR rfl (dex_call hp D_levels X_levels hr rfl (gCons_len (gCons_len gNil_len)) (da_cons (de_var 0 rfl rfl) (da_cons (de_var 1 rfl rfl) da_nil)))) (λ o_ h => nomatch h)))
end
noncomputable def noL (K : PySem.W.Frag) : Bool := K.all λ p => match p.2.cls with | .type t => !(t == "list") | _ => true
theorem noL_no {K : PySem.W.Frag} (h : noL K = true) {a : Addr} {o : Obj} (e : K.lookup a = some o) (c : o.cls = .type "list") : False := by
  unfold noL at h
  rw [List.all_eq_true] at h
  have m : (a, o) ∈ K := by
    clear h
    induction K with
    | nil => cases e
    | cons p r ih =>
      obtain ⟨b, u⟩ := p
      rw [List.lookup_cons] at e
      by_cases q : a = b
      · subst q
        rw [beq_self_eq_true] at e
        cases e
        exact List.mem_cons_self ..
      · rw [beq_eq_false_iff_ne.mpr q] at e
        exact List.mem_cons_of_mem _ (ih e)
  have := h _ m
  dsimp only at this
  rw [c] at this
  simp at this
theorem ats_script {K : PySem.W.Frag} {cl : Nat -> Addr} {H : Hp} {a : Addr} {ns : List Int} (hk : noL K = true) (h : SqL K H a (ns.map V.int)) : Ats K cl H (λ o_ => True) [.ref a] [intsL ns] := by
  have hi : ∀ l : List Int, Ats K cl H (λ o_ => True) (l.map V.int) (l.map D.int) := λ l => by
    induction l with
    | nil => exact Ats.nil
    | cons i r ih => exact ⟨by rw [At], ih⟩
  rcases h with h | ⟨o, its, n, e, c, _⟩
  · refine ⟨?_, Ats.nil⟩
    unfold intsL
    rw [At]
    exact ⟨a, _, rfl, trivial, h, hi ns⟩
  · exact (noL_no hk e c).elim
theorem fn_un {P : Program} {w : World} {K : PySem.W.Frag} {mg : Str -> Option Value} {base : Heap} {cl : Nat -> Addr} {k n : Nat} {f : Addr} {fd : FuncData} {ps : List Str} : FnOk P w K mg base CX0 k f fd ps (spD K cl n λ o_ => .un) :=
  ⟨λ vs H Q E h => (by obtain ⟨ds, d, _, _, e, _⟩ := h; cases e), λ A outer s H args us vs Q E o_ o_ o_ o_ h => (by obtain ⟨ds, d, _, _, e, _⟩ := h; cases e)⟩
theorem sc___init__ : FnScope ["self"] ["self"] (defScope s___init__) := ⟨rfl, rfl, rfl, by decide +kernel, rfl, by decide +kernel, by decide +kernel⟩
theorem ok_init {P : Program} {w : World} {K : PySem.W.Frag} {mg : Str -> Option Value} {base : Heap} {f C : Addr} {fd : FuncData} (F : Fun K "__init__" "Web.__init__" s___init__ f fd) (cl : Cls K C) (na : NoAttr K C "need_by_name") : FnOk P w K mg base CX0 1 f fd ["self"] (spInit C "need_by_name") := by
  refine F.ok sc___init__ (λ vs H Q E h => ?_) (λ cdv A outer s H vs Q E hr h => ?_)
  · obtain ⟨q, dx, rfl, _⟩ := h
    rfl
  · obtain ⟨q, dx, rfl, hq, k⟩ := h
    refine ⟨_, pss_one (ps_fld (pe_var (i := 0) rfl (Or.inl rfl) (by decide) (by decide)) pe_dnewK rfl), ?_⟩
    intro d hd
    have nqd : q ≠ d := ne_of_none hq hd
    refine ⟨_, rfl, q, C, dx, [], rfl, (by rw [upd_ne nqd]; exact hq), cl, na, (by show 0 < 1000; decide), ?_⟩
    exact k d hd
theorem all_ok {P : Program} {w : World} {K : PySem.W.Frag} {mg : Str -> Option Value} {base : Heap} {cl : Nat -> Addr} (ClW : Cls K (cl 0)) (NaW : NoAttr K (cl 0) "need_by_name") {f_init : Addr} {e_init : FuncData} (R_init : Fun K "__init__" "Web.__init__" s___init__ f_init e_init) (MkW : Mk K (cl 0) f_init) (b_init : Binds K e_init ["self"] []) (m_Web : mg "Web" = some (.ref (cl 0))) {f_add : Addr} {e_add : FuncData} (R_add : Fun K "add" "Web.add" s_add f_add e_add) (M_add : Meth K (cl 0) "add" f_add) (B_add : Binds K e_add ["self", "name", "need"] []) {f_kinds : Addr} {e_kinds : FuncData} (R_kinds : Fun K "kinds" "Web.kinds" s_kinds f_kinds e_kinds) (M_kinds : Meth K (cl 0) "kinds" f_kinds) (B_kinds : Binds K e_kinds ["self"] []) {f_refuse_unknown : Addr} {e_refuse_unknown : FuncData} (R_refuse_unknown : Fun K "refuse_unknown" "Web.refuse_unknown" s_refuse_unknown f_refuse_unknown e_refuse_unknown) (M_refuse_unknown : Meth K (cl 0) "refuse_unknown" f_refuse_unknown) (B_refuse_unknown : Binds K e_refuse_unknown ["self", "name"] []) {f_is_name : Addr} {e_is_name : FuncData} (D_is_name : Df K mg "is_name" s_is_name ["text"] f_is_name e_is_name) {f__law_cell_at : Addr} {e__law_cell_at : FuncData} (D__law_cell_at : Df K mg "_law_cell_at" s__law_cell_at ["script", "k"] f__law_cell_at e__law_cell_at) {f__law_next : Addr} {e__law_next : FuncData} (D__law_next : Df K mg "_law_next" s__law_next ["seed"] f__law_next e__law_next) {f__law_names : Addr} {e__law_names : FuncData} (D__law_names : Df K mg "_law_names" s__law_names ["cell", "many"] f__law_names e__law_names) {f__law_need : Addr} {e__law_need : FuncData} (D__law_need : Df K mg "_law_need" s__law_need ["seed", "deep", "pool", "simple"] f__law_need e__law_need) {f__law_drawn : Addr} {e__law_drawn : FuncData} (D__law_drawn : Df K mg "_law_drawn" s__law_drawn ["script", "simple"] f__law_drawn e__law_drawn) {f__law_built : Addr} {e__law_built : FuncData} (D__law_built : Df K mg "_law_built" s__law_built ["kinds", "needs"] f__law_built e__law_built) {f_cut : Addr} {e_cut : FuncData} (D_cut : Df K mg "cut" s_cut ["web", "name"] f_cut e_cut) {f_felled : Addr} {e_felled : FuncData} (D_felled : Df K mg "felled" s_felled ["web", "name"] f_felled e_felled) {f_hangs_on : Addr} {e_hangs_on : FuncData} (D_hangs_on : Df K mg "hangs_on" s_hangs_on ["web", "name"] f_hangs_on e_hangs_on) {f_levels : Addr} {e_levels : FuncData} (D_levels : Df K mg "levels" s_levels ["web", "taken"] f_levels e_levels) {f_living : Addr} {e_living : FuncData} (D_living : Df K mg "living" s_living ["web", "taken"] f_living e_living) {f__law_tried : Addr} {e__law_tried : FuncData} (D__law_tried : Df K mg "_law_tried" s__law_tried ["turn", "web", "name", "taken"] f__law_tried e__law_tried) {f_law : Addr} {e_law : FuncData} (D_law : Df K mg "law" s_law ["script"] f_law e_law) {tk_MOST_KINDS : Tok} (c_MOST_KINDS : mg "MOST_KINDS" = some (.int 16 tk_MOST_KINDS)) {tk_MOST_LETTERS : Tok} (c_MOST_LETTERS : mg "MOST_LETTERS" = some (.int 8 tk_MOST_LETTERS)) {ad_KEPT_WORDS : Addr} {ob_KEPT_WORDS : Obj} {its_KEPT_WORDS : Array Value} {n_KEPT_WORDS : Nat} (w_KEPT_WORDS : mg "KEPT_WORDS" = some (.ref ad_KEPT_WORDS)) (k_KEPT_WORDS : K.lookup ad_KEPT_WORDS = some ob_KEPT_WORDS) (c_KEPT_WORDS : ob_KEPT_WORDS.cls = .type "tuple") (d_KEPT_WORDS : ob_KEPT_WORDS.data = .seq its_KEPT_WORDS n_KEPT_WORDS) (z_KEPT_WORDS : its_KEPT_WORDS.size <= sizeLine) (v_KEPT_WORDS : Vals (wKEPT_WORDS.map V.str) its_KEPT_WORDS.toList) {ce : Nat -> Addr} {FE : Addr} (e_FeedError : mg "FeedError" = some (.ref FE)) (ko : ∀ c ∈ CS, KindOk K ce FE c) (e_NoName : mg "NoName" = some (.ref (ce 0))) (e_Twice : mg "Twice" = some (.ref (ce 1))) (e_Full : mg "Full" = some (.ref (ce 2))) (e_NoKind : mg "NoKind" = some (.ref (ce 3))) (e_TooLarge : mg "TooLarge" = some (.ref (ce 4))) (e_NotPlain : mg "NotPlain" = some (.ref (ce 5))) (e_NoNote : mg "NoNote" = some (.ref (ce 6))) (q_NoKind : PySem.W.excIn K (ce 3) bmVE "ValueError.__new__" = true) {f__law_kind : Addr} {e__law_kind : FuncData} (D__law_kind : Df K mg "_law_kind" s__law_kind ["e"] f__law_kind e__law_kind) (m_ValueError : mg "ValueError" = none) (m_all : mg "all" = none) (m_isinstance : mg "isinstance" = none) (m_len : mg "len" = none) (m_list : mg "list" = none) (m_range : mg "range" = none) (m_tuple : mg "tuple" = none) :
    FnOk P w K mg base CX0 11 f_law e_law ["script"] (spD K cl 1 F_law) := by
  have G_init : FnOk P w K mg base CX0 1 f_init e_init ["self"] (spInit (cl 0) "need_by_name") := ok_init R_init ClW NaW
  have MK : ∀ c ∈ CS, FnM P w K mg base 1 f__law_kind e__law_kind "e" (ce c) ((kindW[c]?).getD "") := λ c hc => m__law_kind D__law_kind (ko c hc) e_NoName e_Twice e_Full e_NoKind e_TooLarge e_NotPlain e_NoNote m_isinstance m_ValueError
  have G_is_name : FnOk P w K mg base CX0 1 f_is_name e_is_name ["text"] (spD K cl 1 F_is_name) := d_is_name (r := 0) (D_is_name := D_is_name) (c_MOST_LETTERS := c_MOST_LETTERS) (w_KEPT_WORDS := w_KEPT_WORDS) (k_KEPT_WORDS := k_KEPT_WORDS) (c_KEPT_WORDS := c_KEPT_WORDS) (d_KEPT_WORDS := d_KEPT_WORDS) (z_KEPT_WORDS := z_KEPT_WORDS) (v_KEPT_WORDS := v_KEPT_WORDS) (m_all := m_all) (m_len := m_len)
  have G_add : FnOk P w K mg base CX0 2 f_add e_add ["self", "name", "need"] (spI K cl 3 1 F_add) := d_add (r := 1) (R_add := R_add) (D_is_name := D_is_name) (G_is_name := G_is_name.mono (by omega)) (ClW := ClW) (NaW := NaW) (c_MOST_KINDS := c_MOST_KINDS) (m_len := m_len)
  have G_kinds : FnOk P w K mg base CX0 1 f_kinds e_kinds ["self"] (spD K cl 1 F_kinds) := d_kinds (r := 0) (R_kinds := R_kinds) (ClW := ClW) (NaW := NaW) (m_list := m_list)
  have G_refuse_unknown : FnOk P w K mg base CX0 1 f_refuse_unknown e_refuse_unknown ["self", "name"] (spD K cl 2 F_refuse_unknown) := d_refuse_unknown (r := 0) (R_refuse_unknown := R_refuse_unknown) (ClW := ClW) (NaW := NaW)
  have G__law_cell_at : FnOk P w K mg base CX0 1 f__law_cell_at e__law_cell_at ["script", "k"] (spD K cl 2 F__law_cell_at) := d__law_cell_at (r := 0) (D__law_cell_at := D__law_cell_at) (m_len := m_len)
  have G__law_next : FnOk P w K mg base CX0 1 f__law_next e__law_next ["seed"] (spD K cl 1 F__law_next) := d__law_next (r := 0) (D__law_next := D__law_next)
  have G__law_names : FnOk P w K mg base CX0 1 f__law_names e__law_names ["cell", "many"] (spD K cl 2 F__law_names) := d__law_names (r := 0) (D__law_names := D__law_names) (m_len := m_len) (m_range := m_range)
  have G'__law_need : ∀ n, FnOk P w K mg base CX0 (1 + n) f__law_need e__law_need ["seed", "deep", "pool", "simple"] (spD K cl 4 (F__law_need n)) := λ n => by
    induction n with
    | zero => exact fn_un
    | succ n ih => exact d__law_need (r := 1 + n) (D__law_need := D__law_need) (G__law_need := ih) (D__law_next := D__law_next) (G__law_next := G__law_next.mono (by omega)) (m_len := m_len) (m_range := m_range) (m_tuple := m_tuple)
  have G__law_need : FnOk P w K mg base CX0 9 f__law_need e__law_need ["seed", "deep", "pool", "simple"] (spD K cl 4 (F__law_need 8)) := G'__law_need 8
  have G__law_drawn : FnOk P w K mg base CX0 10 f__law_drawn e__law_drawn ["script", "simple"] (spD K cl 2 F__law_drawn) := d__law_drawn (r := 9) (D__law_drawn := D__law_drawn) (D__law_cell_at := D__law_cell_at) (G__law_cell_at := G__law_cell_at.mono (by omega)) (D__law_names := D__law_names) (G__law_names := G__law_names.mono (by omega)) (D__law_need := D__law_need) (G__law_need := G__law_need.mono (by omega)) (D__law_next := D__law_next) (G__law_next := G__law_next.mono (by omega)) (m_range := m_range)
  have G__law_built : FnOk P w K mg base CX0 5 f__law_built e__law_built ["kinds", "needs"] (spD K cl 2 F__law_built) := d__law_built (r := 2) (D__law_built := D__law_built) (M_add := M_add) (B_add := B_add) (G_add := G_add.mono (by omega)) (ClW := ClW) (NaW := NaW) (MkW := MkW) (G_init := G_init) (b_init := b_init) (m_Web := m_Web) (m_len := m_len) (m_range := m_range)
  have X_refuse_unknown : FnOk P w K mg base (CXF P w) 1 f_refuse_unknown e_refuse_unknown ["self", "name"] (spE K cl ce 2 E_refuse_unknown) := x_refuse_unknown (r := 0) (R_refuse_unknown := R_refuse_unknown) (ClW := ClW) (NaW := NaW) (e_NoKind := e_NoKind) (q_NoKind := q_NoKind)
  have X_cut : FnOk P w K mg base (CXF P w) 2 f_cut e_cut ["web", "name"] (spE K cl ce 2 E_cut) := x_cut (r := 1) (D_cut := D_cut) (M_refuse_unknown := M_refuse_unknown) (B_refuse_unknown := B_refuse_unknown) (X_refuse_unknown := X_refuse_unknown.mono (by omega)) (ClW := ClW) (NaW := NaW)
  have X_felled : FnOk P w K mg base (CXF P w) 2 f_felled e_felled ["web", "name"] (spE K cl ce 2 E_felled) := x_felled (r := 1) (D_felled := D_felled) (M_refuse_unknown := M_refuse_unknown) (B_refuse_unknown := B_refuse_unknown) (X_refuse_unknown := X_refuse_unknown.mono (by omega)) (ClW := ClW) (NaW := NaW)
  have X_hangs_on : FnOk P w K mg base (CXF P w) 2 f_hangs_on e_hangs_on ["web", "name"] (spE K cl ce 2 E_hangs_on) := x_hangs_on (r := 1) (D_hangs_on := D_hangs_on) (M_refuse_unknown := M_refuse_unknown) (B_refuse_unknown := B_refuse_unknown) (X_refuse_unknown := X_refuse_unknown.mono (by omega)) (ClW := ClW) (NaW := NaW)
  have X_levels : FnOk P w K mg base (CXF P w) 2 f_levels e_levels ["web", "taken"] (spE K cl ce 2 E_levels) := x_levels (r := 1) (D_levels := D_levels) (M_refuse_unknown := M_refuse_unknown) (B_refuse_unknown := B_refuse_unknown) (G_refuse_unknown := G_refuse_unknown.mono (by omega)) (X_refuse_unknown := X_refuse_unknown.mono (by omega)) (ClW := ClW) (NaW := NaW)
  have X_living : FnOk P w K mg base (CXF P w) 3 f_living e_living ["web", "taken"] (spE K cl ce 2 E_living) := x_living (r := 2) (D_living := D_living) (D_levels := D_levels) (X_levels := X_levels.mono (by omega))
  have G__law_tried : FnOk P w K mg base CX0 5 f__law_tried e__law_tried ["turn", "web", "name", "taken"] (spD K cl 4 F__law_tried) := d__law_tried (r := 3) (D__law_tried := D__law_tried) (D_cut := D_cut) (X_cut := X_cut.mono (by omega)) (D_felled := D_felled) (X_felled := X_felled.mono (by omega)) (D_hangs_on := D_hangs_on) (X_hangs_on := X_hangs_on.mono (by omega)) (D_levels := D_levels) (X_levels := X_levels.mono (by omega)) (D_living := D_living) (X_living := X_living.mono (by omega)) (e_FeedError := e_FeedError) (xm := λ c hc => (ko c hc).xm) (D__law_kind := D__law_kind) (MK := MK)
  have G_law : FnOk P w K mg base CX0 11 f_law e_law ["script"] (spD K cl 1 F_law) := d_law (r := 10) (D_law := D_law) (D__law_built := D__law_built) (G__law_built := G__law_built.mono (by omega)) (D__law_cell_at := D__law_cell_at) (G__law_cell_at := G__law_cell_at.mono (by omega)) (D__law_drawn := D__law_drawn) (G__law_drawn := G__law_drawn.mono (by omega)) (D__law_next := D__law_next) (G__law_next := G__law_next.mono (by omega)) (D__law_tried := D__law_tried) (G__law_tried := G__law_tried.mono (by omega)) (M_kinds := M_kinds) (B_kinds := B_kinds) (G_kinds := G_kinds.mono (by omega)) (ClW := ClW) (NaW := NaW) (m_len := m_len) (m_range := m_range)
  exact G_law
noncomputable def spLaw (K : PySem.W.Frag) : Sp := λ vs H Q o_ => ∃ (a : Addr) (ns : List Int), vs = [.ref a] /\ SqL K H a (ns.map V.int) /\ ns.length <= 63 /\ ∀ H', Q (.bl true) H'
theorem law_imp {K : PySem.W.Frag} {cl : Nat -> Addr} {vs : List V} {H : Hp} {Q : VK} {E : XK} (hk : noL K = true) (h : spLaw K vs H Q E) : spD K cl 1 F_law vs H Q E := by
  obtain ⟨a, ns, rfl, hs, hl, z⟩ := h
  refine ⟨[intsL ns], .bl true, rfl, ats_script hk hs, law_k08 ns, λ v H' o_ hv o_ => ?_⟩
  rw [At] at hv
  rw [hv]
  exact z H'
theorem arity1 {P : List Value -> Prop} (h : ∀ v0, P [v0]) : ∀ us : List Value, us.length = 1 -> P us
  | [v0], _ => h v0
theorem arity2 {P : List Value -> Prop} (h : ∀ v0 v1, P [v0, v1]) : ∀ us : List Value, us.length = 2 -> P us
  | [v0, v1], _ => h v0 v1
theorem arity3 {P : List Value -> Prop} (h : ∀ v0 v1 v2, P [v0, v1, v2]) : ∀ us : List Value, us.length = 3 -> P us
  | [v0, v1, v2], _ => h v0 v1 v2
theorem arity4 {P : List Value -> Prop} (h : ∀ v0 v1 v2 v3, P [v0, v1, v2, v3]) : ∀ us : List Value, us.length = 4 -> P us
  | [v0, v1, v2, v3], _ => h v0 v1 v2 v3
set_option maxHeartbeats 0 in
theorem all_mk {l : PySem.W.OpenLaw} {w : World} {K : PySem.W.Frag} {h : Heap} {mg : Str -> Option Value} {fa CW f1 f2 f3 f4 f5 f6 f7 f8 f9 f10 f11 f12 f13 f14 f15 f16 f17 f18 f19 : Addr} (X : K.In h) (G : h.Ns mainGlobals mg) (hfa : mg "law" = some (.ref fa)) (hkl : noL K = true)
    {od1 an1 od2 an2 od3 an3 od4 an4 od5 an5 od6 an6 od7 an7 od8 an8 od9 an9 od10 an10 od11 an11 od12 an12 od13 an13 od14 an14 od15 an15 od16 an16 od17 an17 od18 an18 od19 an19 : Option Addr} {sl1 sl2 sl3 sl4 sl5 sl6 sl7 sl8 sl9 sl10 sl11 sl12 sl13 sl14 sl15 sl16 sl17 sl18 sl19 : Array (Option Value)} {oc1 kV1 dc1 pm1 cd1 ct1 oc2 kV2 dc2 pm2 cd2 ct2 oc3 kV3 dc3 pm3 cd3 ct3 oc4 kV4 dc4 pm4 cd4 ct4 oc5 kV5 dc5 pm5 cd5 ct5 oc6 kV6 dc6 pm6 cd6 ct6 oc7 kV7 dc7 pm7 cd7 ct7 oc8 kV8 dc8 pm8 cd8 ct8 oc9 kV9 dc9 pm9 cd9 ct9 oc10 kV10 dc10 pm10 cd10 ct10 oc11 kV11 dc11 pm11 cd11 ct11 oc12 kV12 dc12 pm12 cd12 ct12 oc13 kV13 dc13 pm13 cd13 ct13 oc14 kV14 dc14 pm14 cd14 ct14 oc15 kV15 dc15 pm15 cd15 ct15 oc16 kV16 dc16 pm16 cd16 ct16 oc17 kV17 dc17 pm17 cd17 ct17 oc18 kV18 dc18 pm18 cd18 ct18 oc19 kV19 dc19 pm19 cd19 ct19 : Value}
    (aC : PySem.W.nsIn K mainGlobals "Web" = some (some (.ref CW)))
    (a1 : PySem.W.findIn K (.ref CW) "__init__" = some (some (.ref f1))) (i1 : PySem.W.isFn K (.ref f1) = true) (l1 : K.lookup f1 = some ⟨oc1, od1, .func (PySem.W.fnOf "__init__" "Web.__init__" (defArgs s___init__) (defBody s___init__) (defScope s___init__) .none kV1 dc1 pm1 an1 cd1 ct1), sl1⟩) (c1 : PySem.W.codeIn K cd1 "Web.__init__" = true) (k1 : PySem.W.keepIn K (.ref f1) = true)
    (a2 : PySem.W.findIn K (.ref CW) "add" = some (some (.ref f2))) (i2 : PySem.W.isFn K (.ref f2) = true) (l2 : K.lookup f2 = some ⟨oc2, od2, .func (PySem.W.fnOf "add" "Web.add" (defArgs s_add) (defBody s_add) (defScope s_add) .none kV2 dc2 pm2 an2 cd2 ct2), sl2⟩) (c2 : PySem.W.codeIn K cd2 "Web.add" = true) (k2 : PySem.W.keepIn K (.ref f2) = true)
    (a3 : PySem.W.findIn K (.ref CW) "kinds" = some (some (.ref f3))) (i3 : PySem.W.isFn K (.ref f3) = true) (l3 : K.lookup f3 = some ⟨oc3, od3, .func (PySem.W.fnOf "kinds" "Web.kinds" (defArgs s_kinds) (defBody s_kinds) (defScope s_kinds) .none kV3 dc3 pm3 an3 cd3 ct3), sl3⟩) (c3 : PySem.W.codeIn K cd3 "Web.kinds" = true) (k3 : PySem.W.keepIn K (.ref f3) = true)
    (a4 : PySem.W.findIn K (.ref CW) "refuse_unknown" = some (some (.ref f4))) (i4 : PySem.W.isFn K (.ref f4) = true) (l4 : K.lookup f4 = some ⟨oc4, od4, .func (PySem.W.fnOf "refuse_unknown" "Web.refuse_unknown" (defArgs s_refuse_unknown) (defBody s_refuse_unknown) (defScope s_refuse_unknown) .none kV4 dc4 pm4 an4 cd4 ct4), sl4⟩) (c4 : PySem.W.codeIn K cd4 "Web.refuse_unknown" = true) (k4 : PySem.W.keepIn K (.ref f4) = true)
    (a5 : PySem.W.nsIn K mainGlobals "is_name" = some (some (.ref f5))) (l5 : K.lookup f5 = some ⟨oc5, od5, .func (PySem.W.fnOf "is_name" "is_name" (defArgs s_is_name) (defBody s_is_name) (defScope s_is_name) .none kV5 dc5 pm5 an5 cd5 ct5), sl5⟩) (c5 : PySem.W.codeIn K cd5 "is_name" = true) (k5 : PySem.W.keepIn K (.ref f5) = true)
    (a6 : PySem.W.nsIn K mainGlobals "_law_cell_at" = some (some (.ref f6))) (l6 : K.lookup f6 = some ⟨oc6, od6, .func (PySem.W.fnOf "_law_cell_at" "_law_cell_at" (defArgs s__law_cell_at) (defBody s__law_cell_at) (defScope s__law_cell_at) .none kV6 dc6 pm6 an6 cd6 ct6), sl6⟩) (c6 : PySem.W.codeIn K cd6 "_law_cell_at" = true) (k6 : PySem.W.keepIn K (.ref f6) = true)
    (a7 : PySem.W.nsIn K mainGlobals "_law_next" = some (some (.ref f7))) (l7 : K.lookup f7 = some ⟨oc7, od7, .func (PySem.W.fnOf "_law_next" "_law_next" (defArgs s__law_next) (defBody s__law_next) (defScope s__law_next) .none kV7 dc7 pm7 an7 cd7 ct7), sl7⟩) (c7 : PySem.W.codeIn K cd7 "_law_next" = true) (k7 : PySem.W.keepIn K (.ref f7) = true)
    (a8 : PySem.W.nsIn K mainGlobals "_law_names" = some (some (.ref f8))) (l8 : K.lookup f8 = some ⟨oc8, od8, .func (PySem.W.fnOf "_law_names" "_law_names" (defArgs s__law_names) (defBody s__law_names) (defScope s__law_names) .none kV8 dc8 pm8 an8 cd8 ct8), sl8⟩) (c8 : PySem.W.codeIn K cd8 "_law_names" = true) (k8 : PySem.W.keepIn K (.ref f8) = true)
    (a9 : PySem.W.nsIn K mainGlobals "_law_need" = some (some (.ref f9))) (l9 : K.lookup f9 = some ⟨oc9, od9, .func (PySem.W.fnOf "_law_need" "_law_need" (defArgs s__law_need) (defBody s__law_need) (defScope s__law_need) .none kV9 dc9 pm9 an9 cd9 ct9), sl9⟩) (c9 : PySem.W.codeIn K cd9 "_law_need" = true) (k9 : PySem.W.keepIn K (.ref f9) = true)
    (a10 : PySem.W.nsIn K mainGlobals "_law_drawn" = some (some (.ref f10))) (l10 : K.lookup f10 = some ⟨oc10, od10, .func (PySem.W.fnOf "_law_drawn" "_law_drawn" (defArgs s__law_drawn) (defBody s__law_drawn) (defScope s__law_drawn) .none kV10 dc10 pm10 an10 cd10 ct10), sl10⟩) (c10 : PySem.W.codeIn K cd10 "_law_drawn" = true) (k10 : PySem.W.keepIn K (.ref f10) = true)
    (a11 : PySem.W.nsIn K mainGlobals "_law_built" = some (some (.ref f11))) (l11 : K.lookup f11 = some ⟨oc11, od11, .func (PySem.W.fnOf "_law_built" "_law_built" (defArgs s__law_built) (defBody s__law_built) (defScope s__law_built) .none kV11 dc11 pm11 an11 cd11 ct11), sl11⟩) (c11 : PySem.W.codeIn K cd11 "_law_built" = true) (k11 : PySem.W.keepIn K (.ref f11) = true)
    (a12 : PySem.W.nsIn K mainGlobals "cut" = some (some (.ref f12))) (l12 : K.lookup f12 = some ⟨oc12, od12, .func (PySem.W.fnOf "cut" "cut" (defArgs s_cut) (defBody s_cut) (defScope s_cut) .none kV12 dc12 pm12 an12 cd12 ct12), sl12⟩) (c12 : PySem.W.codeIn K cd12 "cut" = true) (k12 : PySem.W.keepIn K (.ref f12) = true)
    (a13 : PySem.W.nsIn K mainGlobals "felled" = some (some (.ref f13))) (l13 : K.lookup f13 = some ⟨oc13, od13, .func (PySem.W.fnOf "felled" "felled" (defArgs s_felled) (defBody s_felled) (defScope s_felled) .none kV13 dc13 pm13 an13 cd13 ct13), sl13⟩) (c13 : PySem.W.codeIn K cd13 "felled" = true) (k13 : PySem.W.keepIn K (.ref f13) = true)
    (a14 : PySem.W.nsIn K mainGlobals "hangs_on" = some (some (.ref f14))) (l14 : K.lookup f14 = some ⟨oc14, od14, .func (PySem.W.fnOf "hangs_on" "hangs_on" (defArgs s_hangs_on) (defBody s_hangs_on) (defScope s_hangs_on) .none kV14 dc14 pm14 an14 cd14 ct14), sl14⟩) (c14 : PySem.W.codeIn K cd14 "hangs_on" = true) (k14 : PySem.W.keepIn K (.ref f14) = true)
    (a15 : PySem.W.nsIn K mainGlobals "levels" = some (some (.ref f15))) (l15 : K.lookup f15 = some ⟨oc15, od15, .func (PySem.W.fnOf "levels" "levels" (defArgs s_levels) (defBody s_levels) (defScope s_levels) .none kV15 dc15 pm15 an15 cd15 ct15), sl15⟩) (c15 : PySem.W.codeIn K cd15 "levels" = true) (k15 : PySem.W.keepIn K (.ref f15) = true)
    (a16 : PySem.W.nsIn K mainGlobals "living" = some (some (.ref f16))) (l16 : K.lookup f16 = some ⟨oc16, od16, .func (PySem.W.fnOf "living" "living" (defArgs s_living) (defBody s_living) (defScope s_living) .none kV16 dc16 pm16 an16 cd16 ct16), sl16⟩) (c16 : PySem.W.codeIn K cd16 "living" = true) (k16 : PySem.W.keepIn K (.ref f16) = true)
    (a17 : PySem.W.nsIn K mainGlobals "_law_tried" = some (some (.ref f17))) (l17 : K.lookup f17 = some ⟨oc17, od17, .func (PySem.W.fnOf "_law_tried" "_law_tried" (defArgs s__law_tried) (defBody s__law_tried) (defScope s__law_tried) .none kV17 dc17 pm17 an17 cd17 ct17), sl17⟩) (c17 : PySem.W.codeIn K cd17 "_law_tried" = true) (k17 : PySem.W.keepIn K (.ref f17) = true)
    (a18 : PySem.W.nsIn K mainGlobals "law" = some (some (.ref f18))) (l18 : K.lookup f18 = some ⟨oc18, od18, .func (PySem.W.fnOf "law" "law" (defArgs s_law) (defBody s_law) (defScope s_law) .none kV18 dc18 pm18 an18 cd18 ct18), sl18⟩) (c18 : PySem.W.codeIn K cd18 "law" = true) (k18 : PySem.W.keepIn K (.ref f18) = true)
    (a19 : PySem.W.nsIn K mainGlobals "_law_kind" = some (some (.ref f19))) (l19 : K.lookup f19 = some ⟨oc19, od19, .func (PySem.W.fnOf "_law_kind" "_law_kind" (defArgs s__law_kind) (defBody s__law_kind) (defScope s__law_kind) .none kV19 dc19 pm19 an19 cd19 ct19), sl19⟩) (c19 : PySem.W.codeIn K cd19 "_law_kind" = true) (k19 : PySem.W.keepIn K (.ref f19) = true)
    (pg : PySem.W.plainGet K CW Str.empty = true) (hd : PySem.W.hasDictIn K CW = true) (po : PySem.W.plainOver K CW = true) (sa : PySem.W.findIn K (.ref CW) "__setattr__" = some (some (.builtin "object.__setattr__"))) (mk : PySem.W.makesIn K CW = true) (kc : PySem.W.keepIn K (.ref CW) = true) (nF : PySem.W.findIn K (.ref CW) "need_by_name" = some none)
    {C0 C1 C2 C3 C4 C5 C6 FE : Addr} (x0 : PySem.W.nsIn K mainGlobals "NoName" = some (some (.ref C0))) (x1 : PySem.W.nsIn K mainGlobals "Twice" = some (some (.ref C1))) (x2 : PySem.W.nsIn K mainGlobals "Full" = some (some (.ref C2))) (x3 : PySem.W.nsIn K mainGlobals "NoKind" = some (some (.ref C3))) (x4 : PySem.W.nsIn K mainGlobals "TooLarge" = some (some (.ref C4))) (x5 : PySem.W.nsIn K mainGlobals "NotPlain" = some (some (.ref C5))) (x6 : PySem.W.nsIn K mainGlobals "NoNote" = some (some (.ref C6))) (xFE : PySem.W.nsIn K mainGlobals "FeedError" = some (some (.ref FE)))
    (q_NoKind : PySem.W.excIn K C3 bmVE "ValueError.__new__" = true) (ga_3 : PySem.W.findIn K (.ref C3) "__getattribute__" = some (some (.builtin "BaseException.__getattribute__"))) (gt_3 : PySem.W.findIn K (.ref C3) "__getattr__" = some none) (fc_3 : PySem.W.findIn K (.ref C3) "__class__" = some (some (.builtin "object.__class__"))) (sg_3 : PySem.W.specialIn K (.builtin "object.__class__") "__get__" = some (some (.builtin "getset_descriptor.__get__"))) (tk_3 : PySem.W.takesIn K (.builtin "object.__class__") = some true) (mo_3 : PySem.W.mroIn K C3 (.type "object") = some true) (mb_3 : PySem.W.mroIn K C3 (.type "BaseException") = some true) (cl_3 : (PySem.W.clsIn K C3).isSome = true) (k0_3 : PySem.W.kitOne K (.ref C3) (.ref C0) = some false) (k1_3 : PySem.W.kitOne K (.ref C3) (.ref C1) = some false) (k2_3 : PySem.W.kitOne K (.ref C3) (.ref C2) = some false) (k3_3 : PySem.W.kitOne K (.ref C3) (.ref C3) = some true) (k4_3 : PySem.W.kitOne K (.ref C3) (.ref C4) = some false) (k5_3 : PySem.W.kitOne K (.ref C3) (.ref C5) = some false) (k6_3 : PySem.W.kitOne K (.ref C3) (.ref C6) = some false) (kv_3 : PySem.W.kitOne K (.ref C3) (.type "ValueError") = some true) (xm_3 : PySem.W.exmOne K (.ref C3) (.ref FE) = some true)
   
    {tk_MOST_KINDS : Tok} (y_MOST_KINDS : PySem.W.nsIn K mainGlobals "MOST_KINDS" = some (some (.int 16 tk_MOST_KINDS)))
    {tk_MOST_LETTERS : Tok} (y_MOST_LETTERS : PySem.W.nsIn K mainGlobals "MOST_LETTERS" = some (some (.int 8 tk_MOST_LETTERS)))
    {ad_KEPT_WORDS : Addr} {od_KEPT_WORDS : Option Addr} {sl_KEPT_WORDS : Array (Option Value)} {its_KEPT_WORDS : Array Value} {n_KEPT_WORDS : Nat} (y_KEPT_WORDS : PySem.W.nsIn K mainGlobals "KEPT_WORDS" = some (some (.ref ad_KEPT_WORDS))) (k_KEPT_WORDS : K.lookup ad_KEPT_WORDS = some ⟨.type "tuple", od_KEPT_WORDS, .seq its_KEPT_WORDS n_KEPT_WORDS, sl_KEPT_WORDS⟩) (zz_KEPT_WORDS : its_KEPT_WORDS.size <= sizeLine) (vv_KEPT_WORDS : Vals (wKEPT_WORDS.map V.str) its_KEPT_WORDS.toList)
    (zValueError : PySem.W.nsIn K mainGlobals "ValueError" = some none) (zall : PySem.W.nsIn K mainGlobals "all" = some none) (zisinstance : PySem.W.nsIn K mainGlobals "isinstance" = some none) (zlen : PySem.W.nsIn K mainGlobals "len" = some none) (zlist : PySem.W.nsIn K mainGlobals "list" = some none) (zrange : PySem.W.nsIn K mainGlobals "range" = some none) (ztuple : PySem.W.nsIn K mainGlobals "tuple" = some none) :
    ∃ fd : FuncData, (∀ (s : Shared) (v : Value), BindsTo s fd ⟨[v], []⟩ [("script", v)]) /\ ∀ base : Heap, K.In base -> base.Ns mainGlobals mg -> FnOk l.prog w K mg base CX0 11 fa fd ["script"] (spLaw K) := by
  have e := hfa.symm.trans (PySem.W.mg_of X G a18)
  cases e
  have F1 := fun_mk (st := s___init__) l1 c1 k1
  have b1 := F1.binds (ps := ["self"]) λ o_ o_ o_ o_ o_ o_ => arity1 λ o_ => rfl
  have F2 := fun_mk (st := s_add) l2 c2 k2
  have b2 := F2.binds (ps := ["self", "name", "need"]) λ o_ o_ o_ o_ o_ o_ => arity3 λ o_ o_ o_ => rfl
  have F3 := fun_mk (st := s_kinds) l3 c3 k3
  have b3 := F3.binds (ps := ["self"]) λ o_ o_ o_ o_ o_ o_ => arity1 λ o_ => rfl
  have F4 := fun_mk (st := s_refuse_unknown) l4 c4 k4
  have b4 := F4.binds (ps := ["self", "name"]) λ o_ o_ o_ o_ o_ o_ => arity2 λ o_ o_ => rfl
  have F5 := fun_mk (st := s_is_name) l5 c5 k5
  have b5 := F5.binds (ps := ["text"]) λ o_ o_ o_ o_ o_ o_ => arity1 λ o_ => rfl
  have F6 := fun_mk (st := s__law_cell_at) l6 c6 k6
  have b6 := F6.binds (ps := ["script", "k"]) λ o_ o_ o_ o_ o_ o_ => arity2 λ o_ o_ => rfl
  have F7 := fun_mk (st := s__law_next) l7 c7 k7
  have b7 := F7.binds (ps := ["seed"]) λ o_ o_ o_ o_ o_ o_ => arity1 λ o_ => rfl
  have F8 := fun_mk (st := s__law_names) l8 c8 k8
  have b8 := F8.binds (ps := ["cell", "many"]) λ o_ o_ o_ o_ o_ o_ => arity2 λ o_ o_ => rfl
  have F9 := fun_mk (st := s__law_need) l9 c9 k9
  have b9 := F9.binds (ps := ["seed", "deep", "pool", "simple"]) λ o_ o_ o_ o_ o_ o_ => arity4 λ o_ o_ o_ o_ => rfl
  have F10 := fun_mk (st := s__law_drawn) l10 c10 k10
  have b10 := F10.binds (ps := ["script", "simple"]) λ o_ o_ o_ o_ o_ o_ => arity2 λ o_ o_ => rfl
  have F11 := fun_mk (st := s__law_built) l11 c11 k11
  have b11 := F11.binds (ps := ["kinds", "needs"]) λ o_ o_ o_ o_ o_ o_ => arity2 λ o_ o_ => rfl
  have F12 := fun_mk (st := s_cut) l12 c12 k12
  have b12 := F12.binds (ps := ["web", "name"]) λ o_ o_ o_ o_ o_ o_ => arity2 λ o_ o_ => rfl
  have F13 := fun_mk (st := s_felled) l13 c13 k13
  have b13 := F13.binds (ps := ["web", "name"]) λ o_ o_ o_ o_ o_ o_ => arity2 λ o_ o_ => rfl
  have F14 := fun_mk (st := s_hangs_on) l14 c14 k14
  have b14 := F14.binds (ps := ["web", "name"]) λ o_ o_ o_ o_ o_ o_ => arity2 λ o_ o_ => rfl
  have F15 := fun_mk (st := s_levels) l15 c15 k15
  have b15 := F15.binds (ps := ["web", "taken"]) λ o_ o_ o_ o_ o_ o_ => arity2 λ o_ o_ => rfl
  have F16 := fun_mk (st := s_living) l16 c16 k16
  have b16 := F16.binds (ps := ["web", "taken"]) λ o_ o_ o_ o_ o_ o_ => arity2 λ o_ o_ => rfl
  have F17 := fun_mk (st := s__law_tried) l17 c17 k17
  have b17 := F17.binds (ps := ["turn", "web", "name", "taken"]) λ o_ o_ o_ o_ o_ o_ => arity4 λ o_ o_ o_ o_ => rfl
  have F18 := fun_mk (st := s_law) l18 c18 k18
  have b18 := F18.binds (ps := ["script"]) λ o_ o_ o_ o_ o_ o_ => arity1 λ o_ => rfl
  have F19 := fun_mk (st := s__law_kind) l19 c19 k19
  have b19 := F19.binds (ps := ["e"]) λ o_ o_ o_ o_ o_ o_ => arity1 λ o_ => rfl
  exact ⟨PySem.W.fnOf "law" "law" (defArgs s_law) (defBody s_law) (defScope s_law) .none kV18 dc18 pm18 an18 cd18 ct18, λ s v => .of_eq rfl, λ base o_ o_ => (all_ok (cl := λ o_ => CW) (R_init := F1) (MkW := ⟨mk, a1, i1, kc⟩) (b_init := b1) (m_Web := PySem.W.mg_of X G aC) (ClW := ⟨pg, hd, po, sa⟩) (NaW := nF) (R_add := F2) (M_add := ⟨a2, i2, k2⟩) (B_add := b2) (R_kinds := F3) (M_kinds := ⟨a3, i3, k3⟩) (B_kinds := b3) (R_refuse_unknown := F4) (M_refuse_unknown := ⟨a4, i4, k4⟩) (B_refuse_unknown := b4) (D_is_name := ⟨F5, b5, PySem.W.mg_of X G a5⟩) (D__law_cell_at := ⟨F6, b6, PySem.W.mg_of X G a6⟩) (D__law_next := ⟨F7, b7, PySem.W.mg_of X G a7⟩) (D__law_names := ⟨F8, b8, PySem.W.mg_of X G a8⟩) (D__law_need := ⟨F9, b9, PySem.W.mg_of X G a9⟩) (D__law_drawn := ⟨F10, b10, PySem.W.mg_of X G a10⟩) (D__law_built := ⟨F11, b11, PySem.W.mg_of X G a11⟩) (D_cut := ⟨F12, b12, PySem.W.mg_of X G a12⟩) (D_felled := ⟨F13, b13, PySem.W.mg_of X G a13⟩) (D_hangs_on := ⟨F14, b14, PySem.W.mg_of X G a14⟩) (D_levels := ⟨F15, b15, PySem.W.mg_of X G a15⟩) (D_living := ⟨F16, b16, PySem.W.mg_of X G a16⟩) (D__law_tried := ⟨F17, b17, PySem.W.mg_of X G a17⟩) (D_law := ⟨F18, b18, PySem.W.mg_of X G a18⟩) (D__law_kind := ⟨F19, b19, PySem.W.mg_of X G a19⟩) (c_MOST_KINDS := PySem.W.mg_of X G y_MOST_KINDS) (c_MOST_LETTERS := PySem.W.mg_of X G y_MOST_LETTERS) (ce := ceOf [C0, C1, C2, C3, C4, C5, C6]) (FE := FE) (e_FeedError := PySem.W.mg_of X G xFE) (e_NoName := PySem.W.mg_of X G x0) (e_Twice := PySem.W.mg_of X G x1) (e_Full := PySem.W.mg_of X G x2) (e_NoKind := PySem.W.mg_of X G x3) (e_TooLarge := PySem.W.mg_of X G x4) (e_NotPlain := PySem.W.mg_of X G x5) (e_NoNote := PySem.W.mg_of X G x6) (q_NoKind := q_NoKind) (ko := (List.forall_mem_cons.2 ⟨⟨by decide, ⟨ga_3, gt_3, fc_3, sg_3, tk_3, mo_3, mb_3, cl_3⟩, k0_3, k1_3, k2_3, k3_3, k4_3, k5_3, k6_3, kv_3, xm_3⟩, (List.forall_mem_nil _)⟩)) (w_KEPT_WORDS := PySem.W.mg_of X G y_KEPT_WORDS) (k_KEPT_WORDS := k_KEPT_WORDS) (c_KEPT_WORDS := rfl) (d_KEPT_WORDS := rfl) (z_KEPT_WORDS := zz_KEPT_WORDS) (v_KEPT_WORDS := vv_KEPT_WORDS) (m_ValueError := PySem.W.mg_none_of X G zValueError) (m_all := PySem.W.mg_none_of X G zall) (m_isinstance := PySem.W.mg_none_of X G zisinstance) (m_len := PySem.W.mg_none_of X G zlen) (m_list := PySem.W.mg_none_of X G zlist) (m_range := PySem.W.mg_none_of X G zrange) (m_tuple := PySem.W.mg_none_of X G ztuple)).imp λ o_ o_ o_ o_ h => law_imp hkl h⟩
theorem walk {l : PySem.W.OpenLaw} {q : Program} {loose : List Str} {XP : (Str -> Option Value) -> Heap -> Prop} {YP : World -> Heap -> Prop} {d : DefRec} {K : Params -> PySem.W.Frag} (hn : l.most = some 63) (hdf : d.params.defaults = [])
    (hY : ∀ (w : World) (h : Heap), YP w h -> (K w.params).In h)
    (F : ∀ (w : World) (mg : Str -> Option Value) (fa : Addr) (h : Heap), (K w.params).In h -> h.Ns mainGlobals mg -> mg d.name = some (.ref fa) ->
      ∃ fd : FuncData, (∀ (s : Shared) (u : Value), BindsTo s fd ⟨[u], []⟩ [("script", u)]) /\ ∀ base : Heap, (K w.params).In base -> base.Ns mainGlobals mg -> FnOk l.prog w (K w.params) mg base CX0 11 fa fd ["script"] (spLaw (K w.params))) :
    PySem.W.WalkO q loose XP YP l.row.toRowW d [] (λ f vs => PySem.call f vs) :=
  L2.walk_of (n := 63) (k := 11) (x := "script") (CX := λ o_ => CX0) (sp := λ w => spLaw (K w.params)) hn (by decide) hdf ⟨rfl, by decide, by decide⟩ hY F (λ o_ o_ a ns hl o_ hS => ⟨a, ns, rfl, hS, hl, λ o_ => rfl⟩) λ o_ o_ o_ o_ o_ z => z
theorem walkZ {q : Program} {loose : List Str} {XP : (Str -> Option Value) -> Heap -> Prop} {r : PySem.W.RowW} {d : DefRec} {kwd : List (Str × Expr)} {run : Value -> List Value -> Sem Value} {as : List Addr} {K : Params -> PySem.W.Frag} {n t : Nat}
    (e : ∀ P, as = (K P).map (·.1)) (W : PySem.W.WalkO q loose XP (PySem.W.InK K) r d kwd run) : PySem.W.WalkX q loose XP (PySem.W.X.obsZ as) (PySem.W.X.valZ K n t) r d kwd run :=
  λ w s₀ s₁ mg mb G y a o pm cd doc dV kV h1 h2 h3 h4 h5 h6 args vals as' L h7 h8 h9 h10 h11 => W w s₀ s₁ mg mb G (PySem.W.InK.keeps w _ _ (PySem.W.X.z_facts e y).2.1 L.keeps) a o pm cd doc dV kV h1 h2 h3 h4 h5 h6 args vals as' h7 h8 h9 h10 h11
end Fw
namespace Fw
def T0 : PySem.Stmt := top 0
def T1 : PySem.Stmt := top 1
def T2 : PySem.Stmt := top 2
def T3 : PySem.Stmt := top 3
def T4 : PySem.Stmt := top 4
def T5 : PySem.Stmt := top 5
def T6 : PySem.Stmt := top 6
def T7 : PySem.Stmt := top 7
def T8 : PySem.Stmt := top 8
def T9 : PySem.Stmt := top 9
def T10 : PySem.Stmt := top 10
def T11 : PySem.Stmt := top 11
def T12 : PySem.Stmt := top 12
def T13 : PySem.Stmt := top 13
def T14 : PySem.Stmt := top 14
def T15 : PySem.Stmt := top 15
def T16 : PySem.Stmt := top 16
def T17 : PySem.Stmt := top 17
def T18 : PySem.Stmt := top 18
def T19 : PySem.Stmt := top 19
def T20 : PySem.Stmt := top 20
def T21 : PySem.Stmt := top 21
def T22 : PySem.Stmt := top 22
def T23 : PySem.Stmt := top 23
def T24 : PySem.Stmt := top 24
def T25 : PySem.Stmt := top 25
def T26 : PySem.Stmt := top 26
def T27 : PySem.Stmt := top 27
def T28 : PySem.Stmt := top 28
def T29 : PySem.Stmt := top 29
def T30 : PySem.Stmt := top 30
def T31 : PySem.Stmt := top 31
def T32 : PySem.Stmt := top 32
def T33 : PySem.Stmt := top 33
def T34 : PySem.Stmt := top 34
def T35 : PySem.Stmt := top 35
def T36 : PySem.Stmt := top 36
def T37 : PySem.Stmt := top 37
def T38 : PySem.Stmt := top 38
def T39 : PySem.Stmt := top 39
def T40 : PySem.Stmt := top 40
def T41 : PySem.Stmt := top 41
def T42 : PySem.Stmt := top 42
def T43 : PySem.Stmt := top 43
def T44 : PySem.Stmt := top 44
def T45 : PySem.Stmt := top 45
def T46 : PySem.Stmt := top 46
def T47 : PySem.Stmt := top 47
def T48 : PySem.Stmt := top 48
def T49 : PySem.Stmt := top 49
def T50 : PySem.Stmt := top 50
def T51 : PySem.Stmt := top 51
def T52 : PySem.Stmt := top 52
def T53 : PySem.Stmt := top 53
def pwq : PySem.Program := { PySem.Challenge.pw_feedweb_k08_no_kind with main := { PySem.Challenge.pw_feedweb_k08_no_kind.main with body := [T0, T1, T2, T3, T4, T5, T6, T7, T8, T9, T10, T11, T12, T13, T14, T15, T16, T17, T18, T19, T20, T21, T22, T23, T24, T25, T26, T27, T28, T29, T30, T31, T32, T33, T34, T35, T36, T37, T38, T39, T40, T41, T42, T43, T44, T45, T46, T47, T48, T49, T50, T51, T52, T53] } }
def rwq : PySem.W.OpenLaw := { PySem.Challenge.rw_feedweb_k08_no_kind with prog := pwq }
end Fw
open PySem PySem.W PyProof.Rows
set_option maxRecDepth 100000 in
set_option maxHeartbeats 0 in
theorem Fw.holdsq : Fw.rwq.Holds := by
  w_on; refine PySem.W.holds_law (by kernel_rfl) λ said => ?_; z_head; (case hw => w_witness2)
  k_fill
  refine Fw.walkZ (λ o_ => rfl) (Fw.walk (l := Fw.rwq) rfl rfl (λ w h Y => Y) ?F)
  case F =>
    intro w mg fa h KX G hmg
    refine' Fw.all_mk KX G hmg ?nl ?aC ?a1 ?i1 ?l1 ?c1 ?k1 ?a2 ?i2 ?l2 ?c2 ?k2 ?a3 ?i3 ?l3 ?c3 ?k3 ?a4 ?i4 ?l4 ?c4 ?k4 ?a5 ?l5 ?c5 ?k5 ?a6 ?l6 ?c6 ?k6 ?a7 ?l7 ?c7 ?k7 ?a8 ?l8 ?c8 ?k8 ?a9 ?l9 ?c9 ?k9 ?a10 ?l10 ?c10 ?k10 ?a11 ?l11 ?c11 ?k11 ?a12 ?l12 ?c12 ?k12 ?a13 ?l13 ?c13 ?k13 ?a14 ?l14 ?c14 ?k14 ?a15 ?l15 ?c15 ?k15 ?a16 ?l16 ?c16 ?k16 ?a17 ?l17 ?c17 ?k17 ?a18 ?l18 ?c18 ?k18 ?a19 ?l19 ?c19 ?k19 ?pg ?hd ?po ?sa ?mk ?kc ?nF ?x0 ?x1 ?x2 ?x3 ?x4 ?x5 ?x6 ?xFE ?q_NoKind ?ga_3 ?gt_3 ?fc_3 ?sg_3 ?tk_3 ?mo_3 ?mb_3 ?cl_3 ?k0_3 ?k1_3 ?k2_3 ?k3_3 ?k4_3 ?k5_3 ?k6_3 ?kv_3 ?xm_3 ?y_MOST_KINDS ?y_MOST_LETTERS ?y_KEPT_WORDS ?k_KEPT_WORDS ?zz_KEPT_WORDS ?vv_KEPT_WORDS ?zValueError ?zall ?zisinstance ?zlen ?zlist ?zrange ?ztuple
    (case nl => first | k_is | rfl | decide +kernel)
    (case aC => k_is)
    (case a1 => k_is)
    (case i1 => k_is)
    (case l1 => k_is)
    (case c1 => k_is)
    (case k1 => k_is)
    (case a2 => k_is)
    (case i2 => k_is)
    (case l2 => k_is)
    (case c2 => k_is)
    (case k2 => k_is)
    (case a3 => k_is)
    (case i3 => k_is)
    (case l3 => k_is)
    (case c3 => k_is)
    (case k3 => k_is)
    (case a4 => k_is)
    (case i4 => k_is)
    (case l4 => k_is)
    (case c4 => k_is)
    (case k4 => k_is)
    (case a5 => k_is)
    (case l5 => k_is)
    (case c5 => k_is)
    (case k5 => k_is)
    (case a6 => k_is)
    (case l6 => k_is)
    (case c6 => k_is)
    (case k6 => k_is)
    (case a7 => k_is)
    (case l7 => k_is)
    (case c7 => k_is)
    (case k7 => k_is)
    (case a8 => k_is)
    (case l8 => k_is)
    (case c8 => k_is)
    (case k8 => k_is)
    (case a9 => k_is)
    (case l9 => k_is)
    (case c9 => k_is)
    (case k9 => k_is)
    (case a10 => k_is)
    (case l10 => k_is)
    (case c10 => k_is)
    (case k10 => k_is)
    (case a11 => k_is)
    (case l11 => k_is)
    (case c11 => k_is)
    (case k11 => k_is)
    (case a12 => k_is)
    (case l12 => k_is)
    (case c12 => k_is)
    (case k12 => k_is)
    (case a13 => k_is)
    (case l13 => k_is)
    (case c13 => k_is)
    (case k13 => k_is)
    (case a14 => k_is)
    (case l14 => k_is)
    (case c14 => k_is)
    (case k14 => k_is)
    (case a15 => k_is)
    (case l15 => k_is)
    (case c15 => k_is)
    (case k15 => k_is)
    (case a16 => k_is)
    (case l16 => k_is)
    (case c16 => k_is)
    (case k16 => k_is)
    (case a17 => k_is)
    (case l17 => k_is)
    (case c17 => k_is)
    (case k17 => k_is)
    (case a18 => k_is)
    (case l18 => k_is)
    (case c18 => k_is)
    (case k18 => k_is)
    (case a19 => k_is)
    (case l19 => k_is)
    (case c19 => k_is)
    (case k19 => k_is)
    (case pg => k_is)
    (case hd => k_is)
    (case po => k_is)
    (case sa => k_is)
    (case mk => k_is)
    (case kc => k_is)
    (case nF => k_is)
    (case x0 => k_is)
    (case x1 => k_is)
    (case x2 => k_is)
    (case x3 => k_is)
    (case x4 => k_is)
    (case x5 => k_is)
    (case x6 => k_is)
    (case xFE => k_is)
    (case q_NoKind => first | k_exc | kernel_rfl | rfl)
    (case ga_3 => first | k_is | kernel_rfl | rfl)
    (case gt_3 => first | k_is | kernel_rfl | rfl)
    (case fc_3 => first | k_is | kernel_rfl | rfl)
    (case sg_3 => first | k_is | kernel_rfl | rfl)
    (case tk_3 => first | k_is | kernel_rfl | rfl)
    (case mo_3 => first | k_is | kernel_rfl | rfl)
    (case mb_3 => first | k_is | kernel_rfl | rfl)
    (case cl_3 => first | k_is | kernel_rfl | rfl)
    (case k0_3 => first | kernel_rfl | rfl)
    (case k1_3 => first | kernel_rfl | rfl)
    (case k2_3 => first | kernel_rfl | rfl)
    (case k3_3 => first | kernel_rfl | rfl)
    (case k4_3 => first | kernel_rfl | rfl)
    (case k5_3 => first | kernel_rfl | rfl)
    (case k6_3 => first | kernel_rfl | rfl)
    (case kv_3 => first | kernel_rfl | rfl)
    (case xm_3 => first | kernel_rfl | rfl)
    (case y_MOST_KINDS => k_is)
    (case y_MOST_LETTERS => k_is)
    (case y_KEPT_WORDS => k_is)
    (case k_KEPT_WORDS => k_is)
    (case zz_KEPT_WORDS => decide)
    (case vv_KEPT_WORDS => exact (.cons ⟨_, rfl⟩ (.cons ⟨_, rfl⟩ (.cons ⟨_, rfl⟩ (.cons ⟨_, rfl⟩ .nil)))))
    (case zValueError => k_is)
    (case zall => k_is)
    (case zisinstance => k_is)
    (case zlen => k_is)
    (case zlist => k_is)
    (case zrange => k_is)
    (case ztuple => k_is)
theorem PySem.Challenge.cw_feedweb_k08_no_kind_holds : PySem.Challenge.rw_feedweb_k08_no_kind.Holds :=
  Fw.holdsq
