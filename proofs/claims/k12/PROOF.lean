import PyProof.Rows.All
import Wide.All
import OpenK.AllK
import Wide.FinOn
import HandS.ForMost
import HandS.Walk
import HandS.Wide
import HandS.Deep
import HandS.SetKeys
import HandS.Codes
import HandS.Strs
import HandS.Flow
import HandS.TupAny
import HandS.Conv
import PyProof.MaxThree
import PyProof.StrBlock2
import PyProof.ReprRoads
import PyProof.Rows.RuleB_pow
import PyProof.P3In
import PyProof.Rows.SortShellAny
import PyProof.Rows.InDataRows
import KE.GoesMore
import PyProof.EnumMake
import HandS.ForExc
import HandS.ExcInit
import HandS.ExcField
import HandS.TryOnly
import KE.KExcIs
import KE.KIsAll
import HandS.ExcIs
import HandS.More
import PyProof.P3Eq
import KE.KDictZip
import HandS.Star
import PyProof.TupleOfGen
import KE.SortData
import KE.DataMinMax
import HandS.Small
import PySem.Challenge.RW_crossfloor_k12_alignments
set_option Elab.async false
set_option linter.all false
set_option maxRecDepth 100000
set_option maxHeartbeats 4000000
/-! Data over the hand layer: what a value is as a whole (PyData), a store of the lists that change, and rules that speak of these alone. -/
namespace Dv
open PySem L2

/-- what an object that may change holds -/
inductive Mu where
  | lst (ds : List PyData)
  | raw (o : HO)
  | refs (as : List Addr)
abbrev Sto := Addr → Option Mu
/-- the objects that change no more -/
abbrev Reg := Addr → Prop
def put (m : Sto) (a : Addr) (u : Mu) : Sto := fun b => if b = a then some u else m b
def del (m : Sto) (a : Addr) : Sto := fun b => if b = a then none else m b
def add (F : Reg) (a : Addr) : Reg := fun b => b = a ∨ F b
theorem put_same {m : Sto} {a : Addr} {u : Mu} : put m a u a = some u := if_pos rfl
theorem put_ne {m : Sto} {a b : Addr} {u : Mu} (h : b ≠ a) : put m a u b = m b := if_neg h
theorem del_same {m : Sto} {a : Addr} : del m a a = none := if_pos rfl
theorem del_ne {m : Sto} {a b : Addr} (h : b ≠ a) : del m a b = m b := if_neg h
theorem put_put {m : Sto} {a : Addr} {u w : Mu} : put (put m a u) a w = put m a w := by
  funext b; unfold put; split <;> rfl
theorem del_put {m : Sto} {a : Addr} {u : Mu} (h : m a = none) : del (put m a u) a = m := by
  funext b
  by_cases hb : b = a
  · rw [hb, del_same, h]
  · rw [del_ne hb, put_ne hb]
theorem put_self {m : Sto} {a : Addr} {u : Mu} (h : m a = some u) : put m a u = m := by
  funext b
  by_cases hb : b = a
  · rw [hb, put_same, h]
  · rw [put_ne hb]
theorem put_comm {m : Sto} {a b : Addr} {u w : Mu} (h : a ≠ b) : put (put m a u) b w = put (put m b w) a u := by
  funext c
  by_cases hb : c = b
  · rw [hb, put_same, put_ne (Ne.symm h), put_same]
  · rw [put_ne hb]
    by_cases ha : c = a
    · rw [ha, put_same, put_same]
    · rw [put_ne ha, put_ne ha, put_ne hb]
theorem del_put_ne {m : Sto} {a b : Addr} {u : Mu} (h : a ≠ b) : del (put m a u) b = put (del m b) a u := by
  funext c
  by_cases hb : c = b
  · rw [hb, del_same, put_ne (Ne.symm h), del_same]
  · rw [del_ne hb]
    by_cases ha : c = a
    · rw [ha, put_same, put_same]
    · rw [put_ne ha, put_ne ha, del_ne hb]

/-- a written list, a written tuple -/
def WrL (K : PySem.W.Frag) (a : Addr) (xs : List V) : Prop := ∃ (o : Obj) (its : Array Value) (n : Nat), K.lookup a = some o ∧ o.cls = .type "list" ∧ o.dict = none ∧ o.data = .seq its n ∧ its.size ≤ sizeLine ∧ Vals xs its.toList
def WrT (K : PySem.W.Frag) (a : Addr) (xs : List V) : Prop := ∃ (o : Obj) (its : Array Value) (n : Nat), K.lookup a = some o ∧ o.cls = .type "tuple" ∧ o.dict = none ∧ o.data = .seq its n ∧ its.size ≤ sizeLine ∧ Vals xs its.toList

/-- a tuple known to the object, which has no dict of its own -/
def ZT (H : Hp) (a : Addr) (vs : List V) : Prop := ∃ ob : Obj, H a = some (.frz ob (.tup vs)) ∧ ob.dict = none
theorem ZT.sq {K : PySem.W.Frag} {H : Hp} {a : Addr} {vs : List V} (h : ZT H a vs) : SqT K H a vs := let ⟨ob, e, _⟩ := h; .inl (.inr ⟨ob, e⟩)
theorem WrT.sq {K : PySem.W.Frag} {H : Hp} {a : Addr} {vs : List V} (h : WrT K a vs) : SqT K H a vs := let ⟨o, its, n, a1, a2, _, a3, a4, a5⟩ := h; .inr ⟨o, its, n, a1, a2, a3, a4, a5⟩
mutual
/-- v is the datum, by objects that do not change -/
def Im (K : PySem.W.Frag) (F : Reg) (H : Hp) : PyData → V → Prop
  | .none, v => v = .non
  | .bool b, v => v = .bl b
  | .int i, v => v = .int i
  | .str z, v => v = .str z
  | .list ds, v => ∃ a vs, v = .ref a ∧ F a ∧ H a = some (.lst vs) ∧ ImAll K F H ds vs
  | .tuple ds, v => ∃ a vs, v = .ref a ∧ ((F a ∧ ZT H a vs) ∨ WrT K a vs) ∧ ImAll K F H ds vs
  | .dict _, _ => False
def ImAll (K : PySem.W.Frag) (F : Reg) (H : Hp) : List PyData → List V → Prop
  | [], vs => vs = []
  | d :: ds, vs => ∃ v r, vs = v :: r ∧ Im K F H d v ∧ ImAll K F H ds r
end
/-- what stands in a name: a datum; a list that may change; the script; a value as it is -/
inductive Sl where
  | p (x y : PyData)
  | d (x : PyData)
  | m (a : Addr)
  | f (ds : List PyData)
  | v (x : V)
def SlOk (K : PySem.W.Frag) (F : Reg) (H : Hp) : Sl → V → Prop
  | .p x y, v => ∃ a v1 v2, v = .ref a ∧ F a ∧ H a = some (.tup [v1, v2]) ∧ Im K F H x v1 ∧ Im K F H y v2
  | .d x, v => Im K F H x v
  | .m a, v => v = .ref a
  | .f ds, v => ∃ a vs, v = .ref a ∧ ((F a ∧ ∃ o, H a = some (.frz o (.lst vs))) ∨ WrL K a vs) ∧ ImAll K F H ds vs
  | .v x, v => v = x
abbrev Rho := List (Option Sl)
def SlO (K : PySem.W.Frag) (F : Reg) (H : Hp) (s : Option Sl) (v : Option V) : Prop := ∀ sl, s = some sl → ∃ x, v = some x ∧ SlOk K F H sl x
abbrev EnvOk (K : PySem.W.Frag) (F : Reg) (H : Hp) : Rho → L2.St → Prop := Paired (SlO K F H)
abbrev SlsOk (K : PySem.W.Frag) (F : Reg) (H : Hp) : List Sl → List V → Prop := Paired (SlOk K F H)
def MuOk (K : PySem.W.Frag) (F : Reg) (H : Hp) (a : Addr) : Mu → Prop
  | .lst ds => ∃ vs, H a = some (.lst vs) ∧ ImAll K F H ds vs
  | .raw o => H a = some o
  | .refs as => H a = some (.lst (as.map V.ref))
structure StoOk (K : PySem.W.Frag) (m : Sto) (F : Reg) (H : Hp) : Prop where
  mu : ∀ a u, m a = some u → MuOk K F H a u ∧ ¬ F a
  reg : ∀ a, F a → H a ≠ none
/-- what does not change stays; what is not known is left alone -/
structure Step (m : Sto) (F : Reg) (H : Hp) (m' : Sto) (F' : Reg) (H' : Hp) : Prop where
  fix : ∀ a o, H a = some o → F a → H' a = some o ∧ F' a
  frm : ∀ a o, H a = some o → ¬ F a → m a = none → H' a = some o ∧ ¬ F' a ∧ m' a = none

section
variable {K : PySem.W.Frag} {m m1 m2 m' : Sto} {F F1 F2 F' : Reg} {H H1 H2 H' : Hp}
theorem Step.refl : Step m F H m F H := ⟨fun _ _ h n => ⟨h, n⟩, fun _ _ h n k => ⟨h, n, k⟩⟩
theorem Step.trans (a : Step m F H m1 F1 H1) (b : Step m1 F1 H1 m2 F2 H2) : Step m F H m2 F2 H2 :=
  ⟨fun x o h n => b.fix x o (a.fix x o h n).1 (a.fix x o h n).2, fun x o h n k => b.frm x o (a.frm x o h n k).1 (a.frm x o h n k).2.1 (a.frm x o h n k).2.2⟩
mutual
theorem im_fix (s : ∀ a o, H a = some o → F a → H' a = some o ∧ F' a) : ∀ (d : PyData) (v : V), Im K F H d v → Im K F' H' d v
  | .none, _, h => h
  | .bool _, _, h => h
  | .int _, _, h => h
  | .str _, _, h => h
  | .list ds, v, h => by
    obtain ⟨a, vs, e, n, ha, q⟩ := h
    exact ⟨a, vs, e, (s a _ ha n).2, (s a _ ha n).1, imAll_fix s ds vs q⟩
  | .tuple ds, v, h => by
    obtain ⟨a, vs, e, n, q⟩ := h
    refine ⟨a, vs, e, ?_, imAll_fix s ds vs q⟩
    rcases n with ⟨n, ob, ha, hd⟩ | w
    · exact .inl ⟨(s a _ ha n).2, ob, (s a _ ha n).1, hd⟩
    · exact .inr w
  | .dict _, _, h => h
theorem imAll_fix (s : ∀ a o, H a = some o → F a → H' a = some o ∧ F' a) : ∀ (ds : List PyData) (vs : List V), ImAll K F H ds vs → ImAll K F' H' ds vs
  | [], _, h => h
  | d :: ds, vs, h => by
    obtain ⟨v, r, e, h1, h2⟩ := h
    exact ⟨v, r, e, im_fix s d v h1, imAll_fix s ds r h2⟩
end
theorem slOk_fix (s : ∀ a o, H a = some o → F a → H' a = some o ∧ F' a) : ∀ {sl : Sl} {v : V}, SlOk K F H sl v → SlOk K F' H' sl v
  | .p x y, v, h => by
    obtain ⟨a, v1, v2, e, n, ha, i1, i2⟩ := h
    exact ⟨a, v1, v2, e, (s a _ ha n).2, (s a _ ha n).1, im_fix s x v1 i1, im_fix s y v2 i2⟩
  | .d x, v, h => im_fix s x v h
  | .m a, v, h => h
  | .f ds, v, h => by
    obtain ⟨a, vs, e, n, q⟩ := h
    refine ⟨a, vs, e, ?_, imAll_fix s ds vs q⟩
    rcases n with ⟨n, o, ha⟩ | w
    · exact .inl ⟨(s a _ ha n).2, o, (s a _ ha n).1⟩
    · exact .inr w
  | .v x, v, h => h
theorem slOk_step (s : Step m F H m' F' H') {sl : Sl} {v : V} (h : SlOk K F H sl v) : SlOk K F' H' sl v := slOk_fix s.fix h
theorem slO_step (s : Step m F H m' F' H') {a : Option Sl} {b : Option V} (h : SlO K F H a b) : SlO K F' H' a b := fun sl e =>
  let ⟨x, e1, q⟩ := h sl e
  ⟨x, e1, slOk_step s q⟩
theorem envOk_step (s : Step m F H m' F' H') {ρ : Rho} {σ : L2.St} (h : EnvOk K F H ρ σ) : EnvOk K F' H' ρ σ := Paired.mapP h fun _ _ => slO_step s
theorem slsOk_step (s : Step m F H m' F' H') {ss : List Sl} {vs : List V} (h : SlsOk K F H ss vs) : SlsOk K F' H' ss vs := Paired.mapP h fun _ _ => slOk_step s
theorem muOk_fix (s : ∀ a o, H a = some o → F a → H' a = some o ∧ F' a) {a : Addr} {u : Mu} (ha : ∀ o, H a = some o → H' a = some o) (h : MuOk K F H a u) : MuOk K F' H' a u := by
  cases u with
  | lst ds =>
    obtain ⟨vs, z, q⟩ := h
    exact ⟨vs, ha _ z, imAll_fix s ds vs q⟩
  | raw o => exact ha o h
  | refs as => exact ha _ h
theorem muOk_some {a : Addr} {u : Mu} (h : MuOk K F H a u) : ∃ o, H a = some o := by
  cases u with
  | lst ds =>
    obtain ⟨vs, z, q⟩ := h
    exact ⟨_, z⟩
  | raw o => exact ⟨o, h⟩
  | refs as => exact ⟨_, h⟩
theorem sto_none (S : StoOk K m F H) {p : Addr} (h : H p = none) : m p = none := by
  cases e : m p with
  | none => rfl
  | some u =>
    obtain ⟨o, q⟩ := muOk_some (S.mu p u e).1
    rw [h] at q
    cases q
theorem fix_upd (S : StoOk K m F H) {p : Addr} {o : HO} (h : ¬ F p) : ∀ a u, H a = some u → F a → upd H p o a = some u ∧ F a := fun a u ha n => by
  have ne : a ≠ p := fun e => h (e ▸ n)
  exact ⟨by rw [upd_ne ne]; exact ha, n⟩
theorem fix_add (S : StoOk K m F H) {p : Addr} {o : HO} (h : ¬ F p) : ∀ a u, H a = some u → F a → upd H p o a = some u ∧ add F p a := fun a u ha n => ⟨(fix_upd S h a u ha n).1, .inr n⟩
theorem not_reg (S : StoOk K m F H) {p : Addr} (h : H p = none) : ¬ F p := fun n => S.reg p n h
/-- a new thing that does not change -/
theorem step_new (S : StoOk K m F H) {p : Addr} {o : HO} (h : H p = none) : Step m F H m (add F p) (upd H p o) :=
  ⟨fix_add S (not_reg S h), fun a u ha n k => by
    have ne := ne_of_none ha h
    exact ⟨by rw [upd_ne ne]; exact ha, fun z => z.elim ne n, k⟩⟩
theorem sto_new (S : StoOk K m F H) {p : Addr} {o : HO} (h : H p = none) : StoOk K m (add F p) (upd H p o) where
  mu := fun a u e => by
    have ne : a ≠ p := fun z => by
      rw [z, sto_none S h] at e
      cases e
    exact ⟨muOk_fix (fix_add S (not_reg S h)) (fun o q => by rw [upd_ne ne]; exact q) (S.mu a u e).1, fun z => z.elim ne (S.mu a u e).2⟩
  reg := fun a z => by
    by_cases e : a = p
    · rw [e, upd_same]; simp
    · rw [upd_ne e]
      exact S.reg a (z.resolve_left e)
/-- a new thing that may change -/
theorem step_newM (S : StoOk K m F H) {p : Addr} {o : HO} {u : Mu} (h : H p = none) : Step m F H (put m p u) F (upd H p o) :=
  ⟨fix_upd S (not_reg S h), fun a w ha n k => by
    have ne := ne_of_none ha h
    exact ⟨by rw [upd_ne ne]; exact ha, n, by rw [put_ne ne]; exact k⟩⟩
theorem sto_put (S : StoOk K m F H) {p : Addr} {o : HO} {u : Mu} (h : ¬ F p) (hu : MuOk K F (upd H p o) p u) : StoOk K (put m p u) F (upd H p o) where
  mu := fun a w e => by
    by_cases ne : a = p
    · subst ne
      rw [put_same] at e
      cases e
      exact ⟨hu, h⟩
    · rw [put_ne ne] at e
      exact ⟨muOk_fix (fix_upd S h) (fun o q => by rw [upd_ne ne]; exact q) (S.mu a w e).1, (S.mu a w e).2⟩
  reg := fun a z => by
    by_cases e : a = p
    · rw [e, upd_same]; simp
    · rw [upd_ne e]
      exact S.reg a z
theorem step_mut (S : StoOk K m F H) {p : Addr} {o : HO} {u w : Mu} (h : m p = some w) : Step m F H (put m p u) F (upd H p o) :=
  ⟨fix_upd S (S.mu p w h).2, fun a z ha n k => by
    have ne : a ≠ p := fun e => by rw [e, h] at k; cases k
    exact ⟨by rw [upd_ne ne]; exact ha, n, by rw [put_ne ne]; exact k⟩⟩
/-- from now on it does not change -/
theorem step_del (S : StoOk K m F H) {p : Addr} {w : Mu} (h : m p = some w) : Step m F H (del m p) (add F p) H :=
  ⟨fun a o ha n => ⟨ha, .inr n⟩, fun a o ha n k => by
    have ne : a ≠ p := fun e => by rw [e, h] at k; cases k
    exact ⟨ha, fun z => z.elim ne n, by rw [del_ne ne]; exact k⟩⟩
theorem sto_del (S : StoOk K m F H) {p : Addr} {w : Mu} (h : m p = some w) : StoOk K (del m p) (add F p) H where
  mu := fun a z e => by
    by_cases ne : a = p
    · subst ne
      rw [del_same] at e
      cases e
    · rw [del_ne ne] at e
      exact ⟨muOk_fix (fun a o ha n => ⟨ha, .inr n⟩) (fun o q => q) (S.mu a z e).1, fun z' => z'.elim ne (S.mu a z e).2⟩
  reg := fun a z => by
    rcases z with z | z
    · obtain ⟨o, q⟩ := muOk_some (S.mu p w h).1
      rw [z, q]; simp
    · exact S.reg a z
theorem im_frozen {p : Addr} {ds : List PyData} (S : StoOk K m F H) (h : m p = some (.lst ds)) : Im K (add F p) H (.list ds) (.ref p) := by
  obtain ⟨vs, z, q⟩ := (S.mu p _ h).1
  exact ⟨p, vs, rfl, .inl rfl, z, imAll_fix (fun a o ha n => ⟨ha, .inr n⟩) ds vs q⟩
theorem paired_get {α β : Type} {F : α → β → Prop} : ∀ {xs : List α} {ys : List β} {i : Nat} {x : α}, Paired F xs ys → xs[i]? = some x → ∃ y, ys[i]? = some y ∧ F x y
  | _, _, _, _, .nil, e => by simp at e
  | _, _, 0, _, .cons r _, e => by simp at e; subst e; exact ⟨_, rfl, r⟩
  | _, _, i + 1, x, .cons _ t, e => by
    obtain ⟨u, h1, h2⟩ := paired_get (i := i) (x := x) t (by simpa using e)
    exact ⟨u, by simpa using h1, h2⟩
theorem paired_set {α β : Type} {F : α → β → Prop} {x : α} {y : β} (r : F x y) : ∀ {xs : List α} {ys : List β} (i : Nat), Paired F xs ys → Paired F (xs.set i x) (ys.set i y)
  | _, _, _, .nil => .nil
  | _, _, 0, .cons _ t => .cons r t
  | _, _, i + 1, .cons q t => .cons q (paired_set r i t)
theorem paired_len {α β : Type} {F : α → β → Prop} {xs : List α} {ys : List β} (h : Paired F xs ys) : xs.length = ys.length := Paired.length h
theorem paired_app {α β : Type} {F : α → β → Prop} : ∀ {xs xs' : List α} {ys ys' : List β}, Paired F xs ys → Paired F xs' ys' → Paired F (xs ++ xs') (ys ++ ys')
  | _, _, _, _, .nil, h => h
  | _, _, _, _, .cons r t, h => .cons r (paired_app t h)
theorem imAll_iff : ∀ {ds : List PyData} {vs : List V}, ImAll K F H ds vs ↔ Paired (Im K F H) ds vs
  | [], vs => ⟨fun h => by cases (show vs = [] from h); exact .nil, fun h => by cases h; rfl⟩
  | d :: ds, vs => ⟨fun h => by
      obtain ⟨v, r, e, h1, h2⟩ := h
      subst e
      exact .cons h1 (imAll_iff.mp h2), fun h => by
      cases h with
      | cons h1 h2 => exact ⟨_, _, rfl, h1, imAll_iff.mpr h2⟩⟩
theorem imAll_len {ds : List PyData} {vs : List V} (h : ImAll K F H ds vs) : ds.length = vs.length := paired_len (imAll_iff.mp h)
theorem imAll_app {ds es : List PyData} {vs us : List V} (h : ImAll K F H ds vs) (g : ImAll K F H es us) : ImAll K F H (ds ++ es) (vs ++ us) := imAll_iff.mpr (paired_app (imAll_iff.mp h) (imAll_iff.mp g))
theorem imAll_one {d : PyData} {v : V} (h : Im K F H d v) : ImAll K F H [d] [v] := ⟨v, [], rfl, h, rfl⟩
theorem imAll_get {ds : List PyData} {vs : List V} (h : ImAll K F H ds vs) {i : Nat} {d : PyData} (e : ds[i]? = some d) : ∃ v, vs[i]? = some v ∧ Im K F H d v := paired_get (imAll_iff.mp h) e
theorem imAll_set {ds : List PyData} {vs : List V} (h : ImAll K F H ds vs) (i : Nat) {d : PyData} {v : V} (q : Im K F H d v) : ImAll K F H (ds.set i d) (vs.set i v) := imAll_iff.mpr (paired_set q i (imAll_iff.mp h))
theorem paired_erase {α β : Type} {F : α → β → Prop} : ∀ {xs : List α} {ys : List β} (i : Nat), Paired F xs ys → Paired F (xs.eraseIdx i) (ys.eraseIdx i)
  | _, _, _, .nil => by simp; exact .nil
  | _, _, 0, .cons _ t => by simpa using t
  | _, _, i + 1, .cons q t => by simpa using Paired.cons q (paired_erase i t)
theorem imAll_erase {ds : List PyData} {vs : List V} (h : ImAll K F H ds vs) (i : Nat) : ImAll K F H (ds.eraseIdx i) (vs.eraseIdx i) := imAll_iff.mpr (paired_erase i (imAll_iff.mp h))
theorem paired_take {α β : Type} {F : α → β → Prop} : ∀ {xs : List α} {ys : List β} (n : Nat), Paired F xs ys → Paired F (xs.take n) (ys.take n)
  | _, _, 0, _ => .nil
  | _, _, _ + 1, .nil => .nil
  | _, _, n + 1, .cons r t => .cons r (paired_take n t)
theorem paired_drop {α β : Type} {F : α → β → Prop} : ∀ {xs : List α} {ys : List β} (n : Nat), Paired F xs ys → Paired F (xs.drop n) (ys.drop n)
  | _, _, 0, r => r
  | _, _, _ + 1, .nil => .nil
  | _, _, n + 1, .cons r t => paired_drop n t
mutual
theorem im_dp : ∀ (d : PyData) (v : V), Im K F H d v → Dp K H v d
  | .none, v, h => by cases (show v = .non from h); exact .non
  | .bool b, v, h => by cases (show v = .bl b from h); exact .bl b
  | .int i, v, h => by cases (show v = .int i from h); exact .int i
  | .str z, v, h => by cases (show v = .str z from h); exact .str z
  | .list ds, v, h => by
    obtain ⟨a, vs, e, n, ha, q⟩ := h
    subst e
    exact .lst (SqL.of ha) (imAll_dp ds vs q)
  | .tuple ds, v, h => by
    obtain ⟨a, vs, e, n, q⟩ := h
    subst e
    refine .tup ?_ (imAll_dp ds vs q)
    rcases n with ⟨n, ha⟩ | w
    · exact ha.sq
    · exact w.sq
  | .dict _, v, h => False.elim h
theorem imAll_dp : ∀ (ds : List PyData) (vs : List V), ImAll K F H ds vs → DpAll K H vs ds
  | [], vs, h => by cases (show vs = [] from h); exact .nil
  | d :: ds, vs, h => by
    obtain ⟨v, r, e, h1, h2⟩ := h
    subst e
    exact .cons (im_dp d v h1) (imAll_dp ds r h2)
end
theorem im_tup {ds : List PyData} {v : V} (h : Im K F H (.tuple ds) v) : ∃ a vs, v = .ref a ∧ SqT K H a vs ∧ ImAll K F H ds vs := by
  obtain ⟨a, vs, e, n, q⟩ := h
  refine ⟨a, vs, e, ?_, q⟩
  rcases n with ⟨_, ha⟩ | w
  · exact ha.sq
  · exact w.sq
theorem im_lst {ds : List PyData} {v : V} (h : Im K F H (.list ds) v) : ∃ a vs, v = .ref a ∧ H a = some (.lst vs) ∧ ImAll K F H ds vs := by
  obtain ⟨a, vs, e, n, ha, q⟩ := h
  exact ⟨a, vs, e, ha, q⟩
theorem sl_f {ds : List PyData} {v : V} (h : SlOk K F H (.f ds) v) : ∃ a vs, v = .ref a ∧ SqL K H a vs ∧ ImAll K F H ds vs := by
  obtain ⟨a, vs, e, n, q⟩ := h
  refine ⟨a, vs, e, ?_, q⟩
  rcases n with ⟨_, o, ha⟩ | w
  · exact .inl (.inr ⟨o, ha⟩)
  · exact .inr w
theorem mu_lst (S : StoOk K m F H) {a : Addr} {ds : List PyData} (h : m a = some (.lst ds)) : ∃ vs, H a = some (.lst vs) ∧ ImAll K F H ds vs := (S.mu a _ h).1
end

/-! ### what is wanted -/
abbrev PV := Sl → Sto → Prop
/-- te gives a slot and a store of which P holds -/
def Ev (K : PySem.W.Frag) (te : TE) (ρ : Rho) (m : Sto) (P : PV) : Prop :=
  ∀ (σ : L2.St) (F : Reg) (H : Hp) (Q : VK), EnvOk K F H ρ σ → StoOk K m F H → (∀ s m' v F' H', P s m' → Step m F H m' F' H' → StoOk K m' F' H' → SlOk K F' H' s v → Q v H') → te σ H Q
def EvA (K : PySem.W.Frag) (ta : TA) (ρ : Rho) (m : Sto) (P : List Sl → Sto → Prop) : Prop :=
  ∀ (σ : L2.St) (F : Reg) (H : Hp) (Q : List V → Hp → Prop), EnvOk K F H ρ σ → StoOk K m F H → (∀ ss m' vs F' H', P ss m' → Step m F H m' F' H' → StoOk K m' F' H' → SlsOk K F' H' ss vs → Q vs H') → ta σ H Q
def EvT (K : PySem.W.Frag) (tt : TT) (ρ : Rho) (m : Sto) (P : Bool → Sto → Prop) : Prop :=
  ∀ (σ : L2.St) (F : Reg) (H : Hp) (Q : Bool → Hp → Prop), EnvOk K F H ρ σ → StoOk K m F H → (∀ b m' F' H', P b m' → Step m F H m' F' H' → StoOk K m' F' H' → Q b H') → tt σ H Q
def EvO (K : PySem.W.Frag) (to : TO) (ρ : Rho) (m : Sto) (P : Option Int → Sto → Prop) : Prop :=
  ∀ (σ : L2.St) (F : Reg) (H : Hp) (Q : Option Int → Hp → Prop), EnvOk K F H ρ σ → StoOk K m F H → (∀ b m' F' H', P b m' → Step m F H m' F' H' → StoOk K m' F' H' → Q b H') → to σ H Q
/-- what follows a value -/
abbrev Then (K : PySem.W.Frag) (m : Sto) (F : Reg) (H : Hp) (P : PV) (Q : VK) : Prop := ∀ s' m' v F' H', P s' m' → Step m F H m' F' H' → StoOk K m' F' H' → SlOk K F' H' s' v → Q v H'
/-- an operation on two, one, several slots; a method -/
def RO (K : PySem.W.Frag) (r : R2) (s t : Sl) (m : Sto) (P : PV) : Prop :=
  ∀ (x y : V) (F : Reg) (H : Hp) (Q : VK), SlOk K F H s x → SlOk K F H t y → StoOk K m F H → Then K m F H P Q → r x y H Q
def RU (K : PySem.W.Frag) (r : V → Hp → VK → Prop) (s : Sl) (m : Sto) (P : PV) : Prop :=
  ∀ (x : V) (F : Reg) (H : Hp) (Q : VK), SlOk K F H s x → StoOk K m F H → Then K m F H P Q → r x H Q
def RC (K : PySem.W.Frag) (r : List V → Hp → VK → Prop) (ss : List Sl) (m : Sto) (P : PV) : Prop :=
  ∀ (xs : List V) (F : Reg) (H : Hp) (Q : VK), SlsOk K F H ss xs → StoOk K m F H → Then K m F H P Q → r xs H Q
def RM (K : PySem.W.Frag) (r : V → List V → Hp → VK → Prop) (s : Sl) (ss : List Sl) (m : Sto) (P : PV) : Prop :=
  ∀ (x : V) (xs : List V) (F : Reg) (H : Hp) (Q : VK), SlOk K F H s x → SlsOk K F H ss xs → StoOk K m F H → Then K m F H P Q → r x xs H Q
def RSl (K : PySem.W.Frag) (r : V → Option Int → Option Int → Hp → VK → Prop) (s : Sl) (lo hi : Option Int) (m : Sto) (P : PV) : Prop :=
  ∀ (x : V) (F : Reg) (H : Hp) (Q : VK), SlOk K F H s x → StoOk K m F H → Then K m F H P Q → r x lo hi H Q
def TyS (K : PySem.W.Frag) (T : String) (s : Sl) (m : Sto) : Prop := ∀ (x : V) (F : Reg) (H : Hp), SlOk K F H s x → StoOk K m F H → tyV K T x H
/-- a slot's truth -/
def TrS (K : PySem.W.Frag) (s : Sl) (m : Sto) (b : Bool) : Prop := ∀ (x : V) (F : Reg) (H : Hp), SlOk K F H s x → StoOk K m F H → TruV K x H b
structure Ko where
  nx : Rho → Sto → Prop
  rt : PV
  bk : Rho → Sto → Prop := fun _ _ => False
  ct : Rho → Sto → Prop := fun _ _ => False
/-- the statement's ends keep k -/
def Wp (K : PySem.W.Frag) (ts : TS) (ρ : Rho) (m : Sto) (k : Ko) : Prop :=
  ∀ (D : Ends) (σ : L2.St) (F : Reg) (H : Hp), EnvOk K F H ρ σ → StoOk K m F H →
    (∀ ρ' m' σ' F' H', k.nx ρ' m' → Step m F H m' F' H' → StoOk K m' F' H' → EnvOk K F' H' ρ' σ' → D.nx σ' H') →
    (∀ s m' v F' H', k.rt s m' → Step m F H m' F' H' → StoOk K m' F' H' → SlOk K F' H' s v → D.rt v H') →
    (∀ ρ' m' σ' F' H', k.bk ρ' m' → Step m F H m' F' H' → StoOk K m' F' H' → EnvOk K F' H' ρ' σ' → D.bk σ' H') →
    (∀ ρ' m' σ' F' H', k.ct ρ' m' → Step m F H m' F' H' → StoOk K m' F' H' → EnvOk K F' H' ρ' σ' → D.ct σ' H') → ts D σ H
def Gt (K : PySem.W.Frag) (g : TG) (js : List Nat) (s : Sl) (ρ : Rho) (m : Sto) (P : Rho → Sto → Prop) : Prop :=
  ∀ (σ : L2.St) (F : Reg) (H : Hp) (v : V) (Q : L2.St → Hp → Prop), EnvOk K F H ρ σ → StoOk K m F H → SlOk K F H s v →
    (∀ ρ' m' σ' F' H', P ρ' m' → Step m F H m' F' H' → StoOk K m' F' H' → EnvOk K F' H' ρ' σ' → (∀ vs, (∀ j ∈ js, j ∈ vs) → wipe σ' vs = wipe σ vs) → Q σ' H') → g v σ H Q
/-- an iterator over the slots xs, while C holds of the store -/
def EvI (K : PySem.W.Frag) (wi : TI) (ρ : Rho) (m : Sto) (P : List Sl → (Sto → Prop) → Sto → Prop) : Prop :=
  ∀ (σ : L2.St) (F : Reg) (H : Hp) (R : It → Hp → Prop), EnvOk K F H ρ σ → StoOk K m F H →
    (∀ (xs : List Sl) (C : Sto → Prop) (m' : Sto) (F' : Reg) (H' : Hp) (J : It), P xs C m' → Step m F H m' F' H' → StoOk K m' F' H' →
      L2.Walk J xs.length (fun H2 => ∃ m2 F2, C m2 ∧ Step m' F' H' m2 F2 H2 ∧ StoOk K m2 F2 H2)
        (fun i H2 x H3 => ∀ m2 F2, C m2 → Step m' F' H' m2 F2 H2 → StoOk K m2 F2 H2 → ∃ F3, Step m2 F2 H2 m2 F3 H3 ∧ StoOk K m2 F3 H3 ∧ ∃ s, xs[i]? = some s ∧ SlOk K F3 H3 s x) → R J H') → wi σ H R

section
variable {K : PySem.W.Frag} {ρ : Rho} {m : Sto} {P P' : PV} {te ta tb : TE} {t u : TT}
theorem Ev.mono (h : Ev K te ρ m P) (hp : ∀ s m', P s m' → P' s m') : Ev K te ρ m P' := fun σ F H Q E S q => h σ F H Q E S fun s m' v F' H' p => q s m' v F' H' (hp s m' p)
theorem EvT.mono {P P' : Bool → Sto → Prop} (h : EvT K t ρ m P) (hp : ∀ s m', P s m' → P' s m') : EvT K t ρ m P' := fun σ F H Q E S q => h σ F H Q E S fun s m' F' H' p => q s m' F' H' (hp s m' p)
theorem Wp.mono {ts : TS} {k k' : Ko} (h : Wp K ts ρ m k) (h1 : ∀ ρ' m', k.nx ρ' m' → k'.nx ρ' m') (h2 : ∀ s m', k.rt s m' → k'.rt s m') (h3 : ∀ ρ' m', k.bk ρ' m' → k'.bk ρ' m') (h4 : ∀ ρ' m', k.ct ρ' m' → k'.ct ρ' m') : Wp K ts ρ m k' :=
  fun D σ F H E S q1 q2 q3 q4 => h D σ F H E S (fun a b c d f e => q1 a b c d f (h1 _ _ e)) (fun a b c d f e => q2 a b c d f (h2 _ _ e)) (fun a b c d f e => q3 a b c d f (h3 _ _ e)) (fun a b c d f e => q4 a b c d f (h4 _ _ e))

/-! ### names, constants, operations -/
theorem ev_var {i : Nat} {s : Sl} (h : ρ[i]? = some (some s)) (p : P s m) : Ev K (tVar i) ρ m P := fun σ F H Q E S q => by
  obtain ⟨y, e, z⟩ := paired_get E h
  obtain ⟨x, e2, z2⟩ := z s rfl
  subst e2
  exact ⟨x, e, q s m x F H p Step.refl S z2⟩
/-- a list that changes no more -/
theorem ev_varF {i : Nat} {a : Addr} {ds : List PyData} (h : ρ[i]? = some (some (.m a))) (hm : m a = some (.lst ds)) (p : P (.d (.list ds)) (del m a)) : Ev K (tVar i) ρ m P := fun σ F H Q E S q => by
  obtain ⟨y, e, z⟩ := paired_get E h
  obtain ⟨x, e2, z2⟩ := z _ rfl
  subst e2
  obtain rfl : x = .ref a := z2
  exact ⟨_, e, q _ _ _ _ H p (step_del S hm) (sto_del S hm) (im_frozen S hm)⟩
theorem ev_int {i : Int} (p : P (.d (.int i)) m) : Ev K (tC (.int i)) ρ m P := fun σ F H Q E S q => q _ m _ F H p Step.refl S rfl
theorem ev_str {z : Str} (p : P (.d (.str z)) m) : Ev K (tC (.str z)) ρ m P := fun σ F H Q E S q => q _ m _ F H p Step.refl S rfl
theorem ev_bl {b : Bool} (p : P (.d (.bool b)) m) : Ev K (tC (.bl b)) ρ m P := fun σ F H Q E S q => q _ m _ F H p Step.refl S rfl
theorem ev_non (p : P (.d .none) m) : Ev K (tC .non) ρ m P := fun σ F H Q E S q => q _ m _ F H p Step.refl S rfl
theorem ev_raw {x : V} (p : P (.v x) m) : Ev K (tC x) ρ m P := fun σ F H Q E S q => q _ m _ F H p Step.refl S rfl
theorem ev_op {r : R2} (h : Ev K ta ρ m fun s m1 => Ev K tb ρ m1 fun s' m2 => RO K r s s' m2 P) : Ev K (tOp r ta tb) ρ m P := fun σ F H Q E S q =>
  h σ F H _ E S fun s m1 x F1 H1 h1 s1 S1 o1 => h1 σ F1 H1 _ (envOk_step s1 E) S1 fun s' m2 y F2 H2 h2 s2 S2 o2 => h2 x y F2 H2 Q (slOk_step s2 o1) o2 S2 fun z m3 v F3 H3 p s3 S3 o3 => q z m3 v F3 H3 p ((s1.trans s2).trans s3) S3 o3
theorem ev_un {r : V → Hp → VK → Prop} (h : Ev K ta ρ m fun s m1 => RU K r s m1 P) : Ev K (tUn r ta) ρ m P := fun σ F H Q E S q =>
  h σ F H _ E S fun s m1 x F1 H1 h1 s1 S1 o1 => h1 x F1 H1 Q o1 S1 fun z m3 v F3 H3 p s3 S3 o3 => q z m3 v F3 H3 p (s1.trans s3) S3 o3
theorem ea_nil {P : List Sl → Sto → Prop} (p : P [] m) : EvA K tNil ρ m P := fun σ F H Q E S q => q [] m [] F H p Step.refl S .nil
theorem ea_cons {tr : TA} {P : List Sl → Sto → Prop} (h : Ev K ta ρ m fun s m1 => EvA K tr ρ m1 fun ss m2 => P (s :: ss) m2) : EvA K (tCons ta tr) ρ m P := fun σ F H Q E S q =>
  h σ F H _ E S fun s m1 x F1 H1 h1 s1 S1 o1 => h1 σ F1 H1 _ (envOk_step s1 E) S1 fun ss m2 vs F2 H2 p s2 S2 o2 => q _ m2 _ F2 H2 p (s1.trans s2) S2 (.cons (slOk_step s2 o1) o2)
theorem slsOk_im : ∀ {ds : List PyData} {vs : List V} {F : Reg} {H : Hp}, SlsOk K F H (ds.map Sl.d) vs → ImAll K F H ds vs
  | [], _, _, _, .nil => rfl
  | _ :: _, _, _, _, .cons r t => ⟨_, _, rfl, r, slsOk_im t⟩
/-- a tuple is made -/
def tTupZ (t : TA) : TE := fun σ H Q => t σ H fun xs H1 => xs.length ≤ sizeLine ∧ ∀ p ob, H1 p = none → ob.dict = none → Q (.ref p) (upd H1 p (.frz ob (.tup xs)))
theorem inv_tupZ {X : Cx} {pins : List (Addr × Obj)} {σ : L2.St} {H : Hp} {s : Shared} {h' : Heap} {xs : List V} {us : List Value} {tk : Nat} (I : Inv X pins σ H s) (k : ∀ b o, s.heap.get? b = some o → h'.get? b = some o) (z : xs.length ≤ sizeLine) (r : Vals xs us) :
    Inv X pins σ (upd H h'.objs.size (.frz { cls := .type "tuple", data := .seq us.toArray } (.tup xs))) { s with heap := h'.push { cls := .type "tuple", data := .seq us.toArray }, toks := tk } := by
  have I1 : Inv X pins σ H { s with heap := h', toks := tk } := I.kept k
  exact I1.laid (t' := tk) (fun b u e => Heap.get?_push_of_some _ e) (Nat.le_refl _) ⟨Heap.get?_push_size _ rfl, z, us, r, ⟨_, Heap.get?_push_size _ rfl, rfl, _, rfl⟩⟩
theorem pe_tupZ {X : Cx} {es : List Expr} {t : TA} {x1} {pos : Pos} (h : PA X es t) : PE X (.Tuple es x1 pos) (tTupZ t) := by
  constructor
  intro pins s σ H Q I hq
  apply wpAny_Tuple_spliced
  apply thn (h.run pos pins s σ H _ I hq)
  rintro us s1 ⟨xs, H1, I1, r, z, q⟩
  have e := r.length
  refine ⟨e ▸ z, .ref s1.heap.objs.size, _, inv_tupZ (tk := s1.toks) I1 (fun _ _ a => a) z r, rfl, ?_⟩
  exact q _ _ (I1.hok.fresh (Nat.le_refl _)) rfl
theorem ev_tup {tr : TA} (h : EvA K tr ρ m fun ss m1 => ∃ ds : List PyData, ss = ds.map Sl.d ∧ ds.length ≤ 100000 ∧ P (.d (.tuple ds)) m1) : Ev K (tTupZ tr) ρ m P := fun σ F H Q E S q =>
  h σ F H _ E S fun ss m1 vs F1 H1 ⟨ds, e, l, p⟩ s1 S1 o1 => by
    subst e
    have z := slsOk_im o1
    refine ⟨by rw [← imAll_len z, sizeLine_eq]; omega, fun a ob ha hd => ?_⟩
    exact q _ m1 _ _ _ p (s1.trans (step_new S1 ha)) (sto_new S1 ha) ⟨a, vs, rfl, .inl ⟨.inl rfl, ob, upd_same, hd⟩, imAll_fix (step_new S1 ha).fix ds vs z⟩
theorem ev_lst {tr : TA} (h : EvA K tr ρ m fun ss m1 => ∃ ds : List PyData, ss = ds.map Sl.d ∧ ds.length ≤ 100000 ∧ P (.d (.list ds)) m1) : Ev K (tLst tr) ρ m P := fun σ F H Q E S q =>
  h σ F H _ E S fun ss m1 vs F1 H1 ⟨ds, e, l, p⟩ s1 S1 o1 => by
    subst e
    have z := slsOk_im o1
    refine ⟨by rw [← imAll_len z, sizeLine_eq]; omega, fun a ha => ?_⟩
    exact q _ m1 _ _ _ p (s1.trans (step_new S1 ha)) (sto_new S1 ha) ⟨a, vs, rfl, .inl rfl, upd_same, imAll_fix (step_new S1 ha).fix ds vs z⟩
/-- a list that will change -/
theorem ev_lstM {tr : TA} (h : EvA K tr ρ m fun ss m1 => ∃ ds : List PyData, ss = ds.map Sl.d ∧ ds.length ≤ 100000 ∧ ∀ a, m1 a = none → P (.m a) (put m1 a (.lst ds))) : Ev K (tLst tr) ρ m P := fun σ F H Q E S q =>
  h σ F H _ E S fun ss m1 vs F1 H1 ⟨ds, e, l, p⟩ s1 S1 o1 => by
    subst e
    have z := slsOk_im o1
    refine ⟨by rw [← imAll_len z, sizeLine_eq]; omega, fun a ha => ?_⟩
    exact q _ _ _ _ _ (p a (sto_none S1 ha)) (s1.trans (step_newM S1 ha)) (sto_put S1 (not_reg S1 ha) ⟨vs, upd_same, imAll_fix (step_newM (u := .lst ds) S1 ha).fix ds vs z⟩) rfl
/-! ### tests -/
theorem et_B {P : Bool → Sto → Prop} (h : Ev K te ρ m fun s m1 => ∃ b, s = .d (.bool b) ∧ P b m1) : EvT K (tB te) ρ m P := fun σ F H Q E S q =>
  h σ F H _ E S fun s m1 x F1 H1 ⟨b, e, p⟩ s1 S1 o1 => by
    subst e
    exact ⟨b, o1, q b m1 F1 H1 p s1 S1⟩
theorem et_test {P : Bool → Sto → Prop} (h : Ev K te ρ m fun s m1 => ∃ b, s = .d (.bool b) ∧ P b m1) : EvT K (tTest te) ρ m P := fun σ F H Q E S q =>
  h σ F H _ E S fun s m1 x F1 H1 ⟨b, e, p⟩ s1 S1 o1 => by
    subst e
    exact ⟨b, o1, q b m1 F1 H1 p s1 S1⟩
theorem et_and {P : Bool → Sto → Prop} (h : EvT K t ρ m fun b m1 => if b = true then EvT K u ρ m1 P else P false m1) : EvT K (tAnd t u) ρ m P := fun σ F H Q E S q =>
  h σ F H _ E S fun b m1 F1 H1 h1 s1 S1 => by
    cases b with
    | true => exact h1 σ F1 H1 Q (envOk_step s1 E) S1 fun b2 m2 F2 H2 p s2 S2 => q b2 m2 F2 H2 p (s1.trans s2) S2
    | false => exact q false m1 F1 H1 h1 s1 S1
theorem et_or {P : Bool → Sto → Prop} (h : EvT K t ρ m fun b m1 => if b = true then P true m1 else EvT K u ρ m1 P) : EvT K (tOr t u) ρ m P := fun σ F H Q E S q =>
  h σ F H _ E S fun b m1 F1 H1 h1 s1 S1 => by
    cases b with
    | false => exact h1 σ F1 H1 Q (envOk_step s1 E) S1 fun b2 m2 F2 H2 p s2 S2 => q b2 m2 F2 H2 p (s1.trans s2) S2
    | true => exact q true m1 F1 H1 h1 s1 S1
theorem et_not {P : Bool → Sto → Prop} (h : EvT K t ρ m fun b m1 => P (!b) m1) : EvT K (tNot t) ρ m P := fun σ F H Q E S q => h σ F H _ E S fun b m1 F1 H1 p s1 S1 => q _ m1 F1 H1 p s1 S1
/-- a value's truth -/
def tTr (K : PySem.W.Frag) (ta : TE) : TT := fun σ H Q => ta σ H fun x H' => ∃ k, TruV K x H' k ∧ Q k H'
theorem pt_tr {X : Cx} {a : Expr} (ha : PE X a ta) (he : ∀ whole, isTrue a X.env whole = (do let v ← whole; standAt a.pos; holding [v] (truthy v)) := by intro _; rfl) : PT X a (tTr X.K ta) := pt_truth ha he
theorem et_tr {P : Bool → Sto → Prop} (h : Ev K te ρ m fun s m1 => ∃ b, TrS K s m1 b ∧ P b m1) : EvT K (tTr K te) ρ m P := fun σ F H Q E S q =>
  h σ F H _ E S fun s m1 x F1 H1 ⟨b, e, p⟩ s1 S1 o1 => ⟨b, e x F1 H1 o1 S1, q b m1 F1 H1 p s1 S1⟩
theorem et_yes {P : Bool → Sto → Prop} (p : P true m) : EvT K tYes ρ m P := fun σ F H Q E S q => q true m F H p Step.refl S
theorem ev_if (h : EvT K t ρ m fun b m1 => if b = true then Ev K ta ρ m1 P else Ev K tb ρ m1 P) : Ev K (tIf t ta tb) ρ m P := fun σ F H Q E S q =>
  h σ F H _ E S fun b m1 F1 H1 h1 s1 S1 => by
    cases b with
    | true => exact h1 σ F1 H1 Q (envOk_step s1 E) S1 fun b2 m2 v F2 H2 p s2 S2 o => q b2 m2 v F2 H2 p (s1.trans s2) S2 o
    | false => exact h1 σ F1 H1 Q (envOk_step s1 E) S1 fun b2 m2 v F2 H2 p s2 S2 o => q b2 m2 v F2 H2 p (s1.trans s2) S2 o
theorem ev_notT {P : PV} (h : EvT K (tTr K te) ρ m fun b m1 => P (.d (.bool (!b))) m1) : Ev K (tNotT K te) ρ m P := fun σ F H Q E S q =>
  h σ F H (fun b H1 => Q (.bl (!b)) H1) E S fun b m1 F1 H1 p s1 S1 => q _ m1 _ F1 H1 p s1 S1 rfl
theorem ev_andV {P : PV} (h : Ev K ta ρ m fun s m1 => ∃ b, s = .d (.bool b) ∧ if b = true then Ev K tb ρ m1 P else P (.d (.bool false)) m1) : Ev K (tAndV ta tb) ρ m P := fun σ F H Q E S q =>
  h σ F H _ E S fun s m1 x F1 H1 ⟨b, e, p⟩ s1 S1 o1 => by
    subst e
    refine ⟨b, o1, ?_⟩
    cases b with
    | true => exact p σ F1 H1 Q (envOk_step s1 E) S1 fun b2 m2 v F2 H2 p s2 S2 o => q b2 m2 v F2 H2 p (s1.trans s2) S2 o
    | false => exact q _ m1 _ F1 H1 p s1 S1 rfl
theorem ev_orV {P : PV} (h : Ev K ta ρ m fun s m1 => ∃ b, s = .d (.bool b) ∧ if b = true then P (.d (.bool true)) m1 else Ev K tb ρ m1 P) : Ev K (tOrV ta tb) ρ m P := fun σ F H Q E S q =>
  h σ F H _ E S fun s m1 x F1 H1 ⟨b, e, p⟩ s1 S1 o1 => by
    subst e
    refine ⟨b, o1, ?_⟩
    cases b with
    | false => exact p σ F1 H1 Q (envOk_step s1 E) S1 fun b2 m2 v F2 H2 p s2 S2 o => q b2 m2 v F2 H2 p (s1.trans s2) S2 o
    | true => exact q _ m1 _ F1 H1 p s1 S1 rfl
theorem ev_notV {P : PV} (h : Ev K ta ρ m fun s m1 => ∃ b, s = .d (.bool b) ∧ P (.d (.bool (!b))) m1) : Ev K (tNotV ta) ρ m P := fun σ F H Q E S q =>
  h σ F H _ E S fun s m1 x F1 H1 ⟨b, e, p⟩ s1 S1 o1 => by
    subst e
    exact ⟨b, o1, q _ m1 _ F1 H1 p s1 S1 rfl⟩
/-- a < b < c -/
theorem ev_chain {r r' : R2} {tc : TE} (h : Ev K ta ρ m fun s m1 => Ev K tb ρ m1 fun s' m2 => RO K r s s' m2 fun z m3 => ∃ b, z = .d (.bool b) ∧ if b = true then Ev K tc ρ m3 fun s2 m4 => RO K r' s' s2 m4 P else P (.d (.bool false)) m3) : Ev K (tChain r r' ta tb tc) ρ m P := fun σ F H Q E S q =>
  h σ F H _ E S fun s m1 x F1 H1 h1 s1 S1 o1 => h1 σ F1 H1 _ (envOk_step s1 E) S1 fun s' m2 y F2 H2 h2 s2 S2 o2 => h2 x y F2 H2 _ (slOk_step s2 o1) o2 S2 fun z m3 v F3 H3 ⟨b, ez, p⟩ s3 S3 o3 => by
    subst ez
    refine ⟨b, o3, ?_⟩
    cases b with
    | true =>
      rw [if_pos rfl] at p
      rw [if_pos rfl]
      exact p σ F3 H3 _ (envOk_step ((s1.trans s2).trans s3) E) S3 fun w m4 u F4 H4 p4 s4 S4 o4 => p4 y u F4 H4 Q (slOk_step (s3.trans s4) o2) o4 S4 fun z m5 v F5 H5 p5 s5 S5 o5 => q z m5 v F5 H5 p5 ((((s1.trans s2).trans s3).trans s4).trans s5) S5 o5
    | false =>
      rw [if_neg Bool.false_ne_true] at p
      rw [if_neg Bool.false_ne_true]
      exact q _ m3 _ F3 H3 p ((s1.trans s2).trans s3) S3 rfl
/-! ### calls, methods, slices -/
theorem ev_cb {r : List V → Hp → VK → Prop} {tr : TA} (h : EvA K tr ρ m fun ss m1 => RC K r ss m1 P) : Ev K (tCB r tr) ρ m P := fun σ F H Q E S q =>
  h σ F H _ E S fun ss m1 vs F1 H1 h1 s1 S1 o1 => h1 vs F1 H1 Q o1 S1 fun z m3 v F3 H3 p s3 S3 o3 => q z m3 v F3 H3 p (s1.trans s3) S3 o3
theorem ev_bm {T : String} {r : V → List V → Hp → VK → Prop} {tr : TA} (h : Ev K te ρ m fun s m1 => TyS K T s m1 ∧ EvA K tr ρ m1 fun ss m2 => RM K r s ss m2 P) : Ev K (tBM K T r te tr) ρ m P := fun σ F H Q E S q =>
  h σ F H _ E S fun s m1 x F1 H1 ⟨ty, h1⟩ s1 S1 o1 => ⟨ty x F1 H1 o1 S1, h1 σ F1 H1 _ (envOk_step s1 E) S1 fun ss m2 vs F2 H2 h2 s2 S2 o2 => h2 x vs F2 H2 Q (slOk_step s2 o1) o2 S2 fun z m3 v F3 H3 p s3 S3 o3 => q z m3 v F3 H3 p ((s1.trans s2).trans s3) S3 o3⟩
theorem ev_bm0 {T : String} {r : V → List V → Hp → VK → Prop} (h : Ev K te ρ m fun s m1 => TyS K T s m1 ∧ RM K r s [] m1 P) : Ev K (tBM0 K T r te) ρ m P := fun σ F H Q E S q =>
  h σ F H _ E S fun s m1 x F1 H1 ⟨ty, h1⟩ s1 S1 o1 => ⟨ty x F1 H1 o1 S1, h1 x [] F1 H1 Q o1 .nil S1 fun z m3 v F3 H3 p s3 S3 o3 => q z m3 v F3 H3 p (s1.trans s3) S3 o3⟩
theorem eo_no {P : Option Int → Sto → Prop} (p : P none m) : EvO K tNoPart ρ m P := fun σ F H Q E S q => q none m F H p Step.refl S
theorem eo_some {P : Option Int → Sto → Prop} (h : Ev K te ρ m fun s m1 => ∃ i, s = .d (.int i) ∧ P (some i) m1) : EvO K (tPart te) ρ m P := fun σ F H Q E S q =>
  h σ F H _ E S fun s m1 x F1 H1 ⟨i, e, p⟩ s1 S1 o1 => by
    subst e
    exact ⟨i, o1, q _ m1 F1 H1 p s1 S1⟩
theorem ev_sl {r : V → Option Int → Option Int → Hp → VK → Prop} {tl th : TO} (h : Ev K te ρ m fun s m1 => EvO K tl ρ m1 fun lo m2 => EvO K th ρ m2 fun hi m3 => RSl K r s lo hi m3 P) : Ev K (tSl r te tl th) ρ m P := fun σ F H Q E S q =>
  h σ F H _ E S fun s m1 x F1 H1 h1 s1 S1 o1 => h1 σ F1 H1 _ (envOk_step s1 E) S1 fun lo m2 F2 H2 h2 s2 S2 => h2 σ F2 H2 _ (envOk_step (s1.trans s2) E) S2 fun hi m3 F3 H3 h3 s3 S3 =>
    h3 x F3 H3 Q (slOk_step (s2.trans s3) o1) S3 fun z m4 v F4 H4 p s4 S4 o4 => q z m4 v F4 H4 p (((s1.trans s2).trans s3).trans s4) S4 o4

/-! ### a def's promise by slots -/
abbrev WT := List Sl → Sto → PV → Prop
def SpD (K : PySem.W.Frag) (W : WT) : Sp := fun vs H Q _ => ∃ (ss : List Sl) (m : Sto) (F : Reg) (P : PV), SlsOk K F H ss vs ∧ StoOk K m F H ∧ W ss m P ∧ Then K m F H P Q
theorem ev_call {W : WT} {dvs : List V} {E0 : XK} {tr : TA} {dss : List Sl} (hd : ∀ F H, SlsOk K F H dss dvs) (h : EvA K tr ρ m fun ss m1 => W (ss ++ dss) m1 P) : Ev K (tCall (SpD K W) dvs E0 tr) ρ m P := fun σ F H Q E S q =>
  h σ F H _ E S fun ss m1 vs F1 H1 w s1 S1 o1 => ⟨ss ++ dss, m1, F1, P, paired_app o1 (hd F1 H1), S1, w, fun s m' v F' H' p s2 S2 o2 => q s m' v F' H' p (s1.trans s2) S2 o2⟩
theorem ev_call0 {W : WT} {E0 : XK} {tr : TA} (h : EvA K tr ρ m fun ss m1 => W ss m1 P) : Ev K (tCall (SpD K W) [] E0 tr) ρ m P := fun σ F H Q E S q =>
  h σ F H _ E S fun ss m1 vs F1 H1 w s1 S1 o1 => ⟨ss, m1, F1, P, by rw [List.append_nil]; exact o1, S1, w, fun s m' v F' H' p s2 S2 o2 => q s m' v F' H' p (s1.trans s2) S2 o2⟩
theorem spD_len {W : WT} {n : Nat} (h : ∀ ss m P, W ss m P → ss.length = n) {vs : List V} {H : Hp} {Q : VK} {E : XK} (w : SpD K W vs H Q E) : vs.length = n := by
  obtain ⟨ss, m, F, P, o, _, w, _⟩ := w
  rw [← paired_len o]
  exact h ss m P w
theorem paired_none {F : Reg} {H : Hp} : ∀ n : Nat, EnvOk K F H (List.replicate n none) (List.replicate n none)
  | 0 => .nil
  | n + 1 => by rw [List.replicate_succ, List.replicate_succ]; exact .cons (fun _ e => nomatch e) (paired_none n)
def rho (N : List Str) (ss : List Sl) : Rho := ss.map some ++ List.replicate (N.length - ss.length) none
theorem envOk_start {F : Reg} {H : Hp} {N : List Str} {ss : List Sl} {vs : List V} (o : SlsOk K F H ss vs) : EnvOk K F H (rho N ss) (L2.start N vs) := by
  unfold rho L2.start
  rw [← paired_len o]
  refine paired_app ?_ (paired_none _)
  induction o with
  | nil => exact .nil
  | cons r t ih => exact .cons (fun sl e => by cases e; exact ⟨_, rfl, r⟩) ih
/-- THE BODY: from the promise to the statement's reading -/
theorem body {W : WT} {N : List Str} {ts : TS} (h : ∀ ss m P, W ss m P → Wp K ts (rho N ss) m { nx := fun _ m' => P (.d .none) m', rt := P }) {vs : List V} {H : Hp} {Q : VK} {E : XK} (w : SpD K W vs H Q E) :
    ts { nx := fun _ H' => Q .non H', rt := Q } (L2.start N vs) H := by
  obtain ⟨ss, m, F, P, o, S, w, q⟩ := w
  exact h ss m P w _ _ F _ (envOk_start o) S (fun ρ' m' σ' F' H' p s1 S1 _ => q _ m' _ F' H' p s1 S1 rfl) q (fun _ _ _ _ _ p => p.elim) (fun _ _ _ _ _ p => p.elim)

/-! ### statements -/
variable {k : Ko} {t1 t2 ts : TS}
theorem wp_at {ts : TS} {D : Ends} {m0 m1 : Sto} {F0 F1 : Reg} {H0 H1 : Hp} {σ : L2.St} {ρ1 : Rho} (s1 : Step m0 F0 H0 m1 F1 H1) (E : EnvOk K F1 H1 ρ1 σ) (S1 : StoOk K m1 F1 H1) (w : Wp K ts ρ1 m1 k)
    (q1 : ∀ ρ' m' σ' F' H', k.nx ρ' m' → Step m0 F0 H0 m' F' H' → StoOk K m' F' H' → EnvOk K F' H' ρ' σ' → D.nx σ' H')
    (q2 : ∀ s m' v F' H', k.rt s m' → Step m0 F0 H0 m' F' H' → StoOk K m' F' H' → SlOk K F' H' s v → D.rt v H')
    (q3 : ∀ ρ' m' σ' F' H', k.bk ρ' m' → Step m0 F0 H0 m' F' H' → StoOk K m' F' H' → EnvOk K F' H' ρ' σ' → D.bk σ' H')
    (q4 : ∀ ρ' m' σ' F' H', k.ct ρ' m' → Step m0 F0 H0 m' F' H' → StoOk K m' F' H' → EnvOk K F' H' ρ' σ' → D.ct σ' H') : ts D σ H1 :=
  w D σ F1 H1 E S1 (fun a b c d f e s2 S2 => q1 a b c d f e (s1.trans s2) S2) (fun a b c d f e s2 S2 => q2 a b c d f e (s1.trans s2) S2) (fun a b c d f e s2 S2 => q3 a b c d f e (s1.trans s2) S2) (fun a b c d f e s2 S2 => q4 a b c d f e (s1.trans s2) S2)
theorem wp_seq (h : Wp K t1 ρ m { k with nx := fun ρ' m' => Wp K t2 ρ' m' k }) : Wp K (tSeq t1 t2) ρ m k := fun D σ F H E S q1 q2 q3 q4 =>
  h { D with nx := t2 D } σ F H E S (fun ρ' m' σ' F' H' w s1 S1 E1 => wp_at (ts := t2) (D := D) s1 E1 S1 w q1 q2 q3 q4) q2 q3 q4
theorem wp_next (h : k.nx ρ m) : Wp K tNext ρ m k := fun D σ F H E S q1 _ _ _ => q1 ρ m σ F H h Step.refl S E
theorem wp_brk (h : k.bk ρ m) : Wp K tBreak ρ m k := fun D σ F H E S _ _ q3 _ => q3 ρ m σ F H h Step.refl S E
theorem wp_cont (h : k.ct ρ m) : Wp K tCont ρ m k := fun D σ F H E S _ _ _ q4 => q4 ρ m σ F H h Step.refl S E
theorem slO_some {F : Reg} {H : Hp} {s : Sl} {v : V} (o : SlOk K F H s v) : SlO K F H (some s) (some v) := fun sl e => by cases e; exact ⟨_, rfl, o⟩
theorem envOk_set {F : Reg} {H : Hp} {σ : L2.St} {s : Sl} {v : V} (E : EnvOk K F H ρ σ) (i : Nat) (o : SlOk K F H s v) : EnvOk K F H (ρ.set i (some s)) (σ.set i (some v)) := paired_set (F := SlO K F H) (slO_some o) i E
theorem wp_set {i : Nat} (h : Ev K te ρ m fun s m1 => k.nx (ρ.set i (some s)) m1) : Wp K (tAsg te (gName i)) ρ m k := fun D σ F H E S q1 _ _ _ =>
  h σ F H _ E S fun s m1 v F1 H1 p s1 S1 o1 => q1 _ m1 _ F1 H1 p s1 S1 (envOk_set (envOk_step s1 E) i o1)
theorem wp_asg {g : TG} (h : Ev K te ρ m fun s m1 => ∃ js, Gt K g js s ρ m1 k.nx) : Wp K (tAsg te g) ρ m k := fun D σ F H E S q1 _ _ _ =>
  h σ F H _ E S fun s m1 v F1 H1 ⟨js, p⟩ s1 S1 o1 => p σ F1 H1 v _ (envOk_step s1 E) S1 o1 fun a b c d f e s2 S2 E2 _ => q1 a b c d f e (s1.trans s2) S2 E2
theorem wp_drop (h : Ev K te ρ m fun _ m1 => k.nx ρ m1) : Wp K (tDrop te) ρ m k := fun D σ F H E S q1 _ _ _ =>
  h σ F H _ E S fun s m1 v F1 H1 p s1 S1 o1 => q1 _ m1 _ F1 H1 p s1 S1 (envOk_step s1 E)
theorem wp_ret (h : Ev K te ρ m k.rt) : Wp K (tRet te) ρ m k := fun D σ F H E S _ q2 _ _ => h σ F H _ E S q2
theorem wp_retN (h : k.rt (.d .none) m) : Wp K tRetN ρ m k := fun D σ F H E S _ q2 _ _ => q2 _ m _ F H h Step.refl S rfl
theorem wp_if (h : EvT K t ρ m fun b m1 => if b = true then Wp K t1 ρ m1 k else Wp K t2 ρ m1 k) : Wp K (tIfS t t1 t2) ρ m k := fun D σ F H E S q1 q2 q3 q4 =>
  h σ F H _ E S fun b m1 F1 H1 w s1 S1 => by
    cases b with
    | true => exact wp_at s1 (envOk_step s1 E) S1 w q1 q2 q3 q4
    | false => exact wp_at s1 (envOk_step s1 E) S1 w q1 q2 q3 q4
theorem wp_never (h : False) : Wp K tNever ρ m k := h.elim
/-! ### targets -/
theorem wipe_set {σ : L2.St} {j : Nat} {v : Option V} : ∀ {vs : List Nat}, j ∈ vs → wipe (σ.set j v) vs = wipe σ vs
  | [], h => by simp at h
  | a :: vs, h => by
    unfold wipe
    by_cases e : j ∈ vs
    · rw [wipe_set e]
    · have ej : j = a := by
        rcases List.mem_cons.mp h with h | h
        · exact h
        · exact absurd h e
      subst ej
      clear h
      have key : ∀ {ws : List Nat}, j ∉ ws → (wipe (σ.set j v) ws).set j none = (wipe σ ws).set j none := by
        intro ws
        induction ws with
        | nil =>
          intro _
          show (σ.set j v).set j none = σ.set j none
          rw [List.set_set]
        | cons b ws ih =>
          intro hn
          have hb : b ≠ j := fun q => hn (by rw [q]; exact List.mem_cons_self)
          have hw : j ∉ ws := fun q => hn (List.mem_cons_of_mem _ q)
          show ((wipe (σ.set j v) ws).set b none).set j none = ((wipe σ ws).set b none).set j none
          rw [List.set_comm _ _ hb, ih hw, List.set_comm _ _ (Ne.symm hb)]
      exact key e
theorem gt_name {i : Nat} {s : Sl} {P : Rho → Sto → Prop} (h : P (ρ.set i (some s)) m) : Gt K (gName i) [i] s ρ m P := fun σ F H v Q E S o q =>
  q _ m _ F H h Step.refl S (envOk_set E i o) fun vs hj => wipe_set (hj i (by simp))
/-- a, b = a pair -/
theorem gt_pair {i j : Nat} {x y : PyData} {P : Rho → Sto → Prop} (h : P ((ρ.set i (some (.d x))).set j (some (.d y))) m) : Gt K (gTup K 2 (gCons (gName i) (gCons (gName j) gNil))) [i, j] (.d (.tuple [x, y])) ρ m P := fun σ F H v Q E S o q => by
  obtain ⟨a, vs, e, sq, z⟩ := im_tup o
  have z2 : ∃ v1 v2, vs = [v1, v2] ∧ Im K F H x v1 ∧ Im K F H y v2 := by
    obtain ⟨v1, r, e1, h1, w, r2, e2, h2, e3⟩ := z
    have e3' : r2 = [] := e3
    subst e1 e2 e3'
    exact ⟨v1, w, rfl, h1, h2⟩
  obtain ⟨v1, v2, ev, i1, i2⟩ := z2
  subst ev e
  refine ⟨a, [v1, v2], rfl, sq, rfl, v1, [v2], rfl, v2, [], rfl, rfl, ?_⟩
  refine q _ m _ F H h Step.refl S (envOk_set (s := .d y) (envOk_set (s := .d x) E i i1) j i2) fun vs hj => ?_
  rw [wipe_set (hj j (by simp)), wipe_set (hj i (by simp))]
theorem gt_pairP {i j : Nat} {x y : PyData} {P : Rho → Sto → Prop} (h : P ((ρ.set i (some (.d x))).set j (some (.d y))) m) : Gt K (gTup K 2 (gCons (gName i) (gCons (gName j) gNil))) [i, j] (.p x y) ρ m P := fun σ F H v Q E S o q => by
  obtain ⟨a, v1, v2, e, _, ha, i1, i2⟩ := o
  subst e
  refine ⟨a, [v1, v2], rfl, SqT.of ha, rfl, v1, [v2], rfl, v2, [], rfl, rfl, ?_⟩
  refine q _ m _ F H h Step.refl S (envOk_set (s := .d y) (envOk_set (s := .d x) E i i1) j i2) fun vs hj => ?_
  rw [wipe_set (hj j (by simp)), wipe_set (hj i (by simp))]
def wipeR (ρ : Rho) : List Nat → Rho
  | [] => ρ
  | v :: vs => (wipeR ρ vs).set v none
theorem envOk_wipe {F : Reg} {H : Hp} {σ : L2.St} (E : EnvOk K F H ρ σ) : ∀ vs : List Nat, EnvOk K F H (wipeR ρ vs) (wipe σ vs)
  | [] => E
  | v :: vs => paired_set (F := SlO K F H) (x := none) (y := none) (fun _ e => nomatch e) v (envOk_wipe E vs)
theorem envOk_unset {F : Reg} {H : Hp} {σ σ' : L2.St} {ρ : Rho} (E : EnvOk K F H ρ σ) (hl : σ'.length = σ.length) (h : ∀ (i : Nat) (v : V), σ[i]? = some (some v) → σ'[i]? = some (some v)) : EnvOk K F H ρ σ' := by
  induction E generalizing σ' with
  | nil =>
    cases σ' with
    | nil => exact .nil
    | cons a b => simp at hl
  | @cons a b l1 l2 r t ih =>
    cases σ' with
    | nil => simp at hl
    | cons c d =>
      refine .cons (fun sl e => ?_) (ih (by simpa using hl) fun i v q => by simpa using h (i + 1) v (by simpa using q))
      obtain ⟨x, e1, q⟩ := r sl e
      subst e1
      have := h 0 x (by simp)
      refine ⟨x, by simpa using this, q⟩
/-! ### loops -/
/-- an invariant by the turn, the names and the store -/
theorem wp_for {wi : TI} {g : TG} (h : EvI K wi ρ m fun xs C m1 => ∃ Iv : Nat → Rho → Sto → Prop, Iv 0 ρ m1 ∧ (∀ i ρ' m', Iv i ρ' m' → C m') ∧
      (∀ i x ρ' m', xs[i]? = some x → Iv i ρ' m' → ∃ js, Gt K g js x ρ' m' fun ρ2 m2 => Wp K ts ρ2 m2 { k with nx := Iv (i + 1), ct := Iv (i + 1), bk := k.nx }) ∧ ∀ ρ' m', Iv xs.length ρ' m' → k.nx ρ' m') :
    Wp K (tFor wi g ts) ρ m k := fun D σ F H E S q1 q2 q3 q4 =>
  h σ F H _ E S fun xs C m1 F1 H1 J ⟨Iv, h0, hC, hs, hd⟩ s1 S1 w => by
    refine for_it w (fun i σ' H' => ∃ ρ' m' F', Iv i ρ' m' ∧ Step m1 F1 H1 m' F' H' ∧ StoOk K m' F' H' ∧ EnvOk K F' H' ρ' σ') ⟨ρ, m1, F1, h0, Step.refl, S1, envOk_step s1 E⟩ (fun i σ' H' _ ⟨ρ', m', F', a, b, c, d⟩ => ⟨m', F', hC i ρ' m' a, b, c⟩) ?_
      (fun σ' H' ⟨ρ', m', F', a, b, c, d⟩ => q1 ρ' m' σ' F' H' (hd ρ' m' a) (s1.trans b) c d)
    rintro i x σ' H' H2 hi ⟨ρ', m', F', a, b, c, d⟩ y
    obtain ⟨F2, s2, S2, sl, hx, o2⟩ := y m' F' (hC i ρ' m' a) b c
    obtain ⟨js, gt⟩ := hs i sl ρ' m' hx a
    refine gt σ' F2 H2 x _ (envOk_step s2 d) S2 o2 fun ρ3 m3 σ3 F3 H3 wp s3 S3 E3 _ => ?_
    have st : Step m1 F1 H1 m3 F3 H3 := (b.trans s2).trans s3
    exact wp _ σ3 F3 H3 E3 S3 (fun a' b' c' f' d' e s4 S4 E4 => ⟨a', b', f', e, st.trans s4, S4, E4⟩) (fun a b c d f e s4 S4 => q2 a b c d f e ((s1.trans st).trans s4) S4) (fun a b c d f e s4 S4 E4 => q1 a b c d f e ((s1.trans st).trans s4) S4 E4) (fun a' b' c' f' d' e s4 S4 E4 => ⟨a', b', f', e, st.trans s4, S4, E4⟩)
/-- the list that a comprehension fills: not known to the block -/
structure Fill (K : PySem.W.Frag) (D : Addr) (m1 : Sto) (F1 : Reg) (H1 : Hp) (acc : List PyData) (m' : Sto) (F' : Reg) (H' : Hp) : Prop where
  st : Step m1 F1 H1 m' F' H'
  so : StoOk K m' F' H'
  at_ : ∃ us, H' D = some (.lst us) ∧ ImAll K F' H' acc us
  nF : ¬ F' D
  nm : m' D = none
theorem Fill.start {D : Addr} {m1 : Sto} {F1 : Reg} {H1 : Hp} (S : StoOk K m1 F1 H1) (hD : H1 D = none) : Fill K D m1 F1 H1 [] m1 F1 (upd H1 D (.lst [])) where
  st := ⟨fix_upd S (not_reg S hD), fun a o ha n k => ⟨by rw [upd_ne (ne_of_none ha hD)]; exact ha, n, k⟩⟩
  so := ⟨fun a u e => ⟨muOk_fix (fix_upd S (not_reg S hD)) (fun o q => by rw [upd_ne (ne_of_none q hD)]; exact q) (S.mu a u e).1, (S.mu a u e).2⟩, fun a z => by
    by_cases e : a = D
    · rw [e, upd_same]; simp
    · rw [upd_ne e]; exact S.reg a z⟩
  at_ := ⟨[], upd_same, rfl⟩
  nF := not_reg S hD
  nm := sto_none S hD
theorem Fill.step {D : Addr} {m1 m2 m3 : Sto} {F1 F2 F3 : Reg} {H1 H2 H3 : Hp} {acc : List PyData} (f : Fill K D m1 F1 H1 acc m2 F2 H2) (s : Step m2 F2 H2 m3 F3 H3) (S : StoOk K m3 F3 H3) : Fill K D m1 F1 H1 acc m3 F3 H3 := by
  obtain ⟨us, e, i⟩ := f.at_
  obtain ⟨a, b, c⟩ := s.frm D _ e f.nF f.nm
  exact ⟨f.st.trans s, S, ⟨us, a, imAll_fix s.fix _ _ i⟩, b, c⟩
theorem Fill.add {D : Addr} {m1 m2 : Sto} {F1 F2 : Reg} {H1 H2 : Hp} {acc : List PyData} {us : List V} {d : PyData} {v : V} (hD : H1 D = none) (f : Fill K D m1 F1 H1 acc m2 F2 H2) (e : H2 D = some (.lst us)) (iu : ImAll K F2 H2 acc us) (i : Im K F2 H2 d v) :
    Fill K D m1 F1 H1 (acc ++ [d]) m2 F2 (upd H2 D (.lst (us ++ [v]))) where
  st := ⟨fun a o ha n => by
      obtain ⟨x, y⟩ := f.st.fix a o ha n
      exact ⟨by rw [upd_ne (ne_of_none ha hD)]; exact x, y⟩, fun a o ha n k => by
      obtain ⟨x, y, z⟩ := f.st.frm a o ha n k
      exact ⟨by rw [upd_ne (ne_of_none ha hD)]; exact x, y, z⟩⟩
  so := ⟨fun a u ea => by
      have ne : a ≠ D := fun q => by rw [q, f.nm] at ea; cases ea
      exact ⟨muOk_fix (fix_upd f.so f.nF) (fun o q => by rw [upd_ne ne]; exact q) (f.so.mu a u ea).1, (f.so.mu a u ea).2⟩, fun a z => by
    by_cases e : a = D
    · rw [e, upd_same]; simp
    · rw [upd_ne e]; exact f.so.reg a z⟩
  at_ := ⟨us ++ [v], upd_same, imAll_fix (fix_upd f.so f.nF) _ _ (imAll_app iu (imAll_one i))⟩
  nF := f.nF
  nm := f.nm
theorem Fill.done {D : Addr} {m1 m2 : Sto} {F1 F2 : Reg} {H1 H2 : Hp} {acc : List PyData} (hD : H1 D = none) (f : Fill K D m1 F1 H1 acc m2 F2 H2) :
    Step m1 F1 H1 m2 (Dv.add F2 D) H2 ∧ StoOk K m2 (Dv.add F2 D) H2 ∧ Im K (Dv.add F2 D) H2 (.list acc) (.ref D) := by
  obtain ⟨us, e, i⟩ := f.at_
  refine ⟨⟨fun a o ha n => ⟨(f.st.fix a o ha n).1, .inr (f.st.fix a o ha n).2⟩, fun a o ha n k => ?_⟩, ⟨fun a u ea => ?_, fun a z => ?_⟩, D, us, rfl, .inl rfl, e, imAll_fix (fun a o ha n => ⟨ha, .inr n⟩) _ _ i⟩
  · obtain ⟨x, y, z⟩ := f.st.frm a o ha n k
    exact ⟨x, fun q => q.elim (ne_of_none ha hD) y, z⟩
  · have ne : a ≠ D := fun q => by rw [q, f.nm] at ea; cases ea
    exact ⟨muOk_fix (fun a o ha n => ⟨ha, .inr n⟩) (fun o q => q) (f.so.mu a u ea).1, fun q => q.elim ne (f.so.mu a u ea).2⟩
  · rcases z with z | z
    · rw [z, e]; simp
    · exact f.so.reg a z
/-- a comprehension -/
theorem ev_lc {wi : TI} {g : TG} {vs : List Nat} (h : EvI K wi ρ m fun xs C m1 => ∃ Iv : Nat → List PyData → Sto → Prop, Iv 0 [] m1 ∧ (∀ i acc m', Iv i acc m' → C m') ∧
      (∀ i x acc m', xs[i]? = some x → Iv i acc m' → acc.length < 100000 ∧ ∃ js, (∀ j ∈ js, j ∈ vs) ∧ Gt K g js x (wipeR ρ vs) m' fun ρ2 m2 => EvT K t ρ2 m2 fun b m3 => if b = true then Ev K te ρ2 m3 (fun y m4 => ∃ d, y = .d d ∧ Iv (i + 1) (acc ++ [d]) m4) else Iv (i + 1) acc m3) ∧
      ∀ acc m', Iv xs.length acc m' → P (.d (.list acc)) m') : Ev K (tLc wi g t te vs) ρ m P := fun σ F H Q E S q =>
  h σ F H _ E S fun xs C m1 F1 H1 J ⟨Iv, h0, hC, hs, hd⟩ s1 S1 w => by
    intro D hD
    refine lc_it w (fun i H' => ∃ acc m' F', Iv i acc m' ∧ Fill K D m1 F1 H1 acc m' F' H') ⟨[], m1, F1, h0, Fill.start S1 hD⟩ (fun i H' _ ⟨acc, m', F', a, f⟩ => ⟨m', F', hC _ _ _ a, f.st, f.so⟩) ?_ (fun H' ⟨acc, m', F', a, f⟩ => ?_)
    · rintro i x H' H2 hi ⟨acc, m', F', a, f⟩ y
      obtain ⟨F2, s2, S2, sl, hx, o2⟩ := y m' F' (hC i acc m' a) f.st f.so
      have f2 := f.step s2 S2
      obtain ⟨hlen, js, hj, gt⟩ := hs i sl acc m' hx a
      have E2 : EnvOk K F2 H2 (wipeR ρ vs) (wipe σ vs) := envOk_step (s1.trans f2.st) (envOk_wipe E vs)
      refine gt (wipe σ vs) F2 H2 x _ E2 S2 o2 fun ρ3 m3 σ3 F3 H3 et s3 S3 E3 hw => ⟨?_, ?_⟩
      · have := hw vs hj
        rw [this]
        have ww : ∀ us : List Nat, (∀ j ∈ us, j ∈ vs) → wipe (wipe σ us) vs = wipe σ vs := by
          intro us
          induction us with
          | nil => intro _; rfl
          | cons b us ih =>
            intro hu
            show wipe ((wipe σ us).set b none) vs = wipe σ vs
            rw [wipe_set (hu b List.mem_cons_self)]
            exact ih fun j z => hu j (List.mem_cons_of_mem _ z)
        exact ww vs fun j z => z
      · have f3 := f2.step s3 S3
        refine et σ3 F3 H3 _ E3 S3 fun b m4 F4 H4 ev s4 S4 => ?_
        have f4 := f3.step s4 S4
        cases b with
        | false =>
          rw [if_neg Bool.false_ne_true] at ev
          rw [if_neg Bool.false_ne_true]
          exact ⟨acc, m4, F4, ev, f4⟩
        | true =>
          rw [if_pos rfl] at ev
          rw [if_pos rfl]
          refine ev σ3 F4 H4 _ (envOk_step s4 E3) S4 fun s m5 v F5 H5 ⟨d, es, iv⟩ s5 S5 o5 => ?_
          subst es
          have f5 := f4.step s5 S5
          obtain ⟨us, eD, iu⟩ := f5.at_
          refine ⟨us, eD, ?_, acc ++ [d], m5, F5, iv, f5.add hD eD iu o5⟩
          rw [← imAll_len iu, sizeLine_eq]
          omega
    · obtain ⟨a1, a2, a3⟩ := f.done hD
      exact q _ _ _ _ H' (hd _ _ a) (s1.trans a1) a2 a3
end
end Dv

namespace Dv
open PySem L2
section
variable {K : PySem.W.Frag} {ρ : Rho} {m : Sto} {P P' : PV} {r r' : R2} {s t : Sl}
def ro2 (r r' : R2) : R2 := fun x y H Q => r x y H Q ∨ r' x y H Q
theorem ro_l (h : RO K r s t m P) : RO K (ro2 r r') s t m P := fun x y F H Q a b S q => .inl (h x y F H Q a b S q)
theorem ro_r (h : RO K r' s t m P) : RO K (ro2 r r') s t m P := fun x y F H Q a b S q => .inr (h x y F H Q a b S q)
def rc2 (r r' : List V → Hp → VK → Prop) : List V → Hp → VK → Prop := fun xs H Q => r xs H Q ∨ r' xs H Q
theorem rc_l {r r' : List V → Hp → VK → Prop} {ss : List Sl} (h : RC K r ss m P) : RC K (rc2 r r') ss m P := fun xs F H Q a S q => .inl (h xs F H Q a S q)
theorem rc_r {r r' : List V → Hp → VK → Prop} {ss : List Sl} (h : RC K r' ss m P) : RC K (rc2 r r') ss m P := fun xs F H Q a S q => .inr (h xs F H Q a S q)
/-! ### ints -/
theorem ro_i0 {g : Int → Int → Int} {i j : Int} (p : P (.d (.int (g i j))) m) : RO K (rI0 fun i j => .int (g i j)) (.d (.int i)) (.d (.int j)) m P := fun x y F H Q a b S q => ⟨i, j, a, b, q _ m _ F H p Step.refl S rfl⟩
theorem ro_b0 {g : Int → Int → Bool} {i j : Int} (p : P (.d (.bool (g i j))) m) : RO K (rI0 fun i j => .bl (g i j)) (.d (.int i)) (.d (.int j)) m P := fun x y F H Q a b S q => ⟨i, j, a, b, q _ m _ F H p Step.refl S rfl⟩
theorem ro_i {C : Int → Int → Prop} {g : Int → Int → Int} {i j : Int} (c : C i j) (p : P (.d (.int (g i j))) m) : RO K (rI C fun i j => .int (g i j)) (.d (.int i)) (.d (.int j)) m P := fun x y F H Q a b S q => ⟨i, j, a, b, c, q _ m _ F H p Step.refl S rfl⟩
/-! ### + -/
/-- t + u of tuples -/
def rCatZ (K : PySem.W.Frag) : R2 := fun x y H Q => ∃ a b xs ys, x = .ref a ∧ y = .ref b ∧ SqT K H a xs ∧ SqT K H b ys ∧ xs.length + ys.length ≤ sizeLine ∧
  (xs = [] → Q (.ref b) H) ∧ (xs ≠ [] → ys = [] → Q (.ref a) H) ∧ (xs ≠ [] → ys ≠ [] → ∀ p ob, H p = none → ob.dict = none → Q (.ref p) (upd H p (.frz ob (.tup (xs ++ ys)))))
theorem op_catZ {X : Cx} : OpR X (binaryOp .Add) (rCatZ X.K) := by
  rintro pins s σ H x y v u Q I rx ry ⟨a, b, xs, ys, rfl, rfl, ha, hb, hz, q0, q1, q2⟩
  cases rx
  cases ry
  obtain ⟨its, r1, p1, _⟩ := I.tuple ha
  obtain ⟨its2, r2, p2, _⟩ := I.tuple hb
  have l1 := r1.length
  have l2 := r2.length
  by_cases hx : xs = []
  · subst hx
    cases r1
    exact L2.cat_tup0 p1 p2 ⟨.ref b, H, I, rfl, q0 rfl⟩
  · have hi : its ≠ [] := fun e => hx (by subst e; exact List.length_eq_zero_iff.mp l1)
    refine HT.cat_tup p1 p2 hi (fun e => ⟨.ref a, H, I, rfl, q1 hx (by subst e; exact List.length_eq_zero_iff.mp l2)⟩) (fun e => ?_) (by omega)
    refine ⟨.ref s.heap.objs.size, _, inv_tupZ (tk := s.toks) I (fun _ _ a => a) (xs := xs ++ ys) (by rw [List.length_append]; exact hz) (r1.append r2), rfl, ?_⟩
    exact q2 hx (fun z => e (by subst z; exact List.length_eq_zero_iff.mp l2.symm)) _ _ (I.hok.fresh (Nat.le_refl _)) rfl
abbrev rAdd0 : R2 := rI0 fun i j => .int (i + j)
def rAddStr : R2 := fun x y H Q => ∃ i j, x = .str i ∧ y = .str j ∧ i.length + j.length ≤ sizeLine ∧ Q (.str (i ++ j)) H
def rAddU (K : PySem.W.Frag) : R2 := ro2 rAdd0 (ro2 rAddStr (ro2 rCat (rCatZ K)))
theorem op_addU {X : Cx} : OpR X (binaryOp .Add) (rAddU X.K) := op_add.or (op_add_str.or (op_cat.or op_catZ))
theorem ra_int {i j : Int} (p : P (.d (.int (i + j))) m) : RO K (rAddU K) (.d (.int i)) (.d (.int j)) m P := ro_l (ro_i0 p)
theorem ra_str {x y : Str} (h : x.length + y.length ≤ 100000) (p : P (.d (.str (x ++ y))) m) : RO K (rAddU K) (.d (.str x)) (.d (.str y)) m P := ro_r (ro_l fun u v F H Q a b S q => ⟨x, y, a, b, by rw [sizeLine_eq]; omega, q _ m _ F H p Step.refl S rfl⟩)
/-- what a new object is behind -/
theorem then_new {F : Reg} {H : Hp} {Q : VK} {d : PyData} {o : HO} (S : StoOk K m F H) (p : P (.d d) m) (q : Then K m F H P Q) {a : Addr} (ha : H a = none) (i : Im K (add F a) (upd H a o) d (.ref a)) : Q (.ref a) (upd H a o) :=
  q _ m _ _ _ p (step_new S ha) (sto_new S ha) i
theorem ra_lst {ds es : List PyData} (h : ds.length + es.length ≤ 100000) (p : P (.d (.list (ds ++ es))) m) : RO K (rAddU K) (.d (.list ds)) (.d (.list es)) m P := ro_r (ro_r (ro_l fun u v F H Q a b S q => by
  obtain ⟨l, xs, e1, h1, i1⟩ := im_lst a
  obtain ⟨l2, ys, e2, h2, i2⟩ := im_lst b
  have z1 := imAll_len i1
  have z2 := imAll_len i2
  refine ⟨l, l2, xs, ys, e1, e2, h1, h2, by rw [sizeLine_eq]; omega, fun c hc => ?_⟩
  exact then_new S p q hc ⟨c, _, rfl, .inl rfl, upd_same, imAll_fix (step_new S hc).fix _ _ (imAll_app i1 i2)⟩))
theorem im_nil_t {F : Reg} {H : Hp} {ds : List PyData} {vs : List V} (h : ImAll K F H ds vs) : vs = [] ↔ ds = [] := by
  have := imAll_len h
  cases ds <;> cases vs <;> simp_all
theorem ra_tup {ds es : List PyData} (h : ds.length + es.length ≤ 100000) (p : P (.d (.tuple (ds ++ es))) m) : RO K (rAddU K) (.d (.tuple ds)) (.d (.tuple es)) m P := ro_r (ro_r (ro_r fun u v F H Q a b S q => by
  obtain ⟨l, xs, e1, h1, i1⟩ := im_tup a
  obtain ⟨l2, ys, e2, h2, i2⟩ := im_tup b
  have z1 := imAll_len i1
  have z2 := imAll_len i2
  refine ⟨l, l2, xs, ys, e1, e2, h1, h2, by rw [sizeLine_eq]; omega, fun e => ?_, fun _ e => ?_, fun _ _ c ob hc hd => ?_⟩
  · have : ds = [] := (im_nil_t i1).mp e
    subst this
    subst e2
    exact q _ m _ F H p Step.refl S b
  · have : es = [] := (im_nil_t i2).mp e
    subst this
    subst e1
    rw [List.append_nil] at p
    exact q _ m _ F H p Step.refl S a
  · exact then_new S p q hc ⟨c, _, rfl, .inl ⟨.inl rfl, ob, upd_same, hd⟩, imAll_fix (step_new S hc).fix _ _ (imAll_app i1 i2)⟩))
/-! ### -, *, //, %, ** -/
theorem rs_int {i j : Int} (p : P (.d (.int (i - j))) m) : RO K (rI0 fun i j => .int (i - j)) (.d (.int i)) (.d (.int j)) m P := ro_i0 p
def rMulStr : R2 := fun x y H Q => ∃ z n, x = .str z ∧ y = .int n ∧ 0 ≤ n ∧ n ≤ 1000 ∧ z.length ≤ 1000 ∧ Q (.str (Txt.mul z n)) H
theorem op_mul_str {X : Cx} : OpR X (binaryOp .Mult) rMulStr := by
  intro pins s σ H x y v u Q I rx ry h
  obtain ⟨z, n, rfl, rfl, h0, h1, h2, q⟩ := h
  obtain ⟨t, rfl⟩ := rx
  obtain ⟨t', rfl⟩ := ry
  refine PySem.SB.mul ⟨by simp; omega, fun a _ => ?_, fun a _ => ?_⟩ fun t' k => ⟨.str _, H, I.tok _, ⟨_, rfl⟩, q⟩
  · have : (1000 : Int) ≤ (2 ^ 63 - 1) / n := by
      have : (2 ^ 63 - 1 : Int) / 1000 ≤ (2 ^ 63 - 1) / n := by
        apply Int.le_ediv_of_mul_le (by omega)
        have : (2 ^ 63 - 1 : Int) / 1000 * n ≤ (2 ^ 63 - 1 : Int) / 1000 * 1000 := Int.mul_le_mul_of_nonneg_left h1 (by decide)
        refine Int.le_trans this (by decide)
      refine Int.le_trans (by decide) this
    omega
  · have : z.length * n.toNat ≤ 1000 * 1000 := Nat.mul_le_mul h2 (by omega)
    unfold Builtin.Str.tooLong
    simp [sizeLine_eq] <;> omega
def rMulU : R2 := ro2 (rI CMulW fun i j => .int (i * j)) (ro2 rMulStr rRep)
theorem op_mulU {X : Cx} : OpR X (binaryOp .Mult) rMulU := op_mulW.or (op_mul_str.or op_rep)
theorem rm_int {i j : Int} (c : CMulW i j) (p : P (.d (.int (i * j))) m) : RO K rMulU (.d (.int i)) (.d (.int j)) m P := ro_l (ro_i c p)
theorem rm_str {z : Str} {n : Int} (h0 : 0 ≤ n) (h1 : n ≤ 1000) (h2 : z.length ≤ 1000) (p : P (.d (.str (Txt.mul z n))) m) : RO K rMulU (.d (.str z)) (.d (.int n)) m P := ro_r (ro_l fun u v F H Q a b S q => ⟨z, n, a, b, h0, h1, h2, q _ m _ F H p Step.refl S rfl⟩)
theorem imAll_rep {F : Reg} {H : Hp} {ds : List PyData} {vs : List V} (i : ImAll K F H ds vs) : ∀ k : Nat, ImAll K F H (List.replicate k ds).flatten (List.replicate k vs).flatten
  | 0 => rfl
  | k + 1 => by
    rw [List.replicate_succ, List.replicate_succ, List.flatten_cons, List.flatten_cons]
    exact imAll_app i (imAll_rep i k)
theorem rm_lst {ds : List PyData} {n : Int} (h0 : 0 ≤ n) (h1 : n ≤ 1000) (h2 : ds.length ≤ 1000) (p : P (.d (.list (List.replicate n.toNat ds).flatten)) m) : RO K rMulU (.d (.list ds)) (.d (.int n)) m P := ro_r (ro_r fun u v F H Q a b S q => by
  obtain ⟨l, xs, e1, hl, i1⟩ := im_lst a
  have z1 := imAll_len i1
  have : xs.length * n.toNat ≤ 1000 * 1000 := Nat.mul_le_mul (by omega) (by omega)
  refine ⟨l, n, xs, e1, b, hl, by omega, by omega, by rw [sizeLine_eq]; omega, fun c hc => ?_⟩
  exact then_new S p q hc ⟨c, _, rfl, .inl rfl, upd_same, imAll_fix (step_new S hc).fix _ _ (imAll_rep i1 _)⟩)
theorem rd_int {i j : Int} (c : CDivW i j) (p : P (.d (.int (i / j))) m) : RO K (rI CDivW fun i j => .int (i / j)) (.d (.int i)) (.d (.int j)) m P := ro_i c p
theorem rp_mod {i j : Int} (c : 0 < j) (p : P (.d (.int (i % j))) m) : RO K (rI (fun _ j => 0 < j) fun i j => .int (i % j)) (.d (.int i)) (.d (.int j)) m P := ro_i c p
def CPowW (i j : Int) : Prop := 0 ≤ j ∧ (Builtin.Int.intBits i : Int) * j ≤ 2 ^ 27
theorem op_powW {X : Cx} : OpR X (binaryOp .Pow) (rI CPowW fun i j => .int (i ^ j.toNat)) := opI fun _ _ _ _ _ _ _ hc q => PyProof.Rows.pow_int hc.1 hc.2 q
theorem powW {i j : Int} {b : Nat} (hb : i.natAbs < 2 ^ b) (h0 : 0 < b) (hj : 0 ≤ j) (h : j ≤ 1000) (hb2 : b ≤ 100000) : CPowW i j := by
  refine ⟨hj, ?_⟩
  have x := PySem.Flt.log2_lt_of h0 hb
  have y : Builtin.Int.intBits i ≤ 100000 := by
    unfold Builtin.Int.intBits
    split <;> omega
  have : (Builtin.Int.intBits i : Int) * j ≤ 100000 * 1000 := Int.mul_le_mul (by omega) h hj (by omega)
  refine Int.le_trans this (by decide)
theorem rp_pow {i j : Int} (c : CPowW i j) (p : P (.d (.int (i ^ j.toNat))) m) : RO K (rI CPowW fun i j => .int (i ^ j.toNat)) (.d (.int i)) (.d (.int j)) m P := ro_i c p
/-! ### == and its kin -/
theorem slot_dp {F : Reg} {H : Hp} {d : PyData} {x : V} (h : SlOk K F H (.d d) x) : Dp K H x d := im_dp d x h
theorem slot_dpM {F : Reg} {H : Hp} {a : Addr} {ds : List PyData} {x : V} (hm : m a = some (.lst ds)) (S : StoOk K m F H) (h : SlOk K F H (.m a) x) : Dp K H x (.list ds) := by
  obtain ⟨vs, z, q⟩ := mu_lst S hm
  cases (show x = .ref a from h)
  exact .lst (SqL.of z) (imAll_dp ds vs q)
def rEqU (K : PySem.W.Frag) : R2 := ro2 (rEqD K) rEq
def rNeU (K : PySem.W.Frag) : R2 := ro2 (rNeD K) rNe
theorem op_eqU {X : Cx} (hu : X.A.units + 64 < cLine) : OpR X (compareOp .Eq) (rEqU X.K) := (op_eqD hu).or op_eq
theorem op_neU {X : Cx} (hu : X.A.units + 64 < cLine) : OpR X (compareOp .NotEq) (rNeU X.K) := (op_neD hu).or op_ne
theorem re_eqS {a b : Str} (p : P (.d (.bool (decide (a = b)))) m) : RO K (rEqU K) (.d (.str a)) (.d (.str b)) m P := ro_r fun x y F H Q u v S q => by
  cases (show x = .str a from u)
  cases (show y = .str b from v)
  refine ⟨rfl, q _ m _ F H p Step.refl S ?_⟩
  show V.bl _ = V.bl _
  by_cases h : a = b
  · subst h; simp
  · simp [h]
theorem re_neS {a b : Str} (p : P (.d (.bool (!decide (a = b)))) m) : RO K (rNeU K) (.d (.str a)) (.d (.str b)) m P := ro_r fun x y F H Q u v S q => by
  cases (show x = .str a from u)
  cases (show y = .str b from v)
  refine ⟨rfl, q _ m _ F H p Step.refl S ?_⟩
  show V.bl _ = V.bl _
  by_cases h : a = b
  · subst h; simp
  · simp [h]
theorem re_eq {d e : PyData} (hd : SeqAt.shaped d = true) (he : SeqAt.shaped e = true) (p : P (.d (.bool (PyData.eqv d e))) m) : RO K (rEqU K) (.d d) (.d e) m P := ro_l fun x y F H Q a b S q => ⟨d, e, slot_dp a, slot_dp b, hd, he, q _ m _ F H p Step.refl S rfl⟩
theorem re_ne {d e : PyData} (hd : SeqAt.shaped d = true) (he : SeqAt.shaped e = true) (p : P (.d (.bool (!PyData.eqv d e))) m) : RO K (rNeU K) (.d d) (.d e) m P := ro_l fun x y F H Q a b S q => ⟨d, e, slot_dp a, slot_dp b, hd, he, q _ m _ F H p Step.refl S rfl⟩
theorem re_eqM {a : Addr} {ds : List PyData} {e : PyData} (hm : m a = some (.lst ds)) (hd : SeqAt.shaped (.list ds) = true) (he : SeqAt.shaped e = true) (p : P (.d (.bool (PyData.eqv (.list ds) e))) m) : RO K (rEqU K) (.m a) (.d e) m P := ro_l fun x y F H Q a b S q => ⟨_, e, slot_dpM hm S a, slot_dp b, hd, he, q _ m _ F H p Step.refl S rfl⟩
theorem re_neM {a : Addr} {ds : List PyData} {e : PyData} (hm : m a = some (.lst ds)) (hd : SeqAt.shaped (.list ds) = true) (he : SeqAt.shaped e = true) (p : P (.d (.bool (!PyData.eqv (.list ds) e))) m) : RO K (rNeU K) (.m a) (.d e) m P := ro_l fun x y F H Q a b S q => ⟨_, e, slot_dpM hm S a, slot_dp b, hd, he, q _ m _ F H p Step.refl S rfl⟩
theorem rl_lt {i j : Int} (p : P (.d (.bool (decide (i < j)))) m) : RO K (rI0 fun i j => .bl (decide (i < j))) (.d (.int i)) (.d (.int j)) m P := ro_b0 p
theorem rl_le {i j : Int} (p : P (.d (.bool (decide (i ≤ j)))) m) : RO K (rI0 fun i j => .bl (decide (i ≤ j))) (.d (.int i)) (.d (.int j)) m P := ro_b0 p
theorem rl_gt {i j : Int} (p : P (.d (.bool (decide (j < i)))) m) : RO K (rI0 fun i j => .bl (decide (j < i))) (.d (.int i)) (.d (.int j)) m P := ro_b0 p
theorem rl_ge {i j : Int} (p : P (.d (.bool (decide (j ≤ i)))) m) : RO K (rI0 fun i j => .bl (decide (j ≤ i))) (.d (.int i)) (.d (.int j)) m P := ro_b0 p
def isNone : PyData → Bool
  | .none => true
  | _ => false
theorem im_none {F : Reg} {H : Hp} {d : PyData} {x : V} (h : Im K F H d x) : decide (x = .non) = isNone d := by
  cases d with
  | none => cases (show x = .non from h); rfl
  | bool b => cases (show x = .bl b from h); rfl
  | int b => cases (show x = .int b from h); rfl
  | str b => cases (show x = .str b from h); rfl
  | list ds => obtain ⟨a, vs, e, _⟩ := h; subst e; rfl
  | tuple ds => obtain ⟨a, vs, e, _⟩ := h; subst e; rfl
  | dict ds => exact False.elim h
abbrev rIsN0 : R2 := fun x y H Q => y = .non ∧ Q (.bl (decide (x = .non))) H
abbrev rNotN0 : R2 := fun x y H Q => y = .non ∧ Q (.bl (!decide (x = .non))) H
theorem rn_is {d : PyData} (p : P (.d (.bool (isNone d))) m) : RO K rIsN0 (.d d) (.d .none) m P := fun x y F H Q a b S q => ⟨b, q _ m _ F H p Step.refl S (by rw [im_none a]; rfl)⟩
theorem rn_not {d : PyData} (p : P (.d (.bool (!isNone d))) m) : RO K rNotN0 (.d d) (.d .none) m P := fun x y F H Q a b S q => ⟨b, q _ m _ F H p Step.refl S (by rw [im_none a]; rfl)⟩
/-! ### in -/
def rInDT (K : PySem.W.Frag) : R2 := fun x y H Q => ∃ d ds, Dp K H x d ∧ Dp K H y (.tuple ds) ∧ SeqAt.shaped d = true ∧ SeqAt.shaped (.tuple ds) = true ∧ Q (.bl (ds.any fun z => PyData.eqv z d)) H
def rNotInDT (K : PySem.W.Frag) : R2 := fun x y H Q => ∃ d ds, Dp K H x d ∧ Dp K H y (.tuple ds) ∧ SeqAt.shaped d = true ∧ SeqAt.shaped (.tuple ds) = true ∧ Q (.bl (!ds.any fun z => PyData.eqv z d)) H
theorem op_inDT {X : Cx} (hu : X.A.units + 65 < cLine) : OpR X (compareOp .In) (rInDT X.K) := by
  intro pins s σ H x y v u Q I rx ry h
  obtain ⟨d, ds, hd, he, sd, se, q⟩ := h
  obtain ⟨as, r1⟩ := Dp.reads I d x v hd rx
  obtain ⟨bs, r2⟩ := Dp.reads I (.tuple ds) y u he ry
  exact SeqAt.in_tuple_reads r2 r1 (SeqAt.canLay_of_shaped se) (SeqAt.canLay_of_shaped sd) (PyProof.Rows.room_in_shaped sd hu) ⟨.bl _, H, I, rfl, q⟩
theorem op_notInDT {X : Cx} (hu : X.A.units + 65 < cLine) : OpR X (compareOp .NotIn) (rNotInDT X.K) := by
  intro pins s σ H x y v u Q I rx ry h
  obtain ⟨d, ds, hd, he, sd, se, q⟩ := h
  obtain ⟨as, r1⟩ := Dp.reads I d x v hd rx
  obtain ⟨bs, r2⟩ := Dp.reads I (.tuple ds) y u he ry
  exact SeqAt.notIn_tuple_reads r2 r1 (SeqAt.canLay_of_shaped se) (SeqAt.canLay_of_shaped sd) (PyProof.Rows.room_in_shaped sd hu) ⟨.bl _, H, I, rfl, q⟩
def rInSg : R2 := fun x y H Q => ∃ (c : Nat) (z : Str), x = .str ⟨#[c]⟩ ∧ y = .str z ∧ Q (.bl (decide (c ∈ z.cps.toList))) H
def rNotInSg : R2 := fun x y H Q => ∃ (c : Nat) (z : Str), x = .str ⟨#[c]⟩ ∧ y = .str z ∧ Q (.bl (!decide (c ∈ z.cps.toList))) H
def rInU (K : PySem.W.Frag) (Pg : Program) (w : World) : R2 := ro2 (rInD K) (ro2 (rInDT K) (ro2 rInSg (rSInK Pg w false)))
def rNotInU (K : PySem.W.Frag) (Pg : Program) (w : World) : R2 := ro2 (rNotInD K) (ro2 (rNotInDT K) (ro2 rNotInSg (rSInK Pg w true)))
theorem op_inU {X : Cx} (hu : X.A.units + 65 < cLine) : OpR X (compareOp .In) (rInU X.K X.prog X.w) := (op_inD hu).or ((op_inDT hu).or (op_in_sign.or or_sinK))
theorem op_notInU {X : Cx} (hu : X.A.units + 65 < cLine) : OpR X (compareOp .NotIn) (rNotInU X.K X.prog X.w) := (op_notInD hu).or ((op_notInDT hu).or (op_notIn_sign.or or_snotinK))
variable {Pg : Program} {w : World}
def anyEq (d : PyData) (ds : List PyData) : Bool := ds.any fun z => PyData.eqv z d
theorem ri_lst {d : PyData} {ds : List PyData} (hd : SeqAt.shaped d = true) (he : SeqAt.shaped (.list ds) = true) (p : P (.d (.bool (anyEq d ds))) m) : RO K (rInU K Pg w) (.d d) (.d (.list ds)) m P := ro_l fun x y F H Q a b S q => ⟨d, ds, slot_dp a, slot_dp b, hd, he, q _ m _ F H p Step.refl S rfl⟩
theorem ri_lstM {d : PyData} {l : Addr} {ds : List PyData} (hm : m l = some (.lst ds)) (hd : SeqAt.shaped d = true) (he : SeqAt.shaped (.list ds) = true) (p : P (.d (.bool (anyEq d ds))) m) : RO K (rInU K Pg w) (.d d) (.m l) m P := ro_l fun x y F H Q a b S q => ⟨d, ds, slot_dp a, slot_dpM hm S b, hd, he, q _ m _ F H p Step.refl S rfl⟩
theorem ri_tup {d : PyData} {ds : List PyData} (hd : SeqAt.shaped d = true) (he : SeqAt.shaped (.tuple ds) = true) (p : P (.d (.bool (anyEq d ds))) m) : RO K (rInU K Pg w) (.d d) (.d (.tuple ds)) m P := ro_r (ro_l fun x y F H Q a b S q => ⟨d, ds, slot_dp a, slot_dp b, hd, he, q _ m _ F H p Step.refl S rfl⟩)
theorem ri_str {c : Nat} {z : Str} (p : P (.d (.bool (decide (c ∈ z.cps.toList)))) m) : RO K (rInU K Pg w) (.d (.str ⟨#[c]⟩)) (.d (.str z)) m P := ro_r (ro_r (ro_l fun x y F H Q a b S q => ⟨c, z, a, b, q _ m _ F H p Step.refl S rfl⟩))
theorem rni_lst {d : PyData} {ds : List PyData} (hd : SeqAt.shaped d = true) (he : SeqAt.shaped (.list ds) = true) (p : P (.d (.bool (!anyEq d ds))) m) : RO K (rNotInU K Pg w) (.d d) (.d (.list ds)) m P := ro_l fun x y F H Q a b S q => ⟨d, ds, slot_dp a, slot_dp b, hd, he, q _ m _ F H p Step.refl S rfl⟩
theorem rni_lstM {d : PyData} {l : Addr} {ds : List PyData} (hm : m l = some (.lst ds)) (hd : SeqAt.shaped d = true) (he : SeqAt.shaped (.list ds) = true) (p : P (.d (.bool (!anyEq d ds))) m) : RO K (rNotInU K Pg w) (.d d) (.m l) m P := ro_l fun x y F H Q a b S q => ⟨d, ds, slot_dp a, slot_dpM hm S b, hd, he, q _ m _ F H p Step.refl S rfl⟩
theorem rni_tup {d : PyData} {ds : List PyData} (hd : SeqAt.shaped d = true) (he : SeqAt.shaped (.tuple ds) = true) (p : P (.d (.bool (!anyEq d ds))) m) : RO K (rNotInU K Pg w) (.d d) (.d (.tuple ds)) m P := ro_r (ro_l fun x y F H Q a b S q => ⟨d, ds, slot_dp a, slot_dp b, hd, he, q _ m _ F H p Step.refl S rfl⟩)
theorem rni_str {c : Nat} {z : Str} (p : P (.d (.bool (!decide (c ∈ z.cps.toList)))) m) : RO K (rNotInU K Pg w) (.d (.str ⟨#[c]⟩)) (.d (.str z)) m P := ro_r (ro_r (ro_l fun x y F H Q a b S q => ⟨c, z, a, b, q _ m _ F H p Step.refl S rfl⟩))
/-- a set of keys that stands in the store -/
def setM (Pg : Program) (w : World) (a : Addr) (xs : List Str) : Mu := .raw (SetK Pg w a (fun k => match k with | .inr z => decide (z ∈ xs) | .inl _ => false) xs.length)
theorem ri_set {z : Str} {a : Addr} {xs : List Str} (hm : m a = some (setM Pg w a xs)) (p : P (.d (.bool (decide (z ∈ xs)))) m) : RO K (rInU K Pg w) (.d (.str z)) (.m a) m P := ro_r (ro_r (ro_r fun x y F H Q i b S q => by
  have z2 : H a = some _ := (S.mu a _ hm).1
  exact ⟨.inr z, a, _, _, i, b, z2, q _ m _ F H p Step.refl S rfl⟩))
/-! ### items, slices -/
theorem atI_im {F : Reg} {H : Hp} {ds : List PyData} {vs : List V} (i : ImAll K F H ds vs) {j : Int} {d : PyData} (h : atI ds j = some d) : ∃ v, atI vs j = some v ∧ Im K F H d v := by
  have e := imAll_len i
  unfold atI at h ⊢
  rw [← e]
  cases q : ixN ds.length j with
  | none => rw [q] at h; cases h
  | some n =>
    rw [q] at h
    exact imAll_get i h
theorem rx_lst {ds : List PyData} {j : Int} {d : PyData} (h : atI ds j = some d) (p : P (.d d) m) : RO K (rIx K) (.d (.list ds)) (.d (.int j)) m P := fun x y F H Q a b S q => by
  obtain ⟨l, vs, e, hl, i⟩ := im_lst a
  obtain ⟨v, hv, iv⟩ := atI_im i h
  exact .inl ⟨l, vs, j, v, e, b, SqL.of hl, hv, q _ m _ F H p Step.refl S iv⟩
theorem rx_lstM {l : Addr} {ds : List PyData} {j : Int} {d : PyData} (hm : m l = some (.lst ds)) (h : atI ds j = some d) (p : P (.d d) m) : RO K (rIx K) (.m l) (.d (.int j)) m P := fun x y F H Q a b S q => by
  obtain ⟨vs, hl, i⟩ := mu_lst S hm
  obtain ⟨v, hv, iv⟩ := atI_im i h
  exact .inl ⟨l, vs, j, v, a, b, SqL.of hl, hv, q _ m _ F H p Step.refl S iv⟩
theorem rx_lstF {ds : List PyData} {j : Int} {d : PyData} (h : atI ds j = some d) (p : P (.d d) m) : RO K (rIx K) (.f ds) (.d (.int j)) m P := fun x y F H Q a b S q => by
  obtain ⟨l, vs, e, hl, i⟩ := sl_f a
  obtain ⟨v, hv, iv⟩ := atI_im i h
  exact .inl ⟨l, vs, j, v, e, b, hl, hv, q _ m _ F H p Step.refl S iv⟩
theorem rx_tup {ds : List PyData} {j : Int} {d : PyData} (h : atI ds j = some d) (p : P (.d d) m) : RO K (rIx K) (.d (.tuple ds)) (.d (.int j)) m P := fun x y F H Q a b S q => by
  obtain ⟨l, vs, e, hl, i⟩ := im_tup a
  obtain ⟨v, hv, iv⟩ := atI_im i h
  exact .inr (.inl ⟨l, vs, j, v, e, b, hl, hv, q _ m _ F H p Step.refl S iv⟩)
theorem rx_str {z : Str} {j : Int} {c : Nat} (hz : z.length ≤ 100000) (h : atI z.cps.toList j = some c) (p : P (.d (.str ⟨#[c]⟩)) m) : RO K (rIx K) (.d (.str z)) (.d (.int j)) m P := fun x y F H Q a b S q =>
  .inr (.inr ⟨z, j, c, a, b, by rw [sizeLine_eq]; omega, h, q _ m _ F H p Step.refl S rfl⟩)
def cutD {α : Type} (xs : List α) (lo hi : Option Int) : List α := (xs.drop (HT.sIx xs.length 0 lo)).take (HT.sIx xs.length xs.length hi - HT.sIx xs.length 0 lo)
theorem cut_im {F : Reg} {H : Hp} {ds : List PyData} {vs : List V} (i : ImAll K F H ds vs) (lo hi : Option Int) : ImAll K F H (cutD ds lo hi) (cutV vs lo hi) := by
  unfold cutD cutV
  rw [imAll_len i]
  exact imAll_iff.mpr (paired_take _ (paired_drop _ (imAll_iff.mp i)))
/-- t[lo:hi] of a tuple -/
def rSlZ (K : PySem.W.Frag) : V → Option Int → Option Int → Hp → VK → Prop := fun x lo hi H Q => ∃ a xs, x = .ref a ∧ SqT K H a xs ∧
  (HT.sIx xs.length 0 lo = 0 ∧ HT.sIx xs.length xs.length hi = xs.length → Q (.ref a) H) ∧ (¬ (HT.sIx xs.length 0 lo = 0 ∧ HT.sIx xs.length xs.length hi = xs.length) → ∀ p ob, H p = none → ob.dict = none → Q (.ref p) (upd H p (.frz ob (.tup (cutV xs lo hi)))))
theorem sl_tupZ {X : Cx} : SlR X (rSlZ X.K) := by
  rintro pins s σ H x v vl vu lo hi sl Q I rx hs pl pu ⟨a, xs, rfl, hx, q1, q2⟩
  cases rx
  obtain ⟨its, r, ht, hz⟩ := I.tuple hx
  have hlen : its.toArray.size = xs.length := by rw [List.size_toArray]; exact r.length.symm
  refine ⟨"tuple", _, PyProof.Rows.slot_tuple_getitem.lookup, ht.typeIs, ?_⟩
  by_cases hw : HT.sIx xs.length 0 lo = 0 ∧ HT.sIx xs.length xs.length hi = xs.length
  · exact L2.getItem_tuple_whole ht hs pl pu (by rw [hlen]; exact hw) ⟨.ref a, H, I, rfl, q1 hw⟩
  · apply HT.getItem_tuple_cut ht hs pl pu (by rw [hlen]; exact hw) ?_ (by rw [hlen]; exact hz)
    rw [hlen]
    refine ⟨.ref s.heap.objs.size, _, inv_tupZ (tk := s.toks) I (fun _ _ a => a) (xs := cutV xs lo hi) (Nat.le_trans (cutV_length xs lo hi) hz) ((r.drop _).take _), rfl, ?_⟩
    exact q2 hw _ _ (I.hok.fresh (Nat.le_refl _)) rfl
def rSlU (K : PySem.W.Frag) : V → Option Int → Option Int → Hp → VK → Prop := fun x lo hi H Q => rSlL K x lo hi H Q ∨ rSlZ K x lo hi H Q ∨ rSlS x lo hi H Q
theorem sl_U {X : Cx} : SlR X (rSlU X.K) := sl_list.or (sl_tupZ.or sl_str)
variable {lo hi : Option Int}
theorem rz_lst {ds : List PyData} (p : P (.d (.list (cutD ds lo hi))) m) : RSl K (rSlU K) (.d (.list ds)) lo hi m P := fun x F H Q a S q => by
  obtain ⟨l, vs, e, hl, i⟩ := im_lst a
  exact .inl ⟨l, vs, e, SqL.of hl, fun c hc => then_new S p q hc ⟨c, _, rfl, .inl rfl, upd_same, imAll_fix (step_new S hc).fix _ _ (cut_im i lo hi)⟩⟩
theorem cut_whole {α : Type} {xs : List α} (h : HT.sIx xs.length 0 lo = 0 ∧ HT.sIx xs.length xs.length hi = xs.length) : cutD xs lo hi = xs := by
  unfold cutD
  rw [h.1, h.2]
  simp
theorem rz_tup {ds : List PyData} (p : P (.d (.tuple (cutD ds lo hi))) m) : RSl K (rSlU K) (.d (.tuple ds)) lo hi m P := fun x F H Q a S q => by
  obtain ⟨l, vs, e, hl, i⟩ := im_tup a
  refine .inr (.inl ⟨l, vs, e, hl, fun h => ?_, fun _ c ob hc hd => then_new S p q hc ⟨c, _, rfl, .inl ⟨.inl rfl, ob, upd_same, hd⟩, imAll_fix (step_new S hc).fix _ _ (cut_im i lo hi)⟩⟩)
  rw [← imAll_len i] at h
  rw [cut_whole h] at p
  subst e
  exact q _ m _ F H p Step.refl S a
theorem rz_str {z : Str} (hz : z.length ≤ 100000) (p : P (.d (.str (cutS z lo hi))) m) : RSl K (rSlU K) (.d (.str z)) lo hi m P := fun x F H Q a S q =>
  .inr (.inr ⟨z, a, by rw [sizeLine_eq]; omega, q _ m _ F H p Step.refl S rfl⟩)
/-! ### truth -/
theorem tr_tup {ds : List PyData} : TrS K (.d (.tuple ds)) m (!ds.isEmpty) := fun x F H a S => by
  obtain ⟨l, vs, e, hl, i⟩ := im_tup a
  subst e
  have := imAll_len i
  exact .inr (.inl ⟨vs, hl, by cases ds <;> cases vs <;> simp_all⟩)
theorem tr_lst {ds : List PyData} : TrS K (.d (.list ds)) m (!ds.isEmpty) := fun x F H a S => by
  obtain ⟨l, vs, e, hl, i⟩ := im_lst a
  subst e
  have := imAll_len i
  exact .inl ⟨vs, SqL.of hl, by cases ds <;> cases vs <;> simp_all⟩
theorem tr_lstM {l : Addr} {ds : List PyData} (hm : m l = some (.lst ds)) : TrS K (.m l) m (!ds.isEmpty) := fun x F H a S => by
  obtain ⟨vs, hl, i⟩ := mu_lst S hm
  cases (show x = .ref l from a)
  have := imAll_len i
  exact .inl ⟨vs, SqL.of hl, by cases ds <;> cases vs <;> simp_all⟩
theorem tr_bool {b : Bool} : TrS K (.d (.bool b)) m b := fun x F H a S => by cases (show x = .bl b from a); rfl
theorem tr_int {i : Int} : TrS K (.d (.int i)) m (i != 0) := fun x F H a S => by cases (show x = .int i from a); rfl
theorem tr_none : TrS K (.d .none) m false := fun x F H a S => by cases (show x = .non from a); rfl
theorem tr_str {z : Str} (h : z.length ≤ 100000) : TrS K (.d (.str z)) m ((z.length : Int) != 0) := fun x F H a S => by
  cases (show x = .str z from a)
  exact ⟨by rw [sizeLine_eq]; omega, rfl⟩
/-! ### len, min, max, int, list, tuple, sorted, repr -/
abbrev rLenC (K : PySem.W.Frag) : List V → Hp → VK → Prop := fun xs H Q => ∃ x n, xs = [x] ∧ LenV K x H n ∧ Q (.int n) H
theorem sls1 {F : Reg} {H : Hp} {s : Sl} {xs : List V} (h : SlsOk K F H [s] xs) : ∃ x, xs = [x] ∧ SlOk K F H s x := by
  cases h with
  | cons a b => cases b; exact ⟨_, rfl, a⟩
theorem sls2 {F : Reg} {H : Hp} {s t : Sl} {xs : List V} (h : SlsOk K F H [s, t] xs) : ∃ x y, xs = [x, y] ∧ SlOk K F H s x ∧ SlOk K F H t y := by
  cases h with
  | cons a b =>
    obtain ⟨y, e, c⟩ := sls1 b
    subst e
    exact ⟨_, _, rfl, a, c⟩
theorem sls3 {F : Reg} {H : Hp} {s t u : Sl} {xs : List V} (h : SlsOk K F H [s, t, u] xs) : ∃ x y z, xs = [x, y, z] ∧ SlOk K F H s x ∧ SlOk K F H t y ∧ SlOk K F H u z := by
  cases h with
  | cons a b =>
    obtain ⟨y, z, e, c, d⟩ := sls2 b
    subst e
    exact ⟨_, _, _, rfl, a, c, d⟩
theorem sls0 {F : Reg} {H : Hp} {xs : List V} (h : SlsOk K F H [] xs) : xs = [] := by cases h; rfl
theorem rc_lenT {ds : List PyData} (p : P (.d (.int ds.length)) m) : RC K (rLenC K) [.d (.tuple ds)] m P := fun xs F H Q a S q => by
  obtain ⟨x, e, o⟩ := sls1 a
  obtain ⟨l, vs, e2, hl, i⟩ := im_tup o
  subst e2
  exact ⟨_, _, e, .inr ⟨vs, hl, rfl⟩, by rw [← imAll_len i]; exact q _ m _ F H p Step.refl S rfl⟩
theorem rc_lenL {ds : List PyData} (p : P (.d (.int ds.length)) m) : RC K (rLenC K) [.d (.list ds)] m P := fun xs F H Q a S q => by
  obtain ⟨x, e, o⟩ := sls1 a
  obtain ⟨l, vs, e2, hl, i⟩ := im_lst o
  subst e2
  exact ⟨_, _, e, .inl ⟨vs, SqL.of hl, rfl⟩, by rw [← imAll_len i]; exact q _ m _ F H p Step.refl S rfl⟩
theorem rc_lenF {ds : List PyData} (p : P (.d (.int ds.length)) m) : RC K (rLenC K) [.f ds] m P := fun xs F H Q a S q => by
  obtain ⟨x, e, o⟩ := sls1 a
  obtain ⟨l, vs, e2, hl, i⟩ := sl_f o
  subst e2
  exact ⟨_, _, e, .inl ⟨vs, hl, rfl⟩, by rw [← imAll_len i]; exact q _ m _ F H p Step.refl S rfl⟩
theorem rc_lenM {l : Addr} {ds : List PyData} (hm : m l = some (.lst ds)) (p : P (.d (.int ds.length)) m) : RC K (rLenC K) [.m l] m P := fun xs F H Q a S q => by
  obtain ⟨x, e, o⟩ := sls1 a
  obtain ⟨vs, hl, i⟩ := mu_lst S hm
  cases (show x = .ref l from o)
  exact ⟨_, _, e, .inl ⟨vs, SqL.of hl, rfl⟩, by rw [← imAll_len i]; exact q _ m _ F H p Step.refl S rfl⟩
theorem rc_lenS {z : Str} (h : z.length ≤ 100000) (p : P (.d (.int z.length)) m) : RC K (rLenC K) [.d (.str z)] m P := fun xs F H Q a S q => by
  obtain ⟨x, e, o⟩ := sls1 a
  cases (show x = .str z from o)
  exact ⟨_, _, e, ⟨by rw [sizeLine_eq]; omega, rfl⟩, q _ m _ F H p Step.refl S rfl⟩
def rMinC : List V → Hp → VK → Prop := rc2 (fun xs H Q => ∃ i j, xs = [.int i, .int j] ∧ Q (.int (if j < i then j else i)) H) (fun xs H Q => ∃ i j k, xs = [.int i, .int j, .int k] ∧ Q (.int (if j < i then (if k < j then k else j) else (if k < i then k else i))) H)
theorem call_minU {X : Cx} (hc : X.calm = true) : CallR X (.builtin "min") rMinC := by
  refine (call_min2 hc).or ?_
  intro pins s σ H xs us Q I r h
  obtain ⟨i, j, k, rfl, q⟩ := h
  cases r with
  | cons r1 r =>
    cases r with
    | cons r2 r =>
      cases r with
      | cons r3 r =>
        cases r
        obtain ⟨t1, rfl⟩ := r1
        obtain ⟨t2, rfl⟩ := r2
        obtain ⟨t3, rfl⟩ := r3
        refine PySem.min_three_ints (I.ok.hd hc) fun h' tk kk => ⟨.int _, H, I.kept kk, ?_, q⟩
        split
        · split
          · exact ⟨_, rfl⟩
          · exact ⟨_, rfl⟩
        · split
          · exact ⟨_, rfl⟩
          · exact ⟨_, rfl⟩
theorem rc_min2 {i j : Int} (p : P (.d (.int (if j < i then j else i))) m) : RC K rMinC [.d (.int i), .d (.int j)] m P := rc_l fun xs F H Q a S q => by
  obtain ⟨x, y, e, o1, o2⟩ := sls2 a
  cases (show x = .int i from o1)
  cases (show y = .int j from o2)
  exact ⟨i, j, e, q _ m _ F H p Step.refl S rfl⟩
theorem rc_min3 {i j k : Int} (p : P (.d (.int (if j < i then (if k < j then k else j) else (if k < i then k else i)))) m) : RC K rMinC [.d (.int i), .d (.int j), .d (.int k)] m P := rc_r fun xs F H Q a S q => by
  obtain ⟨x, y, z, e, o1, o2, o3⟩ := sls3 a
  cases (show x = .int i from o1)
  cases (show y = .int j from o2)
  cases (show z = .int k from o3)
  exact ⟨i, j, k, e, q _ m _ F H p Step.refl S rfl⟩
abbrev rMaxC : List V → Hp → VK → Prop := fun xs H Q => ∃ i j, xs = [.int i, .int j] ∧ Q (.int (if j > i then j else i)) H
theorem rc_max2 {i j : Int} (p : P (.d (.int (if j > i then j else i))) m) : RC K rMaxC [.d (.int i), .d (.int j)] m P := fun xs F H Q a S q => by
  obtain ⟨x, y, e, o1, o2⟩ := sls2 a
  cases (show x = .int i from o1)
  cases (show y = .int j from o2)
  exact ⟨i, j, e, q _ m _ F H p Step.refl S rfl⟩
abbrev rIntC : List V → Hp → VK → Prop := fun xs H Q => (∃ i, xs = [.int i] ∧ Q (.int i) H) ∨ ∃ k, xs = [.bl k] ∧ Q (.int (if k then 1 else 0)) H
theorem rc_intB {b : Bool} (p : P (.d (.int (if b then 1 else 0))) m) : RC K rIntC [.d (.bool b)] m P := fun xs F H Q a S q => by
  obtain ⟨x, e, o⟩ := sls1 a
  cases (show x = .bl b from o)
  exact .inr ⟨b, e, q _ m _ F H p Step.refl S rfl⟩
theorem rc_intI {i : Int} (p : P (.d (.int i)) m) : RC K rIntC [.d (.int i)] m P := fun xs F H Q a S q => by
  obtain ⟨x, e, o⟩ := sls1 a
  cases (show x = .int i from o)
  exact .inl ⟨i, e, q _ m _ F H p Step.refl S rfl⟩
abbrev rListC (K : PySem.W.Frag) : List V → Hp → VK → Prop := fun xs H Q => ∃ p ys, xs = [.ref p] ∧ (SqL K H p ys ∨ SqT K H p ys) ∧ ∀ l, H l = none → Q (.ref l) (upd H l (.lst ys))
/-- a slot that holds a list or a tuple of ds -/
def SeqS (K : PySem.W.Frag) (s : Sl) (m : Sto) (ds : List PyData) : Prop := ∀ (x : V) (F : Reg) (H : Hp), SlOk K F H s x → StoOk K m F H → ∃ a vs, x = .ref a ∧ (SqL K H a vs ∨ SqT K H a vs) ∧ ImAll K F H ds vs
theorem seq_lst {ds : List PyData} : SeqS K (.d (.list ds)) m ds := fun x F H a S => let ⟨l, vs, e, hl, i⟩ := im_lst a; ⟨l, vs, e, .inl (SqL.of hl), i⟩
theorem seq_tup {ds : List PyData} : SeqS K (.d (.tuple ds)) m ds := fun x F H a S => let ⟨l, vs, e, hl, i⟩ := im_tup a; ⟨l, vs, e, .inr hl, i⟩
theorem seq_f {ds : List PyData} : SeqS K (.f ds) m ds := fun x F H a S => let ⟨l, vs, e, hl, i⟩ := sl_f a; ⟨l, vs, e, .inl hl, i⟩
theorem seq_m {l : Addr} {ds : List PyData} (hm : m l = some (.lst ds)) : SeqS K (.m l) m ds := fun x F H a S => let ⟨vs, hl, i⟩ := mu_lst S hm; ⟨l, vs, a, .inl (SqL.of hl), i⟩
theorem rc_list {s : Sl} {ds : List PyData} (h : SeqS K s m ds) (p : P (.d (.list ds)) m) : RC K (rListC K) [s] m P := fun xs F H Q a S q => by
  obtain ⟨x, e, o⟩ := sls1 a
  obtain ⟨l, vs, e2, hl, i⟩ := h x F H o S
  subst e2
  exact ⟨l, vs, e, hl, fun c hc => then_new S p q hc ⟨c, vs, rfl, .inl rfl, upd_same, imAll_fix (step_new S hc).fix _ _ i⟩⟩
/-- list(..) that will change -/
theorem rc_listM {s : Sl} {ds : List PyData} (h : SeqS K s m ds) (p : ∀ a, m a = none → P (.m a) (put m a (.lst ds))) : RC K (rListC K) [s] m P := fun xs F H Q a S q => by
  obtain ⟨x, e, o⟩ := sls1 a
  obtain ⟨l, vs, e2, hl, i⟩ := h x F H o S
  subst e2
  exact ⟨l, vs, e, hl, fun c hc => q _ _ _ _ _ (p c (sto_none S hc)) (step_newM S hc) (sto_put S (not_reg S hc) ⟨vs, upd_same, imAll_fix (step_newM (u := .lst ds) S hc).fix ds vs i⟩) rfl⟩
def rTupleC (K : PySem.W.Frag) : List V → Hp → VK → Prop := fun xs H Q => ∃ p ys, xs = [.ref p] ∧ ((SqL K H p ys ∧ ∀ l ob, H l = none → ob.dict = none → Q (.ref l) (upd H l (.frz ob (.tup ys)))) ∨ (SqT K H p ys ∧ Q (.ref p) H))
theorem call_tupleZ {X : Cx} : CallR X (.type "tuple") (rTupleC X.K) := by
  rintro pins s σ H xs us Q I r ⟨p, ys, rfl, h⟩
  obtain ⟨u, rfl, rx⟩ := vals1 r
  cases rx
  rcases h with ⟨hq, q⟩ | ⟨hq, q⟩
  · obtain ⟨its, r', pl, hz⟩ := I.list hq
    have e := r'.length
    apply PySem.call_tuple_list pl.isList (fun h' kp => ?_) (by simp only [List.size_toArray] <;> omega)
    refine ⟨.ref h'.objs.size, _, inv_tupZ (tk := s.toks) I kp hz r', rfl, ?_⟩
    exact q _ _ ((I.kept (t' := s.toks) kp).hok.fresh (Nat.le_refl _)) rfl
  · obtain ⟨its, r', pl, hz⟩ := I.tuple hq
    exact PySem.call_tuple_same pl ⟨.ref p, H, I, rfl, q⟩
theorem rc_tupleT {ds : List PyData} (p : P (.d (.tuple ds)) m) : RC K (rTupleC K) [.d (.tuple ds)] m P := fun xs F H Q a S q => by
  obtain ⟨x, e, o⟩ := sls1 a
  obtain ⟨l, vs, e2, hl, i⟩ := im_tup o
  subst e2
  exact ⟨l, vs, e, .inr ⟨hl, q _ m _ F H p Step.refl S o⟩⟩
theorem rc_tupleL {ds : List PyData} (p : P (.d (.tuple ds)) m) : RC K (rTupleC K) [.d (.list ds)] m P := fun xs F H Q a S q => by
  obtain ⟨x, e, o⟩ := sls1 a
  obtain ⟨l, vs, e2, hl, i⟩ := im_lst o
  subst e2
  exact ⟨l, vs, e, .inl ⟨SqL.of hl, fun c ob hc hd => then_new S p q hc ⟨c, vs, rfl, .inl ⟨.inl rfl, ob, upd_same, hd⟩, imAll_fix (step_new S hc).fix _ _ i⟩⟩⟩
theorem rc_tupleM {l : Addr} {ds : List PyData} (hm : m l = some (.lst ds)) (p : P (.d (.tuple ds)) m) : RC K (rTupleC K) [.m l] m P := fun xs F H Q a S q => by
  obtain ⟨x, e, o⟩ := sls1 a
  obtain ⟨vs, hl, i⟩ := mu_lst S hm
  cases (show x = .ref l from o)
  exact ⟨l, vs, e, .inl ⟨SqL.of hl, fun c ob hc hd => then_new S p q hc ⟨c, vs, rfl, .inl ⟨.inl rfl, ob, upd_same, hd⟩, imAll_fix (step_new S hc).fix _ _ i⟩⟩⟩
/-- sorted of texts, of any length -/
def rSortS (K : PySem.W.Frag) : List V → Hp → VK → Prop := fun vs H Q => ∃ (a : Addr) (xs : List Str), vs = [V.ref a] ∧ SqL K H a (xs.map V.str) ∧
  ∀ (ys : List Str) (p : Addr), ys.Perm xs → PyProof.Rows.sortedS ys = true → H p = none → Q (.ref p) (upd H p (.lst (ys.map V.str)))
theorem cr_sortS {X : Cx} : CallR X (.builtin "sorted") (rSortS X.K) := by
  intro pins s σ H vs us Q I r h
  obtain ⟨a, xs, rfl, hs, q⟩ := h
  obtain ⟨its, rv, hl, hz⟩ := I.list hs
  rw [Vals.ref1 r]
  have hlen0 := rv.length
  rw [List.length_map] at hlen0 hz
  refine PyProof.Rows.sorted_strsAny hl.isList rv.strs (by rw [← hlen0]; exact hz) fun out ys h1 h2 h3 => ?_
  obtain ⟨ep, he'⟩ := PyProof.Rows.sortedAll_at s.heap its out
  have hlen : (ys.map V.str).length ≤ sizeLine := by rw [List.length_map, h2.length_eq]; exact hz
  exact ⟨.ref _, upd H (s.heap.objs.size + 1) (.lst (ys.map V.str)), I.laid (t' := s.toks) (fun _ _ => PyProof.Rows.sortedAll_old) (Nat.le_succ _) ⟨hlen, out.toList, ep, vals_of_strs h1, he'⟩, rfl, q ys _ h2 h3 (I.hok.fresh (Nat.le_succ _))⟩
theorem imAll_strs {F : Reg} {H : Hp} : ∀ {zs : List Str} {vs : List V}, ImAll K F H (zs.map .str) vs ↔ vs = zs.map V.str
  | [], vs => Iff.rfl
  | z :: zs, vs => ⟨fun h => by
      obtain ⟨v, r, e, h1, h2⟩ := h
      cases (show v = .str z from h1)
      rw [e, imAll_strs.mp h2]
      rfl, fun h => ⟨.str z, zs.map V.str, h, rfl, imAll_strs.mpr rfl⟩⟩
theorem rc_sortS {s : Sl} {zs : List Str} (h : ∀ (x : V) (F : Reg) (H : Hp), SlOk K F H s x → StoOk K m F H → ∃ a, x = .ref a ∧ SqL K H a (zs.map V.str))
    (p : ∀ ys : List Str, ys.Perm zs → PyProof.Rows.sortedS ys = true → P (.d (.list (ys.map .str))) m) : RC K (rSortS K) [s] m P := fun xs F H Q a S q => by
  obtain ⟨x, e, o⟩ := sls1 a
  obtain ⟨l, e2, hl⟩ := h x F H o S
  subst e2
  exact ⟨l, zs, e, hl, fun ys c h1 h2 hc => then_new S (p ys h1 h2) q hc ⟨c, _, rfl, .inl rfl, upd_same, imAll_strs.mpr rfl⟩⟩
theorem strs_lst {zs : List Str} : ∀ (x : V) (F : Reg) (H : Hp), SlOk K F H (.d (.list (zs.map .str))) x → StoOk K m F H → ∃ a, x = .ref a ∧ SqL K H a (zs.map V.str) := fun x F H a S => by
  obtain ⟨l, vs, e, hl, i⟩ := im_lst a
  have := imAll_strs.mp i
  subst this
  exact ⟨l, e, SqL.of hl⟩
/-- repr -/
def rRepr (K : PySem.W.Frag) : List V → Hp → VK → Prop := fun xs H Q => ∃ x d, xs = [x] ∧ Dp K H x d ∧ PyData.showable d = true ∧ PyData.hasDict d = false ∧ SeqAt.shaped d = true ∧ (PyData.shown d).length ≤ sizeLine ∧ Q (.str (PyData.shown d)) H
theorem cr_repr {X : Cx} (hg : X.A.guards = some []) (hu : X.A.units + 70 < cLine) : CallR X (.builtin "repr") (rRepr X.K) := by
  intro pins s σ H xs us Q I r h
  obtain ⟨x, d, rfl, hd, hs, hn, hsh, hz, q⟩ := h
  obtain ⟨u, rfl, rx⟩ := vals1 r
  have depth := SeqAt.depth_of_shaped hsh
  cases x with
  | ref a =>
    cases rx
    obtain ⟨as, rd⟩ := Dp.reads I d (.ref a) (.ref a) hd rfl
    refine PySem.repr_of_reads' rd hs (fun e => by rw [hn] at e; cases e) hg (by omega) (fun _ _ e => e) (fun h' u tk kk => ⟨.str _, H, I.kept kk, ⟨_, rfl⟩, q⟩) hz
  | non => cases hd; cases rx; exact PySem.P.repr_of_none ⟨.str _, H, I.tok _, ⟨_, rfl⟩, q⟩
  | bl b => cases hd; cases rx; exact PySem.P.repr_of_bool ⟨.str _, H, I.tok _, ⟨_, rfl⟩, q⟩
  | int i =>
    cases hd
    obtain ⟨t, rfl⟩ := rx
    exact PySem.P.repr_of_int (of_decide_eq_true hs) ⟨.str _, H, I.tok _, ⟨_, rfl⟩, q⟩
  | str z =>
    cases hd
    obtain ⟨t, rfl⟩ := rx
    exact PySem.P.repr_of_str ⟨.str _, H, I.tok _, ⟨_, rfl⟩, q⟩ hz
  | byt b => cases hd
  | flt b => cases hd
  | ty n => cases hd
theorem rc_repr {d : PyData} (h1 : PyData.showable d = true) (h2 : PyData.hasDict d = false) (h3 : SeqAt.shaped d = true) (h4 : (PyData.shown d).length ≤ sizeLine) (p : P (.d (.str (PyData.shown d))) m) : RC K (rRepr K) [.d d] m P := fun xs F H Q a S q => by
  obtain ⟨x, e, o⟩ := sls1 a
  exact ⟨x, d, e, slot_dp o, h1, h2, h3, h4, q _ m _ F H p Step.refl S rfl⟩
end
end Dv

namespace Dv
open PySem L2
/-! ### what is walked -/
theorem pi_or {X : Cx} {tg it : Expr} {wi wi' : TI} (h : PI X tg it wi) (h' : PI X tg it wi') : PI X tg it (fun σ H R => wi σ H R ∨ wi' σ H R) := ⟨fun pins s σ H R I q => q.elim (h.run pins s σ H R I) (h'.run pins s σ H R I)⟩
def iSeqU (K : PySem.W.Frag) (tl : TE) : TI := fun σ H R => iList K tl σ H R ∨ iTup K tl σ H R ∨ iStr tl σ H R
theorem pi_seqU {X : Cx} {tg e : Expr} {tl : TE} (he : PE X e tl) : PI X tg e (iSeqU X.K tl) := pi_or (pi_list he) (pi_or (pi_tup he) (pi_str he))
section
variable {K : PySem.W.Frag} {ρ : Rho} {m : Sto} {tl : TE} {P : List Sl → (Sto → Prop) → Sto → Prop}
abbrev Any : Sto → Prop := fun _ => True
theorem tup_at {m m' : Sto} {F F' : Reg} {H H' : Hp} {a : Addr} {vs : List V} (s : Step m F H m' F' H') (n : (F a ∧ ZT H a vs) ∨ WrT K a vs) : SqT K H' a vs := by
  rcases n with ⟨n, ob, ha, hd⟩ | w
  · exact ZT.sq ⟨ob, (s.fix a _ ha n).1, hd⟩
  · exact w.sq
theorem sl_map {ds : List PyData} {i : Nat} {d : PyData} (h : ds[i]? = some d) : (ds.map Sl.d)[i]? = some (.d d) := by rw [List.getElem?_map, h]; rfl
theorem ei_tup (h : Ev K tl ρ m fun s m1 => ∃ ds, s = .d (.tuple ds) ∧ P (ds.map .d) Any m1) : EvI K (iSeqU K tl) ρ m P := fun σ F H R E S q => .inr (.inl (h σ F H _ E S fun s m1 v F1 H1 ⟨ds, e, p⟩ s1 S1 o1 => by
  subst e
  obtain ⟨a, vs, e, n, i⟩ := o1
  have hl : (ds.map Sl.d).length = vs.length := by rw [List.length_map]; exact imAll_len i
  refine ⟨a, e, ⟨vs, tup_at Step.refl (m := m1) (m' := m1) n⟩, q _ _ m1 F1 H1 _ p s1 S1 ?_⟩
  rw [hl]
  refine (walk_tup (K := K) (a := a) (xs := vs)).mono (fun H2 ⟨m2, F2, _, st, _⟩ => tup_at st n) fun j H2 x H3 hj ⟨m3, F3, _, _, _⟩ ⟨e3, hx⟩ m2 F2 _ st S2 => ?_
  subst e3
  have i2 := imAll_fix st.fix ds vs i
  have hd : ∃ d, ds[j]? = some d := by
    have : j < ds.length := by rw [imAll_len i]; exact hj
    exact ⟨_, List.getElem?_eq_getElem this⟩
  obtain ⟨d, hd⟩ := hd
  obtain ⟨v2, hv, iv⟩ := imAll_get i2 hd
  rw [hx] at hv
  cases hv
  exact ⟨F2, Step.refl, S2, .d d, sl_map hd, iv⟩))
theorem ei_lst (h : Ev K tl ρ m fun s m1 => ∃ ds, s = .d (.list ds) ∧ P (ds.map .d) Any m1) : EvI K (iSeqU K tl) ρ m P := fun σ F H R E S q => .inl (h σ F H _ E S fun s m1 v F1 H1 ⟨ds, e, p⟩ s1 S1 o1 => by
  subst e
  obtain ⟨a, vs, e, n, ha, i⟩ := o1
  have hl : (ds.map Sl.d).length = vs.length := by rw [List.length_map]; exact imAll_len i
  refine ⟨a, e, ⟨vs, SqL.of ha⟩, q _ _ m1 F1 H1 _ p s1 S1 ?_⟩
  rw [hl]
  refine (walk_list (K := K) (a := a) (xs := vs)).mono (fun H2 ⟨m2, F2, _, st, _⟩ => SqL.of (st.fix a _ ha n).1) fun j H2 x H3 hj ⟨m3, F3, _, _, _⟩ ⟨e3, hx⟩ m2 F2 _ st S2 => ?_
  subst e3
  have i2 := imAll_fix st.fix ds vs i
  have hd : ∃ d, ds[j]? = some d := by
    have : j < ds.length := by rw [imAll_len i]; exact hj
    exact ⟨_, List.getElem?_eq_getElem this⟩
  obtain ⟨d, hd⟩ := hd
  obtain ⟨v2, hv, iv⟩ := imAll_get i2 hd
  rw [hx] at hv
  cases hv
  exact ⟨F2, Step.refl, S2, .d d, sl_map hd, iv⟩)
/-- a list that may change, but not in the loop -/
theorem ei_lstM (h : Ev K tl ρ m fun s m1 => ∃ a ds, s = .m a ∧ m1 a = some (.lst ds) ∧ P (ds.map .d) (fun m' => m' a = some (.lst ds)) m1) : EvI K (iSeqU K tl) ρ m P := fun σ F H R E S q => .inl (h σ F H _ E S fun s m1 v F1 H1 ⟨a, ds, e, hm, p⟩ s1 S1 o1 => by
  subst e
  obtain ⟨vs, ha, i⟩ := mu_lst S1 hm
  refine ⟨a, o1, ⟨vs, SqL.of ha⟩, q _ _ m1 F1 H1 _ p s1 S1 ⟨fun j H2 hj ⟨m2, F2, c, st, S2⟩ => ?_, fun H2 ⟨m2, F2, c, st, S2⟩ => ?_, fun j H2 x H3 hj ⟨m3, F3, _, _, _⟩ ⟨e3, hx⟩ m2 F2 c st S2 => ?_⟩⟩
  · obtain ⟨us, ha2, i2⟩ := mu_lst S2 c
    have : j < us.length := by rw [← imAll_len i2]; simpa using hj
    exact ⟨us, us[j], SqL.of ha2, List.getElem?_eq_getElem this⟩
  · obtain ⟨us, ha2, i2⟩ := mu_lst S2 c
    exact ⟨us, SqL.of ha2, by rw [← imAll_len i2]; simp⟩
  · subst e3
    obtain ⟨us, ha2, i2⟩ := mu_lst S2 c
    have hd : ∃ d, ds[j]? = some d := ⟨_, List.getElem?_eq_getElem (by simpa using hj)⟩
    obtain ⟨d, hd⟩ := hd
    obtain ⟨v2, hv, iv⟩ := imAll_get i2 hd
    rw [hx us (SqL.of ha2)] at hv
    cases hv
    exact ⟨F2, Step.refl, S2, .d d, sl_map hd, iv⟩)
/-- the signs of a text -/
def signs (z : Str) : List PyData := z.cps.toList.map fun c => .str ⟨#[c]⟩
theorem ei_str (h : Ev K tl ρ m fun s m1 => ∃ z, s = .d (.str z) ∧ P ((signs z).map .d) Any m1) : EvI K (iSeqU K tl) ρ m P := fun σ F H R E S q => .inr (.inr (h σ F H _ E S fun s m1 v F1 H1 ⟨z, e, p⟩ s1 S1 o1 => by
  subst e
  have hl : ((signs z).map Sl.d).length = z.cps.size := by simp [signs]
  refine ⟨z, o1, q _ _ m1 F1 H1 _ p s1 S1 ?_⟩
  rw [hl]
  refine (walk_str (z := z)).mono (fun H2 _ => trivial) fun j H2 x H3 hj _ ⟨e3, c, hc, hx⟩ m2 F2 _ st S2 => ?_
  subst e3
  refine ⟨F2, Step.refl, S2, .d (.str ⟨#[c]⟩), sl_map ?_, hx⟩
  unfold signs
  rw [List.getElem?_map]
  have : z.cps.toList[j]? = some c := by simpa using hc
  rw [this]
  rfl))
theorem ei_rng1 {ta : TA} (h : EvA K ta ρ m fun ss m1 => ∃ n : Int, ss = [.d (.int n)] ∧ n ≤ 1000000 ∧ -1000000 ≤ n ∧ P ((List.range n.toNat).map fun i => .d (.int (i : Nat))) Any m1) : EvI K (iRng1 ta) ρ m P := fun σ F H R E S q =>
  h σ F H _ E S fun ss m1 vs F1 H1 ⟨n, e, h1, h2, p⟩ s1 S1 o1 => by
    subst e
    obtain ⟨x, e, o⟩ := sls1 o1
    cases (show x = .int n from o)
    refine ⟨n, e, by omega, by omega, q _ _ m1 F1 H1 _ p s1 S1 ?_⟩
    have hl : ((List.range n.toNat).map fun i => Sl.d (.int (i : Nat))).length = n.toNat := by simp
    rw [hl]
    refine (walk_range (lo := 0) (n := n.toNat)).mono (fun _ _ => trivial) fun j H2 x H3 hj _ ⟨e3, hx⟩ m2 F2 _ st S2 => ?_
    subst e3
    have hx' : x = V.int (0 + (j : Nat)) := hx
    refine ⟨F2, Step.refl, S2, .d (.int (j : Nat)), ?_, ?_⟩
    · rw [List.getElem?_map, List.getElem?_range hj]; rfl
    · show x = V.int (j : Nat)
      rw [hx', Int.zero_add]
theorem ei_rng2 {ta : TA} (h : EvA K ta ρ m fun ss m1 => ∃ lo n : Int, ss = [.d (.int lo), .d (.int n)] ∧ n ≤ 1000000 ∧ -1000000 ≤ n ∧ lo ≤ 1000000 ∧ -1000000 ≤ lo ∧ P ((List.range (n - lo).toNat).map fun i => .d (.int (lo + (i : Nat)))) Any m1) : EvI K (iRng2 ta) ρ m P := fun σ F H R E S q =>
  h σ F H _ E S fun ss m1 vs F1 H1 ⟨lo, n, e, h1, h2, h3, h4, p⟩ s1 S1 o1 => by
    subst e
    obtain ⟨x, y, e, o, o'⟩ := sls2 o1
    cases (show x = .int lo from o)
    cases (show y = .int n from o')
    refine ⟨lo, n, e, ⟨by omega, by omega, by omega, by omega⟩, q _ _ m1 F1 H1 _ p s1 S1 ?_⟩
    have hl : ((List.range (n - lo).toNat).map fun i => Sl.d (.int (lo + (i : Nat)))).length = (n - lo).toNat := by simp
    rw [hl]
    refine (walk_range (lo := lo) (n := (n - lo).toNat)).mono (fun _ _ => trivial) fun j H2 x H3 hj _ ⟨e3, hx⟩ m2 F2 _ st S2 => ?_
    subst e3
    refine ⟨F2, Step.refl, S2, .d (.int (lo + (j : Nat))), ?_, hx⟩
    rw [List.getElem?_map, List.getElem?_range hj]; rfl
/-! ### enumerate of a tuple -/
def IteT (K : PySem.W.Frag) (a : Addr) : It :=
  ⟨fun i H => ∃ (xs : List V) (x : V), SqT K H a xs ∧ xs[i]? = some x, fun i H v H' => ∃ T x, v = .ref T ∧ H T = none ∧ H' = upd H T (.tup [.int (i : Nat), x]) ∧ ∀ xs, SqT K H a xs → xs[i]? = some x, fun i H => ∃ xs : List V, SqT K H a xs ∧ xs.length ≤ i⟩
theorem cls_ne {h : Heap} {a b : Addr} {o u : Obj} {S T : String} (ha : h.get? a = some o) (hb : h.get? b = some u) (ca : o.cls = .type S) (cb : u.cls = .type T) (ne : S ≠ T) : a ≠ b := fun e => by
  subst e
  rw [ha] at hb
  cases hb
  rw [ca] at cb
  injection cb with e
  exact ne e
theorem turn_enumT {Pg : Program} {w : World} {K : PySem.W.Frag} {elts : List Expr} {kk : Nat} {tpos : Pos} (a e it : Addr) :
    Turn Pg w K (.Tuple elts kk tpos) (IteT K a) [e, it] e (fun i h => (∃ old, IsEnum h e it ((i : Nat) : Int) old) ∧ h.IsTupleIter it a i ∧ e ≠ it) where
  mem := by simp
  obj := by
    rintro i h ⟨⟨old, he⟩, ⟨o, ho, hc, hd⟩, _⟩ b hb
    rcases (by simpa using hb : b = e ∨ b = it) with z | z
    · rw [z]; exact ⟨_, he, fun v q => nomatch q⟩
    · exact ⟨o, z ▸ ho, fun v q => by rw [hd] at q; cases q⟩
  keep := by
    rintro i h h' ⟨⟨old, he⟩, hi, hne⟩ k
    exact ⟨⟨old, k e (by simp) _ he⟩, hi.at fun o q => k it (by simp) o q, hne⟩
  item := by
    rintro X rfl rfl rfl hc i pins s σ H E I hf ⟨⟨old, he⟩, hit, hne⟩ ⟨xs, x, hq, hx⟩
    obtain ⟨its, rv, p, hz⟩ := I.tuple hq
    obtain ⟨u, hu, ru⟩ := rv.get hx
    have hel : e < s.heap.objs.size := Heap.lt_size he
    obtain ⟨oi, hoi, hci, hdi⟩ := id hit
    obtain ⟨oa, hoa, hca, na, hda⟩ := id p
    have hil : it < s.heap.objs.size := Heap.lt_size hoi
    have nai : a ≠ it := cls_ne hoa hoi hca hci (by decide)
    have nae : e ≠ a := cls_ne he hoa rfl hca (by decide)
    have hlt : i < its.toArray.size := by
      have := (List.getElem?_eq_some_iff.mp hu).1
      simpa using this
    refine wpAny_pyNext_enum_itemD (Draws.tuple (A := X.A.in1) (I.ok.hd hc) it a nai its.toArray) he ⟨hit, p⟩ hlt hne (by simp [hne, nae]) fun y h' tk hP ho st' hT hsz hk => ?_
    have ey : y = u := by
      have : its.toArray[i]? = some u := by simpa using hu
      rw [hP] at this
      exact Option.some.inj this
    subst ey
    refine ⟨_, rfl, wpAny_letOwnedTupleGo_enum (s := { s with heap := h', toks := tk + 1 }) ho fun h'' he' sb => ?_⟩
    have hT2 : h''.get? s.heap.objs.size = some { cls := .type "tuple", data := .seq #[.int i tk, y] } := (sb.2 _ (Nat.ne_of_gt hel)).trans hT
    have new : ObjOk X.prog X.w (upd H s.heap.objs.size (.tup [.int (i : Nat), x])) h'' s.heap.objs.size (.tup [.int (i : Nat), x]) :=
      ⟨by show 2 ≤ sizeLine; decide, [.int i tk, y], .cons ⟨_, rfl⟩ (.cons ru .nil), ⟨_, hT2, rfl, _, rfl⟩⟩
    have I1 : Inv X pins σ (upd H s.heap.objs.size (.tup [.int (i : Nat), x])) { s with heap := h'', toks := tk + 1 } :=
      I.turnedNew (ch := [e, it]) (fun b ob hb q => (sb.2 b (fun z => hb (by simp [z]))).trans (hk b ob (fun z => hb (by simp [z])) (fun z => hb (by simp [z])) q)) hf (Nat.le_refl _) new
    refine ⟨.ref s.heap.objs.size, _, I1, rfl, ⟨_, x, rfl, I.hok.fresh (Nat.le_refl _), rfl, fun ys hy => by rw [I.tuple_inj hy hq]; exact hx⟩, ⟨⟨y, ?_⟩, st'.1.at fun o q => (sb.2 it (Ne.symm hne)).trans q, hne⟩, fun b hb => ?_⟩
    · have e1 : ((i + 1 : Nat) : Int) = (i : Int) + 1 := by omega
      rw [e1]; exact he'
    · have hb' : b < s.heap.objs.size := by
        rcases (by simpa using hb : b = e ∨ b = it) with z | z
        · rw [z]; exact hel
        · rw [z]; exact hil
      rw [upd_ne (Nat.ne_of_lt hb')]
      exact (hf b hb).1
  done := by
    rintro X rfl rfl rfl hc i pins s σ H E I hf ⟨⟨old, he⟩, hit, hne⟩ ⟨xs, hq, hx⟩
    obtain ⟨its, rv, p, hz⟩ := I.tuple hq
    obtain ⟨oi, hoi, hci, hdi⟩ := id hit
    obtain ⟨oa, hoa, hca, na, hda⟩ := id p
    have nai : a ≠ it := cls_ne hoa hoi hca hci (by decide)
    obtain ⟨f0, f1, f2, f3, f4, f5⟩ := hf it (by simp)
    have hl := rv.length
    have D : Draws X.prog X.w X.A.in1 it [it, a] i (fun _ _ => True) (fun j h => j = i ∧ h.IsTupleIter it a i ∧ h.IsTuple a its.toArray) :=
      ⟨fun j h st => let ⟨o, q, _⟩ := st.2.1; ⟨o, q⟩, fun j h h' st k => ⟨st.1, st.2.1.at fun o q => k it (by simp) o q, st.2.2.at fun o q => k a (by simp) o q⟩, fun j s' Q' E' hj st hQ => absurd st.1 (Nat.ne_of_lt hj),
        fun s' Q' E' st hE => PySem.wpAny_nextOf_tuple_end (I.ok.hd hc) st.2.1 st.2.2 (by simp; omega) hE⟩
    exact wpAny_pyNext_enum_endD D he ⟨rfl, hit, p⟩ fun h' eb => ⟨rfl, I.turned (t' := s.toks) (fun b o hb q => eb b o hb q) f0 f1 f3 f4 f5⟩
  self := fun A i s Q E st h => let ⟨⟨_, he⟩, _⟩ := st; wpAny_pyIter_enum he h
theorem meets_enumT (l : Addr) (items : Array Value) : Meets (Builtin.«enumerate.__new__» ⟨[.type "enumerate", .ref l], []⟩) (fun _ R s => s.heap.IsTuple l items ∧
    R (.ok (.ret (.ref (s.heap.objs.size + 1)))) { s with heap := (s.heap.push { cls := .type "tuple_iterator", data := .fields #[.ref l, .int 0 0] }).push { cls := .type "enumerate", data := .fields #[.none, .bool false, .ref s.heap.objs.size, rawInt 0, .none, .none] } }) := by
  apply Meets.of_wp
  rintro prog w A R ⟨hp, g, d, tk, os⟩ ⟨hL, h⟩
  have hz : (hp.push { cls := .type "tuple_iterator", data := .fields #[.ref l, .int 0 0] }).objs.size = hp.objs.size + 1 := Heap.size_push ..
  have hL' : Heap.IsTuple (Shared.heap ⟨hp, g, d, tk, os⟩) l items := hL
  have hsub := sub_enumerate
  have h' : R (.ok (.ret (.ref (hp.push { cls := .type "tuple_iterator", data := .fields #[.ref l, .int 0 0] }).objs.size))) ⟨(hp.push { cls := .type "tuple_iterator", data := .fields #[.ref l, .int 0 0] }).push { cls := .type "enumerate", data := .fields #[.none, .bool false, .ref hp.objs.size, rawInt 0, .none, .none] }, g, d, tk, os⟩ := by rw [hz]; exact h
  wp_walk
  apply wpAny_stack_any
  intro st
  apply wpAny_pure
  split
  · rename_i c _ _ _ _ _
    cases (c == Value.type "enumerate") <;> (wp_walk using wpAny_pyIter_tuple hL'; exact ⟨_, rfl, h'⟩)
  · wp_walk using wpAny_pyIter_tuple hL'
    exact ⟨_, rfl, h'⟩
theorem call_enumT {prog : Program} {w : World} {A : Around} {E : Value → Shared → Prop} {s : Shared} {l : Addr} {items : Array Value} {Q : Value → Shared → Prop} (hL : s.heap.IsTuple l items)
    (h : ∀ h', IsEnum h' (s.heap.objs.size + 1) s.heap.objs.size 0 .none → h'.IsTupleIter s.heap.objs.size l 0 → (∀ b o, s.heap.get? b = some o → h'.get? b = some o) → Q (.ref (s.heap.objs.size + 1)) { s with heap := h' }) :
    wpAny (model prog w) A (call (.type "enumerate") [.ref l]) Q E s := by
  have hz : (s.heap.push { cls := .type "tuple_iterator", data := .fields #[.ref l, .int 0 0] }).objs.size = s.heap.objs.size + 1 := Heap.size_push ..
  have he : IsEnum ((s.heap.push { cls := .type "tuple_iterator", data := .fields #[.ref l, .int 0 0] }).push { cls := .type "enumerate", data := .fields #[.none, .bool false, .ref s.heap.objs.size, rawInt 0, .none, .none] }) (s.heap.objs.size + 1) s.heap.objs.size 0 .none := by
    have e := Heap.get?_push_size (s.heap.push { cls := .type "tuple_iterator", data := .fields #[.ref l, .int 0 0] }) (o := { cls := .type "enumerate", data := .fields #[.none, .bool false, .ref s.heap.objs.size, rawInt 0, .none, .none] }) rfl
    rwa [hz] at e
  apply callType_new F.called_enumerate (by decide) (F.typeCall_enumerate_1 _) (F.newCall_enumerate_1 _) (fun obj => F.args_object_init_2 obj _) F.entry_enumerate_new (meets_enumT l items)
  refine ⟨hL, ⟨_, he, rfl⟩, ?_⟩
  exact h _ he ⟨_, Heap.get?_push_of_some _ (Heap.get?_push_size _ rfl), rfl, rfl⟩ fun b o x => Heap.get?_push_of_some _ (Heap.get?_push_of_some _ x)
def iEnumT (K : PySem.W.Frag) (ta : TA) : TI := fun σ H R => ta σ H fun vs H1 => ∃ a xs, vs = [.ref a] ∧ SqT K H1 a xs ∧ R (IteT K a) H1
theorem pi_enumT {X : Cx} {e : Expr} {ta : TA} {p pos tpos : Pos} {elts : List Expr} {kk : Nat} (hg : Gl X "enumerate") (hm : X.mg "enumerate" = none) (ha : PA X [e] ta) (hs : starEach [e] X.env = [(false, eval e X.env)] := by rfl) :
    PI X (.Tuple elts kk tpos) (.Call (.Name "enumerate" p) [e] [] pos) (iEnumT X.K ta) := by
  constructor
  intro pins s σ H R I h
  refine PyProof.Rows.Call_ (ld_blt I hg hm PyProof.Rows.boot_enumerate (PyProof.Rows.callWith_type1 (thn (ha.run pos pins s σ H _ I h) ?_) hs rfl))
  rintro us s1 ⟨vs, H1, I1, r1, a, xs, rfl, hq, q⟩
  obtain ⟨u, rfl, r⟩ := vals1 r1
  cases r
  obtain ⟨its, rv, p', hz⟩ := I1.tuple hq
  refine call_enumT p' fun h' he hit hk => wpAny_pyIter_enum he ?_
  have I2 : Inv X pins σ H1 { s1 with heap := h' } := I1.kept (t' := s1.toks) hk
  refine ⟨s1.heap.objs.size + 1, [s1.heap.objs.size + 1, s1.heap.objs.size], _, _, H1, rfl, I2, turn_enumT a (s1.heap.objs.size + 1) s1.heap.objs.size, ⟨⟨.none, he⟩, hit, Nat.succ_ne_self _⟩, fun b hb => ?_, q⟩
  have hle : s1.heap.objs.size ≤ b := by
    rcases (by simpa using hb : b = s1.heap.objs.size + 1 ∨ b = s1.heap.objs.size) with z | z
    · rw [z]; exact Nat.le_succ _
    · rw [z]; exact Nat.le_refl _
  exact I1.fpOk hle (I1.hok.fresh hle)
def iEnumU (K : PySem.W.Frag) (ta : TA) : TI := fun σ H R => iEnum K ta σ H R ∨ iEnumT K ta σ H R
theorem pi_enumU {X : Cx} {e : Expr} {ta : TA} {p pos tpos : Pos} {elts : List Expr} {kk : Nat} (hg : Gl X "enumerate") (hm : X.mg "enumerate" = none) (ha : PA X [e] ta) (hs : starEach [e] X.env = [(false, eval e X.env)] := by rfl) :
    PI X (.Tuple elts kk tpos) (.Call (.Name "enumerate" p) [e] [] pos) (iEnumU X.K ta) := pi_or (pi_enum hg hm ha hs) (pi_enumT hg hm ha hs)
def enumS (ds : List PyData) : List Sl := ds.zipIdx.map fun p => .p (.int (p.2 : Nat)) p.1
theorem enumS_len (ds : List PyData) : (enumS ds).length = ds.length := by simp [enumS]
theorem enumS_get {ds : List PyData} {i : Nat} {d : PyData} (h : ds[i]? = some d) : (enumS ds)[i]? = some (.p (.int (i : Nat)) d) := by
  unfold enumS
  rw [List.getElem?_map, List.getElem?_zipIdx, h]
  simp
theorem enumS_of {ds : List PyData} {i : Nat} {x : Sl} (h : (enumS ds)[i]? = some x) : ∃ d, ds[i]? = some d ∧ x = .p (.int (i : Nat)) d := by
  have hl : i < ds.length := by
    have := (List.getElem?_eq_some_iff.mp h).1
    rwa [enumS_len] at this
  have := enumS_get (List.getElem?_eq_getElem hl)
  rw [this] at h
  exact ⟨_, List.getElem?_eq_getElem hl, (Option.some.inj h).symm⟩
theorem pair_new {m : Sto} {F : Reg} {H : Hp} {T : Addr} {x y : V} {dx dy : PyData} (S : StoOk K m F H) (hT : H T = none) (i1 : Im K F H dx x) (i2 : Im K F H dy y) :
    Step m F H m (add F T) (upd H T (.tup [x, y])) ∧ StoOk K m (add F T) (upd H T (.tup [x, y])) ∧ SlOk K (add F T) (upd H T (.tup [x, y])) (.p dx dy) (.ref T) :=
  ⟨step_new S hT, sto_new S hT, T, x, y, rfl, .inl rfl, upd_same, im_fix (step_new S hT).fix _ _ i1, im_fix (step_new S hT).fix _ _ i2⟩
theorem ei_enumT {ta : TA} (h : EvA K ta ρ m fun ss m1 => ∃ ds, ss = [.d (.tuple ds)] ∧ P (enumS ds) Any m1) : EvI K (iEnumU K ta) ρ m P := fun σ F H R E S q => .inr (h σ F H _ E S fun ss m1 us F1 H1 ⟨ds, e, p⟩ s1 S1 o1 => by
  subst e
  obtain ⟨x, e, o⟩ := sls1 o1
  obtain ⟨a, vs, e2, n, i⟩ := o
  subst e2
  refine ⟨a, vs, e, tup_at Step.refl (m := m1) (m' := m1) n, q _ _ m1 F1 H1 _ p s1 S1 ⟨fun j H2 hj ⟨m2, F2, _, st, _⟩ => ?_, fun H2 ⟨m2, F2, _, st, _⟩ => ?_, fun j H2 x H3 hj _ ⟨T, y, e3, hT, eH, hx⟩ m2 F2 _ st S2 => ?_⟩⟩
  · have hj' : j < vs.length := by rw [enumS_len, imAll_len i] at hj; exact hj
    exact ⟨vs, vs[j], tup_at st n, List.getElem?_eq_getElem hj'⟩
  · exact ⟨vs, tup_at st n, by rw [enumS_len, imAll_len i]; exact Nat.le_refl _⟩
  · subst e3 eH
    have hd : ∃ d, ds[j]? = some d := ⟨_, List.getElem?_eq_getElem (by rwa [enumS_len] at hj)⟩
    obtain ⟨d, hd⟩ := hd
    obtain ⟨v2, hv, iv⟩ := imAll_get (imAll_fix st.fix ds vs i) hd
    rw [hx vs (tup_at st n)] at hv
    cases hv
    obtain ⟨a1, a2, a3⟩ := pair_new (dx := .int (j : Nat)) S2 hT rfl iv
    exact ⟨_, a1, a2, _, enumS_get hd, a3⟩)
theorem ei_enumL {ta : TA} (h : EvA K ta ρ m fun ss m1 => ∃ ds, ss = [.d (.list ds)] ∧ P (enumS ds) Any m1) : EvI K (iEnumU K ta) ρ m P := fun σ F H R E S q => .inl (h σ F H _ E S fun ss m1 us F1 H1 ⟨ds, e, p⟩ s1 S1 o1 => by
  subst e
  obtain ⟨x, e, o⟩ := sls1 o1
  obtain ⟨a, vs, e2, n, ha, i⟩ := o
  subst e2
  refine ⟨a, vs, e, SqL.of ha, q _ _ m1 F1 H1 _ p s1 S1 ⟨fun j H2 hj ⟨m2, F2, _, st, _⟩ => ?_, fun H2 ⟨m2, F2, _, st, _⟩ => ?_, fun j H2 x H3 hj _ ⟨T, y, e3, hT, eH, hx⟩ m2 F2 _ st S2 => ?_⟩⟩
  · have hj' : j < vs.length := by rw [enumS_len, imAll_len i] at hj; exact hj
    exact ⟨vs, vs[j], SqL.of (st.fix a _ ha n).1, List.getElem?_eq_getElem hj'⟩
  · exact ⟨vs, SqL.of (st.fix a _ ha n).1, by rw [enumS_len, imAll_len i]; exact Nat.le_refl _⟩
  · subst e3 eH
    have hd : ∃ d, ds[j]? = some d := ⟨_, List.getElem?_eq_getElem (by rwa [enumS_len] at hj)⟩
    obtain ⟨d, hd⟩ := hd
    obtain ⟨v2, hv, iv⟩ := imAll_get (imAll_fix st.fix ds vs i) hd
    rw [hx vs (SqL.of (st.fix a _ ha n).1)] at hv
    cases hv
    obtain ⟨a1, a2, a3⟩ := pair_new (dx := .int (j : Nat)) S2 hT rfl iv
    exact ⟨_, a1, a2, _, enumS_get hd, a3⟩)
/-! ### methods -/
section
variable {Pv : PV}
theorem ty_listM {l : Addr} {ds : List PyData} (hm : m l = some (.lst ds)) : TyS K "list" (.m l) m := fun x F H a S => by
  obtain ⟨vs, hl, i⟩ := mu_lst S hm
  cases (show x = .ref l from a)
  exact .inl ⟨rfl, vs, SqL.of hl⟩
theorem ty_list {ds : List PyData} : TyS K "list" (.d (.list ds)) m := fun x F H a S => by
  obtain ⟨l, vs, e, hl, i⟩ := im_lst a
  subst e
  exact .inl ⟨rfl, vs, SqL.of hl⟩
theorem ty_str {z : Str} : TyS K "str" (.d (.str z)) m := fun x F H a S => by cases (show x = .str z from a); rfl
/-- a list of the store becomes another -/
theorem then_mut {F : Reg} {H : Hp} {Q : VK} {l : Addr} {w : Mu} {ds : List PyData} {us : List V} {s : Sl} {v : V} (S : StoOk K m F H) (hm : m l = some w) (q : Then K m F H Pv Q) (p : Pv s (put m l (.lst ds))) (i : ImAll K F H ds us) (o : SlOk K F H s v) : Q v (upd H l (.lst us)) := by
  have st : Step m F H (put m l (.lst ds)) F (upd H l (.lst us)) := step_mut S hm
  exact q _ _ _ _ _ p st (sto_put S (S.mu l w hm).2 ⟨us, upd_same, imAll_fix st.fix ds us i⟩) (slOk_step st o)
theorem rm_append {l : Addr} {ds : List PyData} {d : PyData} (hm : m l = some (.lst ds)) (h : ds.length < 100000) (p : Pv (.d .none) (put m l (.lst (ds ++ [d])))) : RM K rAppend (.m l) [.d d] m Pv := fun x xs F H Q a b S q => by
  obtain ⟨y, e, o⟩ := sls1 b
  obtain ⟨vs, hl, i⟩ := mu_lst S hm
  cases (show x = .ref l from a)
  exact ⟨l, vs, y, rfl, e, hl, by rw [← imAll_len i, sizeLine_eq]; omega, then_mut S hm q p (imAll_app i (imAll_one o)) rfl⟩
theorem rm_popAt {l : Addr} {ds : List PyData} {j : Int} {k : Nat} {d : PyData} (hm : m l = some (.lst ds)) (h : ds.length < 100000) (hj : 0 ≤ j) (hk : j = (k : Int)) (hd : ds[k]? = some d) (p : Pv (.d d) (put m l (.lst (ds.eraseIdx k)))) : RM K rPopAt (.m l) [.d (.int j)] m Pv := fun x xs F H Q a b S q => by
  obtain ⟨y, e, o⟩ := sls1 b
  cases (show y = .int j from o)
  obtain ⟨vs, hl, i⟩ := mu_lst S hm
  cases (show x = .ref l from a)
  obtain ⟨v, hv, iv⟩ := imAll_get i hd
  have hlt := (List.getElem?_eq_some_iff.mp hv).1
  have hlen := imAll_len i
  refine ⟨l, vs, j, k, v, rfl, e, hl, by omega, by omega, (ixN_seq (show ixN vs.length j = some k from ?_)).1, hv, then_mut S hm q p (imAll_erase i k) iv⟩
  unfold ixN
  rw [if_pos hj, if_pos (by omega), hk]
  simp
theorem rm_pop {l : Addr} {ds : List PyData} {d : PyData} (hm : m l = some (.lst ds)) (hd : ds[ds.length - 1]? = some d) (p : Pv (.d d) (put m l (.lst ds.dropLast))) : RM K rPop (.m l) [] m Pv := fun x xs F H Q a b S q => by
  have e := sls0 b
  obtain ⟨vs, hl, i⟩ := mu_lst S hm
  cases (show x = .ref l from a)
  obtain ⟨v, hv, iv⟩ := imAll_get i hd
  rw [imAll_len i] at hv
  refine ⟨l, vs, v, rfl, e, hl, hv, then_mut S hm q p ?_ iv⟩
  rw [List.dropLast_eq_take, List.dropLast_eq_take, imAll_len i]
  exact imAll_iff.mpr (paired_take _ (imAll_iff.mp i))
/-- xs[j] = e -/
theorem gt_sub {l : Addr} {ds : List PyData} {j : Int} {k : Nat} {d : PyData} {to ti : TE} {Pr : Rho → Sto → Prop} (ho : Ev K to ρ m fun s m1 => s = .m l ∧ Ev K ti ρ m1 fun s' m2 => s' = .d (.int j) ∧ m2 l = some (.lst ds) ∧ ixN ds.length j = some k ∧ Pr ρ (put m2 l (.lst (ds.set k d)))) :
    Gt K (gSub to ti rSetL) [] (.d d) ρ m Pr := fun σ F H v Q E S o q =>
  ho σ F H _ E S fun s m1 x F1 H1 ⟨e, h⟩ s1 S1 o1 => h σ F1 H1 _ (envOk_step s1 E) S1 fun s' m2 y F2 H2 ⟨e2, hm, hk, p⟩ s2 S2 o2 => by
    subst e e2
    cases (show y = .int j from o2)
    obtain ⟨vs, hl, i⟩ := mu_lst S2 hm
    cases (show x = .ref l from o1)
    have st : Step m2 F2 H2 (put m2 l (.lst (ds.set k d))) F2 (upd H2 l (.lst (vs.set k v))) := step_mut S2 hm
    have iv : Im K F2 H2 d v := im_fix (s1.trans s2).fix _ _ o
    refine ⟨l, vs, j, k, rfl, rfl, hl, by rw [← imAll_len i]; exact hk, ?_⟩
    refine q _ _ _ F2 _ p ((s1.trans s2).trans st) (sto_put S2 (S2.mu l _ hm).2 ⟨_, upd_same, imAll_fix st.fix _ _ (imAll_set i k iv)⟩) (envOk_step ((s1.trans s2).trans st) E) fun _ _ => rfl
abbrev rInsert : V → List V → Hp → VK → Prop := fun x vs H Q => ∃ (l : Addr) (xs : List V) (i : Int) (y : V), x = .ref l ∧ vs = [.int i, y] ∧ H l = some (.lst xs) ∧ xs.length < sizeLine ∧ 0 ≤ i ∧ i < 2 ^ 63 ∧ Q .non (upd H l (.lst (xs.take i.toNat ++ [y] ++ xs.drop i.toNat)))
end
end
end Dv

namespace Dv
open PySem L2 PyProof.Rows
/-! ### defs where no guard stands on the stack (repr asks for that) -/
/-- the def at f keeps sp, called where no guard stands -/
structure DF (Pg : Program) (w : World) (K : PySem.W.Frag) (mg : Str → Option Value) (base : Heap) (CX : CXT) (k : Nat) (f : Addr) (fd : FuncData) (ps : List Str) (sp : Sp) : Prop where
  len : ∀ vs H Q E, sp vs H Q E → vs.length = ps.length
  run : ∀ (A : Around) (outer : List Env) (s : Shared) (H : Hp) (args : Args) (us : List Value) (vs : List V) (Q : VK) (E : XK), A.guards = some [] → Room k A → Env0 Pg w K mg base A outer s H →
    BindsTo s fd args (ps.zip us) → Vals vs us → sp vs H Q E → codeAny (model Pg w) A (.call (.ref f) args) (CR CX outer Pg w H s Q E) s
theorem DF.mono {Pg : Program} {w : World} {K : PySem.W.Frag} {mg : Str → Option Value} {base : Heap} {CX : CXT} {j k : Nat} {f : Addr} {fd : FuncData} {ps : List Str} {sp : Sp} (F : DF Pg w K mg base CX j f fd ps sp) (h : j ≤ k) : DF Pg w K mg base CX k f fd ps sp :=
  ⟨F.len, fun A outer s H args us vs Q E g hr => F.run A outer s H args us vs Q E g (hr.mono h)⟩
section
variable {Pg : Program} {w : World} {K : PySem.W.Frag} {mg : Str → Option Value} {base : Heap} {CX : CXT}
theorem df_of {k : Nat} {f : Addr} {name qual : Str} {params : Arguments} {bd : List Stmt} {scope : Scope} {dV kV doc pm cdv ct oc : Value} {an od : Option Addr} {osl : Array (Option Value)} {N ps : List Str} {sp : Sp}
    (lk : K.lookup f = some ⟨oc, od, .func (PySem.W.fnOf name qual params bd scope dV kV doc pm an cdv ct), osl⟩) (hcd : PySem.W.codeIn K cdv qual = true) (S : FnScope N ps scope) (len : ∀ vs H Q E, sp vs H Q E → vs.length = ps.length)
    (hb : ∀ (A : Around) (outer : List Env) (s : Shared) (H : Hp) (vs : List V) (Q : VK) (E : XK), A.guards = some [] → Room k (A.deeper (envOfC qual scope s.heap.objs.size f cdv)) → sp vs H Q E →
      ∃ t, PSs (cxOf CX Pg w K mg base N qual scope f cdv A outer s H E) bd t ∧ t { nx := fun _ H' => Q .non H', rt := Q } (L2.start N vs) H) :
    DF Pg w K mg base CX (k + 1) f (PySem.W.fnOf name qual params bd scope dV kV doc pm an cdv ct) ps sp := by
  constructor
  · exact len
  intro A outer s H args us vs Q E hg hr e0 hbi r hsp
  obtain ⟨t, ht, hq⟩ := hb A outer s H vs Q E hg (hr.deeper _) hsp
  have old : ∀ b o, base.get? b = some o → s.heap.get? b = some o := fun b o e => (e0.bs b o e).1
  have KX := e0.mod.kin.keeps old
  have kinds : ∀ y ∈ ps.zip us, scope.names.lookup y.1 = some .local ∨ (scope.names.lookup y.1 = some .cell ∧ ((cellsFrom (s.heap.objs.size + 1) scope.names []).lookup y.1).isSome = true) := by
    rintro ⟨n, v⟩ hy
    exact (S.par n (List.of_mem_zip hy).1).imp id fun q => ⟨q, PySem.W.cellsFrom_some _ _ _ (.inl q)⟩
  refine codeAny_call_function hr.depth (KX _ _ lk) rfl S.co S.gen rfl (PySem.W.codeRec_of KX hcd) (hbi _ _ _ _ (wpAny_newFunctionEnv_cells S.kind kinds ?_))
  rintro env rfl s1 x
  refine ⟨(e0.mod.nolimit.keeps old).keeps x.toInCall.keep, codeAny_func ?_⟩
  have J := inv_start (CX := CX) (E := E) S hr.hd e0 (len _ _ _ _ hsp) r x
  apply wpAny_mono (ht.run [] s1 (L2.start N vs) H _ J hq) _ (fun _ _ z => z)
  intro fl s' hs
  match fl, hs with
  | .ret u, ⟨v, σ', H', I, rv, q⟩ => exact ⟨v, H', I.os, I.bare, I.base, I.hok, rv, q⟩
  | .next, ⟨σ', H', I, q⟩ => exact ⟨V.non, H', I.os, I.bare, I.base, I.hok, rfl, q⟩
  | .brk, ⟨_, _, _, q⟩ => exact q.elim
  | .cont, ⟨_, _, _, q⟩ => exact q.elim
/-- a def of the text, its body's term of rules and the reading over data -/
theorem df_data {x qual : Str} {st : Stmt} {f : Addr} {fd : FuncData} {N ps : List Str} {k : Nat} {W : WT} {t : TS} (F : Fun K x qual st f fd) (S : FnScope N ps (defScope st)) (len : ∀ ss m P, W ss m P → ss.length = ps.length)
    (der : ∀ (cdv : Value) (A : Around) (outer : List Env) (s : Shared) (H : Hp) (E : XK), (A.deeper (envOfC qual (defScope st) s.heap.objs.size f cdv)).guards = some [] → Room k (A.deeper (envOfC qual (defScope st) s.heap.objs.size f cdv)) →
      PSs (cxOf CX0 Pg w K mg base N qual (defScope st) f cdv A outer s H E).nox (defBody st) t)
    (rd : ∀ ss m P, W ss m P → Wp K t (rho N ss) m { nx := fun _ m' => P (.d .none) m', rt := P }) : DF Pg w K mg base CX0 (k + 1) f fd ps (SpD K W) := by
  obtain ⟨oc, od, kV, doc, pm, an, cdv, ct, osl, rfl, lk, hcd⟩ := F.ex
  exact df_of lk hcd S (fun vs H Q E h => spD_len len h) fun A outer s H vs Q E hg hr h => ⟨t, (der cdv A outer s H E hg hr).nox, body rd h⟩
section
variable {X : Cx} {k : Nat} {f : Addr} {fd : FuncData} {ps : List Str} {sp : Sp} {dvs : List V} {ds : List Value} {E : XK} {x : Str} {p pos : Pos} {e : Expr} {es : List Expr} {t : TA}
theorem run_df {pins : List (Addr × Obj)} {σ : L2.St} {H : Hp} {s : Shared} {Q : VK} {us : List Value} {vs : List V} (F : DF X.prog X.w X.K X.mg X.base CX k f fd ps sp) (hg : X.A.guards = some []) (hr : Room k X.A) (hb : Binds X.K fd ps ds) (hd : Vals dvs ds) (hx : Passes CX X E)
    (I : Inv X pins σ H s) (r : Vals vs us) (h : sp (vs ++ dvs) H Q E) : wpAny (model X.prog X.w) X.A (call (.ref f) us) (EP X pins σ Q) X.xe s := by
  have r2 := r.append hd
  have hl := (r2.length.symm.trans (F.len _ _ _ _ h))
  apply wpAny_call
  apply codeAny_mono (F.run X.A X.stack s H ⟨us, []⟩ _ _ Q E hg hr I.env0 (hb s us I.kIn hl) r2 h)
  intro r s' hq
  match r, hq with
  | .error e, hq => exact hx pins σ H s e s' I hq
  | .ok (.ret u), hq => exact I.after hq
  | .ok .next, hq => exact False.elim hq
  | .ok .brk, hq => exact False.elim hq
  | .ok .cont, hq => exact False.elim hq
theorem pe_dcall (F : DF X.prog X.w X.K X.mg X.base CX k f fd ps sp) (hgd : X.A.guards = some []) (hr : Room k X.A) (hg : Gl X x) (hm : X.mg x = some (.ref f)) (hk : PySem.W.keepIn X.K (.ref f) = true) (hb : Binds X.K fd ps ds) (hd : Vals dvs ds) (hx : Passes CX X E)
    (ha : PA X (e :: es) t) (hdb : (x == ("__debug__" : Str)) = false := by decide) (he : starEach (e :: es) X.env = (false, eval e X.env) :: starEach es X.env := by rfl) (hpl : (backTo pos (starEach es X.env)).any (·.1) = false := by rfl) :
    PE X (.Call (.Name x p) (e :: es) [] pos) (tCall sp dvs E t) := by
  constructor
  intro pins s σ H Q I h
  refine wpAny_Call_Name_kw (ld_glob I hg hm ?_ hdb)
  refine PySem.W.callWith_K (h₀ := X.base) I.ok.mod.kin hk (thn (ha.run pos pins s σ H _ I h) ?_) he hpl
  rintro us s1 ⟨vs, H1, I1, r, q⟩
  exact ⟨I1.kIn, run_df F hgd hr hb hd hx I1 r q⟩
theorem pe_dcall0 (F : DF X.prog X.w X.K X.mg X.base CX k f fd ps sp) (hgd : X.A.guards = some []) (hr : Room k X.A) (hg : Gl X x) (hm : X.mg x = some (.ref f)) (hk : PySem.W.keepIn X.K (.ref f) = true) (hb : Binds X.K fd ps ds) (hd : Vals dvs ds) (hx : Passes CX X E)
    (hdb : (x == ("__debug__" : Str)) = false := by decide) : PE X (.Call (.Name x p) [] [] pos) (tCall sp dvs E tNil) := by
  constructor
  intro pins s σ H Q I h
  exact wpAny_Call_Name_kw (ld_glob I hg hm (PySem.W.callWith_K0 I.kIn hk (run_df (us := []) F hgd hr hb hd hx I .nil h)) hdb)
end
/-! ### the law's own call -/
/-- what a law's def must do: from the script to True -/
def WLaw : WT := fun ss m P => ∃ ns : List Int, ss = [.f (ns.map .int)] ∧ ns.length ≤ 63 ∧ (∀ a, m a = none) ∧ ∀ m', P (.d (.bool true)) m'
theorem imAll_ints {F : Reg} {H : Hp} : ∀ {ns : List Int}, ImAll K F H (ns.map .int) (ns.map V.int)
  | [] => rfl
  | n :: ns => ⟨.int n, ns.map V.int, rfl, rfl, imAll_ints⟩
theorem law_dcall {mb : Str → Option Value} {k : Nat} {fa a : Addr} {fd : FuncData} {x : Str} {s₁ : Shared} {vs : List Value} {ns : List Int}
    (KX : K.In s₁.heap) (hns : s₁.heap.Ns mainGlobals mg) (hb : s₁.heap.Ns builtinsNs mb) (hbb : ∀ x : Str, x ≠ "__name__" → mb x = bootBuiltins x) (hlim : s₁.heap.NoLimit) (hg : s₁.gens = #[])
    (ha : s₁.heap.get? a = some { cls := .type "list", data := .seq vs.toArray }) (hi : IntsAre vs ns) (hl : ns.length ≤ 63) (hr : Room k callerA)
    (F : ∀ base : Heap, K.In base → base.Ns mainGlobals mg → DF Pg w K mg base CX0 k fa fd [x] (SpD K WLaw)) (hbind : ∀ (s : Shared) (u : Value), BindsTo s fd ⟨[u], []⟩ [(x, u)]) :
    codeAny (model Pg w) callerA (.call (.ref fa) ⟨[.ref a], []⟩) (fun r s' => r = .ok (.ret (.bool true)) ∧ OldK s₁.heap s'.heap ∧ s'.os = s₁.os ∧ AllBare s'.gens) s₁ := by
  have lenV := hi.length
  have hz : (ns.map V.int).length ≤ sizeLine := by rw [List.length_map, sizeLine_eq]; omega
  let ob : Obj := { cls := .type "list", data := .seq vs.toArray }
  -- the script is tracked where it is none of the module's own objects
  obtain ⟨H, hH, hS⟩ : ∃ H : Hp, (∀ b, H b = none ∨ (b = a ∧ K.lookup a = none ∧ H b = some (.frz ob (.lst (ns.map V.int))))) ∧ SlOk K (fun b => H b ≠ none) H (.f (ns.map .int)) (.ref a) := by
    cases hk : K.lookup a with
    | none =>
      refine ⟨fun b => if b = a then some (.frz ob (.lst (ns.map V.int))) else none, fun b => ?_, a, ns.map V.int, rfl, .inl ⟨?_, ob, if_pos rfl⟩, imAll_ints⟩
      · by_cases hba : b = a
        · exact .inr ⟨hba, rfl, if_pos hba⟩
        · exact .inl (if_neg hba)
      · show (if a = a then some (HO.frz ob (.lst (ns.map V.int))) else none) ≠ none
        rw [if_pos rfl]; simp
    | some o =>
      have e := KX a o hk
      rw [ha] at e
      cases e
      exact ⟨fun _ => none, fun b => .inl rfl, a, ns.map V.int, rfl, .inr ⟨_, vs.toArray, _, hk, rfl, rfl, rfl, by rw [List.size_toArray, lenV, sizeLine_eq]; omega, vals_ints hi⟩, imAll_ints⟩
  have hok : HOk Pg w H s₁.heap := fun b u e => by
    rcases hH b with z | ⟨rfl, _, z⟩
    · rw [z] at e; cases e
    · rw [z] at e; cases e
      exact ⟨ha, hz, vs, _, vals_ints hi, ha⟩
  have only : ∀ {b : Addr} {u : HO}, H b = some u → b = a ∧ K.lookup a = none := fun {b u} e => by
    rcases hH b with z | ⟨z, y, _⟩
    · rw [z] at e; cases e
    · exact ⟨z, y⟩
  have free : ∀ {b : Addr} {o : Obj} {es : Array DictEntry} {ep : Nat}, s₁.heap.get? b = some o → o.data = .dict es ep → H b = none := fun {b o es ep} e d => by
    cases q : H b with
    | none => rfl
    | some u =>
      rw [(only q).1, ha] at e
      cases e
      cases d
  have ns2 : ∀ {b : Addr} {mm : Str → Option Value}, s₁.heap.Ns b mm → (hidT s₁.heap H).Ns b mm := fun ⟨o, es, ep, e, d, r⟩ => ⟨o, es, ep, hidT_get e (free e d), d, r⟩
  have hKb : K.In (hidT s₁.heap H) := fun b o e => hidT_get (KX b o e) (by
    cases q : H b with
    | none => rfl
    | some u =>
      obtain ⟨e1, e2⟩ := only q
      rw [e1, e2] at e
      cases e)
  have hM : Mod K mg (hidT s₁.heap H) := ⟨hKb, ns2 hns, ⟨mb, ns2 hb, hbb⟩, let ⟨mc, h1, h2⟩ := hlim; ⟨mc, ns2 h1, h2⟩⟩
  have e0 : Env0 Pg w K mg (hidT s₁.heap H) callerA [] s₁ H := ⟨rfl, hM, fun b o e => of_hidT e, Nat.le_of_eq (hidT_size _ _), trivial, fun b hb => absurd (show b ∈ ([] : List Addr) from hb) (by simp), hok, .of_eq hg⟩
  have hsp : SpD K WLaw [.ref a] H (fun v _ => v = .bl true) (fun _ _ _ => False) :=
    ⟨[.f (ns.map .int)], fun _ => none, fun b => H b ≠ none, fun s _ => s = .d (.bool true), .cons hS .nil, ⟨fun _ _ e => (nomatch e), fun _ z => z⟩, ⟨ns, rfl, hl, fun _ => rfl, fun _ => rfl⟩, fun s m' v F' H' e _ _ o => by subst e; exact o⟩
  apply codeAny_mono ((F _ hKb (ns2 hns)).run callerA [] s₁ H ⟨[.ref a], []⟩ [.ref a] [.ref a] _ _ rfl hr e0 (hbind s₁ (.ref a)) (.cons rfl .nil) hsp)
  intro r s' h
  match r, h with
  | .error e, h => exact False.elim h
  | .ok .next, h => exact False.elim h
  | .ok .brk, h => exact False.elim h
  | .ok .cont, h => exact False.elim h
  | .ok (.ret u), ⟨v, H', os, bare, un, hok', rv, q⟩ =>
    cases (show v = .bl true from q)
    cases (show u = Value.bool true from rv)
    refine ⟨rfl, OldK.of_keep fun b o e => ?_, os, bare⟩
    rcases hH b with z | ⟨_, _, z⟩
    · exact un.keep b o e z (by intro y; exact absurd (show b ∈ ([] : List Addr) from y) (by simp)) (by simp)
    · obtain ⟨e1, _⟩ := hok b _ z
      obtain ⟨e2, _⟩ := hok' b _ (un.frzs b _ _ z)
      rw [e] at e1
      cases e1
      exact e2
/-- THE END of a law: from its def's promise -/
theorem dwalk {l : PySem.W.OpenLaw} {k : Nat} {q : Program} {loose : List Str} {XP : (Str → Option Value) → Heap → Prop} {YP : World → Heap → Prop} {d : DefRec} {K : Params → PySem.W.Frag}
    (hn : l.most = some 63) (hdf : d.params.defaults = []) (hr : Room k callerA) (hY : ∀ (w : World) (h : Heap), YP w h → (K w.params).In h)
    (F : ∀ (w : World) (mg : Str → Option Value) (fa : Addr) (h : Heap), (K w.params).In h → h.Ns mainGlobals mg → mg d.name = some (.ref fa) →
      ∃ fd : FuncData, (∀ (s : Shared) (u : Value), BindsTo s fd ⟨[u], []⟩ [("script", u)]) ∧ ∀ base : Heap, (K w.params).In base → base.Ns mainGlobals mg → DF l.prog w (K w.params) mg base CX0 k fa fd ["script"] (SpD (K w.params) WLaw)) :
    PySem.W.WalkO q loose XP YP l.row.toRowW d [] (fun f vs => PySem.call f vs) := by
  apply Att.attach_call hn hdf
  intro w s₀ s₁ mg mb fa o pm cd doc a vs ns G Y ho hd hcd hmg hobj hints hlen hg
  obtain ⟨fd, hb, hF⟩ := F w mg fa _ (hY w _ Y) G.T.g hmg
  exact law_dcall (hY w _ Y) G.T.g G.T.b G.T.builtins G.T.nolimit hg hobj hints hlen hr hF hb
end
end Dv

namespace Dv
open PySem L2
theorem pe_or {X : Cx} {e : Expr} {t t' : TE} (h : PE X e t) (h' : PE X e t') : PE X e (fun σ H Q => t σ H Q ∨ t' σ H Q) := ⟨fun pins s σ H Q I q => q.elim (h.run pins s σ H Q I) (h'.run pins s σ H Q I)⟩
section
variable {K : PySem.W.Frag} {ρ : Rho} {m : Sto} {to te : TE} {P : PV}
theorem ev_l {t t' : TE} (h : Ev K t ρ m P) : Ev K (fun σ H Q => t σ H Q ∨ t' σ H Q) ρ m P := fun σ F H Q E S q => .inl (h σ F H Q E S q)
theorem ev_r {t t' : TE} (h : Ev K t' ρ m P) : Ev K (fun σ H Q => t σ H Q ∨ t' σ H Q) ρ m P := fun σ F H Q E S q => .inr (h σ F H Q E S q)
/-! ### methods of texts -/
theorem ev_m0 {r : V → List V → Hp → VK → Prop} (h : Ev K to ρ m fun s m1 => ∃ z, s = .d (.str z) ∧ RM K r (.d (.str z)) [] m1 P) : Ev K (tM0 r to) ρ m P := fun σ F H Q E S q =>
  h σ F H _ E S fun s m1 x F1 H1 ⟨z, e, h1⟩ s1 S1 o1 => by
    subst e
    exact ⟨⟨z, o1⟩, h1 x [] F1 H1 Q o1 .nil S1 fun s' m' v F' H' p s2 S2 o2 => q s' m' v F' H' p (s1.trans s2) S2 o2⟩
theorem ev_m1 {r : V → List V → Hp → VK → Prop} (h : Ev K to ρ m fun s m1 => ∃ z, s = .d (.str z) ∧ Ev K te ρ m1 fun s2 m2 => RM K r (.d (.str z)) [s2] m2 P) : Ev K (tM1 r to te) ρ m P := fun σ F H Q E S q =>
  h σ F H _ E S fun s m1 x F1 H1 ⟨z, e, h1⟩ s1 S1 o1 => by
    subst e
    refine ⟨⟨z, o1⟩, h1 σ F1 H1 _ (envOk_step s1 E) S1 fun s2 m2 y F2 H2 h2 s2' S2 o2 => ?_⟩
    exact h2 x [y] F2 H2 Q (slOk_step s2' o1) (.cons o2 .nil) S2 fun s' m' v F' H' p s3 S3 o3 => q s' m' v F' H' p ((s1.trans s2').trans s3) S3 o3
abbrev rUpperM : V → List V → Hp → VK → Prop := fun x xs H Q => ∃ a, x = .str a ∧ xs = [] ∧ a.length ≤ 5592405 ∧ Q (.str (Txt.upper a)) H
abbrev rLowerM : V → List V → Hp → VK → Prop := fun x xs H Q => ∃ a, x = .str a ∧ xs = [] ∧ a.length ≤ 5592405 ∧ Q (.str (Txt.lower a)) H
theorem rm_upper {z : Str} (h : z.length ≤ 100000) (p : P (.d (.str (Txt.upper z))) m) : RM K rUpperM (.d (.str z)) [] m P := fun x xs F H Q a b S q => ⟨z, a, sls0 b, by omega, q _ m _ F H p Step.refl S rfl⟩
theorem rm_lower {z : Str} (h : z.length ≤ 100000) (p : P (.d (.str (Txt.lower z))) m) : RM K rLowerM (.d (.str z)) [] m P := fun x xs F H Q a b S q => ⟨z, a, sls0 b, by omega, q _ m _ F H p Step.refl S rfl⟩
abbrev rJoinM (K : PySem.W.Frag) : V → List V → Hp → VK → Prop := fun x xs H Q => ∃ a p, ∃ ys : List Str, x = .str a ∧ xs = [.ref p] ∧ (SqL K H p (ys.map V.str) ∨ SqT K H p (ys.map V.str)) ∧ (ys.map (·.length)).sum + ys.length * a.length ≤ 16777216 ∧ Q (.str (Txt.join a ys)) H
theorem rm_join {a : Str} {ys : List Str} {s : Sl} (hs : SeqS K s m (ys.map .str)) (h : (ys.map (·.length)).sum + ys.length * a.length ≤ 16777216) (p : P (.d (.str (Txt.join a ys))) m) : RM K (rJoinM K) (.d (.str a)) [s] m P := fun x xs F H Q o b S q => by
  obtain ⟨y, e, o2⟩ := sls1 b
  obtain ⟨l, vs, e2, hl, i⟩ := hs y F H o2 S
  have := imAll_strs.mp i
  subst this e2
  exact ⟨a, l, ys, o, e, hl, h, q _ m _ F H p Step.refl S rfl⟩
abbrev rSplitM : V → List V → Hp → VK → Prop := fun x xs H Q => ∃ a b, x = .str a ∧ xs = [.str b] ∧ (b.length == 0) = false ∧ a.length + 2 ≤ sizeLine ∧ rNewStrs (Txt.split a b) H Q
theorem rm_split {a b : Str} (h : (b.length == 0) = false) (h2 : a.length ≤ 100000) (p : P (.d (.list ((Txt.split a b).map .str))) m) : RM K rSplitM (.d (.str a)) [.d (.str b)] m P := fun x xs F H Q o c S q => by
  obtain ⟨y, e, o2⟩ := sls1 c
  cases (show y = .str b from o2)
  refine ⟨a, b, o, e, h, by rw [sizeLine_eq]; omega, fun l hl => ?_⟩
  exact then_new S p q hl ⟨l, _, rfl, .inl rfl, upd_same, imAll_strs.mpr rfl⟩
/-! ### sets of texts -/
variable {Pg : Program} {w : World}
theorem rc_set0 (p : ∀ a, m a = none → P (.m a) (put m a (setM Pg w a []))) : RC K (rSet0K Pg w) [] m P := fun xs F H Q a S q => by
  refine ⟨sls0 a, fun l hl => ?_⟩
  have e : setM Pg w l [] = .raw (SetK Pg w l (fun _ => false) 0) := by
    unfold setM
    congr 2
    funext k
    cases k <;> simp
  have pp := p l (sto_none S hl)
  rw [e] at pp
  exact q _ _ _ _ _ pp (step_newM S hl) (sto_put S (not_reg S hl) upd_same) rfl
theorem ev_sadd {t : TA} (h : Ev K to ρ m fun s m1 => ∃ a xs, s = .m a ∧ m1 a = some (setM Pg w a xs) ∧ EvA K t ρ m1 fun ss m2 => ∃ z, ss = [.d (.str z)] ∧ m2 a = some (setM Pg w a xs) ∧ xs.length < 1000 ∧ P (.d .none) (put m2 a (setM Pg w a (if z ∈ xs then xs else xs ++ [z])))) :
    Ev K (tSAddK Pg w to t) ρ m P := fun σ F H Q E S q =>
  h σ F H _ E S fun s m1 x F1 H1 ⟨a, xs, e, hm, h1⟩ s1 S1 o1 => by
    subst e
    have z1 : H1 a = some _ := (S1.mu a _ hm).1
    refine ⟨⟨a, _, _, o1, z1⟩, h1 σ F1 H1 _ (envOk_step s1 E) S1 fun ss m2 vs F2 H2 ⟨z, e2, hm2, hl, p⟩ s2 S2 o2 => ?_⟩
    subst e2
    obtain ⟨y, e3, o3⟩ := sls1 o2
    cases (show y = .str z from o3)
    have z2 : H2 a = some _ := (S2.mu a _ hm2).1
    refine ⟨a, .inr z, _, _, o1, e3, z2, by show xs.length + 1 < 4096; omega, ?_⟩
    have eS : (setM Pg w a (if z ∈ xs then xs else xs ++ [z])) = .raw (SetK Pg w a (fun j => (match j with | .inr z => decide (z ∈ xs) | .inl _ => false) || decide (j = (.inr z : Key))) (if (match (.inr z : Key) with | .inr z => decide (z ∈ xs) | .inl _ => false) = true then xs.length else xs.length + 1)) := by
      unfold setM
      congr 2
      · funext k
        cases k with
        | inl i => simp
        | inr y =>
          by_cases hz : z ∈ xs
          · rw [if_pos hz]
            by_cases hy : y = z
            · subst hy; simp [hz]
            · have : (Sum.inr y : Key) ≠ Sum.inr z := fun e => hy (Sum.inr.inj e)
              simp [this]
          · rw [if_neg hz]
            by_cases hy : y = z
            · subst hy; simp
            · have : (Sum.inr y : Key) ≠ Sum.inr z := fun e => hy (Sum.inr.inj e)
              simp [this, hy]
      · by_cases hz : z ∈ xs
        · simp [hz]
        · simp [hz]
    rw [eS] at p
    exact q _ _ _ _ _ p ((s1.trans s2).trans (step_mut S2 hm2)) (sto_put S2 (S2.mu a _ hm2).2 upd_same) rfl
/-! ### t.index(x), l.index(x) -/
def tyT (K : PySem.W.Frag) (x : V) (H : Hp) : Prop := ∃ p vs, x = .ref p ∧ (ZT H p vs ∨ WrT K p vs)
abbrev rTIx (K : PySem.W.Frag) : V → List V → Hp → VK → Prop := fun x xs H Q => ∃ p, ∃ ys : List Str, ∃ z j, x = .ref p ∧ xs = [.str z] ∧ SqT K H p (ys.map V.str) ∧ ys[j]? = some z ∧ (∀ m, m < j → ys[m]? ≠ some z) ∧ Q (.int (j : Nat)) H
def tTM (K : PySem.W.Frag) (r : V → List V → Hp → VK → Prop) (to te : TE) : TE := fun σ H Q => to σ H fun x H1 => tyT K x H1 ∧ te σ H1 fun y H2 => r x [y] H2 Q
theorem tyT_is {X : Cx} {pins : List (Addr × Obj)} {σ : L2.St} {H : Hp} {s : Shared} {x : V} {v : Value} (I : Inv X pins σ H s) (r : RelV x v) (ty : tyT X.K x H) : s.TypeIs v "tuple" ∧ ∀ a, v = .ref a → ∃ ob, s.heap.get? a = some ob ∧ ob.dict = none := by
  obtain ⟨p, vs, rfl, h⟩ := ty
  cases r
  rcases h with ⟨ob, ho, hd⟩ | ⟨o, its, n, hk, hc, hd, _⟩
  · obtain ⟨e, z, _, _, o2, e2, c2, _⟩ := I.hok p _ ho
    rw [e] at e2
    cases e2
    exact ⟨⟨ob, e, c2⟩, fun a q => by cases q; exact ⟨ob, e, hd⟩⟩
  · exact ⟨⟨o, I.kIn p o hk, hc⟩, fun a q => by cases q; exact ⟨o, I.kIn _ o hk, hd⟩⟩
theorem pe_tm1 {X : Cx} {o e : Expr} {to te : TE} {id : String} {name : Str} {apos pos : Pos} {r : V → List V → Hp → VK → Prop} (slot : Slot "tuple" name id) (ty : typeOf (.builtin id) = pure (.type "method_descriptor")) (rule : MtR X id r) (ho : PE X o to) (he : PE X e te)
    (hs : starEach [e] X.env = [(false, eval e X.env)] := by rfl) (hbase : attributeBase o name X.env (eval o X.env) = eval o X.env := by rfl) (hline : (apos.endLine == pos.line) = true := by rfl) :
    PE X (.Call (.Attribute o name apos) [e] [] pos) (tTM X.K r to te) := by
  constructor
  intro pins s σ H Q I h
  refine PySem.Call_method1 hbase hs hline (thn (ho.run pins s σ H _ I h) ?_)
  rintro v s1 ⟨x, H1, I1, r1, tt, q1⟩
  obtain ⟨a1, a2⟩ := tyT_is I1 r1 tt
  refine ⟨"tuple", _, PySem.F.plainAttrs_tuple, slot, ty, a1, a2, Calls.callWith_builtin rfl (Calls.evalArgs_plain (Calls.spliced_cons (thn (he.run pins s1 σ H1 _ I1 q1) ?_)))⟩
  rintro u s2 ⟨y, H2, I2, r2, q2⟩
  exact Calls.spliced_nil (rule pins s2 σ H2 _ [y] _ [u] Q I2 r1 (.cons r2 .nil) q2)
theorem ev_tm {r : V → List V → Hp → VK → Prop} (h : Ev K to ρ m fun s m1 => ∃ ds, s = .d (.tuple ds) ∧ Ev K te ρ m1 fun s2 m2 => RM K r (.d (.tuple ds)) [s2] m2 P) : Ev K (tTM K r to te) ρ m P := fun σ F H Q E S q =>
  h σ F H _ E S fun s m1 x F1 H1 ⟨ds, e, h1⟩ s1 S1 o1 => by
    subst e
    refine ⟨?_, h1 σ F1 H1 _ (envOk_step s1 E) S1 fun s2 m2 y F2 H2 h2 s2' S2 o2 => ?_⟩
    · obtain ⟨a, vs, e, n, i⟩ := o1
      exact ⟨a, vs, e, n.imp (·.2) id⟩
    exact h2 x [y] F2 H2 Q (slOk_step s2' o1) (.cons o2 .nil) S2 fun s' m' v F' H' p s3 S3 o3 => q s' m' v F' H' p ((s1.trans s2').trans s3) S3 o3
theorem rm_tindex {ys : List Str} {z : Str} {j : Nat} (h : ys[j]? = some z) (hn : ∀ i, i < j → ys[i]? ≠ some z) (p : P (.d (.int (j : Nat))) m) : RM K (rTIx K) (.d (.tuple (ys.map .str))) [.d (.str z)] m P := fun x xs F H Q a b S q => by
  obtain ⟨y, e, o⟩ := sls1 b
  cases (show y = .str z from o)
  obtain ⟨l, vs, e2, hl, i⟩ := im_tup a
  have := imAll_strs.mp i
  subst this
  exact ⟨l, ys, z, j, e2, e, hl, h, hn, q _ m _ F H p Step.refl S rfl⟩
theorem rm_lindex {ds : List PyData} {d z : PyData} {j : Nat} (h1 : SeqAt.shaped (.list ds) = true) (h2 : SeqAt.shaped d = true) (h : ds[j]? = some z) (hz : PyData.eqv z d = true) (hn : ∀ (i : Nat) (z' : PyData), i < j → ds[i]? = some z' → PyData.eqv z' d = false) (p : P (.d (.int (j : Nat))) m) :
    RM K (rIndexD K) (.d (.list ds)) [.d d] m P := fun x xs F H Q a b S q => by
  obtain ⟨y, e, o⟩ := sls1 b
  have dp : Dp K H x (.list ds) := slot_dp a
  obtain ⟨l, vs, e2, hl, i⟩ := im_lst a
  subst e2
  exact ⟨l, y, d, ds, j, z, rfl, e, dp, slot_dp o, h1, h2, h, hz, hn, q _ m _ F H p Step.refl S rfl⟩
end
end Dv

namespace Dv
open PySem L2 PyProof.Rows
/-! ### a def as its callers know it -/
structure Dfn (Pg : Program) (w : World) (K : PySem.W.Frag) (mg : Str → Option Value) (base : Heap) (k : Nat) (name : Str) (ps : List Str) (W : WT) : Prop where
  ex : ∃ f fd, mg name = some (.ref f) ∧ PySem.W.keepIn K (.ref f) = true ∧ Binds K fd ps [] ∧ DF Pg w K mg base CX0 k f fd ps (SpD K W)
structure FunAt (K : PySem.W.Frag) (mg : Str → Option Value) (name : Str) (st : Stmt) (ps : List Str) : Prop where
  ex : ∃ f fd, mg name = some (.ref f) ∧ Fun K name name st f fd ∧ Binds K fd ps []
theorem funAt_mk {K : PySem.W.Frag} {h : Heap} {mg : Str → Option Value} {x : Str} {st : Stmt} {f : Addr} {oc : Value} {od an : Option Addr} {osl : Array (Option Value)} {kV doc pm cdv ct : Value} {ps : List Str} (X : K.In h) (G : h.Ns mainGlobals mg)
    (a : PySem.W.nsIn K mainGlobals x = some (some (.ref f))) (l : K.lookup f = some ⟨oc, od, .func (PySem.W.fnOf x x (defArgs st) (defBody st) (defScope st) .none kV doc pm an cdv ct), osl⟩) (c : PySem.W.codeIn K cdv x = true) (k : PySem.W.keepIn K (.ref f) = true)
    (hb : ∀ (kV doc pm : Value) (an : Option Addr) (cdv ct : Value) (us : List Value), us.length = ps.length → bindArgs (PySem.W.fnOf x x (defArgs st) (defBody st) (defScope st) .none kV doc pm an cdv ct) ⟨us, []⟩ = pure (ps.zip us)) : FunAt K mg x st ps :=
  ⟨f, _, PySem.W.mg_of X G a, fun_mk l c k, (fun_mk (st := st) l c k).binds hb⟩
section
variable {Pg : Program} {w : World} {K : PySem.W.Frag} {mg : Str → Option Value} {base : Heap}
theorem dfn_mk {k : Nat} {name : Str} {st : Stmt} {N ps : List Str} {W : WT} {t : TS} (A : FunAt K mg name st ps) (S : FnScope N ps (defScope st)) (len : ∀ ss m P, W ss m P → ss.length = ps.length)
    (der : ∀ (f : Addr) (cdv : Value) (A : Around) (outer : List Env) (s : Shared) (H : Hp) (E : XK), (A.deeper (envOfC name (defScope st) s.heap.objs.size f cdv)).guards = some [] → Room k (A.deeper (envOfC name (defScope st) s.heap.objs.size f cdv)) →
      PSs (cxOf CX0 Pg w K mg base N name (defScope st) f cdv A outer s H E).nox (defBody st) t)
    (rd : ∀ ss m P, W ss m P → Wp K t (rho N ss) m { nx := fun _ m' => P (.d .none) m', rt := P }) : Dfn Pg w K mg base (k + 1) name ps W := by
  obtain ⟨f, fd, hm, hF, hb⟩ := A.ex
  exact ⟨f, fd, hm, hF.kp, hb, df_data hF S len (der f) rd⟩
variable {X : Cx}
theorem pe_fn {j k : Nat} {x : Str} {ps : List Str} {W : WT} {p pos : Pos} {e : Expr} {es : List Expr} {t : TA} (D : Dfn X.prog X.w X.K X.mg X.base j x ps W) (hgd : X.A.guards = some []) (hr : Room k X.A) (h : j ≤ k) (hg : Gl X x) (ha : PA X (e :: es) t)
    (hdb : (x == ("__debug__" : Str)) = false := by decide) (he : starEach (e :: es) X.env = (false, eval e X.env) :: starEach es X.env := by rfl) (hpl : (backTo pos (starEach es X.env)).any (·.1) = false := by rfl) :
    PE X (.Call (.Name x p) (e :: es) [] pos) (tCall (SpD X.K W) [] E0 t) := by
  obtain ⟨f, fd, hm, hk, hb, F⟩ := D.ex
  exact pe_dcall F hgd (hr.mono h) hg hm hk hb .nil pass0 ha hdb he hpl
theorem pe_fn0 {j k : Nat} {x : Str} {ps : List Str} {W : WT} {p pos : Pos} (D : Dfn X.prog X.w X.K X.mg X.base j x ps W) (hgd : X.A.guards = some []) (hr : Room k X.A) (h : j ≤ k) (hg : Gl X x)
    (hdb : (x == ("__debug__" : Str)) = false := by decide) : PE X (.Call (.Name x p) [] [] pos) (tCall (SpD X.K W) [] E0 tNil) := by
  obtain ⟨f, fd, hm, hk, hb, F⟩ := D.ex
  exact pe_dcall0 F hgd (hr.mono h) hg hm hk hb .nil pass0 hdb
/-! ### short forms of rules -/
theorem ps_setA (i : Nat) {x : Str} {e : Expr} {te : TE} {pos' pos : Pos} (hN : X.N.Nodup) (he : PE X e te) (hi : X.N[i]? = some x := by rfl) (hx : Loc X.env.scope x := by first | exact Or.inl rfl | exact Or.inr rfl) (hs : swapsWith e (some (.Name x pos')) pos.line X.env = pure false := by rfl)
    (hf : X.fn x = true ∨ X.env.scope.names.lookup x = some .local := by first | exact .inl rfl | exact .inr rfl) : PS X (.Assign [.Name x pos'] e pos) (tAsg te (gName i)) := ps_set hN hi hx he hs hf
theorem pg_nameA (i : Nat) {x : Str} {pos : Pos} (hN : X.N.Nodup) (hi : X.N[i]? = some x := by rfl) (hx : Loc X.env.scope x := by first | exact Or.inl rfl | exact Or.inr rfl) (hf : X.fn x = true ∨ X.env.scope.names.lookup x = some .local := by first | exact .inl rfl | exact .inr rfl) : PG X (.Name x pos) (gName i) := pg_name hN hi hx hf
theorem hu64 {k : Nat} (hr : Room k X.A) : X.A.units + 64 < cLine := hr.units
theorem hu65 {k : Nat} (hr : Room k X.A) : X.A.units + 65 < cLine := by have := hr.un; omega
theorem hu70 {k : Nat} (hr : Room k X.A) : X.A.units + 70 < cLine := by have := hr.un; omega
end
section
variable {K : PySem.W.Frag} {ρ : Rho} {m : Sto} {P : PV} {te : TE}
/-- list(range(n)) -/
def upTo (n : Nat) : List PyData := (List.range n).map fun i => .int (i : Nat)
theorem imAll_upTo {F : Reg} {H : Hp} {n : Int} (h : 0 ≤ n) : ImAll K F H (upTo n.toNat) (rgV 0 n) := by
  unfold upTo rgV
  rw [Int.sub_zero]
  generalize List.range n.toNat = l
  induction l with
  | nil => rfl
  | cons a l ih => exact ⟨_, _, rfl, (by show V.int (0 + (a : Nat)) = V.int (a : Nat); rw [Int.zero_add]), ih⟩
theorem ev_listRg (h : Ev K te ρ m fun s m1 => ∃ n : Int, s = .d (.int n) ∧ 0 ≤ n ∧ n ≤ 100000 ∧ P (.d (.list (upTo n.toNat))) m1) : Ev K (tLstRg (tRg1 te)) ρ m P := fun σ F H Q E S q =>
  h σ F H _ E S fun s m1 x F1 H1 ⟨n, e, h0, h1, p⟩ s1 S1 o1 => by
    subst e
    cases (show x = .int n from o1)
    refine ⟨n, rfl, RgOk.of_le (by omega) (by omega) (by omega) h0, fun a ha => ?_⟩
    exact q _ m1 _ _ _ p (s1.trans (step_new S1 ha)) (sto_new S1 ha) ⟨a, _, rfl, .inl rfl, upd_same, imAll_upTo h0⟩
theorem ev_listRgM (h : Ev K te ρ m fun s m1 => ∃ n : Int, s = .d (.int n) ∧ 0 ≤ n ∧ n ≤ 100000 ∧ ∀ a, m1 a = none → P (.m a) (put m1 a (.lst (upTo n.toNat)))) : Ev K (tLstRg (tRg1 te)) ρ m P := fun σ F H Q E S q =>
  h σ F H _ E S fun s m1 x F1 H1 ⟨n, e, h0, h1, p⟩ s1 S1 o1 => by
    subst e
    cases (show x = .int n from o1)
    refine ⟨n, rfl, RgOk.of_le (by omega) (by omega) (by omega) h0, fun a ha => ?_⟩
    exact q _ _ _ _ _ (p a (sto_none S1 ha)) (s1.trans (step_newM S1 ha)) (sto_put S1 (not_reg S1 ha) ⟨_, upd_same, imAll_upTo h0⟩) rfl
/-- all, any of a list of truth values -/
theorem imAll_bools {F : Reg} {H : Hp} : ∀ {bs : List Bool} {vs : List V}, ImAll K F H (bs.map .bool) vs → vs = bs.map V.bl
  | [], vs, h => h
  | b :: bs, vs, h => by
    obtain ⟨v, r, e, h1, h2⟩ := h
    cases (show v = .bl b from h1)
    rw [e, imAll_bools h2]
    rfl
theorem rc_all {bs : List Bool} (p : P (.d (.bool (bs.all id))) m) : RC K (rAll K) [.d (.list (bs.map .bool))] m P := fun xs F H Q a S q => by
  obtain ⟨x, e, o⟩ := sls1 a
  obtain ⟨l, vs, e2, hl, i⟩ := im_lst o
  have := imAll_bools i
  subst this e2
  exact ⟨l, bs, e, SqL.of hl, q _ m _ F H p Step.refl S rfl⟩
theorem rc_any {bs : List Bool} (p : P (.d (.bool (bs.any id))) m) : RC K (rAny K) [.d (.list (bs.map .bool))] m P := fun xs F H Q a S q => by
  obtain ⟨x, e, o⟩ := sls1 a
  obtain ⟨l, vs, e2, hl, i⟩ := im_lst o
  have := imAll_bools i
  subst this e2
  exact ⟨l, bs, e, SqL.of hl, q _ m _ F H p Step.refl S rfl⟩
end
end Dv

namespace Dv
open PySem L2 PyProof.Rows
theorem pe_cn {X : Cx} {x : Str} {v : V} {pos : Pos} (h : ∃ u, X.mg x = some u ∧ L2.RelV v u) (hg : Gl X x := by rfl) (hd : (x == ("__debug__" : Str)) = false := by decide) : PE X (.Name x pos) (tC v) := let ⟨_, a, b⟩ := h; pe_glob hg a b hd
section
variable {K : PySem.W.Frag} {ρ : Rho} {m : Sto} {P : PV} {te : TE} {ts : TS} {k : Ko}
/-- what the store need not know any more -/
theorem ev_del (h : Ev K te ρ m fun s m' => ∃ a u, m' a = some u ∧ P s (del m' a)) : Ev K te ρ m P := fun σ F H Q E S q =>
  h σ F H Q E S fun s m' v F' H' ⟨a, u, e, p⟩ s1 S1 o1 => q s _ v _ H' p (s1.trans (step_del S1 e)) (sto_del S1 e) (slOk_step (step_del S1 e) o1)
theorem wp_del {a : Addr} {u : Mu} (e : m a = some u) (h : Wp K ts ρ (del m a) k) : Wp K ts ρ m k := fun D σ F H E S q1 q2 q3 q4 =>
  wp_at (D := D) (step_del S e) (envOk_step (step_del S e) E) (sto_del S e) h q1 q2 q3 q4
/-- a slot that holds a list of ds -/
def LsS (K : PySem.W.Frag) (s : Sl) (m : Sto) (ds : List PyData) : Prop := ∀ (x : V) (F : Reg) (H : Hp), SlOk K F H s x → StoOk K m F H → ∃ a vs, x = .ref a ∧ H a = some (.lst vs) ∧ ImAll K F H ds vs
theorem ls_d {ds : List PyData} : LsS K (.d (.list ds)) m ds := fun x F H a S => im_lst a
theorem ls_m {l : Addr} {ds : List PyData} (hm : m l = some (.lst ds)) : LsS K (.m l) m ds := fun x F H a S => let ⟨vs, hl, i⟩ := mu_lst S hm; ⟨l, vs, a, hl, i⟩
/-- lists that will change, by + -/
theorem ra_lstM {s t : Sl} {ds es : List PyData} (hs : LsS K s m ds) (ht : LsS K t m es)
    (h : ds.length + es.length ≤ 100000) (p : ∀ a, m a = none → P (.m a) (put m a (.lst (ds ++ es)))) : RO K (rAddU K) s t m P := ro_r (ro_r (ro_l fun u v F H Q a b S q => by
  obtain ⟨l, xs, e1, h1, i1⟩ := hs u F H a S
  obtain ⟨l2, ys, e2, h2, i2⟩ := ht v F H b S
  have z1 := imAll_len i1
  have z2 := imAll_len i2
  have i := imAll_app i1 i2
  refine ⟨l, l2, xs, ys, e1, e2, h1, h2, by rw [sizeLine_eq]; omega, fun c hc => ?_⟩
  exact q _ _ _ _ _ (p c (sto_none S hc)) (step_newM S hc) (sto_put S (not_reg S hc) ⟨_, upd_same, imAll_fix (step_newM (u := .lst (ds ++ es)) S hc).fix _ _ i⟩) rfl))
variable {t : TT}
theorem wipe_wipe {σ : L2.St} {vs : List Nat} : wipe (wipe σ vs) vs = wipe σ vs := by
  have ww : ∀ us : List Nat, (∀ j ∈ us, j ∈ vs) → wipe (wipe σ us) vs = wipe σ vs := by
    intro us
    induction us with
    | nil => intro _; rfl
    | cons b us ih =>
      intro hu
      show wipe ((wipe σ us).set b none) vs = wipe σ vs
      rw [wipe_set (hu b List.mem_cons_self)]
      exact ih fun j z => hu j (List.mem_cons_of_mem _ z)
  exact ww vs fun j z => z
/-- a comprehension of two clauses; the list that it fills stands in the store -/
theorem ev_lc2 {wi wi1 : TI} {g g1 : TG} {t1 : TT} {vs vs1 : List Nat} (h : EvI K wi ρ m fun xs C m1 => ∀ D, m1 D = none → ∃ Iv : Nat → Sto → Prop, Iv 0 (put m1 D (.lst [])) ∧ (∀ i m', Iv i m' → C m') ∧
      (∀ i x m', xs[i]? = some x → Iv i m' → ∃ js, (∀ j ∈ js, j ∈ vs) ∧ Gt K g js x (wipeR ρ vs) m' fun ρ2 m2 => EvT K t ρ2 m2 fun b m3 => if b = true then
        EvI K wi1 ρ2 m3 (fun ys C1 m4 => ∃ Iv1 : Nat → Sto → Prop, Iv1 0 m4 ∧ (∀ j m', Iv1 j m' → C1 m') ∧
          (∀ j y m', ys[j]? = some y → Iv1 j m' → ∃ js1, (∀ j ∈ js1, j ∈ vs1) ∧ Gt K g1 js1 y (wipeR ρ2 vs1) m' fun ρ3 m5 => EvT K t1 ρ3 m5 fun b m6 => if b = true then
            Ev K te ρ3 m6 (fun z m7 => ∃ d acc, z = .d d ∧ m7 D = some (.lst acc) ∧ acc.length < 100000 ∧ Iv1 (j + 1) (put m7 D (.lst (acc ++ [d])))) else Iv1 (j + 1) m6) ∧
          ∀ m', Iv1 ys.length m' → Iv (i + 1) m') else Iv (i + 1) m3) ∧
      ∀ m', Iv xs.length m' → ∃ acc, m' D = some (.lst acc) ∧ P (.d (.list acc)) (del m' D)) : Ev K (tLc2 wi g t wi1 g1 t1 te vs vs1) ρ m P := fun σ F H Q E S q =>
  h σ F H _ E S fun xs C m1 F1 H1 J hh s1 S1 w => by
    intro D hD
    obtain ⟨Iv, h0, hC, hs, hd⟩ := hh D (sto_none S1 hD)
    have sD : Step m1 F1 H1 (put m1 D (.lst [])) F1 (upd H1 D (.lst [])) := step_newM S1 hD
    have SD : StoOk K (put m1 D (.lst [])) F1 (upd H1 D (.lst [])) := sto_put S1 (not_reg S1 hD) ⟨[], upd_same, rfl⟩
    let Pv : Nat → Hp → Prop := fun i H' => ∃ m' F', Iv i m' ∧ Step m1 F1 H1 m' F' H' ∧ StoOk K m' F' H'
    refine ⟨fun i k H' => k = xs.length - i ∧ i ≤ xs.length ∧ Pv i H', ⟨_, rfl, Nat.zero_le _, _, _, h0, sD, SD⟩, ?_⟩
    rintro i k H' ⟨hk, hi, m', F', a, st, So⟩
    by_cases hn : i = xs.length
    · subst hn
      left
      refine ⟨w.stops H' ⟨m', F', hC _ _ a, st, So⟩, ?_⟩
      obtain ⟨acc, hm, p⟩ := hd m' a
      exact q _ _ _ _ H' p ((s1.trans st).trans (step_del So hm)) (sto_del So hm) (im_frozen So hm)
    · right
      have hlt : i < xs.length := Nat.lt_of_le_of_ne hi hn
      refine ⟨w.goes i H' hlt ⟨m', F', hC _ _ a, st, So⟩, Pv (i + 1), fun H'' z => ⟨_, ?_, rfl, hlt, z⟩, fun x H2 hy => ?_⟩
      · omega
      obtain ⟨F2, s2, S2, sl, hx, o2⟩ := w.yields i H' x H2 hlt ⟨m', F', hC _ _ a, st, So⟩ hy m' F' (hC _ _ a) st So
      obtain ⟨js, hj, gt⟩ := hs i sl m' hx a
      have E2 : EnvOk K F2 H2 (wipeR ρ vs) (wipe σ vs) := envOk_step ((s1.trans st).trans s2) (envOk_wipe E vs)
      refine gt (wipe σ vs) F2 H2 x _ E2 S2 o2 fun ρ3 m3 σ3 F3 H3 et s3 S3 E3 hw => ⟨?_, ?_⟩
      · rw [hw vs hj]
        exact wipe_wipe
      have st3 := (st.trans s2).trans s3
      refine et σ3 F3 H3 _ E3 S3 fun b m4 F4 H4 ev s4 S4 => ?_
      cases b with
      | false =>
        rw [if_neg Bool.false_ne_true] at ev
        rw [if_neg Bool.false_ne_true]
        exact ⟨m4, F4, ev, st3.trans s4, S4⟩
      | true =>
        rw [if_pos rfl] at ev
        rw [if_pos rfl]
        refine ev σ3 F4 H4 _ (envOk_step s4 E3) S4 fun ys C1 m5 F5 H5 J1 ⟨Iv1, g0, gC, gs, gd⟩ s5 S5 w1 => ?_
        have st5 := (st3.trans s4).trans s5
        have E5 : EnvOk K F5 H5 ρ3 σ3 := envOk_step (s4.trans s5) E3
        let Pv1 : Nat → Hp → Prop := fun j H' => ∃ m' F', Iv1 j m' ∧ Step m5 F5 H5 m' F' H' ∧ StoOk K m' F' H'
        refine ⟨fun j k H' => k = ys.length - j ∧ j ≤ ys.length ∧ Pv1 j H', ⟨_, rfl, Nat.zero_le _, _, _, g0, Step.refl, S5⟩, ?_⟩
        rintro j k H6 ⟨hk, hj1, m6, F6, a6, st6, S6⟩
        by_cases hn1 : j = ys.length
        · subst hn1
          left
          exact ⟨w1.stops H6 ⟨m6, F6, gC _ _ a6, st6, S6⟩, m6, F6, gd m6 a6, st5.trans st6, S6⟩
        · right
          have hlt1 : j < ys.length := Nat.lt_of_le_of_ne hj1 hn1
          refine ⟨w1.goes j H6 hlt1 ⟨m6, F6, gC _ _ a6, st6, S6⟩, Pv1 (j + 1), fun H'' z => ⟨_, ?_, rfl, hlt1, z⟩, fun y H7 hy1 => ?_⟩
          · omega
          obtain ⟨F7, s7, S7, sl7, hx7, o7⟩ := w1.yields j H6 y H7 hlt1 ⟨m6, F6, gC _ _ a6, st6, S6⟩ hy1 m6 F6 (gC _ _ a6) st6 S6
          obtain ⟨js1, hjs1, gt1⟩ := gs j sl7 m6 hx7 a6
          have E7 : EnvOk K F7 H7 (wipeR ρ3 vs1) (wipe σ3 vs1) := envOk_step (st6.trans s7) (envOk_wipe E5 vs1)
          refine gt1 (wipe σ3 vs1) F7 H7 y _ E7 S7 o7 fun ρ8 m8 σ8 F8 H8 et8 s8 S8 E8 hw8 => ⟨?_, ?_⟩
          · rw [hw8 vs1 hjs1]
            exact wipe_wipe
          have st8 := (st6.trans s7).trans s8
          refine et8 σ8 F8 H8 _ E8 S8 fun b m9 F9 H9 ev9 s9 S9 => ?_
          cases b with
          | false =>
            rw [if_neg Bool.false_ne_true] at ev9
            rw [if_neg Bool.false_ne_true]
            exact ⟨m9, F9, ev9, st8.trans s9, S9⟩
          | true =>
            rw [if_pos rfl] at ev9
            rw [if_pos rfl]
            refine ev9 σ8 F9 H9 _ (envOk_step s9 E8) S9 fun s m10 v F10 H10 ⟨d, acc, es, hm, hl, iv⟩ s10 S10 o10 => ?_
            subst es
            obtain ⟨us, hus, ius⟩ := mu_lst S10 hm
            refine ⟨us, hus, by rw [← imAll_len ius, sizeLine_eq]; omega, ?_⟩
            have sm : Step m10 F10 H10 (put m10 D (.lst (acc ++ [d]))) F10 (upd H10 D (.lst (us ++ [v]))) := step_mut S10 hm
            exact ⟨_, F10, iv, ((st8.trans s9).trans s10).trans sm, sto_put S10 (S10.mu D _ hm).2 ⟨_, upd_same, imAll_fix sm.fix _ _ (imAll_app ius (imAll_one o10))⟩⟩
end
end Dv

namespace Dv
open PySem L2 PyProof.Rows
theorem ite_b {b : Bool} {A B : Prop} (h1 : b = true → A) (h2 : b = false → B) : if b = true then A else B := by
  cases b with
  | true => rw [if_pos rfl]; exact h1 rfl
  | false => rw [if_neg Bool.false_ne_true]; exact h2 rfl
section
variable {K : PySem.W.Frag} {ρ : Rho} {m : Sto} {P : PV} {te : TE} {ts : TS} {k : Ko} {tt : TT}
/-! ### loops over what does not change -/
theorem wp_forL {α : Type} {toD : α → PyData} {wi : TI} {j : Nat} (h : EvI K wi ρ m fun xs C m1 => ∃ (ys : List α) (Iv : Nat → Rho → Sto → Prop), xs = (ys.map toD).map Sl.d ∧ Iv 0 ρ m1 ∧ (∀ i ρ' m', Iv i ρ' m' → C m') ∧
      (∀ i y ρ' m', ys[i]? = some y → Iv i ρ' m' → Wp K ts (ρ'.set j (some (.d (toD y)))) m' { k with nx := Iv (i + 1), ct := Iv (i + 1), bk := k.nx }) ∧ ∀ ρ' m', Iv ys.length ρ' m' → k.nx ρ' m') :
    Wp K (tFor wi (gName j) ts) ρ m k := wp_for fun σ F H R E S q => h σ F H R E S fun xs C m1 F1 H1 J ⟨ys, Iv, e, h0, hC, hs, hd⟩ s1 S1 w => by
  refine q xs C m1 F1 H1 J ⟨Iv, h0, hC, fun i x ρ' m' hx iv => ?_, fun ρ' m' iv => hd ρ' m' ?_⟩ s1 S1 w
  · subst e
    rw [List.getElem?_map, List.getElem?_map] at hx
    cases hy : ys[i]? with
    | none => rw [hy] at hx; cases hx
    | some y =>
      rw [hy] at hx
      cases hx
      exact ⟨[j], gt_name (hs i y ρ' m' hy iv)⟩
  · subst e
    simpa using iv
theorem wp_rng {ta : TA} {j : Nat} (h : EvA K ta ρ m fun ss m1 => ∃ (n : Nat) (Iv : Nat → Rho → Sto → Prop), ss = [.d (.int n)] ∧ n ≤ 1000000 ∧ Iv 0 ρ m1 ∧
      (∀ i ρ' m', i < n → Iv i ρ' m' → Wp K ts (ρ'.set j (some (.d (.int (i : Nat))))) m' { k with nx := Iv (i + 1), ct := Iv (i + 1), bk := k.nx }) ∧ ∀ ρ' m', Iv n ρ' m' → k.nx ρ' m') :
    Wp K (tFor (iRng1 ta) (gName j) ts) ρ m k := wp_forL (α := Nat) (toD := fun i => .int (i : Nat)) (ei_rng1 fun σ F H R E S q => h σ F H R E S fun ss m1 vs F1 H1 ⟨n, Iv, e, hn, h0, hs, hd⟩ s1 S1 o1 => by
  refine q ss m1 vs F1 H1 ⟨n, e, by omega, by omega, List.range n, Iv, by simp, h0, fun _ _ _ _ => trivial, fun i y ρ' m' hy iv => ?_, fun ρ' m' iv => hd ρ' m' (by simpa using iv)⟩ s1 S1 o1
  have hl := (List.getElem?_eq_some_iff.mp hy).1
  rw [List.getElem?_range (by simpa using hl)] at hy
  cases hy
  exact hs i ρ' m' (by simpa using hl) iv)
/-- for i, x in enumerate(t) -/
theorem wp_enum {α : Type} {toD : α → PyData} {ta : TA} {i1 i2 : Nat} (h : EvA K ta ρ m fun ss m1 => ∃ (ys : List α) (Iv : Nat → Rho → Sto → Prop), ss = [.d (.tuple (ys.map toD))] ∧ Iv 0 ρ m1 ∧
      (∀ i y ρ' m', ys[i]? = some y → Iv i ρ' m' → Wp K ts ((ρ'.set i1 (some (.d (.int (i : Nat))))).set i2 (some (.d (toD y)))) m' { k with nx := Iv (i + 1), ct := Iv (i + 1), bk := k.nx }) ∧ ∀ ρ' m', Iv ys.length ρ' m' → k.nx ρ' m') :
    Wp K (tFor (iEnumU K ta) (gTup K 2 (gCons (gName i1) (gCons (gName i2) gNil))) ts) ρ m k := wp_for (ei_enumT fun σ F H R E S q => h σ F H R E S fun ss m1 vs F1 H1 ⟨ys, Iv, e, h0, hs, hd⟩ s1 S1 o1 => by
  refine q ss m1 vs F1 H1 ⟨_, e, Iv, h0, fun _ _ _ _ => trivial, fun i x ρ' m' hx iv => ?_, fun ρ' m' iv => hd ρ' m' (by rw [enumS_len] at iv; simpa using iv)⟩ s1 S1 o1
  obtain ⟨d, hd', rfl⟩ := enumS_of hx
  rw [List.getElem?_map] at hd'
  cases hy : ys[i]? with
  | none => rw [hy] at hd'; cases hd'
  | some y =>
    rw [hy] at hd'
    cases hd'
    exact ⟨[i1, i2], gt_pairP (hs i y ρ' m' hy iv)⟩)
/-! ### comprehensions where nothing changes -/
theorem ev_lcF {α : Type} {toD : α → PyData} {wi : TI} {j : Nat} {vs : List Nat} (hj : j ∈ vs) (h : EvI K wi ρ m fun xs C m1 => ∃ (ys : List α) (G : α → Bool) (F : α → PyData), xs = (ys.map toD).map Sl.d ∧ C m1 ∧ ys.length ≤ 100000 ∧
      (∀ y ∈ ys, EvT K tt ((wipeR ρ vs).set j (some (.d (toD y)))) m1 (fun b m3 => b = G y ∧ m3 = m1) ∧ (G y = true → Ev K te ((wipeR ρ vs).set j (some (.d (toD y)))) m1 (fun s m4 => s = .d (F y) ∧ m4 = m1))) ∧
      P (.d (.list ((ys.filter G).map F))) m1) : Ev K (tLc wi (gName j) tt te vs) ρ m P := ev_lc fun σ F0 H R E S q => h σ F0 H R E S fun xs C m1 F1 H1 J ⟨ys, G, F, e, hC, hl, hs, p⟩ s1 S1 w => by
  have key : ∀ (i : Nat) (y : α), ys[i]? = some y → (((ys.take (i + 1)).filter G).map F) = if G y = true then ((ys.take i).filter G).map F ++ [F y] else ((ys.take i).filter G).map F := by
    intro i y hy
    rw [List.take_add_one, hy]
    cases hG : G y <;> simp [hG]
  refine q xs C m1 F1 H1 J ⟨fun i acc m' => m' = m1 ∧ acc = ((ys.take i).filter G).map F, ⟨rfl, by simp⟩, fun i acc m' z => by rw [z.1]; exact hC, fun i x acc m' hx iv => ?_, fun acc m' iv => ?_⟩ s1 S1 w
  · obtain ⟨rfl, rfl⟩ := iv
    subst e
    rw [List.getElem?_map, List.getElem?_map] at hx
    cases hy : ys[i]? with
    | none => rw [hy] at hx; cases hx
    | some y =>
      rw [hy] at hx
      cases hx
      obtain ⟨h1, h2⟩ := hs y (List.mem_of_getElem? hy)
      refine ⟨?_, [j], by simpa using hj, gt_name (h1.mono fun b m3 ⟨eb, em⟩ => ?_)⟩
      · have a1 : (((ys.take i).filter G).map F).length ≤ (ys.take i).length := by
          rw [List.length_map]
          exact List.length_filter_le _ _
        have a2 : i < ys.length := (List.getElem?_eq_some_iff.mp hy).1
        have a3 : (ys.take i).length = i := by rw [List.length_take]; omega
        omega
      · subst eb em
        have kk := key i y hy
        refine ite_b (fun hG => ?_) (fun hG => ?_)
        · rw [if_pos hG] at kk
          exact (h2 hG).mono fun s m4 ⟨es, em⟩ => ⟨F y, es, em, kk.symm⟩
        · rw [if_neg (by rw [hG]; exact Bool.false_ne_true)] at kk
          exact ⟨rfl, kk.symm⟩
  · obtain ⟨rfl, rfl⟩ := iv
    have : xs.length = ys.length := by rw [e]; simp
    rw [this, List.take_length]
    exact p
theorem ev_lcR {ta : TA} {j : Nat} {vs : List Nat} (hj : j ∈ vs) (h : EvA K ta ρ m fun ss m1 => ∃ (n : Nat) (F : Nat → PyData), ss = [.d (.int n)] ∧ n ≤ 100000 ∧
      (∀ i, i < n → Ev K te ((wipeR ρ vs).set j (some (.d (.int (i : Nat))))) m1 (fun s m4 => s = .d (F i) ∧ m4 = m1)) ∧
      P (.d (.list ((List.range n).map F))) m1) : Ev K (tLc (iRng1 ta) (gName j) tYes te vs) ρ m P := ev_lcF (α := Nat) (toD := fun i => .int (i : Nat)) hj (ei_rng1 fun σ F0 H R E S q => h σ F0 H R E S fun ss m1 us F1 H1 ⟨n, F, e, hn, hs, p⟩ s1 S1 o1 =>
  q ss m1 us F1 H1 ⟨n, e, by omega, by omega, List.range n, fun _ => true, F, by simp, trivial, by simpa using hn, fun y hy => ⟨et_yes ⟨rfl, rfl⟩, fun _ => hs y (by simpa using hy)⟩, by rw [List.filter_eq_self.mpr (fun _ _ => rfl)]; exact p⟩ s1 S1 o1)
end
end Dv

namespace Dv
open PySem L2 PyProof.Rows
/-! ### letters, names, floors -/
abbrev Sx (l : List Nat) : Str := ⟨l.toArray⟩
theorem sx_len (l : List Nat) : (Sx l).length = l.length := by simp [Str.length]
theorem sx_of (z : Str) : Sx z.cps.toList = z := by cases z; simp
theorem sx_inj {a b : List Nat} (h : Sx a = Sx b) : a = b := by
  have := congrArg (fun z : Str => z.cps.toList) h
  simpa using this
theorem sx_app (a b : List Nat) : Sx a ++ Sx b = Sx (a ++ b) := by
  show (⟨a.toArray ++ b.toArray⟩ : Str) = ⟨(a ++ b).toArray⟩
  simp
def isUp (c : Nat) : Bool := decide (65 ≤ c) && decide (c ≤ 90)
def isLo (c : Nat) : Bool := decide (97 ≤ c) && decide (c ≤ 122)
theorem upE : ("ABCDEFGHIJKLMNOPQRSTUVWXYZ" : Str).cps.toList = List.range' 65 26 := by decide +kernel
theorem loE : ("abcdefghijklmnopqrstuvwxyz" : Str).cps.toList = List.range' 97 26 := by decide +kernel
theorem loS : ("abcdefghijklmnopqrstuvwxyz" : Str) = Sx (List.range' 97 26) := by decide +kernel
theorem mem_up (c : Nat) : decide (c ∈ ("ABCDEFGHIJKLMNOPQRSTUVWXYZ" : Str).cps.toList) = isUp c := by
  rw [upE, isUp, Bool.eq_iff_iff]
  simp [List.mem_range'_1]
  omega
theorem mem_lo (c : Nat) : decide (c ∈ ("abcdefghijklmnopqrstuvwxyz" : Str).cps.toList) = isLo c := by
  rw [loE, isLo, Bool.eq_iff_iff]
  simp [List.mem_range'_1]
  omega
/-- a name: one to six letters, lower-case from the second one on -/
def okL : List Nat → Bool
  | [] => false
  | c :: r => decide (r.length ≤ 5) && ((isUp c || isLo c) && r.all isLo)
theorem atI_zero {α : Type} {c : α} {r : List α} : atI (c :: r) 0 = some c := by
  simp [atI, ixN]
theorem atI_nat' {α : Type} {xs : List α} {i : Int} {k : Nat} {d : α} (hi : i = (k : Int)) (h : xs[k]? = some d) : atI xs i = some d := by
  have hl := (List.getElem?_eq_some_iff.mp h).1
  unfold atI ixN
  rw [if_pos (by omega), if_pos (by omega), hi]
  simpa using h
theorem cutS_tail (c : Nat) (r : List Nat) : cutS (Sx (c :: r)) (some 1) none = Sx r := by
  unfold cutS HT.sIx
  simp [sx_len]
section
variable {K : PySem.W.Frag} {Pg : Program} {w : World}
def W_is_leader : WT := fun ss m P => ∃ (c : Nat) (r : List Nat), ss = [.d (.str (Sx (c :: r)))] ∧ r.length ≤ 2000 ∧ P (.d (.bool (isUp c))) m
def t_is_leader (K : PySem.W.Frag) (Pg : Program) (w : World) : TS :=
  (tRet (tOp (rInU K Pg w) (tOp (rIx K) (tVar 0) (tC (.int 0))) (tC (.str "ABCDEFGHIJKLMNOPQRSTUVWXYZ"))))
theorem rd_is_leader (ss : List Sl) (m : Sto) (P : PV) (h : W_is_leader ss m P) : Wp K (t_is_leader K Pg w) (rho ["name"] ss) m { nx := fun _ m' => P (.d .none) m', rt := P } := by
  obtain ⟨c, r, rfl, hr, p⟩ := h
  have hl : (Sx (c :: r)).length ≤ 100000 := by rw [sx_len]; simp; omega
  refine wp_ret (ev_op (ev_op (ev_var rfl (ev_int (rx_str hl atI_zero (ev_str (ri_str ?_)))))))
  rw [mem_up]
  exact p
def W_is_name : WT := fun ss m P => ∃ l : List Nat, ss = [.d (.str (Sx l))] ∧ l.length ≤ 2000 ∧ P (.d (.bool (okL l))) m
def t_is_name (K : PySem.W.Frag) (Pg : Program) (w : World) : TS :=
  (tSeq (tIfS (tNot (tTest (tChain (rI0 fun i j => .bl (decide (i ≤ j))) (rI0 fun i j => .bl (decide (i ≤ j))) (tC (.int 1)) (tCB (rLenC K) (tCons (tVar 0) tNil)) (tC (.int 6)))))
    (tRet (tC (.bl false)))
    tNext)
    (tSeq (tIfS (tAnd (tTest (tOp (rNotInU K Pg w) (tOp (rIx K) (tVar 0) (tC (.int 0))) (tC (.str "ABCDEFGHIJKLMNOPQRSTUVWXYZ")))) (tTest (tOp (rNotInU K Pg w) (tOp (rIx K) (tVar 0) (tC (.int 0))) (tC (.str "abcdefghijklmnopqrstuvwxyz")))))
    (tRet (tC (.bl false)))
    tNext)
    (tRet (tCB (rAll K) (tCons (tLc (iSeqU K (tSl (rSlU K) (tVar 0) (tPart (tC (.int 1))) tNoPart)) (gName 1) tYes (tOp (rInU K Pg w) (tVar 1) (tC (.str "abcdefghijklmnopqrstuvwxyz"))) [1]) tNil)))))
theorem sg_all {r : List Nat} : (r.map isLo).all id = r.all isLo := by
  rw [List.all_map]
  rfl
theorem signs_sx (r : List Nat) : signs (Sx r) = r.map fun c => .str (Sx [c]) := by simp [signs]
theorem rd_is_name (ss : List Sl) (m : Sto) (P : PV) (h : W_is_name ss m P) : Wp K (t_is_name K Pg w) (rho ["text", "letter"] ss) m { nx := fun _ m' => P (.d .none) m', rt := P } := by
  obtain ⟨l, rfl, hl, p⟩ := h
  have hz : (Sx l).length ≤ 100000 := by rw [sx_len]; omega
  have hn : ((Sx l).length : Int) = (l.length : Int) := by rw [sx_len]
  refine wp_seq (wp_if (et_not (et_test (ev_chain (ev_int (ev_cb (ea_cons (ev_var rfl (ea_nil (rc_lenS hz (rl_le ⟨_, rfl, ite_b (fun h1 => ev_int (rl_le ⟨_, rfl, ite_b (fun h2 => ?_) (fun h2 => ?_)⟩)) (fun h1 => ⟨_, rfl, ite_b (fun h2 => ?_) (fun h2 => Bool.noConfusion (show true = false from h2))⟩)⟩)))))))))))
  · rw [hn] at h2
    simp at h2
    refine wp_ret (ev_bl ?_)
    cases l with
    | nil => exact p
    | cons c r =>
      have : okL (c :: r) = false := by simp [okL]; intro hh; simp at h2; omega
      rw [this] at p
      exact p
  · rw [hn] at h2 h1
    simp at h2 h1
    cases l with
    | nil => simp at h1
    | cons c r =>
    have hr : r.length ≤ 5 := by simp at h2; omega
    have hok : okL (c :: r) = ((isUp c || isLo c) && r.all isLo) := by simp [okL, hr]
    rw [hok] at p
    have bad : isUp c = false → isLo c = false → P (.d (.bool false)) m := fun a b => by
      rw [a, b] at p
      exact p
    have fin : ∀ (h : (isUp c || isLo c) = true), Wp K (tRet (tCB (rAll K) (tCons (tLc (iSeqU K (tSl (rSlU K) (tVar 0) (tPart (tC (.int 1))) tNoPart)) (gName 1) tYes (tOp (rInU K Pg w) (tVar 1) (tC (.str "abcdefghijklmnopqrstuvwxyz"))) [1]) tNil)))
        (rho ["text", "letter"] [.d (.str (Sx (c :: r)))]) m { nx := fun _ m' => P (.d .none) m', rt := P } := fun h => by
      rw [h, Bool.true_and] at p
      refine wp_ret <| ev_cb <| ea_cons <| ev_lcF (toD := fun c : Nat => .str (Sx [c])) List.mem_cons_self <| ei_str <| ev_sl <| ev_var rfl <| eo_some <| ev_int ⟨_, rfl, eo_no <| rz_str hz ⟨_, rfl, r, fun _ => true, fun c => .bool (isLo c), ?_, trivial, by omega, fun y _ => ⟨et_yes ⟨rfl, rfl⟩, fun _ => ?_⟩, ?_⟩⟩
      · rw [cutS_tail, signs_sx]
      · refine ev_op (ev_var rfl (ev_str (ri_str ⟨?_, rfl⟩)))
        rw [mem_lo]
      · refine ea_nil ?_
        have e : (r.filter fun _ => true).map (fun c => PyData.bool (isLo c)) = (r.map isLo).map PyData.bool := by
          rw [List.filter_eq_self.mpr (fun _ _ => rfl), List.map_map]
          rfl
        rw [e]
        refine rc_all ?_
        rw [sg_all]
        exact p
    refine wp_next <| wp_seq <| wp_if <| et_and <| et_test <| ev_op <| ev_op <| ev_var rfl <| ev_int <| rx_str hz atI_zero <| ev_str <| rni_str ⟨_, rfl, ?_⟩
    rw [mem_up]
    refine ite_b (fun hu => et_test <| ev_op <| ev_op <| ev_var rfl <| ev_int <| rx_str hz atI_zero <| ev_str <| rni_str ⟨_, rfl, ?_⟩) (fun hu => ite_b (fun h => nomatch h) (fun _ => wp_next (fin ?_)))
    · rw [mem_lo]
      refine ite_b (fun hv => wp_ret <| ev_bl <| bad (by simpa using hu) (by simpa using hv)) (fun hv => wp_next (fin ?_))
      simp at hv
      rw [hv, Bool.or_true]
    · simp at hu
      rw [hu, Bool.true_or]
  · rw [hn] at h1
    simp at h1
    refine wp_ret <| ev_bl ?_
    cases l with
    | nil => exact p
    | cons c r => simp at h1; omega
end
end Dv

namespace Dv
open PySem L2 PyProof.Rows
abbrev nmD (l : List Nat) : PyData := .str (Sx l)
abbrev rwD (r : List (List Nat)) : PyData := .tuple (r.map nmD)
abbrev flD (fl : List (List (List Nat))) : PyData := .tuple (fl.map rwD)
theorem atI_map {α β : Type} {xs : List α} {f : α → β} {i : Int} {k : Nat} {x : α} (hi : i = (k : Int)) (h : xs[k]? = some x) : atI (xs.map f) i = some (f x) := atI_nat' hi (by rw [List.getElem?_map, h]; rfl)
/-- short names: what the model's bounds allow -/
def Tx (l : List Nat) : Prop := l.length ≤ 2000 ∧ ∀ c ∈ l, c < 1114112
def TxF (fl : List (List (List Nat))) : Prop := ∀ r ∈ fl, ∀ l ∈ r, Tx l
def Short (fl : List (List (List Nat))) : Prop := fl.length ≤ 100 ∧ ∀ r ∈ fl, r.length ≤ 100 ∧ ∀ l ∈ r, Tx l
theorem shaped_str {l : List Nat} (h : Tx l) : SeqAt.shaped (nmD l) = true := by
  simp [SeqAt.shaped, PyData.canLay0, PyData.depth, PyData.strOk]
  exact h.2
theorem canLayAll_names {r : List (List Nat)} (h : ∀ l ∈ r, Tx l) : PyData.canLayAll0 (r.map nmD) = true ∧ PyData.depthAll (r.map nmD) = 0 := by
  induction r with
  | nil => exact ⟨rfl, rfl⟩
  | cons a r ih =>
    obtain ⟨h1, h2⟩ := ih fun l hl => h l (List.mem_cons_of_mem _ hl)
    have ha := shaped_str (h a List.mem_cons_self)
    simp [SeqAt.shaped] at ha
    constructor
    · rw [List.map_cons, PyData.canLayAll0, h1, ha.1]; rfl
    · rw [List.map_cons, PyData.depthAll, h2]; rfl
theorem shaped_names {r : List (List Nat)} (h : ∀ l ∈ r, Tx l) : SeqAt.shaped (.tuple (r.map nmD)) = true ∧ SeqAt.shaped (.list (r.map nmD)) = true := by
  obtain ⟨h1, h2⟩ := canLayAll_names h
  constructor <;> simp [SeqAt.shaped, PyData.canLay0, PyData.depth, h1, h2]
theorem eqv_nm (a b : List Nat) : PyData.eqv (nmD a) (nmD b) = decide (a = b) := by
  have e : PyData.eqv (nmD a) (nmD b) = ((Sx a) == (Sx b)) := rfl
  rw [e]
  by_cases h : a = b
  · subst h; simp
  · rw [decide_eq_false h]
    have : Sx a ≠ Sx b := fun q => h (sx_inj q)
    simpa using h
theorem anyEq_names (l : List Nat) (r : List (List Nat)) : anyEq (nmD l) (r.map nmD) = decide (l ∈ r) := by
  unfold anyEq
  rw [List.any_map]
  induction r with
  | nil => rfl
  | cons a r ih =>
    have e : (List.any (a :: r) ((fun z => PyData.eqv z (nmD l)) ∘ nmD)) = (PyData.eqv (nmD a) (nmD l) || r.any ((fun z => PyData.eqv z (nmD l)) ∘ nmD)) := rfl
    rw [e, ih, eqv_nm]
    by_cases h : a = l
    · subst h; simp
    · have : l ≠ a := fun q => h q.symm
      simp [h, this]
section
variable {K : PySem.W.Frag} {Pg : Program} {w : World}
/-! ### has_name -/
def hasN (fl : List (List (List Nat))) (i j : Nat) : Bool := decide (i < 12) && (decide (j < 12) && (decide (j < (fl.getD 0 []).length) && (decide (j < (fl.getD i []).length) && okL ((fl.getD i []).getD j []))))
def W_has_name : WT := fun ss m P => ∃ (fl : List (List (List Nat))) (i j : Nat), ss = [.d (flD fl), .d (.int i), .d (.int j)] ∧ TxF fl ∧ i < fl.length ∧ P (.d (.bool (hasN fl i j))) m
def t_has_name (K : PySem.W.Frag) (Pg : Program) (w : World) : TS :=
  (tSeq (tIfS (tOr (tTest (tOp (rI0 fun i j => .bl (decide (j ≤ i))) (tVar 1) (tC (.int 12)))) (tTest (tOp (rI0 fun i j => .bl (decide (j ≤ i))) (tVar 2) (tCB (rMinC) (tCons (tC (.int 12)) (tCons (tCB (rLenC K) (tCons (tOp (rIx K) (tVar 0) (tC (.int 0))) tNil)) (tCons (tCB (rLenC K) (tCons (tOp (rIx K) (tVar 0) (tVar 1)) tNil)) tNil)))))))
    (tRet (tC (.bl false)))
    tNext)
    (tRet (tCall (SpD K W_is_name) [] E0 (tCons (tOp (rIx K) (tOp (rIx K) (tVar 0) (tVar 1)) (tVar 2)) tNil))))
theorem rd_has_name (ss : List Sl) (m : Sto) (P : PV) (h : W_has_name ss m P) : Wp K (t_has_name K Pg w) (rho ["floor", "row", "column"] ss) m { nx := fun _ m' => P (.d .none) m', rt := P } := by
  obtain ⟨fl, i, j, rfl, hS, hi, p⟩ := h
  have h0 : fl[0]? = some (fl.getD 0 []) := by cases fl with
    | nil => simp at hi
    | cons a b => rfl
  have hI : fl[i]? = some (fl.getD i []) := by rw [List.getD_eq_getElem?_getD, List.getElem?_eq_getElem hi]; rfl
  revert p
  unfold hasN
  generalize fl.getD 0 [] = r0 at h0 ⊢
  generalize hr : fl.getD i [] = r at hI ⊢
  intro p
  have hmr : r ∈ fl := List.mem_of_getElem? hI
  refine wp_seq <| wp_if <| et_or <| et_test <| ev_op <| ev_var rfl <| ev_int <| rl_ge ⟨_, rfl, ite_b (fun h1 => ?_) (fun h1 => ?_)⟩
  · refine ite_b (fun _ => wp_ret <| ev_bl ?_) (fun h => nomatch h)
    have : decide (i < 12) = false := by simp at h1 ⊢; omega
    rw [this] at p
    exact p
  have h12 : decide (i < 12) = true := by simp at h1 ⊢; omega
  refine et_test <| ev_op <| ev_var rfl <| ev_cb <| ea_cons <| ev_int <| ea_cons <| ev_cb <| ea_cons <| ev_op <| ev_var rfl <| ev_int <| rx_tup (atI_map (k := 0) rfl h0) <| ea_nil <| rc_lenT <|
    ea_cons <| ev_cb <| ea_cons <| ev_op <| ev_var rfl <| ev_var rfl <| rx_tup (atI_map rfl hI) <| ea_nil <| rc_lenT <| ea_nil <| rc_min3 <| rl_ge ⟨_, rfl, ite_b (fun h2 => wp_ret <| ev_bl ?_) (fun h2 => wp_next ?_)⟩
  · have : (decide (j < 12) && (decide (j < r0.length) && (decide (j < r.length) && okL (r.getD j [])))) = false := by
      rw [Bool.eq_false_iff]
      intro hh
      simp at hh h2
      obtain ⟨a, b, c, _⟩ := hh
      split at h2 <;> split at h2 <;> omega
    rw [this, Bool.and_false] at p
    exact p
  · simp at h2
    have hh : j < 12 ∧ j < r0.length ∧ j < r.length := by
      split at h2 <;> split at h2 <;> omega
    obtain ⟨a, b, c⟩ := hh
    have hJ : r[j]? = some (r.getD j []) := by rw [List.getD_eq_getElem?_getD, List.getElem?_eq_getElem c]; rfl
    rw [h12, decide_eq_true a, decide_eq_true b, decide_eq_true c] at p
    refine wp_ret <| ev_call0 <| ea_cons <| ev_op <| ev_op <| ev_var rfl <| ev_var rfl <| rx_tup (atI_map rfl hI) <| ev_var rfl <| rx_tup (atI_map rfl hJ) <| ea_nil ⟨_, rfl, (hS r hmr _ (List.mem_of_getElem? hJ)).1, ?_⟩
    exact p
end
end Dv

namespace Dv
open PySem L2 PyProof.Rows
/-- a floor as the document asks for -/
structure VF (fl : List (List (List Nat))) : Prop where
  pos : fl ≠ []
  most : fl.length ≤ 12
  cols : ∃ c, 0 < c ∧ c ≤ 12 ∧ ∀ r ∈ fl, r.length = c
  ok : ∀ r ∈ fl, ∀ l ∈ r, okL l = true
  nd : fl.flatten.Nodup
theorem okL_tx {l : List Nat} (h : okL l = true) : Tx l := by
  cases l with
  | nil => cases h
  | cons c r =>
    simp [okL, isUp, isLo] at h
    obtain ⟨h1, h2, h3⟩ := h
    refine ⟨by simp; omega, fun d hd => ?_⟩
    rcases List.mem_cons.mp hd with e | e
    · subst e; omega
    · have := h3 d e; omega
theorem VF.short {fl : List (List (List Nat))} (v : VF fl) : Short fl := by
  obtain ⟨c, c0, c1, hc⟩ := v.cols
  have := v.most
  exact ⟨by omega, fun r hr => ⟨by rw [hc r hr]; omega, fun l hl => okL_tx (v.ok r hr l hl)⟩⟩
theorem take_flat {α : Type} {fl : List (List α)} {i : Nat} {r : List α} (h : fl[i]? = some r) : (fl.take (i + 1)).flatten = (fl.take i).flatten ++ r := by
  rw [List.take_add_one, h]
  simp
theorem nd_split {α : Type} {fl : List (List α)} (nd : fl.flatten.Nodup) {i j : Nat} {r : List α} {l : α} (h : fl[i]? = some r) (hl : r[j]? = some l) : l ∉ (fl.take i).flatten ∧ l ∉ r.take j := by
  have e : fl.flatten = (fl.take i).flatten ++ (r ++ (fl.drop (i + 1)).flatten) := by
    have h1 : fl = fl.take i ++ r :: fl.drop (i + 1) := by
      have hi := (List.getElem?_eq_some_iff.mp h).1
      have hr : fl[i] = r := (List.getElem?_eq_some_iff.mp h).2
      rw [← hr, ← List.drop_eq_getElem_cons hi, List.take_append_drop]
    have h2 := congrArg List.flatten h1
    rw [h2]
    simp
  have e2 : r = r.take j ++ l :: r.drop (j + 1) := by
    have hj := (List.getElem?_eq_some_iff.mp hl).1
    have hr : r[j] = l := (List.getElem?_eq_some_iff.mp hl).2
    rw [← hr, ← List.drop_eq_getElem_cons hj, List.take_append_drop]
  rw [e, List.nodup_append] at nd
  obtain ⟨n1, n2, n3⟩ := nd
  have hm : l ∈ r := List.mem_of_getElem? hl
  refine ⟨fun hh => n3 l hh l (List.mem_append_left _ hm) rfl, fun hh => ?_⟩
  rw [List.nodup_append] at n2
  have n4 := n2.1
  rw [e2, List.nodup_append] at n4
  exact n4.2.2 l hh l List.mem_cons_self rfl
section
variable {K : PySem.W.Frag} {Pg : Program} {w : World}
theorem wp_post {ρ : Rho} {m : Sto} {ts : TS} {k : Ko} (h : Wp K ts ρ m { k with nx := fun ρ' m' => ∃ a u, m' a = some u ∧ k.nx ρ' (del m' a) }) : Wp K ts ρ m k := fun D σ F H E S q1 q2 q3 q4 =>
  h D σ F H E S (fun ρ' m' σ' F' H' ⟨a, u, e, p⟩ s1 S1 E1 => q1 ρ' _ σ' _ H' p (s1.trans (step_del S1 e)) (sto_del S1 e) (envOk_step (step_del S1 e) E1)) q2 q3 q4
/-! ### check_floor of what is a floor -/
def W_check_floor : WT := fun ss m P => ∃ fl : List (List (List Nat)), ss = [.d (flD fl)] ∧ VF fl ∧ P (.d .none) m
def t_check_floor (K : PySem.W.Frag) (Pg : Program) (w : World) : TS :=
  (tSeq (tIfS (tOr (tNot (tTr K (tVar 0))) (tNot (tTr K (tOp (rIx K) (tVar 0) (tC (.int 0))))))
    tNever
    tNext)
    (tSeq (tAsg (tCB (rSet0K Pg w) tNil) (gName 1))
    (tFor (iEnumU K (tCons (tVar 0) tNil)) (gTup K 2 (gCons (gName 2) (gCons (gName 3) gNil)))
    (tFor (iRng1 (tCons (tCB (rMaxC) (tCons (tCB (rLenC K) (tCons (tVar 3) tNil)) (tCons (tCB (rLenC K) (tCons (tOp (rIx K) (tVar 0) (tC (.int 0))) tNil)) tNil))) tNil)) (gName 4)
    (tSeq (tIfS (tOr (tNot (tTr K (tCall (SpD K W_has_name) [] E0 (tCons (tVar 0) (tCons (tVar 2) (tCons (tVar 4) tNil)))))) (tTest (tOp (rInU K Pg w) (tOp (rIx K) (tVar 3) (tVar 4)) (tVar 1))))
    tNever
    tNext)
    (tDrop (tSAddK Pg w (tVar 1) (tCons (tOp (rIx K) (tVar 3) (tVar 4)) tNil))))))))
theorem rd_check_floor (ss : List Sl) (m : Sto) (P : PV) (h : W_check_floor ss m P) : Wp K (t_check_floor K Pg w) (rho ["floor", "seen", "row", "names", "column"] ss) m { nx := fun _ m' => P (.d .none) m', rt := P } := by
  obtain ⟨fl, rfl, v, p⟩ := h
  obtain ⟨c, c0, c1, hc⟩ := v.cols
  have hlen := v.most
  obtain ⟨r0, h0⟩ : ∃ r0, fl[0]? = some r0 := by cases fl with
    | nil => exact absurd rfl v.pos
    | cons a b => exact ⟨a, rfl⟩
  have hr0 : r0.length = c := hc r0 (List.mem_of_getElem? h0)
  have n1 : (fl.map rwD).isEmpty = false := by cases fl with
    | nil => exact absurd rfl v.pos
    | cons a b => rfl
  have n2 : (r0.map nmD).isEmpty = false := by cases r0 with
    | nil => simp at hr0; omega
    | cons a b => rfl
  refine wp_seq <| wp_if <| et_or <| et_not <| et_tr <| ev_var rfl ⟨_, tr_tup, ite_b (fun h1 => ?_) (fun h1 => et_not <| et_tr <| ev_op <| ev_var rfl <| ev_int <| rx_tup (atI_map (k := 0) rfl h0) ⟨_, tr_tup, ite_b (fun h2 => ?_) (fun h2 => wp_next ?_)⟩)⟩
  · rw [n1] at h1; cases h1
  · rw [n2] at h2; cases h2
  refine wp_seq <| wp_set <| ev_cb <| ea_nil <| rc_set0 fun a ha => ?_
  refine wp_post <| wp_enum (toD := rwD) <| ea_cons <| ev_var rfl <| ea_nil ⟨fl, fun i ρ' m' => ∃ s2 s3 s4, ρ' = [some (.d (flD fl)), some (.m a), s2, s3, s4] ∧ m' = put m a (setM Pg w a ((fl.take i).flatten.map Sx)), rfl, ⟨_, _, _, rfl, rfl⟩, ?_, ?_⟩
  · rintro i r ρ' m' hr ⟨s2, s3, s4, rfl, rfl⟩
    have hmr : r ∈ fl := List.mem_of_getElem? hr
    have hil := (List.getElem?_eq_some_iff.mp hr).1
    have hrl := hc r hmr
    refine wp_rng <| ea_cons <| ev_cb <| ea_cons <| ev_cb <| ea_cons <| ev_var rfl <| ea_nil <| rc_lenT <| ea_cons <| ev_cb <| ea_cons <| ev_op <| ev_var rfl <| ev_int <| rx_tup (atI_map (k := 0) rfl h0) <| ea_nil <| rc_lenT <| ea_nil <| rc_max2 <|
      ea_nil ⟨c, fun j ρ' m' => ∃ s4, ρ' = [some (.d (flD fl)), some (.m a), some (.d (.int (i : Nat))), some (.d (rwD r)), s4] ∧ m' = put m a (setM Pg w a (((fl.take i).flatten ++ r.take j).map Sx)), ?_, by omega, ⟨_, rfl, by simp⟩, ?_, ?_⟩
    · rw [List.length_map, List.length_map, hrl, hr0]
      simp
    · rintro j ρ' m' hj ⟨s4, rfl, rfl⟩
      obtain ⟨l, hl⟩ : ∃ l, r[j]? = some l := ⟨_, List.getElem?_eq_getElem (by omega)⟩
      have hok := v.ok r hmr l (List.mem_of_getElem? hl)
      obtain ⟨d1, d2⟩ := nd_split v.nd hr hl
      have hN : hasN fl i j = true := by
        have e0 : fl.getD 0 [] = r0 := by rw [List.getD_eq_getElem?_getD, h0]; rfl
        have ei : fl.getD i [] = r := by rw [List.getD_eq_getElem?_getD, hr]; rfl
        have ej : r.getD j [] = l := by rw [List.getD_eq_getElem?_getD, hl]; rfl
        unfold hasN
        rw [e0, ei, ej, hok]
        simp
        omega
      have hset : decide (Sx l ∈ ((fl.take i).flatten ++ r.take j).map Sx) = false := by
        rw [decide_eq_false]
        intro hh
        obtain ⟨x, hx, e⟩ := List.mem_map.mp hh
        rw [sx_inj e] at hx
        exact (List.mem_append.mp hx).elim d1 d2
      refine wp_seq <| wp_if <| et_or <| et_not <| et_tr <| ev_call0 <| ea_cons <| ev_var rfl <| ea_cons <| ev_var rfl <| ea_cons <| ev_var rfl <| ea_nil ⟨fl, i, j, rfl, fun r hr l hl => (v.short.2 r hr).2 l hl, hil, _, tr_bool, ite_b (fun h1 => ?_) (fun h1 => ?_)⟩
      · rw [hN] at h1; cases h1
      refine et_test <| ev_op <| ev_op <| ev_var rfl <| ev_var rfl <| rx_tup (atI_map rfl hl) <| ev_var rfl <| ri_set put_same ⟨_, rfl, ite_b (fun h2 => ?_) (fun h2 => wp_next ?_)⟩
      · rw [hset] at h2; cases h2
      refine wp_drop <| ev_sadd <| ev_var rfl ⟨a, _, rfl, put_same, ea_cons <| ev_op <| ev_var rfl <| ev_var rfl <| rx_tup (atI_map rfl hl) <| ea_nil ⟨Sx l, rfl, put_same, ?_, _, rfl, ?_⟩⟩
      · rw [List.length_map, List.length_append]
        have a1 : (fl.take i).flatten.length ≤ (fl.take i).length * 12 := by
          have : ∀ (g : List (List (List Nat))), (∀ r ∈ g, r ∈ fl) → g.flatten.length ≤ g.length * 12 := by
            intro g
            induction g with
            | nil => intro _; simp
            | cons x g ih =>
              intro hg
              have := ih fun r hr => hg r (List.mem_cons_of_mem _ hr)
              have hx := hc x (hg x List.mem_cons_self)
              simp
              simp at this
              omega
          exact this _ fun r hr => List.mem_of_mem_take hr
        have a2 : (fl.take i).length ≤ 12 := by rw [List.length_take]; omega
        have a3 : (r.take j).length ≤ 12 := by rw [List.length_take]; omega
        omega
      · rw [put_put, if_neg (by simpa using of_decide_eq_false hset), List.take_add_one, hl]
        simp
    · rintro ρ' m' ⟨s4, rfl, rfl⟩
      refine ⟨_, _, _, rfl, ?_⟩
      rw [take_flat hr, List.take_of_length_le (l := r) (by omega)]
  · rintro ρ' m' ⟨s2, s3, s4, rfl, rfl⟩
    refine ⟨a, _, put_same, ?_⟩
    rw [del_put ha]
    exact p
end
end Dv

namespace Dv
open PySem L2 PyProof.Rows
section
variable {K : PySem.W.Frag} {Pg : Program} {w : World}
/-! ### locate of a name that is there -/
def W_locate : WT := fun ss m P => ∃ (fl : List (List (List Nat))) (i j : Nat) (r : List (List Nat)) (l : List Nat), ss = [.d (flD fl), .d (nmD l)] ∧ Short fl ∧ fl.flatten.Nodup ∧ fl[i]? = some r ∧ r[j]? = some l ∧ P (.d (.tuple [.int (i : Nat), .int (j : Nat)])) m
def t_locate (K : PySem.W.Frag) (Pg : Program) (w : World) : TS :=
  (tSeq (tFor (iEnumU K (tCons (tVar 0) tNil)) (gTup K 2 (gCons (gName 2) (gCons (gName 3) gNil)))
    (tIfS (tTest (tOp (rInU K Pg w) (tVar 1) (tVar 3)))
    (tRet (tTupZ (tCons (tVar 2) (tCons (tTM K (rTIx K) (tVar 3) (tVar 1)) tNil))))
    tNext))
    tNever)
theorem rd_locate (ss : List Sl) (m : Sto) (P : PV) (h : W_locate ss m P) : Wp K (t_locate K Pg w) (rho ["floor", "name", "row", "names"] ss) m { nx := fun _ m' => P (.d .none) m', rt := P } := by
  obtain ⟨fl, i, j, r, l, rfl, hS, nd, hi, hj, p⟩ := h
  have hil := (List.getElem?_eq_some_iff.mp hi).1
  have hml : l ∈ r := List.mem_of_getElem? hj
  have hTx : Tx l := (hS.2 r (List.mem_of_getElem? hi)).2 l hml
  refine wp_seq <| wp_enum (toD := rwD) <| ea_cons <| ev_var rfl <| ea_nil ⟨fl, fun k ρ' m' => ∃ s2 s3, ρ' = [some (.d (flD fl)), some (.d (nmD l)), s2, s3] ∧ m' = m ∧ k ≤ i, rfl, ⟨_, _, rfl, rfl, Nat.zero_le _⟩, ?_, ?_⟩
  · rintro k rk ρ' m' hk ⟨s2, s3, rfl, rfl, hki⟩
    have hmk : rk ∈ fl := List.mem_of_getElem? hk
    refine wp_if <| et_test <| ev_op <| ev_var rfl <| ev_var rfl <| ri_tup (shaped_str hTx) (shaped_names fun l hl => (hS.2 rk hmk).2 l hl).1 ⟨_, rfl, ite_b (fun h1 => ?_) (fun h1 => ?_)⟩
    · rw [anyEq_names] at h1
      have hm : l ∈ rk := of_decide_eq_true h1
      have hki' : k = i := by
        rcases Nat.lt_or_ge k i with q | q
        · exfalso
          have := (nd_split nd hi hj).1
          refine this ?_
          rw [List.mem_flatten]
          refine ⟨rk, ?_, hm⟩
          rw [List.mem_take_iff_getElem]
          have hkl := (List.getElem?_eq_some_iff.mp hk).1
          exact ⟨k, by omega, (List.getElem?_eq_some_iff.mp hk).2⟩
        · omega
      subst hki'
      rw [hi] at hk
      cases hk
      have e : (r.map nmD) = (r.map Sx).map PyData.str := by rw [List.map_map]; rfl
      refine wp_ret <| ev_tup <| ea_cons <| ev_var rfl <| ea_cons <| ev_tm <| ev_var rfl ⟨_, rfl, ev_var rfl ?_⟩
      rw [e]
      refine rm_tindex (j := j) (by rw [List.getElem?_map, hj]; rfl) (fun a ha q => ?_) <| ea_nil ⟨[.int (k : Nat), .int (j : Nat)], rfl, by simp, p⟩
      rw [List.getElem?_map] at q
      cases hq : r[a]? with
      | none => rw [hq] at q; cases q
      | some x =>
        rw [hq] at q
        have : x = l := sx_inj (Option.some.inj q)
        subst this
        refine (nd_split nd hi hj).2 ?_
        rw [List.mem_take_iff_getElem]
        have hal := (List.getElem?_eq_some_iff.mp hq).1
        exact ⟨a, by have := (List.getElem?_eq_some_iff.mp hj).1; omega, (List.getElem?_eq_some_iff.mp hq).2⟩
    · refine wp_next ⟨_, _, rfl, rfl, ?_⟩
      rw [anyEq_names] at h1
      have hm : l ∉ rk := of_decide_eq_false h1
      rcases Nat.lt_or_ge k i with q | q
      · omega
      · exfalso
        have : k = i := by omega
        subst this
        rw [hi] at hk
        cases hk
        exact hm hml
  · rintro ρ' m' ⟨s2, s3, rfl, rfl, q⟩
    exact wp_never (by omega)
/-! ### leaders -/
def upN : List Nat → Bool
  | [] => false
  | c :: _ => isUp c
def named (fl : List (List (List Nat))) : Prop := ∀ r ∈ fl, ∀ l ∈ r, l ≠ [] ∧ Tx l
def leads (fl : List (List (List Nat))) : List Str := (fl.flatten.filter upN).map Sx
theorem nms_str (g : List (List Nat)) : g.map nmD = (g.map Sx).map PyData.str := by rw [List.map_map]; rfl
def W_leaders_of : WT := fun ss m P => ∃ fl : List (List (List Nat)), ss = [.d (flD fl)] ∧ named fl ∧ Short fl ∧ ∀ ys : List Str, ys.Perm (leads fl) → sortedS ys = true → P (.d (.tuple (ys.map .str))) m
def t_leaders_of (K : PySem.W.Frag) (Pg : Program) (w : World) : TS :=
  (tRet (tCB (rTupleC K) (tCons (tCB (rSortS K) (tCons (tLc2 (iSeqU K (tVar 0)) (gName 1) tYes (iSeqU K (tVar 1)) (gName 2) (tTr K (tCall (SpD K W_is_leader) [] E0 (tCons (tVar 2) tNil))) (tVar 2) [1, 2] [2]) tNil)) tNil)))
theorem flat_len {fl : List (List (List Nat))} (h : Short fl) : ∀ g : List (List (List Nat)), (∀ r ∈ g, r ∈ fl) → g.flatten.length ≤ g.length * 100 := by
  intro g
  induction g with
  | nil => intro _; simp
  | cons x g ih =>
    intro hg
    have := ih fun r hr => hg r (List.mem_cons_of_mem _ hr)
    have hx := (h.2 x (hg x List.mem_cons_self)).1
    simp
    simp at this
    omega
theorem part_len {fl : List (List (List Nat))} (h : Short fl) {i j : Nat} {r : List (List Nat)} (hr : r ∈ fl) : (((fl.take i).flatten ++ r.take j).filter upN).length < 100000 := by
  have a1 := flat_len h (fl.take i) fun r hr => List.mem_of_mem_take hr
  have a2 : (fl.take i).length ≤ 100 := by rw [List.length_take]; have := h.1; omega
  have a3 : (r.take j).length ≤ 100 := by rw [List.length_take]; have := (h.2 r hr).1; omega
  have a4 := List.length_filter_le upN ((fl.take i).flatten ++ r.take j)
  rw [List.length_append] at a4
  omega
theorem rd_leaders_of (ss : List Sl) (m : Sto) (P : PV) (h : W_leaders_of ss m P) : Wp K (t_leaders_of K Pg w) (rho ["floor", "names", "name"] ss) m { nx := fun _ m' => P (.d .none) m', rt := P } := by
  obtain ⟨fl, rfl, hN, hS, p⟩ := h
  refine wp_ret <| ev_cb <| ea_cons <| ev_cb <| ea_cons <| ev_lc2 <| ei_tup <| ev_var rfl ⟨_, rfl, fun D hD => ⟨fun i m' => m' = put m D (.lst (((fl.take i).flatten.filter upN).map nmD)), rfl, fun _ _ _ => trivial, ?_, ?_⟩⟩
  · rintro i x m' hx rfl
    rw [List.getElem?_map, List.getElem?_map] at hx
    cases hr : fl[i]? with
    | none => rw [hr] at hx; cases hx
    | some r =>
    rw [hr] at hx
    cases hx
    have hmr : r ∈ fl := List.mem_of_getElem? hr
    refine ⟨[1], by simp, gt_name <| et_yes ?_⟩
    rw [if_pos rfl]
    refine ei_tup <| ev_var rfl ⟨_, rfl, fun j m' => m' = put m D (.lst ((((fl.take i).flatten ++ r.take j).filter upN).map nmD)), by simp, fun _ _ _ => trivial, ?_, ?_⟩
    · rintro j y m' hy rfl
      rw [List.getElem?_map, List.getElem?_map] at hy
      cases hl : r[j]? with
      | none => rw [hl] at hy; cases hy
      | some l =>
      rw [hl] at hy
      cases hy
      obtain ⟨n1, n2⟩ := hN r hmr l (List.mem_of_getElem? hl)
      cases l with
      | nil => exact absurd rfl n1
      | cons c t =>
      have key : (((fl.take i).flatten ++ r.take (j + 1)).filter upN).map nmD = if isUp c = true then (((fl.take i).flatten ++ r.take j).filter upN).map nmD ++ [nmD (c :: t)] else (((fl.take i).flatten ++ r.take j).filter upN).map nmD := by
        rw [List.take_add_one, hl]
        cases hu : isUp c <;> simp [upN, hu]
      refine ⟨[2], by simp, gt_name <| et_tr <| ev_call0 <| ea_cons <| ev_var rfl <| ea_nil ⟨c, t, rfl, by have := n2.1; simp at this; omega, _, tr_bool, ite_b (fun h1 => ?_) (fun h1 => ?_)⟩⟩
      · rw [if_pos h1] at key
        refine ev_var rfl ⟨_, _, rfl, put_same, ?_, ?_⟩
        · rw [List.length_map]; exact part_len hS hmr
        · show put (put m D _) D _ = put m D (.lst ((((fl.take i).flatten ++ r.take (j + 1)).filter upN).map nmD))
          rw [put_put, key]
      · rw [if_neg (by rw [h1]; exact Bool.false_ne_true)] at key
        show put m D _ = put m D (.lst ((((fl.take i).flatten ++ r.take (j + 1)).filter upN).map nmD))
        rw [key]
    · rintro m' rfl
      show _ = _
      rw [take_flat hr, List.length_map, List.length_map, List.take_of_length_le (Nat.le_refl _)]
  · rintro m' rfl
    refine ⟨_, put_same, ea_nil ?_⟩
    rw [List.length_map, List.length_map, List.take_of_length_le (Nat.le_refl _), del_put hD, nms_str]
    exact rc_sortS strs_lst fun ys h1 h2 => ea_nil <| rc_tupleL <| p ys h1 h2
def W_leaders : WT := fun ss m P => ∃ fl : List (List (List Nat)), ss = [.d (flD fl)] ∧ named fl ∧ Short fl ∧ ∀ ys : List Str, ys.Perm (leads fl) → sortedS ys = true → P (.d (.list (ys.map .str))) m
def t_leaders (K : PySem.W.Frag) (Pg : Program) (w : World) : TS :=
  (tSeq (tAsg (tLst tNil) (gName 1))
    (tSeq (tFor (iSeqU K (tVar 0)) (gName 2)
    (tAsg (tOp (rAddU K) (tVar 1) (tLc (iSeqU K (tVar 2)) (gName 3) (tTest (tOp (rInU K Pg w) (tOp (rIx K) (tVar 3) (tC (.int 0))) (tC (.str "ABCDEFGHIJKLMNOPQRSTUVWXYZ")))) (tVar 3) [3])) (gName 1)))
    (tRet (tCB (rSortS K) (tCons (tVar 1) tNil)))))
theorem rd_leaders (ss : List Sl) (m : Sto) (P : PV) (h : W_leaders ss m P) : Wp K (t_leaders K Pg w) (rho ["floor", "found", "cells", "name"] ss) m { nx := fun _ m' => P (.d .none) m', rt := P } := by
  obtain ⟨fl, rfl, hN, hS, p⟩ := h
  refine wp_seq <| wp_set <| ev_lst <| ea_nil ⟨[], rfl, by decide, wp_seq <| wp_forL (toD := rwD) <| ei_tup <| ev_var rfl ⟨_, rfl, fl, fun i ρ' m' => ∃ s2 s3, ρ' = [some (.d (flD fl)), some (.d (.list (((fl.take i).flatten.filter upN).map nmD))), s2, s3] ∧ m' = m, rfl, ⟨_, _, rfl, rfl⟩, fun _ _ _ _ => trivial, ?_, ?_⟩⟩
  · rintro i r ρ' m' hr ⟨s2, s3, rfl, rfl⟩
    have hmr : r ∈ fl := List.mem_of_getElem? hr
    refine wp_set <| ev_op <| ev_var rfl <| ev_lcF (toD := nmD) List.mem_cons_self <| ei_tup <| ev_var rfl ⟨_, rfl, r, upN, nmD, rfl, trivial, ?_, fun l hl => ⟨?_, fun _ => ev_var rfl ⟨rfl, rfl⟩⟩, ?_⟩
    · have := (hS.2 r hmr).1; omega
    · obtain ⟨n1, n2⟩ := hN r hmr l hl
      cases l with
      | nil => exact absurd rfl n1
      | cons c t =>
      refine et_test <| ev_op <| ev_op <| ev_var rfl <| ev_int <| rx_str (by rw [sx_len]; have := n2.1; simp at this ⊢; omega) atI_zero <| ev_str <| ri_str ⟨_, rfl, ?_, rfl⟩
      rw [mem_up]
      rfl
    · refine ra_lst ?_ ⟨some (.d (rwD r)), s3, ?_, rfl⟩
      · have := part_len hS hmr (i := i) (j := r.length)
        rw [List.take_of_length_le (Nat.le_refl _), List.filter_append, List.length_append] at this
        rw [List.length_map, List.length_map]
        omega
      · rw [take_flat hr, List.filter_append, List.map_append]
        rfl
  · rintro ρ' m' ⟨s2, s3, rfl, rfl⟩
    refine wp_ret <| ev_cb <| ea_cons <| ev_var rfl <| ea_nil ?_
    rw [List.take_of_length_le (Nat.le_refl _), nms_str]
    exact rc_sortS strs_lst fun ys h1 h2 => p ys h1 h2
end
end Dv

namespace Dv
open PySem L2 PyProof.Rows
/-- a source of draws: what is left of a number, a seed, how many draws at most -/
def SrcL (u : List PyData) (n : Nat) : Prop := ∃ x y c : Int, u = [.int x, .int y, .int c] ∧ 0 ≤ y ∧ y < 2 ^ 140 ∧ 0 ≤ c ∧ c ≤ n
theorem SrcL.mono {u : List PyData} {n k : Nat} (h : SrcL u n) (hk : n ≤ k) : SrcL u k := let ⟨x, y, c, e, a, b, d, f⟩ := h; ⟨x, y, c, e, a, b, d, by omega⟩
theorem pw35 : (10 : Int) ^ (35 : Int).toNat + 69 = 100000000000000000000000000000000069 := by decide +kernel
theorem pw32 : (10 : Int) ^ (32 : Int).toNat + 49 = 100000000000000000000000000000049 := by decide +kernel
theorem pw37 : (10 : Int) ^ (37 : Int).toNat + 43 = 10000000000000000000000000000000000043 := by decide +kernel
section
variable {K : PySem.W.Frag} {Pg : Program} {w : World}
theorem pow10 {e : Int} (h0 : 0 ≤ e) (h : e ≤ 1000) : CPowW 10 e := powW (b := 4) (by decide) (by decide) h0 h (by decide)
def W_source : WT := fun ss m P => ∃ (ns : List Int) (i : Nat), ss = [.f (ns.map .int), .d (.int (i : Nat))] ∧ ns.length ≤ 63 ∧ i ≤ 1000 ∧ ∀ a u, m a = none → SrcL u 0 → P (.m a) (put m a (.lst u))
def t_source (K : PySem.W.Frag) (Pg : Program) (w : World) : TS :=
  (tSeq (tAsg (tC (.int 0)) (gName 2))
    (tSeq (tIfS (tTest (tOp (rI0 fun i j => .bl (decide (i < j))) (tVar 1) (tCB (rLenC K) (tCons (tVar 0) tNil))))
    (tAsg (tOp (rIx K) (tVar 0) (tVar 1)) (gName 2))
    tNext)
    (tRet (tLst (tCons (tCB (rMaxC) (tCons (tC (.int 0)) (tCons (tOp (rI0 fun i j => .int (i - j)) (tVar 2) (tOp (rI CPowW fun i j => .int (i ^ j.toNat)) (tC (.int 10)) (tC (.int 18)))) tNil))) (tCons (tOp (rAddU K) (tOp (rI (fun _ j => 0 < j) fun i j => .int (i % j)) (tVar 2) (tOp (rAddU K) (tOp (rI CPowW fun i j => .int (i ^ j.toNat)) (tC (.int 10)) (tC (.int 37))) (tC (.int 43)))) (tOp (rMulU) (tC (.int 1299709)) (tVar 1))) (tCons (tC (.int 0)) tNil)))))))
theorem rd_source (ss : List Sl) (m : Sto) (P : PV) (h : W_source ss m P) : Wp K (t_source K Pg w) (rho ["script", "index", "cell"] ss) m { nx := fun _ m' => P (.d .none) m', rt := P } := by
  obtain ⟨ns, i, rfl, hl, hi, p⟩ := h
  have fin : ∀ cell : Int, Wp K (tRet (tLst (tCons (tCB (rMaxC) (tCons (tC (.int 0)) (tCons (tOp (rI0 fun i j => .int (i - j)) (tVar 2) (tOp (rI CPowW fun i j => .int (i ^ j.toNat)) (tC (.int 10)) (tC (.int 18)))) tNil))) (tCons (tOp (rAddU K) (tOp (rI (fun _ j => 0 < j) fun i j => .int (i % j)) (tVar 2) (tOp (rAddU K) (tOp (rI CPowW fun i j => .int (i ^ j.toNat)) (tC (.int 10)) (tC (.int 37))) (tC (.int 43)))) (tOp (rMulU) (tC (.int 1299709)) (tVar 1))) (tCons (tC (.int 0)) tNil)))))
      [some (.f (ns.map .int)), some (.d (.int (i : Nat))), some (.d (.int cell))] m { nx := fun _ m' => P (.d .none) m', rt := P } := fun cell => by
    refine wp_ret <| ev_lstM <| ea_cons <| ev_cb <| ea_cons <| ev_int <| ea_cons <| ev_op <| ev_var rfl <| ev_op <| ev_int <| ev_int <| rp_pow (pow10 (by decide) (by decide)) <| rs_int <| ea_nil <| rc_max2 <|
      ea_cons <| ev_op <| ev_op <| ev_var rfl <| ev_op <| ev_op <| ev_int <| ev_int <| rp_pow (pow10 (by decide) (by decide)) <| ev_int <| ra_int <| rp_mod ?_ <| ev_op <| ev_int <| ev_var rfl <| rm_int (wide_mul (a := 30) (b := 30) ?_ ?_ (by decide) (by decide) (by decide)) <| ra_int <|
      ea_cons <| ev_int <| ea_nil ⟨[_, _, _], rfl, by simp, fun a ha => p a _ ha ⟨_, _, _, rfl, ?_, ?_, by decide, by decide⟩⟩
    · rw [pw37]; decide
    · decide
    · omega
    · rw [pw37]
      have := Int.emod_nonneg cell (show (10000000000000000000000000000000000043 : Int) ≠ 0 by decide)
      omega
    · rw [pw37]
      have := Int.emod_lt_of_pos cell (show (0 : Int) < 10000000000000000000000000000000000043 by decide)
      omega
  refine wp_seq <| wp_set <| ev_int <| wp_seq <| wp_if <| et_test <| ev_op <| ev_var rfl <| ev_cb <| ea_cons <| ev_var rfl <| ea_nil <| rc_lenF <| rl_lt ⟨_, rfl, ite_b (fun h1 => ?_) (fun h1 => wp_next (fin 0))⟩
  simp at h1
  have hx : ns[i]? = some (ns[i]'h1) := List.getElem?_eq_getElem h1
  refine wp_set <| ev_op <| ev_var rfl <| ev_var rfl <| rx_lstF (atI_map rfl hx) (fin _)
def W_draw : WT := fun ss m P => ∃ (a : Addr) (b : Int) (u : List PyData) (n : Nat), ss = [.m a, .d (.int b)] ∧ 0 < b ∧ b < 2 ^ 100 ∧ m a = some (.lst u) ∧ SrcL u n ∧ n ≤ 1000000 ∧ ∀ (r : Nat) u', (r : Int) < b → SrcL u' (n + 1) → P (.d (.int (r : Nat))) (put m a (.lst u'))
def t_draw (K : PySem.W.Frag) (Pg : Program) (w : World) : TS :=
  (tSeq (tIfS (tTest (tOp (rI0 fun i j => .bl (decide (j < i))) (tOp (rIx K) (tVar 0) (tC (.int 0))) (tC (.int 0))))
    (tSeq (tAsg (tOp (rI (fun _ j => 0 < j) fun i j => .int (i % j)) (tOp (rIx K) (tVar 0) (tC (.int 0))) (tVar 1)) (gName 2))
    (tSeq (tAsg (tOp (rI CDivW fun i j => .int (i / j)) (tOp (rIx K) (tVar 0) (tC (.int 0))) (tVar 1)) (gSub (tVar 0) (tC (.int 0)) rSetL))
    (tRet (tVar 2))))
    tNext)
    (tSeq (tAsg (tOp (rAddU K) (tOp (rIx K) (tVar 0) (tC (.int 2))) (tC (.int 1))) (gSub (tVar 0) (tC (.int 2)) rSetL))
    (tSeq (tAsg (tOp (rI (fun _ j => 0 < j) fun i j => .int (i % j)) (tOp (rI CPowW fun i j => .int (i ^ j.toNat)) (tOp (rAddU K) (tOp (rIx K) (tVar 0) (tC (.int 1))) (tOp (rMulU) (tC (.int 15485863)) (tOp (rIx K) (tVar 0) (tC (.int 2))))) (tC (.int 3))) (tOp (rAddU K) (tOp (rI CPowW fun i j => .int (i ^ j.toNat)) (tC (.int 10)) (tC (.int 35))) (tC (.int 69)))) (gName 3))
    (tSeq (tAsg (tOp (rI (fun _ j => 0 < j) fun i j => .int (i % j)) (tOp (rI CPowW fun i j => .int (i ^ j.toNat)) (tOp (rAddU K) (tVar 3) (tOp (rMulU) (tC (.int 32452843)) (tOp (rIx K) (tVar 0) (tC (.int 2))))) (tC (.int 3))) (tOp (rAddU K) (tOp (rI CPowW fun i j => .int (i ^ j.toNat)) (tC (.int 10)) (tC (.int 32))) (tC (.int 49)))) (gName 3))
    (tRet (tOp (rI (fun _ j => 0 < j) fun i j => .int (i % j)) (tOp (rI CDivW fun i j => .int (i / j)) (tVar 3) (tC (.int 8191))) (tVar 1)))))))
theorem mod_nat (x b : Int) (h : 0 < b) : ∃ r : Nat, x % b = (r : Int) ∧ (r : Int) < b := by
  have h1 := Int.emod_nonneg x (show b ≠ 0 by omega)
  have h2 := Int.emod_lt_of_pos x h
  exact ⟨(x % b).toNat, by omega, by omega⟩
theorem rd_draw (ss : List Sl) (m : Sto) (P : PV) (h : W_draw ss m P) : Wp K (t_draw K Pg w) (rho ["source", "bound", "digit", "mixed"] ss) m { nx := fun _ m' => P (.d .none) m', rt := P } := by
  obtain ⟨a, b, u, n, rfl, hb, hb2, hm, ⟨x, y, c, rfl, hy, hy2, hc, hcn⟩, hn, p⟩ := h
  have i0 : ∀ x y c : Int, atI [PyData.int x, .int y, .int c] 0 = some (.int x) := fun _ _ _ => rfl
  have i1 : ∀ x y c : Int, atI [PyData.int x, .int y, .int c] 1 = some (.int y) := fun _ _ _ => rfl
  have i2 : ∀ x y c : Int, atI [PyData.int x, .int y, .int c] 2 = some (.int c) := fun _ _ _ => rfl
  refine wp_seq <| wp_if <| et_test <| ev_op <| ev_op <| ev_var rfl <| ev_int <| rx_lstM hm (i0 _ _ _) <| ev_int <| rl_gt ⟨_, rfl, ite_b (fun h1 => ?_) (fun h1 => wp_next ?_)⟩
  · obtain ⟨r, er, hr⟩ := mod_nat x b hb
    refine wp_seq <| wp_set <| ev_op <| ev_op <| ev_var rfl <| ev_int <| rx_lstM hm (i0 _ _ _) <| ev_var rfl <| rp_mod hb <| wp_seq <| wp_asg <| ev_op <| ev_op <| ev_var rfl <| ev_int <| rx_lstM hm (i0 _ _ _) <| ev_var rfl <| rd_int (wide_div (b := 100) hb (by omega) (by decide) (by decide)) ⟨[], gt_sub (l := a) (j := 0) (k := 0) <| ev_var rfl ⟨rfl, ev_int ⟨rfl, hm, rfl, ?_⟩⟩⟩
    refine wp_ret <| ev_var rfl ?_
    rw [er]
    exact p r _ hr ⟨_, _, _, rfl, hy, hy2, hc, by omega⟩
  · refine wp_seq <| wp_asg <| ev_op <| ev_op <| ev_var rfl <| ev_int <| rx_lstM hm (i2 _ _ _) <| ev_int <| ra_int ⟨[], gt_sub (l := a) (j := 2) (k := 2) <| ev_var rfl ⟨rfl, ev_int ⟨rfl, hm, rfl, ?_⟩⟩⟩
    have hm2 : put m a (.lst ([PyData.int x, .int y, .int c].set 2 (.int (c + 1)))) a = some (.lst [.int x, .int y, .int (c + 1)]) := put_same
    refine wp_seq <| wp_set <| ev_op <| ev_op <| ev_op <| ev_op <| ev_var rfl <| ev_int <| rx_lstM hm2 (i1 _ _ _) <| ev_op <| ev_int <| ev_op <| ev_var rfl <| ev_int <| rx_lstM hm2 (i2 _ _ _) <| rm_int (wide_mul (a := 30) (b := 30) (by decide) (by omega) (by decide) (by decide) (by decide)) <| ra_int <| ev_int <| rp_pow (powW (b := 150) ?_ (by decide) (by decide) (by decide) (by decide)) <|
      ev_op <| ev_op <| ev_int <| ev_int <| rp_pow (pow10 (by decide) (by decide)) <| ev_int <| ra_int <| rp_mod ?_ ?_
    · omega
    · rw [pw35]; decide
    rw [pw35]
    obtain ⟨q, eq, hq⟩ := mod_nat ((y + 15485863 * (c + 1)) ^ (3 : Int).toNat) 100000000000000000000000000000000069 (by decide)
    rw [eq]
    refine wp_seq <| wp_set <| ev_op <| ev_op <| ev_op <| ev_var rfl <| ev_op <| ev_int <| ev_op <| ev_var rfl <| ev_int <| rx_lstM hm2 (i2 _ _ _) <| rm_int (wide_mul (a := 30) (b := 30) (by decide) (by omega) (by decide) (by decide) (by decide)) <| ra_int <| ev_int <| rp_pow (powW (b := 150) ?_ (by decide) (by decide) (by decide) (by decide)) <|
      ev_op <| ev_op <| ev_int <| ev_int <| rp_pow (pow10 (by decide) (by decide)) <| ev_int <| ra_int <| rp_mod ?_ ?_
    · omega
    · rw [pw32]; decide
    rw [pw32]
    generalize ((q : Int) + 32452843 * (c + 1)) ^ (3 : Int).toNat % 100000000000000000000000000000049 = z
    refine wp_ret <| ev_op <| ev_op <| ev_var rfl <| ev_int <| rd_int (wide_div (b := 100) (by decide) (by decide) (by decide) (by decide)) <| ev_var rfl <| rp_mod hb ?_
    obtain ⟨r, er, hr⟩ := mod_nat (z / 8191) b hb
    rw [er]
    exact p r _ hr ⟨_, _, _, rfl, hy, hy2, by omega, by omega⟩
end
end Dv

namespace Dv
open PySem L2 PyProof.Rows
theorem perm_map {α β : Type} {f : α → β} {es l : List β} (h : es.Perm l) : ∀ {xs : List α}, xs.map f = l → ∃ ys : List α, ys.Perm xs ∧ es = ys.map f := by
  induction h with
  | nil =>
    intro xs hx
    exact ⟨[], by rw [List.map_eq_nil_iff.mp hx], rfl⟩
  | @cons a l1 l2 h ih =>
    intro xs hx
    cases xs with
    | nil => cases hx
    | cons x xs =>
      rw [List.map_cons] at hx
      obtain ⟨e1, e2⟩ := List.cons.inj hx
      obtain ⟨ys, hy, e⟩ := ih e2
      exact ⟨x :: ys, hy.cons x, by rw [List.map_cons, e1, e]⟩
  | @swap a b l =>
    intro xs hx
    cases xs with
    | nil => cases hx
    | cons x xs =>
      cases xs with
      | nil => cases hx
      | cons y xs =>
        rw [List.map_cons, List.map_cons] at hx
        obtain ⟨e1, e2⟩ := List.cons.inj hx
        obtain ⟨e2, e3⟩ := List.cons.inj e2
        exact ⟨y :: x :: xs, .swap x y xs, by rw [List.map_cons, List.map_cons, e1, e2, e3]⟩
  | @trans l1 l2 l3 h1 h2 ih1 ih2 =>
    intro xs hx
    obtain ⟨ys, hy, e⟩ := ih2 hx
    obtain ⟨zs, hz, e'⟩ := ih1 e.symm
    exact ⟨zs, hz.trans hy, e'⟩
theorem perm_erase {α : Type} : ∀ {l : List α} {i : Nat} (h : i < l.length), (l[i] :: l.eraseIdx i).Perm l
  | x :: l, 0, _ => by simp
  | x :: l, i + 1, h => by
    simp only [List.getElem_cons_succ, List.eraseIdx_cons_succ]
    exact (List.Perm.swap x _ _).trans ((perm_erase (by simpa using h)).cons x)
section
variable {K : PySem.W.Frag} {Pg : Program} {w : World}
def W_shuffled : WT := fun ss m P => ∃ (a : Addr) (ds u : List PyData) (n : Nat), ss = [.m a, .d (.list ds)] ∧ m a = some (.lst u) ∧ SrcL u n ∧ n + ds.length ≤ 1000000 ∧ ds.length ≤ 1000 ∧
  ∀ es u', es.Perm ds → SrcL u' (n + ds.length) → P (.d (.list es)) (put m a (.lst u'))
def t_shuffled (K : PySem.W.Frag) (Pg : Program) (w : World) : TS :=
  (tSeq (tAsg (tCB (rListC K) (tCons (tVar 1) tNil)) (gName 2))
    (tRet (tLc (iRng1 (tCons (tCB (rLenC K) (tCons (tVar 2) tNil)) tNil)) (gName 3) tYes (tBM K "list" rPopAt (tVar 2) (tCons (tCall (SpD K W_draw) [] E0 (tCons (tVar 0) (tCons (tCB (rLenC K) (tCons (tVar 2) tNil)) tNil))) tNil)) [3])))
theorem put_mid {m : Sto} {a b : Addr} {u u' w : Mu} (h : a ≠ b) : put (put (put m a u) b w) a u' = put (put m a u') b w := by
  rw [put_comm (Ne.symm h), put_put]
theorem rd_shuffled (ss : List Sl) (m : Sto) (P : PV) (h : W_shuffled ss m P) : Wp K (t_shuffled K Pg w) (rho ["source", "things", "left", "step"] ss) m { nx := fun _ m' => P (.d .none) m', rt := P } := by
  obtain ⟨a, ds, u, n, rfl, hm, hu, hn, hd, p⟩ := h
  refine wp_seq <| wp_set <| ev_cb <| ea_cons <| ev_var rfl <| ea_nil <| rc_listM seq_lst fun b hb => ?_
  have ab : a ≠ b := fun e => by rw [e, hb] at hm; cases hm
  refine wp_ret <| ev_del <| ev_lc <| ei_rng1 <| ea_cons <| ev_cb <| ea_cons <| ev_var rfl <| ea_nil <| rc_lenM put_same <| ea_nil ⟨_, rfl, by omega, by omega, fun i acc m' => ∃ u' ls, SrcL u' (n + i) ∧ m' = put (put m a (.lst u')) b (.lst ls) ∧ (acc ++ ls).Perm ds ∧ acc.length = i ∧ i ≤ ds.length, ?_, fun _ _ _ _ => trivial, ?_, ?_⟩
  · exact ⟨u, ds, hu, by rw [put_self hm], .refl _, rfl, Nat.zero_le _⟩
  · rintro i x acc m' hx ⟨u', ls, hu', rfl, hp, hl, hi⟩
    have hi2 : i < ds.length := by
      have := (List.getElem?_eq_some_iff.mp hx).1
      simpa using this
    have hll : ls.length = ds.length - i := by
      have := hp.length_eq
      rw [List.length_append] at this
      omega
    refine ⟨by omega, [3], by simp, gt_name <| et_yes ?_⟩
    rw [if_pos rfl]
    refine ev_bm <| ev_var rfl ⟨ty_listM put_same, ea_cons <| ev_call0 <| ea_cons <| ev_var rfl <| ea_cons <| ev_cb <| ea_cons <| ev_var rfl <| ea_nil <| rc_lenM put_same <| ea_nil ⟨a, _, u', n + i, rfl, by omega, by omega, by rw [put_ne ab, put_same], hu', by omega, fun r u2 hr hu2 => ea_nil ?_⟩⟩
    have hr' : r < ls.length := by omega
    rw [put_mid ab]
    refine rm_popAt put_same (by omega) (by omega) rfl (List.getElem?_eq_getElem hr') ⟨_, rfl, u2, _, hu2, put_put, ?_, by rw [List.length_append, hl]; rfl, hi2⟩
    refine List.Perm.trans ?_ hp
    rw [List.append_assoc]
    exact List.Perm.append_left _ (perm_erase hr')
  · rintro acc m' ⟨u', ls, hu', rfl, hp, hl, hi⟩
    refine ⟨b, _, put_same, ?_⟩
    rw [del_put (by rw [put_ne (Ne.symm ab)]; exact hb)]
    have e : (List.map (fun i : Nat => Sl.d (.int (i : Nat))) (List.range (ds.length : Int).toNat)).length = ds.length := by simp
    rw [e] at hl hu'
    have hls : ls = [] := by
      have := hp.length_eq
      rw [List.length_append] at this
      exact List.length_eq_zero_iff.mp (by omega)
    subst hls
    rw [List.append_nil] at hp
    exact p acc u' hp hu'
/-! ### names -/
def nmL (st sh nu : Nat) : List Nat :=
  match st with
  | 0 => (97 + (nu + sh) % 26) :: (if 25 < nu then [97 + (nu / 26 + 2 * sh) % 26] else [])
  | 1 => [97 + (nu / 26 + 2 * sh) % 26, 97 + (nu + sh) % 26]
  | 2 => [113, 113, 97 + (nu / 26 + 2 * sh) % 26, 97 + (nu + sh) % 26]
  | 3 => [97 + (nu + sh) % 26, 97 + (nu / 26 + 2 * sh) % 26, 122, 122]
  | 4 => (97 + (nu + sh) % 26) :: (97 + (nu / 26 + 2 * sh) % 26) :: List.replicate (nu % 3) (97 + (nu / 26 + 2 * sh) % 26)
  | _ => [97 + (nu / 26 + 2 * sh) % 26, 97 + (nu + sh) % 26, 120, 120, 120, 120]
def W_name : WT := fun ss m P => ∃ st sh nu : Nat, ss = [.d (.int (st : Nat)), .d (.int (sh : Nat)), .d (.int (nu : Nat))] ∧ st < 6 ∧ sh < 26 ∧ nu < 144 ∧ P (.d (nmD (nmL st sh nu))) m
def t_name (K : PySem.W.Frag) (Pg : Program) (w : World) : TS :=
  (tSeq (tAsg (tC (.str "abcdefghijklmnopqrstuvwxyz")) (gName 3))
    (tSeq (tAsg (tOp (rIx K) (tVar 3) (tOp (rI (fun _ j => 0 < j) fun i j => .int (i % j)) (tOp (rAddU K) (tVar 2) (tVar 1)) (tC (.int 26)))) (gName 4))
    (tSeq (tAsg (tOp (rIx K) (tVar 3) (tOp (rI (fun _ j => 0 < j) fun i j => .int (i % j)) (tOp (rAddU K) (tOp (rI CDivW fun i j => .int (i / j)) (tVar 2) (tC (.int 26))) (tOp (rMulU) (tC (.int 2)) (tVar 1))) (tC (.int 26)))) (gName 5))
    (tSeq (tAsg (tLst (tCons (tOp (rAddU K) (tVar 4) (tOp (rMulU) (tVar 5) (tCB (rIntC) (tCons (tOp (rI0 fun i j => .bl (decide (j < i))) (tVar 2) (tC (.int 25))) tNil)))) (tCons (tOp (rAddU K) (tVar 5) (tVar 4)) (tCons (tOp (rAddU K) (tOp (rAddU K) (tC (.str "qq")) (tVar 5)) (tVar 4)) (tCons (tOp (rAddU K) (tOp (rAddU K) (tVar 4) (tVar 5)) (tC (.str "zz"))) tNil))))) (gName 6))
    (tSeq (tAsg (tOp (rAddU K) (tVar 6) (tLst (tCons (tOp (rAddU K) (tOp (rAddU K) (tVar 4) (tVar 5)) (tOp (rMulU) (tVar 5) (tOp (rI (fun _ j => 0 < j) fun i j => .int (i % j)) (tVar 2) (tC (.int 3))))) (tCons (tOp (rAddU K) (tOp (rAddU K) (tVar 5) (tVar 4)) (tC (.str "xxxx"))) tNil)))) (gName 6))
    (tRet (tOp (rIx K) (tVar 6) (tVar 0))))))))
theorem lo_at {k : Nat} {i : Int} (h : k < 26) (hi : i = (k : Int)) : atI ("abcdefghijklmnopqrstuvwxyz" : Str).cps.toList i = some (97 + k) := atI_nat' hi (by
  rw [loE, List.getElem?_range' h]
  simp)
theorem mul_chr (s : Nat) {n : Nat} (h : n ≤ 2) : Txt.mul (Sx [s]) (n : Int) = Sx (List.replicate n s) := by
  match n, h with
  | 0, _ => rfl
  | 1, _ => rfl
  | 2, _ => simp [Txt.mul, Sx, Str.length, List.replicate]
theorem qqS : ("qq" : Str) = Sx [113, 113] := by decide +kernel
theorem zzS : ("zz" : Str) = Sx [122, 122] := by decide +kernel
theorem xxS : ("xxxx" : Str) = Sx [120, 120, 120, 120] := by decide +kernel
theorem loLen : ("abcdefghijklmnopqrstuvwxyz" : Str).length ≤ 100000 := by rw [loS, sx_len]; simp
theorem rd_name (ss : List Sl) (m : Sto) (P : PV) (h : W_name ss m P) : Wp K (t_name K Pg w) (rho ["style", "shift", "number", "letters", "first", "second", "names"] ss) m { nx := fun _ m' => P (.d .none) m', rt := P } := by
  obtain ⟨st, sh, nu, rfl, hst, hsh, hnu, p⟩ := h
  have e1 : ((nu : Int) + (sh : Int)) % 26 = (((nu + sh) % 26 : Nat) : Int) := by omega
  have e2 : ((nu : Int) / 26 + 2 * (sh : Int)) % 26 = (((nu / 26 + 2 * sh) % 26 : Nat) : Int) := by omega
  have e3 : ((nu : Int) % 3) = ((nu % 3 : Nat) : Int) := by omega
  have b1 : (nu + sh) % 26 < 26 := by omega
  have b2 : (nu / 26 + 2 * sh) % 26 < 26 := by omega
  have s1 : ∀ c : Nat, (Sx [c]).length ≤ 1000 := fun c => by rw [sx_len]; simp
  have sa : ∀ x y : List Nat, x.length ≤ 100 → y.length ≤ 100 → (Sx x).length + (Sx y).length ≤ 100000 := fun x y hx hy => by rw [sx_len, sx_len]; omega
  refine wp_seq <| wp_set <| ev_str <| wp_seq <| wp_set <| ev_op <| ev_var rfl <| ev_op <| ev_op <| ev_var rfl <| ev_var rfl <| ra_int <| ev_int <| rp_mod (by decide) <| rx_str loLen (lo_at b1 e1) ?_
  refine wp_seq <| wp_set <| ev_op <| ev_var rfl <| ev_op <| ev_op <| ev_op <| ev_var rfl <| ev_int <| rd_int (wide_div (b := 100) (by decide) (by decide) (by decide) (by decide)) <| ev_op <| ev_int <| ev_var rfl <| rm_int (wide_mul (a := 30) (b := 30) (by decide) (by omega) (by decide) (by decide) (by decide)) <| ra_int <| ev_int <| rp_mod (by decide) <| rx_str loLen (lo_at b2 e2) ?_
  have hp : ∀ d, (match st with | 0 => d = nmD (nmL 0 sh nu) | 1 => d = nmD (nmL 1 sh nu) | 2 => d = nmD (nmL 2 sh nu) | 3 => d = nmD (nmL 3 sh nu) | 4 => d = nmD (nmL 4 sh nu) | _ => d = nmD (nmL 5 sh nu)) → P (.d d) m := fun d hd => by
    have : d = nmD (nmL st sh nu) := by
      match st, hst with
      | 0, _ => exact hd
      | 1, _ => exact hd
      | 2, _ => exact hd
      | 3, _ => exact hd
      | 4, _ => exact hd
      | 5, _ => exact hd
    rw [this]; exact p
  clear p
  revert hp
  unfold nmL
  simp only []
  generalize 97 + (nu + sh) % 26 = f
  generalize 97 + (nu / 26 + 2 * sh) % 26 = s
  intro hp
  have hI : ∀ (b : Bool), (if b then (1 : Int) else 0) = ((if b then 1 else 0 : Nat) : Int) := fun b => by cases b <;> rfl
  have hI2 : ∀ (b : Bool), (if b then (1 : Nat) else 0) ≤ 2 := fun b => by cases b <;> decide
  refine wp_seq <| wp_set <| ev_lst <| ea_cons <| ev_op <| ev_var rfl <| ev_op <| ev_var rfl <| ev_cb <| ea_cons <| ev_op <| ev_var rfl <| ev_int <| rl_gt <| ea_nil <| rc_intB <| rm_str (by split <;> decide) (by split <;> decide) (s1 s) <| ?_
  rw [hI]
  show RO K (rAddU K) (.d (.str (Sx [f]))) (.d (.str (Txt.mul (Sx [s]) _))) m _
  rw [mul_chr s (hI2 _)]
  refine ra_str (sa _ _ (by simp) (by simp; split <;> decide)) <| ea_cons <| ev_op <| ev_var rfl <| ev_var rfl <| ra_str (sa [s] [f] (by simp) (by simp)) <| ea_cons <| ev_op <| ev_op <| ev_str <| ev_var rfl <| ?_
  rw [qqS]
  refine ra_str (sa [113, 113] [s] (by simp) (by simp)) <| ev_var rfl <| ?_
  show RO K (rAddU K) (.d (.str (Sx [113, 113] ++ Sx [s]))) (.d (.str (Sx [f]))) m _
  rw [sx_app]
  refine ra_str (sa _ _ (by simp) (by simp)) <| ea_cons <| ev_op <| ev_op <| ev_var rfl <| ev_var rfl <| ra_str (sa [f] [s] (by simp) (by simp)) <| ev_str <| ?_
  show RO K (rAddU K) (.d (.str (Sx [f] ++ Sx [s]))) _ m _
  rw [zzS, sx_app]
  refine ra_str (sa _ _ (by simp) (by simp)) <| ea_nil ⟨[_, _, _, _], rfl, by simp, ?_⟩
  refine wp_seq <| wp_set <| ev_op <| ev_var rfl <| ev_lst <| ea_cons <| ev_op <| ev_op <| ev_var rfl <| ev_var rfl <| ra_str (sa [f] [s] (by simp) (by simp)) <| ev_op <| ev_var rfl <| ev_op <| ev_var rfl <| ev_int <| rp_mod (by decide) <| rm_str (by omega) (by omega) (s1 s) <| ?_
  rw [e3]
  show RO K (rAddU K) (.d (.str (Sx [f] ++ Sx [s]))) (.d (.str (Txt.mul (Sx [s]) _))) m _
  rw [mul_chr s (by omega), sx_app]
  refine ra_str (sa _ _ (by simp) (by simp; omega)) <| ea_cons <| ev_op <| ev_op <| ev_var rfl <| ev_var rfl <| ra_str (sa [s] [f] (by simp) (by simp)) <| ev_str <| ?_
  show RO K (rAddU K) (.d (.str (Sx [s] ++ Sx [f]))) _ m _
  rw [xxS, sx_app]
  refine ra_str (sa _ _ (by simp) (by simp)) <| ea_nil ⟨[_, _], rfl, by simp, ra_lst (by simp) <| wp_ret <| ev_op <| ev_var rfl <| ev_var rfl <| ?_⟩
  rw [sx_app, sx_app, sx_app, sx_app]
  have h25 : (List.replicate (if (decide ((25 : Int) < (nu : Int))) = true then 1 else 0) s) = (if 25 < nu then [s] else []) := by
    by_cases h : 25 < nu
    · have : decide ((25 : Int) < (nu : Int)) = true := by simp; omega
      rw [this, if_pos h]; rfl
    · have : decide ((25 : Int) < (nu : Int)) = false := by simp; omega
      rw [this, if_neg h]; rfl
  rw [h25]
  match st, hst, hp with
  | 0, _, hp => exact rx_lst rfl (hp _ rfl)
  | 1, _, hp => exact rx_lst rfl (hp _ (by show PyData.str (Sx [s] ++ Sx [f]) = _; rw [sx_app]; rfl))
  | 2, _, hp => exact rx_lst rfl (hp _ rfl)
  | 3, _, hp => exact rx_lst rfl (hp _ rfl)
  | 4, _, hp => exact rx_lst rfl (hp _ rfl)
  | 5, _, hp => exact rx_lst rfl (hp _ rfl)
end
end Dv

namespace Dv
open PySem L2 PyProof.Rows
abbrev prD (p : Nat × Nat) : PyData := .tuple [.int (p.1 : Nat), .int (p.2 : Nat)]
def rowC (C i : Nat) : List (Nat × Nat) := (List.range C).map fun c => (i, c)
def cellsC (C : Nat) : Nat → List (Nat × Nat)
  | 0 => []
  | i + 1 => cellsC C i ++ rowC C i
theorem rowC_len (C i : Nat) : (rowC C i).length = C := by simp [rowC]
theorem cellsC_len (C : Nat) : ∀ i, (cellsC C i).length = i * C
  | 0 => by simp [cellsC]
  | i + 1 => by rw [cellsC, List.length_append, cellsC_len C i, rowC_len, Nat.succ_mul]
theorem map_erase {α β : Type} {f : α → β} : ∀ {xs : List α} {i : Nat}, (xs.map f).eraseIdx i = (xs.eraseIdx i).map f
  | [], _ => rfl
  | x :: xs, 0 => rfl
  | x :: xs, i + 1 => by simp [map_erase (xs := xs) (i := i)]
section
variable {K : PySem.W.Frag} {Pg : Program} {w : World}
def W_pattern : WT := fun ss m P => ∃ (a : Addr) (R C : Nat) (u : List PyData) (n : Nat), ss = [.m a, .d (.int (R : Nat)), .d (.int (C : Nat))] ∧ 0 < R ∧ R ≤ 12 ∧ 0 < C ∧ C ≤ 12 ∧ m a = some (.lst u) ∧ SrcL u n ∧ n ≤ 500000 ∧
  ∀ (es : List (Nat × Nat)) u', es.length ≤ 144 → SrcL u' (n + 1000) → P (.d (.list (es.map prD))) (put m a (.lst u'))
def t_pattern (K : PySem.W.Frag) (Pg : Program) (w : World) : TS :=
  (tSeq (tAsg (tCall (SpD K W_draw) [] E0 (tCons (tVar 0) (tCons (tC (.int 9)) tNil))) (gName 3))
    (tSeq (tAsg (tLst tNil) (gName 4))
    (tSeq (tFor (iRng1 (tCons (tVar 1) tNil)) (gName 5)
    (tAsg (tOp (rAddU K) (tVar 4) (tLc (iRng1 (tCons (tVar 2) tNil)) (gName 12) tYes (tTupZ (tCons (tVar 5) (tCons (tVar 12) tNil))) [12])) (gName 4)))
    (tSeq (tIfS (tTest (tOp (rI0 fun i j => .bl (decide (i < j))) (tVar 3) (tC (.int 2))))
    (tRet (tVar 4))
    tNext)
    (tSeq (tIfS (tTest (tOp (rEqU K) (tVar 3) (tC (.int 2))))
    (tRet (tLst tNil))
    tNext)
    (tSeq (tIfS (tTest (tOp (rEqU K) (tVar 3) (tC (.int 3))))
    (tRet (tLst (tCons (tOp (rIx K) (tVar 4) (tCall (SpD K W_draw) [] E0 (tCons (tVar 0) (tCons (tCB (rLenC K) (tCons (tVar 4) tNil)) tNil)))) tNil)))
    tNext)
    (tSeq (tIfS (tTest (tOp (rEqU K) (tVar 3) (tC (.int 4))))
    (tSeq (tAsg (tCall (SpD K W_shuffled) [] E0 (tCons (tVar 0) (tCons (tLstRg (tRg1 (tVar 1))) tNil))) (gName 6))
    (tSeq (tAsg (tCall (SpD K W_shuffled) [] E0 (tCons (tVar 0) (tCons (tLstRg (tRg1 (tVar 2))) tNil))) (gName 7))
    (tSeq (tAsg (tOp (rAddU K) (tC (.int 1)) (tCall (SpD K W_draw) [] E0 (tCons (tVar 0) (tCons (tCB (rMinC) (tCons (tVar 1) (tCons (tVar 2) tNil))) tNil)))) (gName 8))
    (tRet (tLc (iRng1 (tCons (tVar 8) tNil)) (gName 11) tYes (tTupZ (tCons (tOp (rIx K) (tVar 6) (tVar 11)) (tCons (tOp (rIx K) (tVar 7) (tVar 11)) tNil))) [11])))))
    tNext)
    (tSeq (tIfS (tTest (tOp (rEqU K) (tVar 3) (tC (.int 5))))
    (tSeq (tAsg (tCall (SpD K W_draw) [] E0 (tCons (tVar 0) (tCons (tVar 1) tNil))) (gName 9))
    (tRet (tLc (iSeqU K (tVar 4)) (gName 10) (tTest (tOp (rEqU K) (tOp (rIx K) (tVar 10) (tC (.int 0))) (tVar 9))) (tVar 10) [10])))
    tNext)
    (tSeq (tIfS (tTest (tOp (rEqU K) (tVar 3) (tC (.int 6))))
    (tSeq (tAsg (tCall (SpD K W_draw) [] E0 (tCons (tVar 0) (tCons (tVar 2) tNil))) (gName 9))
    (tRet (tLc (iSeqU K (tVar 4)) (gName 10) (tTest (tOp (rEqU K) (tOp (rIx K) (tVar 10) (tC (.int 1))) (tVar 9))) (tVar 10) [10])))
    tNext)
    (tSeq (tIfS (tTest (tOp (rEqU K) (tVar 3) (tC (.int 7))))
    (tSeq (tDrop (tBM K "list" rPopAt (tVar 4) (tCons (tCall (SpD K W_draw) [] E0 (tCons (tVar 0) (tCons (tCB (rLenC K) (tCons (tVar 4) tNil)) tNil))) tNil)))
    (tRet (tVar 4)))
    tNext)
    (tRet (tLc (iSeqU K (tVar 4)) (gName 10) (tTest (tOp (rEqU K) (tCall (SpD K W_draw) [] E0 (tCons (tVar 0) (tCons (tC (.int 3)) tNil))) (tC (.int 0)))) (tVar 10) [10]))))))))))))
theorem shaped_int (i : Int) : SeqAt.shaped (.int i) = true := rfl
theorem list_of {es : List (Nat × Nat)} {ds : List PyData} {P : PV} {m : Sto} (e : ds = es.map prD) (p : P (.d (.list (es.map prD))) m) : P (.d (.list ds)) m := by rw [e]; exact p
theorem upTo_map (n : Nat) : (List.range n).map (fun i : Nat => PyData.int (i : Nat)) = upTo n := rfl
theorem rd_pattern (ss : List Sl) (m : Sto) (P : PV) (h : W_pattern ss m P) : Wp K (t_pattern K Pg w) (rho ["source", "rows", "columns", "way", "cells", "row", "lines", "others", "many", "line", "cell", "index", "column"] ss) m { nx := fun _ m' => P (.d .none) m', rt := P } := by
  obtain ⟨a, R, C, u, n, rfl, hR0, hR, hC0, hC, hm, hu, hn, p⟩ := h
  refine wp_seq <| wp_set <| ev_call0 <| ea_cons <| ev_var rfl <| ea_cons <| ev_int <| ea_nil ⟨a, _, u, n, rfl, by decide, by decide, hm, hu, by omega, fun way u1 hw hu1 => ?_⟩
  clear hu hm
  refine wp_seq <| wp_set <| ev_lstM <| ea_nil ⟨[], rfl, by simp, fun b0 hb0 => ?_⟩
  generalize hm1 : put m a (.lst u1) = m1 at hb0
  have hma : m1 a = some (.lst u1) := by rw [← hm1, put_same]
  refine wp_seq <| wp_rng <| ea_cons <| ev_var rfl <| ea_nil ⟨R, fun i ρ' m' => ∃ b s5, m1 b = none ∧ ρ' = [some (.m a), some (.d (.int (R : Nat))), some (.d (.int (C : Nat))), some (.d (.int (way : Nat))), some (.m b), s5, none, none, none, none, none, none, none] ∧ m' = put m1 b (.lst ((cellsC C i).map prD)), rfl, by omega, ⟨b0, _, hb0, rfl, rfl⟩, ?_, ?_⟩
  · rintro i ρ' m' hi ⟨b, s5, hb, rfl, rfl⟩
    refine wp_post <| wp_set <| ev_op <| ev_var rfl <| ev_lcR List.mem_cons_self <| ea_cons <| ev_var rfl <| ea_nil ⟨C, fun c => prD (i, c), rfl, by omega, fun c hc => ev_tup <| ea_cons <| ev_var rfl <| ea_cons <| ev_var rfl <| ea_nil ⟨[_, _], rfl, by simp, rfl, rfl⟩, ra_lstM (ls_m put_same) ls_d ?_ fun b' hb' => ⟨b, .lst ((cellsC C i).map prD), ?_, b', _, ?_, rfl, ?_⟩⟩
    · rw [List.length_map, cellsC_len, List.length_map, List.length_range]
      have : i * C ≤ 12 * 12 := Nat.mul_le_mul (by omega) hC
      omega
    · have : b ≠ b' := fun e => by rw [← e, put_same] at hb'; cases hb'
      rw [put_ne this, put_same]
    · have : b' ≠ b := fun e => by rw [e, put_same] at hb'; cases hb'
      rw [put_ne this] at hb'
      exact hb'
    · have hne : b ≠ b' := fun e => by rw [← e, put_same] at hb'; cases hb'
      rw [put_comm hne, del_put (by rw [put_ne hne]; exact hb), cellsC, List.map_append, rowC, List.map_map]
      rfl
  rintro ρ' m' ⟨b, s5, hb, rfl, rfl⟩
  have ab : a ≠ b := fun e => by rw [← e, hma] at hb; cases hb
  have hcl : ((cellsC C R).map prD).length = R * C := by rw [List.length_map, cellsC_len]
  have hRC : R * C ≤ 144 := Nat.mul_le_mul hR hC
  have hRC0 : 0 < R * C := Nat.mul_pos hR0 hC0
  generalize cellsC C R = cs at hcl
  have hcs : cs.length = R * C := by rw [← hcl, List.length_map]
  have fin : ∀ (es : List (Nat × Nat)) u' k, es.length ≤ 144 → SrcL u' k → k ≤ n + 1000 → P (.d (.list (es.map prD))) (put m1 a (.lst u')) := fun es u' k h1 h2 h3 => by
    rw [← hm1, put_put]
    exact p es u' h1 (h2.mono h3)
  have fin1 : ∀ (es : List (Nat × Nat)), es.length ≤ 144 → P (.d (.list (es.map prD))) m1 := fun es h1 => by
    have := fin es u1 _ h1 hu1 (by omega)
    rw [put_self hma] at this
    exact this
  have hS : ∀ u' w', put (put m1 b w') a (.lst u') = put (put m1 a (.lst u')) b w' := fun u' w' => put_comm (Ne.symm ab)
  have hSa : put m1 b (.lst (cs.map prD)) a = some (.lst u1) := by rw [put_ne ab]; exact hma
  have hd : ∀ u' w', del (put (put m1 a (.lst u')) b w') b = put m1 a (.lst u') := fun u' w' => del_put (by rw [put_ne (Ne.symm ab)]; exact hb)
  have dw : ∀ (bound : Int) (Q : PV), 0 < bound → bound < 2 ^ 100 → (∀ (r : Nat) u', (r : Int) < bound → SrcL u' (n + 2) → Q (.d (.int (r : Nat))) (put (put m1 a (.lst u')) b (.lst (cs.map prD)))) → W_draw [.m a, .d (.int bound)] (put m1 b (.lst (cs.map prD))) Q := fun bound Q h1 h2 h3 =>
    ⟨a, bound, u1, n + 1, rfl, h1, h2, hSa, hu1, by omega, fun r u' hr hu' => by rw [hS]; exact h3 r u' hr hu'⟩
  refine wp_seq <| wp_if <| et_test <| ev_op <| ev_var rfl <| ev_int <| rl_lt ⟨_, rfl, ite_b (fun _ => ?_) (fun _ => wp_next ?_)⟩
  · refine wp_ret <| ev_varF rfl put_same ?_
    rw [del_put hb]
    exact fin1 cs (by omega)
  refine wp_seq <| wp_if <| et_test <| ev_op <| ev_var rfl <| ev_int <| re_eq (shaped_int _) (shaped_int _) ⟨_, rfl, ite_b (fun _ => ?_) (fun _ => wp_next ?_)⟩
  · refine wp_ret <| ev_del <| ev_lst <| ea_nil ⟨[], rfl, by simp, b, _, put_same, ?_⟩
    rw [del_put hb]
    exact fin1 [] (by simp)
  refine wp_seq <| wp_if <| et_test <| ev_op <| ev_var rfl <| ev_int <| re_eq (shaped_int _) (shaped_int _) ⟨_, rfl, ite_b (fun _ => ?_) (fun _ => wp_next ?_)⟩
  · refine wp_ret <| ev_del <| ev_lst <| ea_cons <| ev_op <| ev_var rfl <| ev_call0 <| ea_cons <| ev_var rfl <| ea_cons <| ev_cb <| ea_cons <| ev_var rfl <| ea_nil <| rc_lenM put_same <| ea_nil <| dw _ _ (by omega) (by omega) fun r u' hr hu' => ?_
    have hr' : r < cs.length := by omega
    refine rx_lstM put_same (atI_map rfl (List.getElem?_eq_getElem hr')) <| ea_nil ⟨[_], rfl, by simp, b, _, put_same, ?_⟩
    rw [hd]
    exact fin [cs[r]] u' _ (by simp) hu' (by omega)
  refine wp_seq <| wp_if <| et_test <| ev_op <| ev_var rfl <| ev_int <| re_eq (shaped_int _) (shaped_int _) ⟨_, rfl, ite_b (fun _ => ?_) (fun _ => wp_next ?_)⟩
  · refine wp_del put_same ?_
    rw [del_put hb]
    have lU : ∀ k : Nat, (upTo k).length = k := fun k => by simp [upTo]
    refine wp_seq <| wp_set <| ev_call0 <| ea_cons <| ev_var rfl <| ea_cons <| ev_listRg <| ev_var rfl ⟨_, rfl, by omega, by omega, ea_nil ⟨a, _, u1, n + 1, rfl, hma, hu1, by rw [lU]; omega, by rw [lU]; omega, fun ls u2 hls hu2 => ?_⟩⟩
    rw [lU] at hu2
    obtain ⟨ys, hys, rfl⟩ := perm_map (f := fun i : Nat => PyData.int (i : Nat)) hls (upTo_map _)
    refine wp_seq <| wp_set <| ev_call0 <| ea_cons <| ev_var rfl <| ea_cons <| ev_listRg <| ev_var rfl ⟨_, rfl, by omega, by omega, ea_nil ⟨a, _, u2, _, rfl, put_same, hu2, by rw [lU]; omega, by rw [lU]; omega, fun os u3 hos hu3 => ?_⟩⟩
    rw [lU] at hu3
    obtain ⟨zs, hzs, rfl⟩ := perm_map (f := fun i : Nat => PyData.int (i : Nat)) hos (upTo_map _)
    rw [put_put]
    have ly : ys.length = R := by have := hys.length_eq; simpa using this
    have lz : zs.length = C := by have := hzs.length_eq; simpa using this
    have hmin : 0 < (if (C : Int) < (R : Int) then (C : Int) else (R : Int)) ∧ (if (C : Int) < (R : Int) then (C : Int) else (R : Int)) ≤ R ∧ (if (C : Int) < (R : Int) then (C : Int) else (R : Int)) ≤ C := by split <;> omega
    refine wp_seq <| wp_set <| ev_op <| ev_int <| ev_call0 <| ea_cons <| ev_var rfl <| ea_cons <| ev_cb <| ea_cons <| ev_var rfl <| ea_cons <| ev_var rfl <| ea_nil <| rc_min2 <| ea_nil ⟨a, _, u3, _, rfl, by omega, by omega, put_same, hu3, by omega, fun r u4 hr hu4 => ra_int ?_⟩
    rw [put_put]
    have e1 : (1 : Int) + (r : Int) = ((r + 1 : Nat) : Int) := by omega
    rw [e1]
    refine wp_ret <| ev_lcR List.mem_cons_self <| ea_cons <| ev_var rfl <| ea_nil ⟨r + 1, fun i => prD (ys.getD i 0, zs.getD i 0), rfl, by omega, fun i hi => ?_, ?_⟩
    · have h1 : ys[i]? = some (ys.getD i 0) := by rw [List.getD_eq_getElem?_getD, List.getElem?_eq_getElem (by omega)]; rfl
      have h2 : zs[i]? = some (zs.getD i 0) := by rw [List.getD_eq_getElem?_getD, List.getElem?_eq_getElem (by omega)]; rfl
      exact ev_tup <| ea_cons <| ev_op <| ev_var rfl <| ev_var rfl <| rx_lst (atI_map rfl h1) <| ea_cons <| ev_op <| ev_var rfl <| ev_var rfl <| rx_lst (atI_map rfl h2) <| ea_nil ⟨[_, _], rfl, by simp, rfl, rfl⟩
    · refine list_of (es := (List.range (r + 1)).map fun i => (ys.getD i 0, zs.getD i 0)) (by rw [List.map_map]; rfl) ?_
      exact fin _ u4 _ (by simp; omega) hu4 (by omega)
  refine wp_seq <| wp_if <| et_test <| ev_op <| ev_var rfl <| ev_int <| re_eq (shaped_int _) (shaped_int _) ⟨_, rfl, ite_b (fun _ => ?_) (fun _ => wp_next ?_)⟩
  · refine wp_seq <| wp_set <| ev_call0 <| ea_cons <| ev_var rfl <| ea_cons <| ev_var rfl <| ea_nil <| dw _ _ (by omega) (by omega) fun r u' hr hu' => ?_
    refine wp_ret <| ev_del <| ev_lcF (toD := prD) List.mem_cons_self <| ei_lstM <| ev_var rfl ⟨b, _, rfl, put_same, cs, fun q => PyData.eqv (.int (q.1 : Nat)) (.int (r : Nat)), prD, rfl, put_same, by omega, fun q _ => ⟨?_, fun _ => ev_var rfl ⟨rfl, rfl⟩⟩, b, _, put_same, ?_⟩
    · exact et_test <| ev_op <| ev_op <| ev_var rfl <| ev_int <| rx_tup rfl <| ev_var rfl <| re_eq (shaped_int _) (shaped_int _) ⟨_, rfl, rfl, rfl⟩
    · rw [hd]
      exact fin _ u' _ (Nat.le_trans (List.length_filter_le _ _) (by omega)) hu' (by omega)
  refine wp_seq <| wp_if <| et_test <| ev_op <| ev_var rfl <| ev_int <| re_eq (shaped_int _) (shaped_int _) ⟨_, rfl, ite_b (fun _ => ?_) (fun _ => wp_next ?_)⟩
  · refine wp_seq <| wp_set <| ev_call0 <| ea_cons <| ev_var rfl <| ea_cons <| ev_var rfl <| ea_nil <| dw _ _ (by omega) (by omega) fun r u' hr hu' => ?_
    refine wp_ret <| ev_del <| ev_lcF (toD := prD) List.mem_cons_self <| ei_lstM <| ev_var rfl ⟨b, _, rfl, put_same, cs, fun q => PyData.eqv (.int (q.2 : Nat)) (.int (r : Nat)), prD, rfl, put_same, by omega, fun q _ => ⟨?_, fun _ => ev_var rfl ⟨rfl, rfl⟩⟩, b, _, put_same, ?_⟩
    · exact et_test <| ev_op <| ev_op <| ev_var rfl <| ev_int <| rx_tup rfl <| ev_var rfl <| re_eq (shaped_int _) (shaped_int _) ⟨_, rfl, rfl, rfl⟩
    · rw [hd]
      exact fin _ u' _ (Nat.le_trans (List.length_filter_le _ _) (by omega)) hu' (by omega)
  refine wp_seq <| wp_if <| et_test <| ev_op <| ev_var rfl <| ev_int <| re_eq (shaped_int _) (shaped_int _) ⟨_, rfl, ite_b (fun _ => ?_) (fun _ => wp_next ?_)⟩
  · refine wp_seq <| wp_drop <| ev_bm <| ev_var rfl ⟨ty_listM put_same, ea_cons <| ev_call0 <| ea_cons <| ev_var rfl <| ea_cons <| ev_cb <| ea_cons <| ev_var rfl <| ea_nil <| rc_lenM put_same <| ea_nil <| dw _ _ (by omega) (by omega) fun r u' hr hu' => ea_nil ?_⟩
    have hr' : r < (cs.map prD).length := by omega
    refine rm_popAt put_same (by omega) (by omega) rfl (List.getElem?_eq_getElem hr') <| wp_ret <| ev_varF rfl put_same ?_
    rw [put_put, hd]
    refine list_of (es := cs.eraseIdx r) ?_ (fin _ u' _ (Nat.le_trans (List.length_eraseIdx_le _ _) (by omega)) hu' (by omega))
    rw [map_erase]
  refine wp_ret <| ev_del <| ev_lc <| ei_lstM <| ev_var rfl ⟨b, _, rfl, put_same, fun i acc m' => ∃ u' es, SrcL u' (n + 1 + i) ∧ m' = put (put m1 a (.lst u')) b (.lst (cs.map prD)) ∧ acc = es.map prD ∧ es.length ≤ i ∧ i ≤ cs.length, ⟨u1, [], hu1, by rw [put_self hma], rfl, Nat.le_refl _, Nat.zero_le _⟩, fun i acc m' ⟨u', es, _, e, _⟩ => by rw [e]; exact put_same, ?_, ?_⟩
  · rintro i x acc m' hx ⟨u', es, hu', rfl, rfl, hl, hi⟩
    rw [List.getElem?_map, List.getElem?_map] at hx
    cases hy : cs[i]? with
    | none => rw [hy] at hx; cases hx
    | some q =>
    rw [hy] at hx
    cases hx
    have hi2 : i < cs.length := (List.getElem?_eq_some_iff.mp hy).1
    refine ⟨by rw [List.length_map]; omega, [10], by simp, gt_name <| et_test <| ev_op <| ev_call0 <| ea_cons <| ev_var rfl <| ea_cons <| ev_int <| ea_nil ⟨a, _, u', n + 1 + i, rfl, by decide, by decide, by rw [put_ne ab, put_same], hu', by omega, fun r u2 hr hu2 => ev_int <| re_eq (shaped_int _) (shaped_int _) ⟨_, rfl, ite_b (fun _ => ?_) (fun _ => ?_)⟩⟩⟩
    · rw [put_mid ab]
      exact ev_var rfl ⟨_, rfl, u2, es ++ [q], hu2, rfl, by rw [List.map_append]; rfl, by rw [List.length_append]; simp; omega, hi2⟩
    · rw [put_mid ab]
      exact ⟨u2, es, hu2, rfl, rfl, by omega, hi2⟩
  · rintro acc m' ⟨u', es, hu', rfl, rfl, hl, hi⟩
    rw [List.length_map, List.length_map] at hl hu'
    refine ⟨b, _, put_same, ?_⟩
    rw [hd]
    exact fin es u' _ (by omega) hu' (by omega)
end
end Dv

namespace Dv
open PySem L2 PyProof.Rows
/-! ### what the floors are made of -/
def lowN : List Nat → List Nat
  | [] => []
  | c :: t => (if isUp c = true then c + 32 else c) :: t
def upL : List Nat → List Nat
  | [] => []
  | c :: t => (c - 32) :: t
theorem nm_form (st sh nu : Nat) : ∃ c t, nmL st sh nu = c :: t ∧ isLo c = true ∧ t.all isLo = true ∧ t.length ≤ 5 := by
  have h1 : isLo (97 + (nu + sh) % 26) = true := by simp [isLo]; omega
  have h2 : isLo (97 + (nu / 26 + 2 * sh) % 26) = true := by simp [isLo]; omega
  unfold nmL
  generalize 97 + (nu + sh) % 26 = f at *
  generalize 97 + (nu / 26 + 2 * sh) % 26 = s at *
  have h5 : isLo 122 = true := rfl
  have h6 : isLo 120 = true := rfl
  have h7 : isLo 113 = true := rfl
  split
  · refine ⟨_, _, rfl, h1, ?_, ?_⟩ <;> split <;> simp [h2]
  · exact ⟨_, _, rfl, h2, by simp [h1], by simp⟩
  · exact ⟨_, _, rfl, h7, by simp [h1, h2, h7], by simp⟩
  · exact ⟨_, _, rfl, h1, by simp [h2, h5], by simp⟩
  · refine ⟨_, _, rfl, h1, ?_, ?_⟩
    · simp [h2]
    · simp; omega
  · exact ⟨_, _, rfl, h2, by simp [h1, h6], by simp⟩
theorem nm_inj {st sh a b : Nat} (hst : st < 6) (hsh : sh < 26) (ha : a < 144) (hb : b < 144) (h : nmL st sh a = nmL st sh b) : a = b := by
  match st, hst, h with
  | 0, _, h =>
    simp only [nmL] at h
    obtain ⟨h1, h2⟩ := List.cons.inj h
    by_cases x : 25 < a
    · by_cases y : 25 < b
      · rw [if_pos x, if_pos y] at h2
        have h3 := (List.cons.inj h2).1
        omega
      · rw [if_pos x, if_neg y] at h2; cases h2
    · by_cases y : 25 < b
      · rw [if_neg x, if_pos y] at h2; cases h2
      · omega
  | 1, _, h => simp only [nmL, List.cons.injEq] at h; omega
  | 2, _, h => simp only [nmL, List.cons.injEq] at h; omega
  | 3, _, h => simp only [nmL, List.cons.injEq] at h; omega
  | 4, _, h =>
    simp only [nmL] at h
    obtain ⟨h1, h2⟩ := List.cons.inj h
    obtain ⟨h3, h4⟩ := List.cons.inj h2
    omega
  | 5, _, h => simp only [nmL, List.cons.injEq] at h; omega
theorem flat_grid {α : Type} (f : Nat → α) (C : Nat) : ∀ R, ((List.range R).map fun i => (List.range C).map fun j => f (i * C + j)).flatten = (List.range (R * C)).map f
  | 0 => by simp
  | R + 1 => by
    rw [List.range_succ, List.map_append, List.flatten_append, flat_grid f C R, Nat.succ_mul, List.range_add, List.map_append, List.map_map]
    simp [Function.comp_def]
structure GF (R C : Nat) (fl : List (List (List Nat))) : Prop where
  r0 : 0 < R
  r1 : R ≤ 12
  c0 : 0 < C
  c1 : C ≤ 12
  len : fl.length = R
  row : ∀ r ∈ fl, r.length = C
  ok : ∀ r ∈ fl, ∀ l ∈ r, okL l = true
  nd : (fl.flatten.map lowN).Nodup
  form : ∃ st sh, st < 6 ∧ ∀ r ∈ fl, ∀ l ∈ r, ∃ nu, lowN l = nmL st sh nu
theorem upper_chr : ∀ k < 26, Txt.upper (Sx [97 + k]) = Sx [65 + k] := by decide +kernel
theorem lower_chr : ∀ k < 26, Txt.lower (Sx [65 + k]) = Sx [97 + k] := by decide +kernel
theorem upper_lo {c : Nat} (h : isLo c = true) : Txt.upper (Sx [c]) = Sx [c - 32] := by
  simp [isLo] at h
  have e : c = 97 + (c - 97) := by omega
  rw [e, upper_chr (c - 97) (by omega)]
  congr 2
  omega
theorem lower_up {c : Nat} (h : isUp c = true) : Txt.lower (Sx [c]) = Sx [c + 32] := by
  simp [isUp] at h
  have e : c = 65 + (c - 65) := by omega
  rw [e, lower_chr (c - 65) (by omega)]
  congr 2
  omega
theorem nmax_facts (st sh nu : Nat) (b : Bool) : okL (if b = true then upL (nmL st sh nu) else nmL st sh nu) = true ∧ lowN (if b = true then upL (nmL st sh nu) else nmL st sh nu) = nmL st sh nu := by
  obtain ⟨c, t, e, h1, h2, h3⟩ := nm_form st sh nu
  rw [e]
  have hc := h1
  simp [isLo] at hc
  have u1 : isUp (c - 32) = true := by simp [isUp]; omega
  have u2 : isUp c = false := by simp [isUp]; omega
  cases b with
  | true =>
    simp only [if_pos, upL]
    constructor
    · simp only [okL, u1, h2, decide_eq_true h3]; rfl
    · simp only [lowN, u1, if_pos]
      congr 1
      omega
  | false =>
    rw [if_neg Bool.false_ne_true]
    constructor
    · simp only [okL, h1, h2, decide_eq_true h3, Bool.or_true]; rfl
    · simp only [lowN, u2]
      rw [if_neg Bool.false_ne_true]
theorem shaped_pairs (es : List (Nat × Nat)) : SeqAt.shaped (.list (es.map prD)) = true := by
  have h : PyData.canLayAll0 (es.map prD) = true ∧ PyData.depthAll (es.map prD) ≤ 1 := by
    induction es with
    | nil => exact ⟨rfl, Nat.zero_le _⟩
    | cons a es ih =>
      constructor
      · rw [List.map_cons, PyData.canLayAll0, ih.1]; rfl
      · rw [List.map_cons, PyData.depthAll]
        exact Nat.max_le.mpr ⟨Nat.le_refl _, ih.2⟩
  obtain ⟨h1, h2⟩ := h
  simp [SeqAt.shaped, PyData.canLay0, PyData.depth, h1]
  omega
theorem shaped_pair (q : Nat × Nat) : SeqAt.shaped (prD q) = true := rfl
section
variable {K : PySem.W.Frag} {Pg : Program} {w : World}
def W_named : WT := fun ss m P => ∃ (a : Addr) (R C : Nat) (u : List PyData) (n : Nat), ss = [.m a, .d (.int (R : Nat)), .d (.int (C : Nat))] ∧ 0 < R ∧ R ≤ 12 ∧ 0 < C ∧ C ≤ 12 ∧ m a = some (.lst u) ∧ SrcL u n ∧ n ≤ 400000 ∧
  ∀ fl u', GF R C fl → SrcL u' (n + 2000) → P (.d (flD fl)) (put m a (.lst u'))
def t_named (K : PySem.W.Frag) (Pg : Program) (w : World) : TS :=
  (tSeq (tAsg (tCall (SpD K W_pattern) [] E0 (tCons (tVar 0) (tCons (tVar 1) (tCons (tVar 2) tNil)))) (gName 3))
    (tSeq (tAsg (tCall (SpD K W_draw) [] E0 (tCons (tVar 0) (tCons (tC (.int 6)) tNil))) (gName 4))
    (tSeq (tAsg (tCall (SpD K W_draw) [] E0 (tCons (tVar 0) (tCons (tC (.int 26)) tNil))) (gName 5))
    (tSeq (tAsg (tCall (SpD K W_shuffled) [] E0 (tCons (tVar 0) (tCons (tLstRg (tRg1 (tOp (rMulU) (tVar 1) (tVar 2)))) tNil))) (gName 6))
    (tSeq (tAsg (tLst tNil) (gName 7))
    (tSeq (tFor (iRng1 (tCons (tVar 1) tNil)) (gName 8)
    (tSeq (tAsg (tLst tNil) (gName 9))
    (tSeq (tFor (iRng1 (tCons (tVar 2) tNil)) (gName 10)
    (tSeq (tAsg (tCall (SpD K W_name) [] E0 (tCons (tVar 4) (tCons (tVar 5) (tCons (tOp (rIx K) (tVar 6) (tOp (rAddU K) (tOp (rMulU) (tVar 8) (tVar 2)) (tVar 10))) tNil)))) (gName 11))
    (tSeq (tIfS (tTest (tOp (rInU K Pg w) (tTupZ (tCons (tVar 8) (tCons (tVar 10) tNil))) (tVar 3)))
    (tAsg (tOp (rAddU K) (tM0 rUpperM (tOp (rIx K) (tVar 11) (tC (.int 0)))) (tSl (rSlU K) (tVar 11) (tPart (tC (.int 1))) tNoPart)) (gName 11))
    tNext)
    (tDrop (tBM K "list" rAppend (tVar 9) (tCons (tVar 11) tNil))))))
    (tDrop (tBM K "list" rAppend (tVar 7) (tCons (tCB (rTupleC K) (tCons (tVar 9) tNil)) tNil))))))
    (tRet (tCB (rTupleC K) (tCons (tVar 7) tNil)))))))))
theorem wp_app {ρ : Rho} {m : Sto} {k : Ko} {c : Addr} {ds : List PyData} {x : PyData} {i j : Nat} (h9 : ρ[i]? = some (some (.m c))) (h11 : ρ[j]? = some (some (.d x))) (hm : m c = some (.lst ds)) (hl : ds.length < 100000) (p : k.nx ρ (put m c (.lst (ds ++ [x])))) :
    Wp K (tDrop (tBM K "list" rAppend (tVar i) (tCons (tVar j) tNil))) ρ m k :=
  wp_drop <| ev_bm <| ev_var h9 ⟨ty_listM hm, ea_cons <| ev_var h11 <| ea_nil <| rm_append hm hl p⟩
theorem rd_named (ss : List Sl) (m : Sto) (P : PV) (h : W_named ss m P) : Wp K (t_named K Pg w) (rho ["source", "rows", "columns", "pattern", "style", "shift", "numbers", "floor", "row", "cells", "column", "name"] ss) m { nx := fun _ m' => P (.d .none) m', rt := P } := by
  obtain ⟨a, R, C, u, n, rfl, hR0, hR, hC0, hC, hm, hu, hn, p⟩ := h
  have hRC : R * C ≤ 144 := Nat.mul_le_mul hR hC
  have lU : ∀ k : Nat, (upTo k).length = k := fun k => by simp [upTo]
  refine wp_seq <| wp_set <| ev_call0 <| ea_cons <| ev_var rfl <| ea_cons <| ev_var rfl <| ea_cons <| ev_var rfl <| ea_nil ⟨a, R, C, u, n, rfl, hR0, hR, hC0, hC, hm, hu, by omega, fun es u1 hes hu1 => ?_⟩
  refine wp_seq <| wp_set <| ev_call0 <| ea_cons <| ev_var rfl <| ea_cons <| ev_int <| ea_nil ⟨a, _, u1, _, rfl, by decide, by decide, put_same, hu1, by omega, fun st u2 hst hu2 => ?_⟩
  rw [put_put]
  refine wp_seq <| wp_set <| ev_call0 <| ea_cons <| ev_var rfl <| ea_cons <| ev_int <| ea_nil ⟨a, _, u2, _, rfl, by decide, by decide, put_same, hu2, by omega, fun sh u3 hsh hu3 => ?_⟩
  rw [put_put]
  have eRC : (R : Int) * (C : Int) = ((R * C : Nat) : Int) := by simp
  refine wp_seq <| wp_set <| ev_call0 <| ea_cons <| ev_var rfl <| ea_cons <| ev_listRg <| ev_op <| ev_var rfl <| ev_var rfl <| rm_int (wide_mul (a := 30) (b := 30) (by omega) (by omega) (by decide) (by decide) (by decide)) ⟨_, rfl, ?_, ?_, ea_nil ⟨a, _, u3, _, rfl, put_same, hu3, ?_, ?_, fun os u4 hos hu4 => ?_⟩⟩
  · rw [eRC]; omega
  · rw [eRC]; omega
  · rw [eRC, Int.toNat_natCast, lU]; omega
  · rw [eRC, Int.toNat_natCast, lU]; omega
  rw [eRC, Int.toNat_natCast] at hos hu4
  rw [lU] at hu4
  obtain ⟨ns, hns, rfl⟩ := perm_map (f := fun i : Nat => PyData.int (i : Nat)) hos (upTo_map _)
  rw [put_put]
  have hnl : ns.length = R * C := by have := hns.length_eq; simpa using this
  have hst' : st < 6 := by omega
  have hsh' : sh < 26 := by omega
  let NM : Nat → List Nat := fun k => nmL st sh (ns.getD k 0)
  let B : Nat → Nat → Bool := fun i j => anyEq (prD (i, j)) (es.map prD)
  let X : Nat → Nat → List Nat := fun i j => if B i j = true then upL (NM (i * C + j)) else NM (i * C + j)
  let row : Nat → List (List Nat) := fun i => (List.range C).map (X i)
  have hlt : ∀ k, k < R * C → ns.getD k 0 < 144 := fun k hk => by
    have : ns.getD k 0 ∈ ns := by
      rw [List.getD_eq_getElem?_getD, List.getElem?_eq_getElem (by omega)]
      exact List.getElem_mem _
    have := List.mem_range.mp (hns.mem_iff.mp this)
    omega
  have hG : GF R C ((List.range R).map row) := by
    refine ⟨hR0, hR, hC0, hC, by simp, fun r hr => ?_, fun r hr l hl => ?_, ?_, st, sh, hst', fun r hr l hl => ?_⟩
    · obtain ⟨i, _, rfl⟩ := List.mem_map.mp hr
      simp [row]
    · obtain ⟨i, _, rfl⟩ := List.mem_map.mp hr
      obtain ⟨j, _, rfl⟩ := List.mem_map.mp hl
      exact (nmax_facts st sh _ _).1
    · have e : (((List.range R).map row).flatten.map lowN) = ns.map (nmL st sh) := by
        rw [List.map_flatten, List.map_map]
        have e1 : (List.map lowN ∘ row) = fun i => (List.range C).map fun j => NM (i * C + j) := by
          funext i
          show List.map lowN ((List.range C).map (X i)) = _
          rw [List.map_map]
          apply List.map_congr_left
          intro j _
          exact (nmax_facts st sh _ _).2
        rw [e1, flat_grid NM C R]
        apply List.ext_getElem?
        intro k
        rw [List.getElem?_map, List.getElem?_map]
        by_cases hk : k < R * C
        · rw [List.getElem?_range hk, List.getElem?_eq_getElem (by omega)]
          show some (nmL st sh (ns.getD k 0)) = some (nmL st sh ns[k])
          rw [List.getD_eq_getElem?_getD, List.getElem?_eq_getElem (by omega)]
          rfl
        · rw [List.getElem?_eq_none (by simpa using hk), List.getElem?_eq_none (by omega)]
          rfl
      rw [e]
      have nd : ns.Nodup := hns.nodup_iff.mpr List.nodup_range
      refine List.pairwise_map.mpr (List.Pairwise.imp_of_mem (fun {x y} hx hy hne q => ?_) nd)
      have h1 := hns.mem_iff.mp hx
      have h2 := hns.mem_iff.mp hy
      simp at h1 h2
      exact hne (nm_inj hst' hsh' (by omega) (by omega) q)
    · obtain ⟨i, _, rfl⟩ := List.mem_map.mp hr
      obtain ⟨j, _, rfl⟩ := List.mem_map.mp hl
      exact ⟨_, (nmax_facts st sh _ _).2⟩
  have fin : P (.d (flD ((List.range R).map row))) (put m a (.lst u4)) := p _ u4 hG (hu4.mono (by omega))
  clear p hu1 hu2 hu3 hu hG hos
  generalize put m a (.lst u4) = m1 at fin ⊢
  refine wp_seq <| wp_set <| ev_lstM <| ea_nil ⟨[], rfl, by simp, fun b hb => ?_⟩
  refine wp_seq <| wp_rng <| ea_cons <| ev_var rfl <| ea_nil ⟨R, fun i ρ' m' => ∃ s8 s9 s10 s11, ρ' = [some (.m a), some (.d (.int (R : Nat))), some (.d (.int (C : Nat))), some (.d (.list (es.map prD))), some (.d (.int (st : Nat))), some (.d (.int (sh : Nat))), some (.d (.list (ns.map fun i => .int (i : Nat)))), some (.m b), s8, s9, s10, s11] ∧ m' = put m1 b (.lst (((List.range i).map row).map rwD)), rfl, by omega, ⟨_, _, _, _, rfl, rfl⟩, ?_, ?_⟩
  · rintro i ρ' m' hi ⟨s8, s9, s10, s11, rfl, rfl⟩
    refine wp_post <| wp_seq <| wp_set <| ev_lstM <| ea_nil ⟨[], rfl, by simp, fun c hc => ?_⟩
    have hbc : b ≠ c := fun e => by rw [← e, put_same] at hc; cases hc
    refine wp_seq <| wp_rng <| ea_cons <| ev_var rfl <| ea_nil ⟨C, fun j ρ' m' => ∃ s10 s11, ρ' = [some (.m a), some (.d (.int (R : Nat))), some (.d (.int (C : Nat))), some (.d (.list (es.map prD))), some (.d (.int (st : Nat))), some (.d (.int (sh : Nat))), some (.d (.list (ns.map fun i => .int (i : Nat)))), some (.m b), some (.d (.int (i : Nat))), some (.m c), s10, s11] ∧ m' = put (put m1 b (.lst (((List.range i).map row).map rwD))) c (.lst (((List.range j).map (X i)).map nmD)), rfl, by omega, ⟨_, _, rfl, rfl⟩, ?_, ?_⟩
    · rintro j ρ' m' hj ⟨s10, s11, rfl, rfl⟩
      have hk : i * C + j < R * C := by
        have : (i + 1) * C ≤ R * C := Nat.mul_le_mul_right C hi
        rw [Nat.succ_mul] at this
        omega
      have hx : ns[i * C + j]? = some (ns.getD (i * C + j) 0) := by rw [List.getD_eq_getElem?_getD, List.getElem?_eq_getElem (by omega)]; rfl
      obtain ⟨c0, t0, e0, h1, h2, h3⟩ := nm_form st sh (ns.getD (i * C + j) 0)
      have el : ((List.range (j + 1)).map (X i)).map nmD = ((List.range j).map (X i)).map nmD ++ [nmD (X i j)] := by rw [List.range_succ, List.map_append, List.map_append]; rfl
      have ll : (((List.range j).map (X i)).map nmD).length < 100000 := by simp; omega
      refine wp_seq <| wp_set <| ev_call0 <| ea_cons <| ev_var rfl <| ea_cons <| ev_var rfl <| ea_cons <| ev_op <| ev_var rfl <| ev_op <| ev_op <| ev_var rfl <| ev_var rfl <| rm_int (wide_mul (a := 30) (b := 30) (by omega) (by omega) (by decide) (by decide) (by decide)) <| ev_var rfl <| ra_int <| rx_lst (atI_map (by simp) hx) <| ea_nil ⟨st, sh, _, rfl, hst', hsh', hlt _ hk, ?_⟩
      refine wp_seq <| wp_if <| et_test <| ev_op <| ev_tup <| ea_cons <| ev_var rfl <| ea_cons <| ev_var rfl <| ea_nil ⟨[_, _], rfl, by simp, ev_var rfl <| ri_lst (shaped_pair (i, j)) (shaped_pairs es) ⟨_, rfl, ite_b (fun hB => ?_) (fun hB => wp_next ?_)⟩⟩
      · have eX : X i j = (c0 - 32) :: t0 := by
          show (if B i j = true then upL (NM (i * C + j)) else NM (i * C + j)) = _
          rw [if_pos hB]
          show upL (nmL st sh _) = _
          rw [e0]
          rfl
        rw [e0]
        have hl : (Sx (c0 :: t0)).length ≤ 100000 := by rw [sx_len]; simp; omega
        refine wp_set <| ev_op <| ev_m0 <| ev_op <| ev_var rfl <| ev_int <| rx_str hl atI_zero ⟨_, rfl, rm_upper (by rw [sx_len [c0]]; simp) <| ev_sl <| ev_var rfl <| eo_some <| ev_int ⟨_, rfl, eo_no <| rz_str hl ?_⟩⟩
        show RO K (rAddU K) (.d (.str (Txt.upper (Sx [c0])))) _ _ _
        rw [upper_lo h1, cutS_tail]
        refine ra_str (by rw [sx_len, sx_len]; simp; omega) ?_
        rw [sx_app]
        refine wp_app rfl rfl put_same ll ⟨_, _, rfl, ?_⟩
        rw [put_put, el, eX]
        rfl
      · have eX : X i j = nmL st sh (ns.getD (i * C + j) 0) := by
          show (if B i j = true then upL (NM (i * C + j)) else NM (i * C + j)) = _
          rw [if_neg (by rw [show B i j = false from hB]; exact Bool.false_ne_true)]
        refine wp_app rfl rfl put_same ll ⟨_, _, rfl, ?_⟩
        rw [put_put, el, eX]
    · rintro ρ' m' ⟨s10, s11, rfl, rfl⟩
      refine wp_drop <| ev_bm <| ev_var rfl ⟨ty_listM (by rw [put_ne hbc, put_same]), ea_cons <| ev_cb <| ea_cons <| ev_var rfl <| ea_nil <| rc_tupleM put_same <| ea_nil <| rm_append (by rw [put_ne hbc, put_same]) (by simp; omega) ⟨c, .lst (((List.range C).map (X i)).map nmD), ?_, _, _, _, _, rfl, ?_⟩⟩
      · rw [put_ne (Ne.symm hbc), put_same]
      · have hc1 : m1 c = none := by rw [put_ne (Ne.symm hbc)] at hc; exact hc
        rw [put_mid hbc, del_put (by rw [put_ne (Ne.symm hbc)]; exact hc1), List.range_succ, List.map_append, List.map_append]
        rfl
  · rintro ρ' m' ⟨s8, s9, s10, s11, rfl, rfl⟩
    refine wp_ret <| ev_del <| ev_cb <| ea_cons <| ev_var rfl <| ea_nil <| rc_tupleM put_same ⟨b, _, put_same, ?_⟩
    rw [del_put hb]
    exact fin
end
end Dv

namespace Dv
open PySem L2 PyProof.Rows
theorem inj_of {α β : Type} {f : α → β} : ∀ {xs : List α}, (xs.map f).Nodup → ∀ {x y : α}, x ∈ xs → y ∈ xs → f x = f y → x = y
  | [], _, _, _, h, _, _ => by cases h
  | a :: xs, nd, x, y, hx, hy, e => by
    rw [List.map_cons, List.nodup_cons] at nd
    rcases List.mem_cons.mp hx with h1 | h1
    · rcases List.mem_cons.mp hy with h2 | h2
      · rw [h1, h2]
      · subst h1
        exact absurd (e ▸ List.mem_map_of_mem h2) nd.1
    · rcases List.mem_cons.mp hy with h2 | h2
      · subst h2
        exact absurd (e.symm ▸ List.mem_map_of_mem h1) nd.1
      · exact inj_of nd.2 h1 h2 e
theorem nd_of {α β : Type} {f : α → β} {xs : List α} (h : (xs.map f).Nodup) : xs.Nodup := (List.pairwise_map.mp h).imp fun {a b} q e => q (congrArg f e)
theorem nd_map {α β : Type} {g : α → β} {xs : List α} (nd : xs.Nodup) (h : ∀ x y, x ∈ xs → y ∈ xs → g x = g y → x = y) : (xs.map g).Nodup := List.pairwise_map.mpr (nd.imp_of_mem fun {x y} hx hy hne e => hne (h x y hx hy e))
theorem GF.vf {R C : Nat} {fl : List (List (List Nat))} (g : GF R C fl) : VF fl where
  pos := fun e => by have := g.len; rw [e] at this; simp at this; have := g.r0; omega
  most := by rw [g.len]; exact g.r1
  cols := ⟨C, g.c0, g.c1, g.row⟩
  ok := g.ok
  nd := nd_of g.nd
theorem okL_ne {l : List Nat} (h : okL l = true) : l ≠ [] := fun e => by rw [e] at h; cases h
theorem VF.named {fl : List (List (List Nat))} (v : VF fl) : named fl := fun r hr l hl => ⟨okL_ne (v.ok r hr l hl), okL_tx (v.ok r hr l hl)⟩
/-- another item takes the name of a leader in lower case -/
def twin (o t l : List Nat) : List Nat := if l = o then t else l
theorem GF.twinned {R C : Nat} {fl : List (List (List Nat))} (g : GF R C fl) {c : Nat} {t o : List Nat} (hl : (c :: t) ∈ fl.flatten) (hu : isUp c = true) (ho : o ∈ fl.flatten) (hno : upN o = false) : VF (fl.map fun r => r.map (twin o ((c + 32) :: t))) := by
  have hok : ∀ l ∈ fl.flatten, okL l = true := fun l h => by
    obtain ⟨r, hr, h2⟩ := List.mem_flatten.mp h
    exact g.ok r hr l h2
  have hlow : isUp (c + 32) = false := by simp [isUp] at hu ⊢; omega
  have hlo : isLo (c + 32) = true := by simp [isUp] at hu; simp [isLo]; omega
  have elow : lowN ((c + 32) :: t) = lowN (c :: t) := by simp only [lowN, hlow, hu, if_pos]; rw [if_neg Bool.false_ne_true]
  have notin : ∀ y ∈ fl.flatten, y ≠ (c + 32) :: t ∨ y = o ∨ True := fun _ _ => .inr (.inr trivial)
  have key : ∀ y ∈ fl.flatten, (c + 32) :: t = y → False := fun y hy e => by
    have h1 := inj_of g.nd hl hy (by rw [← e, elow])
    rw [← e] at h1
    have := (List.cons.inj h1).1
    omega
  refine ⟨fun e => ?_, ?_, ⟨C, g.c0, g.c1, fun r hr => ?_⟩, fun r hr l h => ?_, ?_⟩
  · have h2 := congrArg List.length e
    rw [List.length_map, g.len] at h2
    have := g.r0
    simp at h2
    omega
  · rw [List.length_map, g.len]; exact g.r1
  · obtain ⟨r', hr', rfl⟩ := List.mem_map.mp hr
    rw [List.length_map]
    exact g.row r' hr'
  · obtain ⟨r', hr', rfl⟩ := List.mem_map.mp hr
    obtain ⟨l', hl', rfl⟩ := List.mem_map.mp h
    unfold twin
    split
    · have h1 := hok _ hl
      simp only [okL] at h1 ⊢
      rw [hlo, Bool.or_true]
      simp at h1
      simp [h1]
      exact h1.2.2
    · exact g.ok r' hr' l' hl'
  · have e : (fl.map fun r => r.map (twin o ((c + 32) :: t))).flatten = fl.flatten.map (twin o ((c + 32) :: t)) := by rw [List.map_flatten]
    rw [e]
    refine nd_map (nd_of g.nd) fun x y hx hy e => ?_
    unfold twin at e
    by_cases h1 : x = o
    · by_cases h2 : y = o
      · rw [h1, h2]
      · rw [if_pos h1, if_neg h2] at e
        exact (key y hy e).elim
    · by_cases h2 : y = o
      · rw [if_neg h1, if_pos h2] at e
        exact (key x hx e.symm).elim
      · rw [if_neg h1, if_neg h2] at e
        exact e
section
variable {K : PySem.W.Frag} {Pg : Program} {w : World}
def W_floor : WT := fun ss m P => ∃ (a : Addr) (most : Nat) (u : List PyData) (n : Nat), ss = [.m a, .d (.int (most : Nat))] ∧ 0 < most ∧ most ≤ 10000 ∧ m a = some (.lst u) ∧ SrcL u n ∧ n ≤ 300000 ∧
  ∀ R C fl u', GF R C fl → R * C ≤ most → SrcL u' (n + 3000) → P (.d (flD fl)) (put m a (.lst u'))
def t_floor (K : PySem.W.Frag) (Pg : Program) (w : World) : TS :=
  (tSeq (tAsg (tOp (rAddU K) (tC (.int 1)) (tCall (SpD K W_draw) [] E0 (tCons (tVar 0) (tCons (tCB (rMinC) (tCons (tC (.int 12)) (tCons (tVar 1) tNil))) tNil)))) (gName 2))
    (tSeq (tAsg (tOp (rAddU K) (tC (.int 1)) (tCall (SpD K W_draw) [] E0 (tCons (tVar 0) (tCons (tCB (rMinC) (tCons (tC (.int 12)) (tCons (tOp (rI CDivW fun i j => .int (i / j)) (tVar 1) (tVar 2)) tNil))) tNil)))) (gName 3))
    (tRet (tCall (SpD K W_named) [] E0 (tCons (tVar 0) (tCons (tVar 2) (tCons (tVar 3) tNil)))))))
theorem rd_floor (ss : List Sl) (m : Sto) (P : PV) (h : W_floor ss m P) : Wp K (t_floor K Pg w) (rho ["source", "most", "rows", "columns"] ss) m { nx := fun _ m' => P (.d .none) m', rt := P } := by
  obtain ⟨a, most, u, n, rfl, h0, h1, hm, hu, hn, p⟩ := h
  have m1 : 0 < (if (most : Int) < 12 then (most : Int) else 12) ∧ (if (most : Int) < 12 then (most : Int) else 12) ≤ 12 ∧ (if (most : Int) < 12 then (most : Int) else 12) ≤ most := by split <;> omega
  refine wp_seq <| wp_set <| ev_op <| ev_int <| ev_call0 <| ea_cons <| ev_var rfl <| ea_cons <| ev_cb <| ea_cons <| ev_int <| ea_cons <| ev_var rfl <| ea_nil <| rc_min2 <| ea_nil ⟨a, _, u, n, rfl, m1.1, by omega, hm, hu, by omega, fun r u1 hr hu1 => ra_int ?_⟩
  have e1 : (1 : Int) + (r : Int) = ((r + 1 : Nat) : Int) := by omega
  rw [e1]
  have hR : r + 1 ≤ most := by omega
  have hq0 : 1 ≤ most / (r + 1) := (Nat.le_div_iff_mul_le (by omega)).mpr (by omega)
  have eq : (most : Int) / ((r + 1 : Nat) : Int) = ((most / (r + 1) : Nat) : Int) := by simp
  have m2 : 0 < (if ((most / (r + 1) : Nat) : Int) < 12 then ((most / (r + 1) : Nat) : Int) else 12) ∧ (if ((most / (r + 1) : Nat) : Int) < 12 then ((most / (r + 1) : Nat) : Int) else 12) ≤ 12 ∧ (if ((most / (r + 1) : Nat) : Int) < 12 then ((most / (r + 1) : Nat) : Int) else 12) ≤ ((most / (r + 1) : Nat) : Int) := by split <;> omega
  refine wp_seq <| wp_set <| ev_op <| ev_int <| ev_call0 <| ea_cons <| ev_var rfl <| ea_cons <| ev_cb <| ea_cons <| ev_int <| ea_cons <| ev_op <| ev_var rfl <| ev_var rfl <| rd_int (wide_div (b := 100) (by omega) (by omega) (by decide) (by decide)) <| ea_nil <| rc_min2 <| ?_
  rw [eq]
  refine ea_nil ⟨a, _, u1, n + 1, rfl, m2.1, by omega, put_same, hu1, by omega, fun s u2 hs hu2 => ra_int ?_⟩
  rw [put_put]
  have e2 : (1 : Int) + (s : Int) = ((s + 1 : Nat) : Int) := by omega
  rw [e2]
  refine wp_ret <| ev_call0 <| ea_cons <| ev_var rfl <| ea_cons <| ev_var rfl <| ea_cons <| ev_var rfl <| ea_nil ⟨a, r + 1, s + 1, u2, _, rfl, by omega, by omega, by omega, by omega, put_same, hu2, by omega, fun fl u3 hG hu3 => ?_⟩
  rw [put_put]
  refine p _ _ fl u3 hG ?_ (hu3.mono (by omega))
  have h3 : s + 1 ≤ most / (r + 1) := by omega
  have := (Nat.le_div_iff_mul_le (show 0 < r + 1 by omega)).mp h3
  rw [Nat.mul_comm]
  exact this
def W_twinned : WT := fun ss m P => ∃ (a : Addr) (R C : Nat) (fl : List (List (List Nat))) (u : List PyData) (n : Nat), ss = [.m a, .d (flD fl)] ∧ GF R C fl ∧ m a = some (.lst u) ∧ SrcL u n ∧ n ≤ 400000 ∧
  ∀ fl' u', VF fl' → SrcL u' (n + 3) → P (.d (flD fl')) (put m a (.lst u'))
def t_twinned (K : PySem.W.Frag) (Pg : Program) (w : World) : TS :=
  (tSeq (tAsg (tCall (SpD K W_leaders) [] E0 (tCons (tVar 1) tNil)) (gName 2))
    (tSeq (tAsg (tLst tNil) (gName 3))
    (tSeq (tFor (iSeqU K (tVar 1)) (gName 4)
    (tAsg (tOp (rAddU K) (tVar 3) (tLc (iSeqU K (tVar 4)) (gName 8) (tTest (tOp (rNotInU K Pg w) (tVar 8) (tVar 2))) (tVar 8) [8])) (gName 3)))
    (tSeq (tIfS (tOr (tTest (tOp (rEqU K) (tVar 2) (tLst tNil))) (tOr (tTest (tOp (rEqU K) (tVar 3) (tLst tNil))) (tTest (tOp (rI0 fun i j => .bl (decide (j < i))) (tCall (SpD K W_draw) [] E0 (tCons (tVar 0) (tCons (tC (.int 3)) tNil))) (tC (.int 0))))))
    (tRet (tVar 1))
    tNext)
    (tSeq (tAsg (tOp (rIx K) (tVar 2) (tCall (SpD K W_draw) [] E0 (tCons (tVar 0) (tCons (tCB (rLenC K) (tCons (tVar 2) tNil)) tNil)))) (gName 5))
    (tSeq (tAsg (tOp (rIx K) (tVar 3) (tCall (SpD K W_draw) [] E0 (tCons (tVar 0) (tCons (tCB (rLenC K) (tCons (tVar 3) tNil)) tNil)))) (gName 6))
    (tSeq (tAsg (tOp (rAddU K) (tM0 rLowerM (tOp (rIx K) (tVar 5) (tC (.int 0)))) (tSl (rSlU K) (tVar 5) (tPart (tC (.int 1))) tNoPart)) (gName 7))
    (tRet (tCB (rTupleC K) (tCons (tLc (iSeqU K (tVar 1)) (gName 4) tYes (tCB (rTupleC K) (tCons (tLc (iSeqU K (tVar 4)) (gName 8) tYes (tIf (tTest (tOp (rEqU K) (tVar 8) (tVar 6))) (tVar 7) (tVar 8)) [8]) tNil)) [4]) tNil))))))))))
theorem eqv_nil (ds : List PyData) : PyData.eqv (.list ds) (.list []) = ds.isEmpty := by
  cases ds with
  | nil => rfl
  | cons a b => rfl
theorem filt_map {α : Type} {G : α → Bool} {f : α → PyData} (xs : List α) : (xs.filter G).map f = (xs.filter G).map f := rfl
theorem rd_twinned (ss : List Sl) (m : Sto) (P : PV) (h : W_twinned ss m P) : Wp K (t_twinned K Pg w) (rho ["source", "floor", "leaders", "others", "cells", "leader", "other", "twin", "name"] ss) m { nx := fun _ m' => P (.d .none) m', rt := P } := by
  obtain ⟨a, R, C, fl, u, n, rfl, g, hm, hu, hn, p⟩ := h
  have v := g.vf
  have hS := v.short
  have hN := v.named
  refine wp_seq <| wp_set <| ev_call0 <| ea_cons <| ev_var rfl <| ea_nil ⟨fl, rfl, hN, hS, fun ys hys _ => ?_⟩
  obtain ⟨zs, hzs, rfl⟩ := perm_map (f := Sx) hys rfl
  rw [← nms_str]
  have hzm : ∀ l, l ∈ zs ↔ (l ∈ fl.flatten ∧ upN l = true) := fun l => by rw [hzs.mem_iff, List.mem_filter]
  have hzT : ∀ l ∈ zs, Tx l := fun l hl => by
    obtain ⟨r, hr, h2⟩ := List.mem_flatten.mp ((hzm l).mp hl).1
    exact (hN r hr l h2).2
  refine wp_seq <| wp_set <| ev_lst <| ea_nil ⟨[], rfl, by simp, wp_seq <| wp_forL (toD := rwD) <| ei_tup <| ev_var rfl ⟨_, rfl, fl, fun i ρ' m' => ∃ s4, ρ' = [some (.m a), some (.d (flD fl)), some (.d (.list (zs.map nmD))), some (.d (.list (((fl.take i).flatten.filter fun l => !decide (l ∈ zs)).map nmD))), s4, none, none, none, none] ∧ m' = m, rfl, ⟨_, rfl, rfl⟩, fun _ _ _ _ => trivial, ?_, ?_⟩⟩
  · rintro i r ρ' m' hr ⟨s4, rfl, rfl⟩
    have hmr : r ∈ fl := List.mem_of_getElem? hr
    refine wp_set <| ev_op <| ev_var rfl <| ev_lcF (toD := nmD) List.mem_cons_self <| ei_tup <| ev_var rfl ⟨_, rfl, r, fun l => !decide (l ∈ zs), nmD, rfl, trivial, ?_, fun l hl => ⟨?_, fun _ => ev_var rfl ⟨rfl, rfl⟩⟩, ?_⟩
    · have := (hS.2 r hmr).1; omega
    · refine et_test <| ev_op <| ev_var rfl <| ev_var rfl <| rni_lst (shaped_str (hN r hmr l hl).2) (shaped_names hzT).2 ⟨_, rfl, ?_, rfl⟩
      rw [anyEq_names]
    · refine ra_lst ?_ ⟨some (.d (rwD r)), ?_, rfl⟩
      · have a1 := flat_len hS (fl.take i) fun r hr => List.mem_of_mem_take hr
        have a2 : (fl.take i).length ≤ 100 := by rw [List.length_take]; have := hS.1; omega
        have a3 := (hS.2 r hmr).1
        have a4 := List.length_filter_le (fun l => !decide (l ∈ zs)) (fl.take i).flatten
        have a5 := List.length_filter_le (fun l => !decide (l ∈ zs)) r
        rw [List.length_map, List.length_map]
        omega
      · rw [take_flat hr, List.filter_append, List.map_append]
        rfl
  rintro ρ' m' ⟨s4, rfl, rfl⟩
  rw [List.take_of_length_le (Nat.le_refl _)]
  have hos : ∀ l ∈ fl.flatten.filter (fun l => !decide (l ∈ zs)), l ∈ fl.flatten ∧ upN l = false := fun l hl => by
    obtain ⟨h1, h2⟩ := List.mem_filter.mp hl
    refine ⟨h1, ?_⟩
    have h3 : l ∉ zs := by simpa using h2
    rw [hzm] at h3
    cases hh : upN l with
    | false => rfl
    | true => exact absurd ⟨h1, hh⟩ h3
  have hol : (fl.flatten.filter fun l => !decide (l ∈ zs)).length ≤ 100000 := by
    have a1 := flat_len hS fl fun r hr => hr
    have a2 := hS.1
    have := List.length_filter_le (fun l => !decide (l ∈ zs)) fl.flatten
    omega
  have hzl : zs.length ≤ 100000 := by
    have a0 := hzs.length_eq
    have a1 := flat_len hS fl fun r hr => hr
    have a2 := hS.1
    have := List.length_filter_le upN fl.flatten
    omega
  revert hos hol
  generalize (fl.flatten.filter fun l => !decide (l ∈ zs)) = os
  intro hos hol
  have hoT : ∀ l ∈ os, Tx l := fun l hl => by
    obtain ⟨r, hr, h2⟩ := List.mem_flatten.mp (hos l hl).1
    exact (hN r hr l h2).2
  have keep : P (.d (flD fl)) m' := by
    have := p fl u v (hu.mono (by omega))
    rw [put_self hm] at this
    exact this
  refine wp_seq <| wp_if <| et_or <| et_test <| ev_op <| ev_var rfl <| ev_lst <| ea_nil ⟨[], rfl, by simp, re_eq (shaped_names hzT).2 rfl ⟨_, rfl, ite_b (fun h1 => ?_) (fun h1 => ?_)⟩⟩
  · exact ite_b (fun _ => wp_ret <| ev_var rfl keep) (fun q => nomatch q)
  refine et_or <| et_test <| ev_op <| ev_var rfl <| ev_lst <| ea_nil ⟨[], rfl, by simp, re_eq (shaped_names hoT).2 rfl ⟨_, rfl, ite_b (fun h2 => ?_) (fun h2 => ?_)⟩⟩
  · exact ite_b (fun _ => wp_ret <| ev_var rfl keep) (fun q => nomatch q)
  refine et_test <| ev_op <| ev_call0 <| ea_cons <| ev_var rfl <| ea_cons <| ev_int <| ea_nil ⟨a, _, u, n, rfl, by decide, by decide, hm, hu, by omega, fun r0 u1 _ hu1 => ev_int <| rl_gt ⟨_, rfl, ite_b (fun _ => ?_) (fun _ => wp_next ?_)⟩⟩
  · exact wp_ret <| ev_var rfl <| p fl u1 v (hu1.mono (by omega))
  rw [eqv_nil] at h1 h2
  have z0 : 0 < zs.length := by cases zs with
    | nil => cases h1
    | cons _ _ => simp
  have o0 : 0 < os.length := by cases os with
    | nil => cases h2
    | cons _ _ => simp
  refine wp_seq <| wp_set <| ev_op <| ev_var rfl <| ev_call0 <| ea_cons <| ev_var rfl <| ea_cons <| ev_cb <| ea_cons <| ev_var rfl <| ea_nil <| rc_lenL <| ea_nil ⟨a, _, u1, _, rfl, by rw [List.length_map]; omega, by rw [List.length_map]; omega, put_same, hu1, by omega, fun i u2 hi hu2 => ?_⟩
  rw [List.length_map] at hi
  have hil : i < zs.length := by omega
  refine rx_lst (atI_map rfl (List.getElem?_eq_getElem hil)) ?_
  rw [put_put]
  refine wp_seq <| wp_set <| ev_op <| ev_var rfl <| ev_call0 <| ea_cons <| ev_var rfl <| ea_cons <| ev_cb <| ea_cons <| ev_var rfl <| ea_nil <| rc_lenL <| ea_nil ⟨a, _, u2, _, rfl, by rw [List.length_map]; omega, by rw [List.length_map]; omega, put_same, hu2, by omega, fun j u3 hj hu3 => ?_⟩
  rw [List.length_map] at hj
  have hjl : j < os.length := by omega
  refine rx_lst (atI_map rfl (List.getElem?_eq_getElem hjl)) ?_
  rw [put_put]
  obtain ⟨lm, lu⟩ := (hzm _).mp (List.getElem_mem hil)
  have lT := hzT _ (List.getElem_mem hil)
  obtain ⟨om, ou⟩ := hos _ (List.getElem_mem hjl)
  have oT := hoT _ (List.getElem_mem hjl)
  generalize zs[i] = l at lm lu lT ⊢
  generalize os[j] = o at om ou oT ⊢
  cases l with
  | nil => cases lu
  | cons c t =>
  have hc : isUp c = true := lu
  have hl : (Sx (c :: t)).length ≤ 100000 := by rw [sx_len]; have := lT.1; omega
  refine wp_seq <| wp_set <| ev_op <| ev_m0 <| ev_op <| ev_var rfl <| ev_int <| rx_str hl atI_zero ⟨_, rfl, rm_lower (by rw [sx_len [c]]; simp) <| ev_sl <| ev_var rfl <| eo_some <| ev_int ⟨_, rfl, eo_no <| rz_str hl ?_⟩⟩
  show RO K (rAddU K) (.d (.str (Txt.lower (Sx [c])))) _ _ _
  rw [lower_up hc, cutS_tail]
  refine ra_str (by rw [sx_len, sx_len]; have := lT.1; simp at this ⊢; omega) ?_
  rw [sx_app]
  have tT : Tx ((c + 32) :: t) := by
    refine ⟨by have := lT.1; simpa using this, fun d hd => ?_⟩
    rcases List.mem_cons.mp hd with e | e
    · simp [isUp] at hc; omega
    · exact lT.2 d (List.mem_cons_of_mem _ e)
  refine wp_ret <| ev_cb <| ea_cons <| ev_lcF (toD := rwD) List.mem_cons_self <| ei_tup <| ev_var rfl ⟨_, rfl, fl, fun _ => true, fun r => rwD (r.map (twin o ((c + 32) :: t))), rfl, trivial, by have := hS.1; omega, fun r hr => ⟨et_yes ⟨rfl, rfl⟩, fun _ => ?_⟩, ?_⟩
  · refine ev_cb <| ea_cons <| ev_lcF (toD := nmD) List.mem_cons_self <| ei_tup <| ev_var rfl ⟨_, rfl, r, fun _ => true, fun l => nmD (twin o ((c + 32) :: t) l), rfl, trivial, by have := (hS.2 r hr).1; omega, fun l hl => ⟨et_yes ⟨rfl, rfl⟩, fun _ => ?_⟩, ?_⟩
    · refine ev_if <| et_test <| ev_op <| ev_var rfl <| ev_var rfl <| re_eq (shaped_str (hN r hr l hl).2) (shaped_str oT) ⟨_, rfl, ite_b (fun q => ev_var rfl ⟨?_, rfl⟩) (fun q => ev_var rfl ⟨?_, rfl⟩)⟩
      · rw [eqv_nm] at q
        exact congrArg (fun z => Sl.d (nmD z)) (if_pos (of_decide_eq_true q)).symm
      · rw [eqv_nm] at q
        exact congrArg (fun z => Sl.d (nmD z)) (if_neg (of_decide_eq_false q)).symm
    · refine ea_nil <| rc_tupleL ⟨?_, rfl⟩
      rw [List.filter_eq_self.mpr (fun _ _ => rfl)]
      show Sl.d (.tuple _) = .d (.tuple _)
      rw [List.map_map]
      rfl
  · refine ea_nil <| rc_tupleL ?_
    rw [List.filter_eq_self.mpr (fun _ _ => rfl)]
    have e : (fl.map fun r => rwD (r.map (twin o ((c + 32) :: t)))) = (fl.map fun r => r.map (twin o ((c + 32) :: t))).map rwD := by rw [List.map_map]; rfl
    rw [e]
    exact p _ u3 (g.twinned lm hc om ou) hu3
end
end Dv

namespace Dv
open PySem L2 PyProof.Rows
/-! ### one sorted list -/
abbrev geC (a b : List Nat) : Prop := Spec.ltCps b a = false
theorem ge_trans : ∀ {a b c : List Nat}, geC a b → geC b c → geC a c
  | [], b, c, h1, h2 => by
    cases c with
    | nil => rfl
    | cons z c => rfl
  | x :: a, b, c, h1, h2 => by
    cases b with
    | nil => simp [geC, Spec.ltCps] at h1
    | cons y b =>
      cases c with
      | nil => simp [geC, Spec.ltCps] at h2
      | cons z c =>
        simp only [geC, Spec.ltCps, Bool.or_eq_false_iff, decide_eq_false_iff_not, Bool.and_eq_false_iff, beq_eq_false_iff_ne] at h1 h2 ⊢
        refine ⟨by omega, ?_⟩
        by_cases e : z = x
        · subst e
          right
          have e1 : y = z := by omega
          subst e1
          have h3 := h1.2.resolve_left (fun q => q rfl)
          have h4 := h2.2.resolve_left (fun q => q rfl)
          exact ge_trans (a := a) (b := b) (c := c) h3 h4
        · exact .inl e
theorem ge_anti : ∀ {a b : List Nat}, geC a b → geC b a → a = b
  | [], b, h1, h2 => by
    cases b with
    | nil => rfl
    | cons y b => simp [geC, Spec.ltCps] at h2
  | x :: a, b, h1, h2 => by
    cases b with
    | nil => simp [geC, Spec.ltCps] at h1
    | cons y b =>
      simp only [geC, Spec.ltCps, Bool.or_eq_false_iff, decide_eq_false_iff_not, Bool.and_eq_false_iff, beq_eq_false_iff_ne] at h1 h2
      have e : x = y := by omega
      subst e
      rw [ge_anti (h1.2.resolve_left (fun q => q rfl)) (h2.2.resolve_left (fun q => q rfl))]
theorem rising_pw : ∀ {r : List Str} {x : Str}, risingS x r = true → (∀ y ∈ r, geC x.cps.toList y.cps.toList) ∧ r.Pairwise fun a b => geC a.cps.toList b.cps.toList
  | [], x, _ => ⟨fun _ h => (by cases h), .nil⟩
  | y :: r, x, h => by
    rw [risingS.eq_2, Bool.and_eq_true] at h
    obtain ⟨h1, h2⟩ := h
    obtain ⟨a1, a2⟩ := rising_pw h2
    have g : geC x.cps.toList y.cps.toList := by simpa using h1
    refine ⟨fun z hz => ?_, .cons a1 a2⟩
    rcases List.mem_cons.mp hz with e | e
    · rw [e]; exact g
    · exact ge_trans g (a1 z e)
theorem sorted_pw {ys : List Str} (h : sortedS ys = true) : ys.Pairwise fun a b => geC a.cps.toList b.cps.toList := by
  cases ys with
  | nil => exact .nil
  | cons x r => exact .cons (rising_pw h).1 (rising_pw h).2
theorem pw_unique : ∀ {xs ys : List Str}, xs.Pairwise (fun a b => geC a.cps.toList b.cps.toList) → ys.Pairwise (fun a b => geC a.cps.toList b.cps.toList) → xs.Perm ys → xs = ys
  | [], ys, _, _, p => by rw [List.nil_perm.mp p]
  | x :: xs, [], _, _, p => by cases List.perm_nil.mp p
  | x :: xs, y :: ys, hx, hy, p => by
    obtain ⟨x1, x2⟩ := List.pairwise_cons.mp hx
    obtain ⟨y1, y2⟩ := List.pairwise_cons.mp hy
    have e : x = y := by
      have m1 : x ∈ y :: ys := p.mem_iff.mp List.mem_cons_self
      have m2 : y ∈ x :: xs := p.mem_iff.mpr List.mem_cons_self
      rcases List.mem_cons.mp m1 with e | e
      · exact e
      · rcases List.mem_cons.mp m2 with e2 | e2
        · exact e2.symm
        · have := ge_anti (x1 y e2) (y1 x e)
          rw [← sx_of x, ← sx_of y, this]
    subst e
    rw [pw_unique x2 y2 ((List.perm_cons x).mp p)]
theorem sort_one {xs ys zs : List Str} (h1 : xs.Perm zs) (h2 : sortedS xs = true) (h3 : ys.Perm zs) (h4 : sortedS ys = true) : xs = ys := pw_unique (sorted_pw h2) (sorted_pw h4) (h1.trans h3.symm)
/-! ### what may be shown -/
theorem shown_names {zs : List (List Nat)} (h : ∀ l ∈ zs, Tx l) (hl : zs.length ≤ 500) : PyData.showable (.tuple (zs.map nmD)) = true ∧ PyData.hasDict (.tuple (zs.map nmD)) = false ∧ SeqAt.shaped (.tuple (zs.map nmD)) = true ∧ (PyData.shown (.tuple (zs.map nmD))).length ≤ sizeLine := by
  have hA : ∀ zs : List (List Nat), (∀ l ∈ zs, Tx l) → PyData.showableAll (zs.map nmD) = true ∧ PyData.hasDictAll (zs.map nmD) = false ∧ PyData.leavesShortAll 13 (zs.map nmD) = true ∧ PyData.weightAll (zs.map nmD) ≤ zs.length * 2001 := by
    intro zs
    induction zs with
    | nil => intro _; exact ⟨rfl, rfl, rfl, Nat.le_refl _⟩
    | cons a zs ih =>
      intro h
      obtain ⟨i1, i2, i3, i4⟩ := ih fun l hl => h l (List.mem_cons_of_mem _ hl)
      have ha := h a List.mem_cons_self
      refine ⟨?_, ?_, ?_, ?_⟩
      · rw [List.map_cons, PyData.showableAll, i1]; rfl
      · rw [List.map_cons, PyData.hasDictAll, i2]; rfl
      · rw [List.map_cons, PyData.leavesShortAll, i3, Bool.and_true]
        show (Sx a).cps.toList.all (fun c => decide (c < 16 ^ 8)) = true
        simp only [List.all_eq_true, decide_eq_true_eq]
        intro c hc
        have := ha.2 c (by simpa using hc)
        omega
      · rw [List.map_cons, PyData.weightAll]
        have : PyData.weight (nmD a) = a.length := by show (Sx a).cps.size = _; simp
        have h1 := ha.1
        rw [this, List.length_cons, Nat.succ_mul]
        omega
  obtain ⟨a1, a2, a3, a4⟩ := hA zs h
  refine ⟨a1, a2, (shaped_names h).1, PyData.shown_fits (B := 13) (by decide) (by decide) a3 ?_⟩
  show PyData.weightAll (zs.map nmD) ≤ 2 ^ 20
  have : zs.length * 2001 ≤ 500 * 2001 := Nat.mul_le_mul_right _ hl
  omega
theorem shown_pair : ∀ i < 12, ∀ j < 12, (PyData.shown (prD (i, j))).length ≤ 100 ∧ PyData.showable (prD (i, j)) = true := by decide +kernel
theorem shown_pair' {i j : Nat} (hi : i < 12) (hj : j < 12) : PyData.showable (prD (i, j)) = true ∧ PyData.hasDict (prD (i, j)) = false ∧ SeqAt.shaped (prD (i, j)) = true ∧ (PyData.shown (prD (i, j))).length ≤ sizeLine := by
  obtain ⟨h1, h2⟩ := shown_pair i hi j hj
  exact ⟨h2, rfl, rfl, by rw [sizeLine_eq]; omega⟩
section
variable {K : PySem.W.Frag} {Pg : Program} {w : World}
def t_law2 (K : PySem.W.Frag) (Pg : Program) (w : World) : TS :=
  (tSeq (tFor (iRng1 (tCons (tCB (rMaxC) (tCons (tC (.int 1)) (tCons (tCB (rMinC) (tCons (tC (.int 4)) (tCons (tCB (rLenC K) (tCons (tVar 0) tNil)) tNil))) tNil))) tNil)) (gName 1)
    (tSeq (tAsg (tCall (SpD K W_source) [] E0 (tCons (tVar 0) (tCons (tVar 1) tNil))) (gName 2))
    (tSeq (tAsg (tCall (SpD K W_twinned) [] E0 (tCons (tVar 2) (tCons (tCall (SpD K W_floor) [] E0 (tCons (tVar 2) (tCons (tC (.int 144)) tNil))) tNil))) (gName 3))
    (tSeq (tFor (iRng1 (tCons (tC (.int 2)) tNil)) (gName 4)
    (tIfS (tOr (tTest (tOp (rNotN0) (tCall (SpD K W_check_floor) [] E0 (tCons (tVar 3) tNil)) (tC .non))) (tTest (tOp (rNeU K) (tCB (rRepr K) (tCons (tCall (SpD K W_leaders_of) [] E0 (tCons (tVar 3) tNil)) tNil)) (tCB (rRepr K) (tCons (tCB (rTupleC K) (tCons (tCall (SpD K W_leaders) [] E0 (tCons (tVar 3) tNil)) tNil)) tNil)))))
    (tRet (tC (.bl false)))
    tNext))
    (tFor (iRng1 (tCons (tCB (rLenC K) (tCons (tVar 3) tNil)) tNil)) (gName 5)
    (tFor (iRng1 (tCons (tCB (rLenC K) (tCons (tOp (rIx K) (tVar 3) (tC (.int 0))) tNil)) tNil)) (gName 6)
    (tIfS (tTest (tOp (rNeU K) (tCB (rRepr K) (tCons (tCall (SpD K W_locate) [] E0 (tCons (tVar 3) (tCons (tOp (rIx K) (tOp (rIx K) (tVar 3) (tVar 5)) (tVar 6)) tNil))) tNil)) (tCB (rRepr K) (tCons (tTupZ (tCons (tVar 5) (tCons (tVar 6) tNil))) tNil))))
    (tRet (tC (.bl false)))
    tNext)))))))
    (tRet (tOp (rEqU K) (tC (.int 12)) (tC (.int 12)))))
theorem turns_ok {k n : Nat} (hn : n ≤ 63) (hk : k ≤ 10) : ∃ t : Nat, t ≤ 100 ∧ (if (if (n : Int) < (k : Int) then (n : Int) else (k : Int)) > (1 : Int) then (if (n : Int) < (k : Int) then (n : Int) else (k : Int)) else (1 : Int)) = (t : Int) := by
  refine ⟨(if (if (n : Int) < (k : Int) then (n : Int) else (k : Int)) > (1 : Int) then (if (n : Int) < (k : Int) then (n : Int) else (k : Int)) else (1 : Int)).toNat, ?_, ?_⟩
  · split <;> split <;> omega
  · split <;> split <;> omega
theorem rd_law2 (ss : List Sl) (m : Sto) (P : PV) (h : WLaw ss m P) : Wp K (t_law2 K Pg w) (rho ["script", "index", "source", "floor", "turn", "row", "column"] ss) m { nx := fun _ m' => P (.d .none) m', rt := P } := by
  obtain ⟨ns, rfl, hl, _, p⟩ := h
  obtain ⟨t, ht, et⟩ := turns_ok (k := 4) hl (by decide)
  refine wp_seq <| wp_rng <| ea_cons <| ev_cb <| ea_cons <| ev_int <| ea_cons <| ev_cb <| ea_cons <| ev_int <| ea_cons <| ev_cb <| ea_cons <| ev_var rfl <| ea_nil <| rc_lenF <| ea_nil <| rc_min2 <| ea_nil <| rc_max2 <| ea_nil ⟨t, fun i ρ' m' => ∃ s1 s2 s3 s4 s5 s6, ρ' = [some (.f (ns.map .int)), s1, s2, s3, s4, s5, s6], ?_, by omega, ⟨_, _, _, _, _, _, rfl⟩, ?_, ?_⟩
  · rw [List.length_map]
    exact congrArg (fun z => [Sl.d (.int z)]) et
  · rintro i ρ' m' hi ⟨s1, s2, s3, s4, s5, s6, rfl⟩
    refine wp_seq <| wp_set <| ev_call0 <| ea_cons <| ev_var rfl <| ea_cons <| ev_var rfl <| ea_nil ⟨ns, i, rfl, hl, by omega, fun a u ha hu => ?_⟩
    refine wp_seq <| wp_set <| ev_call0 <| ea_cons <| ev_var rfl <| ea_cons <| ev_call0 <| ea_cons <| ev_var rfl <| ea_cons <| ev_int <| ea_nil ⟨a, 144, u, 0, rfl, by decide, by decide, put_same, hu, by decide, fun R C fl0 u1 hG _ hu1 => ?_⟩
    rw [put_put]
    refine ea_nil ⟨a, R, C, fl0, u1, _, rfl, hG, put_same, hu1, by omega, fun fl u2 v _ => ?_⟩
    rw [put_put]
    generalize put m' a (.lst u2) = m1
    have hS := v.short
    have hN := v.named
    obtain ⟨c, c0, c1, hc⟩ := v.cols
    have hlen := v.most
    obtain ⟨r0, h0⟩ : ∃ r0, fl[0]? = some r0 := by cases fl with
      | nil => exact absurd rfl v.pos
      | cons a b => exact ⟨a, rfl⟩
    have hr0 : r0.length = c := hc r0 (List.mem_of_getElem? h0)
    refine wp_seq <| wp_rng <| ea_cons <| ev_int <| ea_nil ⟨2, fun i ρ' m' => ∃ s1 s2 s4 s5 s6, ρ' = [some (.f (ns.map .int)), s1, s2, some (.d (flD fl)), s4, s5, s6] ∧ m' = m1, rfl, by decide, ⟨_, _, _, _, _, rfl, rfl⟩, ?_, ?_⟩
    · rintro j ρ' m' hj ⟨s1, s2, s4, s5, s6, rfl, rfl⟩
      refine wp_if <| et_or <| et_test <| ev_op <| ev_call0 <| ea_cons <| ev_var rfl <| ea_nil ⟨fl, rfl, v, ev_non <| rn_not ⟨_, rfl, ite_b (fun q => nomatch q) (fun _ => ?_)⟩⟩
      refine et_test <| ev_op <| ev_cb <| ea_cons <| ev_call0 <| ea_cons <| ev_var rfl <| ea_nil ⟨fl, rfl, hN, hS, fun ys h1 h2 => ea_nil ?_⟩
      obtain ⟨zs, hz, rfl⟩ := perm_map (f := Sx) h1 rfl
      have hzT : ∀ l ∈ zs, Tx l := fun l hl => by
        obtain ⟨r, hr, h2⟩ := List.mem_flatten.mp (List.mem_filter.mp (hz.mem_iff.mp hl)).1
        exact (hN r hr l h2).2
      have hzl : zs.length ≤ 500 := by
        have a0 := hz.length_eq
        have a1 : fl.flatten.length ≤ 12 * 12 := by
          have : ∀ (g : List (List (List Nat))), (∀ r ∈ g, r ∈ fl) → g.flatten.length ≤ g.length * 12 := by
            intro g
            induction g with
            | nil => intro _; simp
            | cons x g ih =>
              intro hg
              have := ih fun r hr => hg r (List.mem_cons_of_mem _ hr)
              have hx := hc x (hg x List.mem_cons_self)
              simp
              simp at this
              omega
          have := this fl fun r hr => hr
          omega
        have := List.length_filter_le upN fl.flatten
        omega
      rw [← nms_str]
      obtain ⟨q1, q2, q3, q4⟩ := shown_names hzT hzl
      refine rc_repr q1 q2 q3 q4 <| ev_cb <| ea_cons <| ev_cb <| ea_cons <| ev_call0 <| ea_cons <| ev_var rfl <| ea_nil ⟨fl, rfl, hN, hS, fun ys' h3 h4 => ea_nil <| rc_tupleL <| ea_nil ?_⟩
      have e := sort_one h3 h4 h1 h2
      subst e
      rw [← nms_str]
      refine rc_repr q1 q2 q3 q4 <| re_neS ⟨_, rfl, ite_b (fun q => ?_) (fun _ => wp_next ⟨_, _, _, _, _, rfl, rfl⟩)⟩
      simp at q
    · rintro ρ' m' ⟨s1, s2, s4, s5, s6, rfl, rfl⟩
      refine wp_rng <| ea_cons <| ev_cb <| ea_cons <| ev_var rfl <| ea_nil <| rc_lenT <| ea_nil ⟨fl.length, fun i ρ' m'' => ∃ s1 s2 s4 s5 s6, ρ' = [some (.f (ns.map .int)), s1, s2, some (.d (flD fl)), s4, s5, s6] ∧ m'' = m', by rw [List.length_map], by omega, ⟨_, _, _, _, _, rfl, rfl⟩, ?_, ?_⟩
      · rintro k ρ' m'' hk ⟨s1, s2, s4, s5, s6, rfl, rfl⟩
        have hr : fl[k]? = some fl[k] := List.getElem?_eq_getElem hk
        generalize fl[k] = r at hr
        have hrl := hc r (List.mem_of_getElem? hr)
        refine wp_rng <| ea_cons <| ev_cb <| ea_cons <| ev_op <| ev_var rfl <| ev_int <| rx_tup (atI_map (k := 0) rfl h0) <| ea_nil <| rc_lenT <| ea_nil ⟨c, fun i ρ' m' => ∃ s1 s2 s4 s6, ρ' = [some (.f (ns.map .int)), s1, s2, some (.d (flD fl)), s4, some (.d (.int (k : Nat))), s6] ∧ m' = m'', by rw [List.length_map, hr0], by omega, ⟨_, _, _, _, rfl, rfl⟩, ?_, ?_⟩
        · rintro j ρ' m' hj ⟨s1, s2, s4, s6, rfl, rfl⟩
          obtain ⟨l, hl⟩ : ∃ l, r[j]? = some l := ⟨_, List.getElem?_eq_getElem (by omega)⟩
          obtain ⟨q1, q2, q3, q4⟩ := shown_pair' (i := k) (j := j) (by omega) (by omega)
          refine wp_if <| et_test <| ev_op <| ev_cb <| ea_cons <| ev_call0 <| ea_cons <| ev_var rfl <| ea_cons <| ev_op <| ev_op <| ev_var rfl <| ev_var rfl <| rx_tup (atI_map rfl hr) <| ev_var rfl <| rx_tup (atI_map rfl hl) <| ea_nil ⟨fl, k, j, r, l, rfl, hS, v.nd, hr, hl, ea_nil <| rc_repr q1 q2 q3 q4 <| ev_cb <| ea_cons <| ev_tup <| ea_cons <| ev_var rfl <| ea_cons <| ev_var rfl <| ea_nil ⟨[_, _], rfl, by simp, ea_nil <| rc_repr q1 q2 q3 q4 <| re_neS ⟨_, rfl, ite_b (fun q => ?_) (fun _ => wp_next ⟨_, _, _, _, rfl, rfl⟩)⟩⟩⟩
          simp at q
        · rintro ρ' m' ⟨s1, s2, s4, s6, rfl, rfl⟩
          exact ⟨_, _, _, _, _, rfl, rfl⟩
      · rintro ρ' m'' ⟨s1, s2, s4, s5, s6, rfl, rfl⟩
        exact ⟨_, _, _, _, _, _, rfl⟩
  · rintro ρ' m' ⟨s1, s2, s3, s4, s5, s6, rfl⟩
    exact wp_ret <| ev_op <| ev_int <| ev_int <| re_eq (shaped_int _) (shaped_int _) <| p _
end
end Dv

namespace Dv
open PySem L2 PyProof.Rows
/-! ### what is raised -/
abbrev Flds := List (Str × V)
abbrev Xv := Rho → Addr → Flds → Sto → Prop
section
variable {K : PySem.W.Frag}
def ThenW (K : PySem.W.Frag) (m : Sto) (F : Reg) (H : Hp) (X : Xv) (W : WX) : Prop := ∀ ρ' C fs d m' σ' F' H', X ρ' C fs m' → m' d = none → Step m F H (put m' d (.raw (.xd fs))) F' H' → StoOk K (put m' d (.raw (.xd fs))) F' H' → EnvOk K F' H' ρ' σ' → W (.ref C) (some d) σ' H'
def ThenE (K : PySem.W.Frag) (m : Sto) (F : Reg) (H : Hp) (X : Addr → Flds → Sto → Prop) (E : XK) : Prop := ∀ C fs d m' F' H', X C fs m' → m' d = none → Step m F H (put m' d (.raw (.xd fs))) F' H' → StoOk K (put m' d (.raw (.xd fs))) F' H' → E (.ref C) (some d) H'
theorem ThenW.step {m m1 : Sto} {F F1 : Reg} {H H1 : Hp} {X : Xv} {W : WX} (t : ThenW K m F H X W) (s : Step m F H m1 F1 H1) : ThenW K m1 F1 H1 X W := fun ρ' C fs d m' σ' F' H' x hd s2 S2 E2 => t ρ' C fs d m' σ' F' H' x hd (s.trans s2) S2 E2
/-- a statement that may raise -/
def WpW (K : PySem.W.Frag) (tb : WX → TS) (ρ : Rho) (m : Sto) (k : Ko) (X : Xv) : Prop :=
  ∀ (D : Ends) (W : WX) (σ : L2.St) (F : Reg) (H : Hp), EnvOk K F H ρ σ → StoOk K m F H →
    (∀ ρ' m' σ' F' H', k.nx ρ' m' → Step m F H m' F' H' → StoOk K m' F' H' → EnvOk K F' H' ρ' σ' → D.nx σ' H') →
    (∀ s m' v F' H', k.rt s m' → Step m F H m' F' H' → StoOk K m' F' H' → SlOk K F' H' s v → D.rt v H') →
    (∀ ρ' m' σ' F' H', k.bk ρ' m' → Step m F H m' F' H' → StoOk K m' F' H' → EnvOk K F' H' ρ' σ' → D.bk σ' H') →
    (∀ ρ' m' σ' F' H', k.ct ρ' m' → Step m F H m' F' H' → StoOk K m' F' H' → EnvOk K F' H' ρ' σ' → D.ct σ' H') → ThenW K m F H X W → tb W D σ H
/-- an expression that may raise -/
def EvW (K : PySem.W.Frag) (te : WX → TE) (ρ : Rho) (m : Sto) (P : PV) (X : Xv) : Prop :=
  ∀ (W : WX) (σ : L2.St) (F : Reg) (H : Hp) (Q : VK), EnvOk K F H ρ σ → StoOk K m F H → Then K m F H P Q → ThenW K m F H X W → te W σ H Q
variable {ρ : Rho} {m : Sto} {k : Ko} {X : Xv} {P : PV} {ts : TS} {t1 t2 tb : WX → TS} {te : WX → TE} {tt : TT} {ta : TA}
theorem wpw_of (h : Wp K ts ρ m k) : WpW K (fun _ => ts) ρ m k X := fun D W σ F H E S q1 q2 q3 q4 _ => h D σ F H E S q1 q2 q3 q4
theorem wpw_at {D : Ends} {W : WX} {m0 m1 : Sto} {F0 F1 : Reg} {H0 H1 : Hp} {σ : L2.St} {ρ1 : Rho} (s1 : Step m0 F0 H0 m1 F1 H1) (E : EnvOk K F1 H1 ρ1 σ) (S1 : StoOk K m1 F1 H1) (w : WpW K tb ρ1 m1 k X)
    (q1 : ∀ ρ' m' σ' F' H', k.nx ρ' m' → Step m0 F0 H0 m' F' H' → StoOk K m' F' H' → EnvOk K F' H' ρ' σ' → D.nx σ' H')
    (q2 : ∀ s m' v F' H', k.rt s m' → Step m0 F0 H0 m' F' H' → StoOk K m' F' H' → SlOk K F' H' s v → D.rt v H')
    (q3 : ∀ ρ' m' σ' F' H', k.bk ρ' m' → Step m0 F0 H0 m' F' H' → StoOk K m' F' H' → EnvOk K F' H' ρ' σ' → D.bk σ' H')
    (q4 : ∀ ρ' m' σ' F' H', k.ct ρ' m' → Step m0 F0 H0 m' F' H' → StoOk K m' F' H' → EnvOk K F' H' ρ' σ' → D.ct σ' H') (q5 : ThenW K m0 F0 H0 X W) : tb W D σ H1 :=
  w D W σ F1 H1 E S1 (fun a b c d f e s2 S2 => q1 a b c d f e (s1.trans s2) S2) (fun a b c d f e s2 S2 => q2 a b c d f e (s1.trans s2) S2) (fun a b c d f e s2 S2 => q3 a b c d f e (s1.trans s2) S2) (fun a b c d f e s2 S2 => q4 a b c d f e (s1.trans s2) S2) (q5.step s1)
theorem wpw_seq (h : WpW K t1 ρ m { k with nx := fun ρ' m' => WpW K t2 ρ' m' k X } X) : WpW K (fun W => tSeq (t1 W) (t2 W)) ρ m k X := fun D W σ F H E S q1 q2 q3 q4 q5 =>
  h { D with nx := t2 W D } W σ F H E S (fun ρ' m' σ' F' H' w s1 S1 E1 => wpw_at (D := D) s1 E1 S1 w q1 q2 q3 q4 q5) q2 q3 q4 q5
theorem wpw_if (h : EvT K tt ρ m fun b m1 => if b = true then WpW K t1 ρ m1 k X else WpW K t2 ρ m1 k X) : WpW K (fun W => tIfS tt (t1 W) (t2 W)) ρ m k X := fun D W σ F H E S q1 q2 q3 q4 q5 =>
  h σ F H _ E S fun b m1 F1 H1 w s1 S1 => by
    cases b with
    | true => exact wpw_at (D := D) s1 (envOk_step s1 E) S1 w q1 q2 q3 q4 q5
    | false => exact wpw_at (D := D) s1 (envOk_step s1 E) S1 w q1 q2 q3 q4 q5
theorem wpw_for {wi : TI} {g : TG} (h : EvI K wi ρ m fun xs C m1 => ∃ Iv : Nat → Rho → Sto → Prop, Iv 0 ρ m1 ∧ (∀ i ρ' m', Iv i ρ' m' → C m') ∧
      (∀ i x ρ' m', xs[i]? = some x → Iv i ρ' m' → ∃ js, Gt K g js x ρ' m' fun ρ2 m2 => WpW K tb ρ2 m2 { k with nx := Iv (i + 1), ct := Iv (i + 1), bk := k.nx } X) ∧ ∀ ρ' m', Iv xs.length ρ' m' → k.nx ρ' m') :
    WpW K (fun W => tFor wi g (tb W)) ρ m k X := fun D W σ F H E S q1 q2 q3 q4 q5 =>
  h σ F H _ E S fun xs C m1 F1 H1 J ⟨Iv, h0, hC, hs, hd⟩ s1 S1 w => by
    refine for_it w (fun i σ' H' => ∃ ρ' m' F', Iv i ρ' m' ∧ Step m1 F1 H1 m' F' H' ∧ StoOk K m' F' H' ∧ EnvOk K F' H' ρ' σ') ⟨ρ, m1, F1, h0, Step.refl, S1, envOk_step s1 E⟩ (fun i σ' H' _ ⟨ρ', m', F', a, b, c, d⟩ => ⟨m', F', hC i ρ' m' a, b, c⟩) ?_
      (fun σ' H' ⟨ρ', m', F', a, b, c, d⟩ => q1 ρ' m' σ' F' H' (hd ρ' m' a) (s1.trans b) c d)
    rintro i x σ' H' H2 hi ⟨ρ', m', F', a, b, c, d⟩ y
    obtain ⟨F2, s2, S2, sl, hx, o2⟩ := y m' F' (hC i ρ' m' a) b c
    obtain ⟨js, gt⟩ := hs i sl ρ' m' hx a
    refine gt σ' F2 H2 x _ (envOk_step s2 d) S2 o2 fun ρ3 m3 σ3 F3 H3 wp s3 S3 E3 _ => ?_
    have st : Step m1 F1 H1 m3 F3 H3 := (b.trans s2).trans s3
    exact wp _ W σ3 F3 H3 E3 S3 (fun a' b' c' f' d' e s4 S4 E4 => ⟨a', b', f', e, st.trans s4, S4, E4⟩) (fun a b c d f e s4 S4 => q2 a b c d f e ((s1.trans st).trans s4) S4) (fun a b c d f e s4 S4 E4 => q1 a b c d f e ((s1.trans st).trans s4) S4 E4) (fun a' b' c' f' d' e s4 S4 E4 => ⟨a', b', f', e, st.trans s4, S4, E4⟩) (q5.step (s1.trans st))
theorem wpw_rng {j : Nat} (h : EvA K ta ρ m fun ss m1 => ∃ (n : Nat) (Iv : Nat → Rho → Sto → Prop), ss = [.d (.int n)] ∧ n ≤ 1000000 ∧ Iv 0 ρ m1 ∧
      (∀ i ρ' m', i < n → Iv i ρ' m' → WpW K tb (ρ'.set j (some (.d (.int (i : Nat))))) m' { k with nx := Iv (i + 1), ct := Iv (i + 1), bk := k.nx } X) ∧ ∀ ρ' m', Iv n ρ' m' → k.nx ρ' m') :
    WpW K (fun W => tFor (iRng1 ta) (gName j) (tb W)) ρ m k X := wpw_for (ei_rng1 fun σ F H R E S q => h σ F H R E S fun ss m1 vs F1 H1 ⟨n, Iv, e, hn, h0, hs, hd⟩ s1 S1 o1 => by
  refine q ss m1 vs F1 H1 ⟨n, e, by omega, by omega, Iv, h0, fun _ _ _ _ => trivial, fun i x ρ' m' hx iv => ?_, fun ρ' m' iv => hd ρ' m' (by simpa using iv)⟩ s1 S1 o1
  have hl := (List.getElem?_eq_some_iff.mp hx).1
  have hl' : i < n := by simpa using hl
  rw [List.getElem?_map, Int.toNat_natCast, List.getElem?_range hl'] at hx
  cases hx
  exact ⟨[j], gt_name (hs i ρ' m' hl' iv)⟩)
theorem wpw_enum {α : Type} {toD : α → PyData} {i1 i2 : Nat} (h : EvA K ta ρ m fun ss m1 => ∃ (ys : List α) (Iv : Nat → Rho → Sto → Prop), ss = [.d (.tuple (ys.map toD))] ∧ Iv 0 ρ m1 ∧
      (∀ i y ρ' m', ys[i]? = some y → Iv i ρ' m' → WpW K tb ((ρ'.set i1 (some (.d (.int (i : Nat))))).set i2 (some (.d (toD y)))) m' { k with nx := Iv (i + 1), ct := Iv (i + 1), bk := k.nx } X) ∧ ∀ ρ' m', Iv ys.length ρ' m' → k.nx ρ' m') :
    WpW K (fun W => tFor (iEnumU K ta) (gTup K 2 (gCons (gName i1) (gCons (gName i2) gNil))) (tb W)) ρ m k X := wpw_for (ei_enumT fun σ F H R E S q => h σ F H R E S fun ss m1 vs F1 H1 ⟨ys, Iv, e, h0, hs, hd⟩ s1 S1 o1 => by
  refine q ss m1 vs F1 H1 ⟨_, e, Iv, h0, fun _ _ _ _ => trivial, fun i x ρ' m' hx iv => ?_, fun ρ' m' iv => hd ρ' m' (by rw [enumS_len] at iv; simpa using iv)⟩ s1 S1 o1
  obtain ⟨d, hd', rfl⟩ := enumS_of hx
  rw [List.getElem?_map] at hd'
  cases hy : ys[i]? with
  | none => rw [hy] at hd'; cases hd'
  | some y =>
    rw [hy] at hd'
    cases hd'
    exact ⟨[i1, i2], gt_pairP (hs i y ρ' m' hy iv)⟩)
theorem evw_of {t : TE} (h : Ev K t ρ m P) : EvW K (fun _ => t) ρ m P X := fun W σ F H Q E S q _ => h σ F H Q E S q
theorem wpw_set {i : Nat} (h : EvW K te ρ m (fun s m1 => k.nx (ρ.set i (some s)) m1) X) : WpW K (fun W => tAsg (te W) (gName i)) ρ m k X := fun D W σ F H E S q1 _ _ _ q5 =>
  h W σ F H _ E S (fun s m1 v F1 H1 p s1 S1 o1 => q1 _ m1 _ F1 H1 p s1 S1 (envOk_set (envOk_step s1 E) i o1)) q5
theorem wpw_drop (h : EvW K te ρ m (fun _ m1 => k.nx ρ m1) X) : WpW K (fun W => tDrop (te W)) ρ m k X := fun D W σ F H E S q1 _ _ _ q5 =>
  h W σ F H _ E S (fun s m1 v F1 H1 p s1 S1 o1 => q1 _ m1 _ F1 H1 p s1 S1 (envOk_step s1 E)) q5
theorem wpw_ret (h : EvW K te ρ m k.rt X) : WpW K (fun W => tRet (te W)) ρ m k X := fun D W σ F H E S _ q2 _ _ q5 => h W σ F H _ E S q2 q5
theorem wpw_post (h : WpW K tb ρ m { k with nx := fun ρ' m' => ∃ a u, m' a = some u ∧ k.nx ρ' (del m' a) } X) : WpW K tb ρ m k X := fun D W σ F H E S q1 q2 q3 q4 q5 =>
  h D W σ F H E S (fun ρ' m' σ' F' H' ⟨a, u, e, p⟩ s1 S1 E1 => q1 ρ' _ σ' _ H' p (s1.trans (step_del S1 e)) (sto_del S1 e) (envOk_step (step_del S1 e) E1)) q2 q3 q4 q5
/-- what stood in the store besides is forgotten where it is raised -/
theorem wpw_postX {Y : Xv} (h : WpW K tb ρ m k Y) (hy : ∀ ρ' C fs m', Y ρ' C fs m' → ∃ a u, m' a = some u ∧ X ρ' C fs (del m' a)) : WpW K tb ρ m k X := fun D W σ F H E S q1 q2 q3 q4 q5 =>
  h D W σ F H E S q1 q2 q3 q4 fun ρ' C fs d m' σ' F' H' y hd s1 S1 E1 => by
    obtain ⟨a, u, e, x⟩ := hy ρ' C fs m' y
    have ne : a ≠ d := fun z => by rw [z, hd] at e; cases e
    have e' : put m' d (.raw (.xd fs)) a = some u := by rw [put_ne ne]; exact e
    have ec : del (put m' d (.raw (.xd fs))) a = put (del m' a) d (.raw (.xd fs)) := del_put_ne (Ne.symm ne)
    have hd' : del m' a d = none := by rw [del_ne (Ne.symm ne)]; exact hd
    have st := step_del S1 e'
    have so := sto_del S1 e'
    have E2 := envOk_step st E1
    rw [ec] at st so
    exact q5 ρ' C fs d (del m' a) σ' _ H' x hd' (s1.trans st) so E2
/-! ### the promise of a def that may raise -/
abbrev WTX := List Sl → Sto → PV → (Addr → Flds → Sto → Prop) → Prop
def SpX (K : PySem.W.Frag) (W : WTX) : Sp := fun vs H Q E => ∃ (ss : List Sl) (m : Sto) (F : Reg) (P : PV) (Y : Addr → Flds → Sto → Prop), SlsOk K F H ss vs ∧ StoOk K m F H ∧ W ss m P Y ∧ Then K m F H P Q ∧ ThenE K m F H Y E
theorem spX_len {W : WTX} {n : Nat} (h : ∀ ss m P Y, W ss m P Y → ss.length = n) {vs : List V} {H : Hp} {Q : VK} {E : XK} (w : SpX K W vs H Q E) : vs.length = n := by
  obtain ⟨ss, m, F, P, Y, o, _, w, _⟩ := w
  rw [← paired_len o]
  exact h ss m P Y w
theorem bodyX {W : WTX} {N : List Str} {tb : WX → TS} (h : ∀ ss m P Y, W ss m P Y → WpW K tb (rho N ss) m { nx := fun _ m' => P (.d .none) m', rt := P } (fun _ => Y)) {vs : List V} {H : Hp} {Q : VK} {E : XK} (w : SpX K W vs H Q E) :
    tb (fun cls d _ H' => E cls d H') { nx := fun _ H' => Q .non H', rt := Q } (L2.start N vs) H := by
  obtain ⟨ss, m, F, P, Y, o, S, w, q, qx⟩ := w
  exact h ss m P Y w _ _ _ F _ (envOk_start o) S (fun ρ' m' σ' F' H' p s1 S1 _ => q _ m' _ F' H' p s1 S1 rfl) q (fun _ _ _ _ _ p => p.elim) (fun _ _ _ _ _ p => p.elim) fun ρ' C fs d m' σ' F' H' y hd s1 S1 _ => qx C fs d m' F' H' y hd s1 S1
theorem evw_call {W0 : WTX} (h : EvA K ta ρ m fun ss m1 => W0 ss m1 P (fun C fs m' => X ρ C fs m')) : EvW K (fun W => tCallS (SpX K W0) (WE W) ta) ρ m P X := fun W σ F H Q E S q q5 =>
  h σ F H _ E S fun ss m1 vs F1 H1 w s1 S1 o1 => ⟨ss, m1, F1, P, _, o1, S1, w, fun s m' v F' H' p s2 S2 o2 => q s m' v F' H' p (s1.trans s2) S2 o2, fun C fs d m' F' H' y hd s2 S2 => q5 ρ C fs d m' σ F' H' y hd (s1.trans s2) S2 (envOk_step (s1.trans s2) E)⟩
end
end Dv

namespace Dv
open PySem L2 PyProof.Rows
section
variable {Pg : Program} {w : World} {K : PySem.W.Frag} {mg : Str → Option Value} {base : Heap}
/-- a def that may raise -/
structure DfnX (Pg : Program) (w : World) (K : PySem.W.Frag) (mg : Str → Option Value) (base : Heap) (k : Nat) (name : Str) (ps : List Str) (W : WTX) : Prop where
  ex : ∃ f fd, mg name = some (.ref f) ∧ PySem.W.keepIn K (.ref f) = true ∧ Binds K fd ps [] ∧ DF Pg w K mg base (CX Pg w) k f fd ps (SpX K W)
theorem dfnX_mk {k : Nat} {name : Str} {st : Stmt} {N ps : List Str} {W : WTX} {tb : WX → TS} (A : FunAt K mg name st ps) (S : FnScope N ps (defScope st)) (len : ∀ ss m P Y, W ss m P Y → ss.length = ps.length)
    (der : ∀ (f : Addr) (cdv : Value) (A : Around) (outer : List Env) (s : Shared) (H : Hp) (E : XK), (A.deeper (envOfC name (defScope st) s.heap.objs.size f cdv)).guards = some [] → Room k (A.deeper (envOfC name (defScope st) s.heap.objs.size f cdv)) →
      PSs (cxOf (CX Pg w) Pg w K mg base N name (defScope st) f cdv A outer s H E) (defBody st) (tb fun cls d _ H' => E cls d H'))
    (rd : ∀ ss m P Y, W ss m P Y → WpW K tb (rho N ss) m { nx := fun _ m' => P (.d .none) m', rt := P } (fun _ => Y)) : DfnX Pg w K mg base (k + 1) name ps W := by
  obtain ⟨f, fd, hm, hF, hb⟩ := A.ex
  refine ⟨f, fd, hm, hF.kp, hb, ?_⟩
  obtain ⟨oc, od, kV, doc, pm, an, cdv, ct, osl, rfl, lk, hcd⟩ := hF.ex
  exact df_of lk hcd S (fun vs H Q E h => spX_len len h) fun A outer s H vs Q E hg hr h => ⟨_, der f cdv A outer s H E hg hr, bodyX rd h⟩
section
variable {X : Cx} {W : WX}
theorem run_dfS {k : Nat} {f : Addr} {fd : FuncData} {ps : List Str} {sp : Sp} {E : XK} {CX : CXT} {pins : List (Addr × Obj)} {σ : L2.St} {H : Hp} {s : Shared} {Q : VK} {us : List Value} {vs : List V} (F : DF X.prog X.w X.K X.mg X.base CX k f fd ps sp) (hg : X.A.guards = some []) (hr : Room k X.A) (hb : Binds X.K fd ps [])
    (hx : PassesAt CX X σ E) (I : Inv X pins σ H s) (r : Vals vs us) (h : sp vs H Q E) : wpAny (model X.prog X.w) X.A (call (.ref f) us) (EP X pins σ Q) X.xe s := by
  have hl := (r.length.symm.trans (F.len _ _ _ _ h))
  have hb2 := hb s us I.kIn (by rw [List.append_nil]; exact hl)
  rw [List.append_nil] at hb2
  apply wpAny_call
  apply codeAny_mono (F.run X.A X.stack s H ⟨us, []⟩ _ _ Q E hg hr I.env0 hb2 r h)
  intro r s' hq
  match r, hq with
  | .error e, hq => exact hx pins H s e s' I hq
  | .ok (.ret u), hq => exact I.after hq
  | .ok .next, hq => exact False.elim hq
  | .ok .brk, hq => exact False.elim hq
  | .ok .cont, hq => exact False.elim hq
theorem pe_fnX {j k : Nat} {x : Str} {ps : List Str} {W0 : WTX} {p pos : Pos} {e : Expr} {es : List Expr} {t : TA} (D : DfnX X.prog X.w X.K X.mg X.base j x ps W0) (tk : Takes X W) (hgd : X.A.guards = some []) (hr : Room k X.A) (h : j ≤ k) (hg : Gl X x) (ha : PA X (e :: es) t)
    (hdb : (x == ("__debug__" : Str)) = false := by decide) (he : starEach (e :: es) X.env = (false, eval e X.env) :: starEach es X.env := by rfl) (hpl : (backTo pos (starEach es X.env)).any (·.1) = false := by rfl) :
    PE X (.Call (.Name x p) (e :: es) [] pos) (tCallS (SpX X.K W0) (WE W) t) := by
  obtain ⟨f, fd, hm, hk, hb, F⟩ := D.ex
  constructor
  intro pins s σ H Q I h2
  refine wpAny_Call_Name_kw (ld_glob I hg hm ?_ hdb)
  refine PySem.W.callWith_K (h₀ := X.base) I.ok.mod.kin hk (thn (ha.run pos pins s σ H _ I h2) ?_) he hpl
  rintro us s1 ⟨vs, H1, I1, r, q⟩
  exact ⟨I1.kIn, run_dfS F hgd (hr.mono h) hb (passAt tk σ) I1 r q⟩
end
/-! ### an error of the program's own, made and raised -/
def spIni (C : Addr) (ns : List Str) : Sp := fun vs H Q _ => ∃ (a : Addr) (ws : List V), vs = .ref a :: ws ∧ ws.length = ns.length ∧ H a = some (exo a C none) ∧
  ∀ d H', H d = none → d ≠ a → H' a = some (exo a C (some d)) → H' d = some (exd d (ns.zip ws).reverse) → (∀ b, b ≠ a → b ≠ d → H' b = H b) → Q .non H'
theorem wpw_raise {ρ : Rho} {m : Sto} {k : Ko} {X : Xv} {ta : TA} {C : Addr} {ns : List Str} (h : EvA K ta ρ m fun ss m1 => ∃ ws : List V, (∀ F H us, SlsOk K F H ss us → us = ws) ∧ ws.length = ns.length ∧ ws.length ≤ 1000 ∧ X ρ C (ns.zip ws).reverse m1) :
    WpW K (fun W _ σ H => tMkO C (spIni C ns) [] ta σ H fun cls d H' => W cls d σ H') ρ m k X := fun D W σ F H E S _ _ _ _ q5 =>
  h σ F H _ E S fun ss m1 us F1 H1 ⟨ws, hv, hl, hl2, x⟩ s1 S1 o1 => by
    have e := hv F1 H1 us o1
    subst e
    refine ⟨hl2, fun a ha => ⟨a, us, by rw [List.append_nil], hl, upd_same, fun d H' hd ne h1 h2 h3 => ⟨rfl, d, _, h1, h2, ?_, ?_⟩⟩⟩
    · rwa [upd_ne ne] at hd
    · have hd1 : H1 d = none := by rwa [upd_ne ne] at hd
      have e : upd (L2.del H' a) d (.xd (ns.zip us).reverse) = upd H1 d (.xd (ns.zip us).reverse) := by
        funext b
        by_cases h4 : b = d
        · rw [h4, upd_same, upd_same]
        · rw [upd_ne h4, upd_ne h4]
          by_cases h5 : b = a
          · rw [h5, ha]
            exact if_pos rfl
          · have : L2.del H' a b = H' b := if_neg h5
            rw [this, h3 b h5 h4, upd_ne h5]
      show W _ _ σ (upd (L2.del H' a) d (.xd (ns.zip us).reverse))
      rw [e]
      exact q5 ρ C _ d m1 σ F1 _ x (sto_none S1 hd1) (s1.trans (step_newM S1 hd1)) (sto_put S1 (not_reg S1 hd1) upd_same) (envOk_step (s1.trans (step_newM (u := .raw (.xd (ns.zip us).reverse)) S1 hd1)) E)
/-- what a class of errors is in the text: its def __init__ stores one or two fields -/
structure ErrC (Pg : Program) (w : World) (K : PySem.W.Frag) (mg : Str → Option Value) (base : Heap) (name : Str) (C : Addr) (ps : List Str) : Prop where
  oex : OexC K C
  mgC : mg name = some (.ref C)
  xfc : XfC K C
  nn : ∀ n ∈ ps, PySem.W.findIn K (.ref C) n = some none
  exm : PySem.W.exmOne K (.ref C) (.ref C) = some true
  ini : ∃ fI fd, PySem.W.findIn K (.ref C) "__init__" = some (some (.ref fI)) ∧ PySem.W.typeIn K (.ref fI) = some (.type "function") ∧ Binds K fd ("self" :: ps) [] ∧ FnOk Pg w K mg base CX0 1 fI fd ("self" :: ps) (spIni C ps)
theorem ps_raiseC {X : Cx} {W : WX} {k : Nat} {x : Str} {C : Addr} {ps : List Str} {p pos pos2 : Pos} {e : Expr} {es : List Expr} {ta : TA} (R : ErrC X.prog X.w X.K X.mg X.base x C ps) (hc : X.calm = true) (tk : Takes X W) (hr : Room k X.A) (h : 2 ≤ k) (hg : Gl X x) (ha : PA X (e :: es) ta)
    (hdb : (x == ("__debug__" : Str)) = false := by decide) (he : starEach (e :: es) X.env = (false, eval e X.env) :: starEach es X.env := by rfl) (hpl : (backTo pos (starEach es X.env)).any (·.1) = false := by rfl) :
    PS X (.Raise (some (.Call (.Name x p) (e :: es) [] pos)) none pos2) (fun _ σ H => tMkO C (spIni C ps) [] ta σ H fun cls d H' => W cls d σ H') := by
  obtain ⟨fI, fd, h1, h2, h3, h4⟩ := R.ini
  exact ps_raise hc tk (pmk_oex R.oex h1 h2 h4 (hr.mono h) h3 .nil pass0 hg R.mgC ha hdb he hpl)
theorem ini1 {fI C : Addr} {fd : FuncData} {q n : Str} {st : Stmt} (F : Fun K "__init__" q st fI fd) (T : OexC K C) (nn : PySem.W.findIn K (.ref C) n = some none) (S : FnScope ["self", n] ["self", n] (defScope st))
    (der : ∀ (cdv : Value) (A : Around) (outer : List Env) (s : Shared) (H : Hp) (E : XK), PSs (cxOf CX0 Pg w K mg base ["self", n] q (defScope st) fI cdv A outer s H E).nox (defBody st) (tOst K n (tVar 0) (tVar 1))) :
    FnOk Pg w K mg base CX0 1 fI fd ["self", n] (spIni C [n]) := by
  refine F.ok S (fun vs H Q E h => ?_) (fun cdv A outer s H vs Q E hr h => ?_)
  · obtain ⟨a, ws, rfl, hl, _⟩ := h
    simp at hl ⊢
    exact hl
  · obtain ⟨a, ws, rfl, hl, ha, k⟩ := h
    match ws, hl with
    | [v], _ =>
    refine ⟨_, der cdv A outer s H E, ?_⟩
    refine ⟨_, rfl, _, rfl, a, C, rfl, T, nn, .inl ⟨ha, fun d hd ne => ?_⟩⟩
    refine k d _ hd ne upd_same (by rw [upd_ne ne, upd_same]; rfl) fun b h1 h2 => by rw [upd_ne h1, upd_ne h2]
theorem ini2 {fI C : Addr} {fd : FuncData} {q n1 n2 : Str} {st : Stmt} (F : Fun K "__init__" q st fI fd) (T : OexC K C) (nn1 : PySem.W.findIn K (.ref C) n1 = some none) (nn2 : PySem.W.findIn K (.ref C) n2 = some none) (S : FnScope ["self", n1, n2] ["self", n1, n2] (defScope st))
    (der : ∀ (cdv : Value) (A : Around) (outer : List Env) (s : Shared) (H : Hp) (E : XK), PSs (cxOf CX0 Pg w K mg base ["self", n1, n2] q (defScope st) fI cdv A outer s H E).nox (defBody st) (tSeq (tOst K n1 (tVar 0) (tVar 1)) (tOst K n2 (tVar 0) (tVar 2)))) :
    FnOk Pg w K mg base CX0 1 fI fd ["self", n1, n2] (spIni C [n1, n2]) := by
  refine F.ok S (fun vs H Q E h => ?_) (fun cdv A outer s H vs Q E hr h => ?_)
  · obtain ⟨a, ws, rfl, hl, _⟩ := h
    simp at hl ⊢
    exact hl
  · obtain ⟨a, ws, rfl, hl, ha, k⟩ := h
    match ws, hl with
    | [v1, v2], _ =>
    refine ⟨_, der cdv A outer s H E, ?_⟩
    refine ⟨_, rfl, _, rfl, a, C, rfl, T, nn1, .inl ⟨ha, fun d hd ne => ?_⟩⟩
    refine ⟨_, rfl, _, rfl, a, C, rfl, T, nn2, .inr ⟨d, _, upd_same, by rw [upd_ne ne, upd_same], by simp, ?_⟩⟩
    refine k d _ hd ne (by rw [upd_ne (Ne.symm ne), upd_same]) upd_same fun b h1 h2 => by rw [upd_ne h2, upd_ne h1, upd_ne h2]
/-! ### try .. except X as n -/
theorem exm_own {S : Addr} (ha : PySem.W.subIn K (.ref S) (.type "BaseException") = some true) (hb : PySem.W.isClsIn K S = true) (hc : PySem.W.typeIn K (.ref S) = some (.type "type")) (hd : PySem.W.subIn K (.ref S) (.ref S) = some true) : PySem.W.exmOne K (.ref S) (.ref S) = some true := by
  have hb' : (PySem.W.clsIn K S).isSome = true := hb
  simp [PySem.W.exmOne, PySem.W.kitCls, ha, hb', hc, hd]
def tTry (K : PySem.W.Frag) (c : Value) (i : Nat) (ts : Addr → Value → Option Addr → TS) (tb : WX → TS) : TS := fun D σ H => tb (wAs K c i ts (fun _ _ _ _ => False) D) D σ H
theorem ps_tryA {X : Cx} {x n : Str} {c : Value} {i : Nat} {body suite : List Stmt} {b₀ : Stmt} {np pos pos' : Pos} {tb : WX → TS} {ts : Addr → Value → Option Addr → TS} (hs : X.stack = X.env :: X.outer) (hf : X.env.frame = some X.env.locals) (hN : X.N.Nodup) (hi : X.N[i]? = some n) (hln : X.env.kindOf n = some .local) (hc : Names X x c)
    (hb : ∀ (W : WX) (pn : List (Addr × Obj)) (xe : Value → Shared → Prop), Takes (X.tr pn xe) W → PassesOwn (model X.prog X.w) X.A X.env xe → PSs (X.tr pn xe) body (tb W))
    (hsu : ∀ (a : Addr) (oe : Obj) (cls : Value) (d : Option Addr) (pn : List (Addr × Obj)), Zc cls d oe → (∃ vs, oe.data = .fields vs) → PSs (X.suite a ((a, oe) :: pn)) (b₀ :: suite) (ts a cls d)) :
    PS X (.Try body [.ExceptHandler (some (.Name x np)) (some n) (b₀ :: suite) pos'] [] [] pos) (tTry X.K c i ts tb) := ps_try_as hs hf hN hi hln hc takes0 hb hsu
theorem wp_try {ρ : Rho} {m : Sto} {k : Ko} {tb : WX → TS} {ts : Addr → Value → Option Addr → TS} {c : Value} {i : Nat} {XS : Xv} (h : WpW K tb ρ m k XS)
    (hx : ∀ ρ' C fs m', XS ρ' C fs m' → PySem.W.exmOne K (.ref C) c = some true ∧ ∀ a d, m' d = none → Wp K (ts a (.ref C) (some d)) (ρ'.set i (some (.v (.ref a)))) (put m' d (.raw (.xd fs))) { nx := fun ρ2 m2 => k.nx (ρ2.set i none) m2, rt := k.rt, bk := fun ρ2 m2 => k.bk (ρ2.set i none) m2, ct := fun ρ2 m2 => k.ct (ρ2.set i none) m2 }) :
    Wp K (tTry K c i ts tb) ρ m k := fun D σ F H E S q1 q2 q3 q4 =>
  h D _ σ F H E S q1 q2 q3 q4 fun ρ' C fs d m' σ' F' H' x hd s1 S1 E1 => by
    obtain ⟨e, g⟩ := hx ρ' C fs m' x
    refine ⟨true, e, fun _ a ha => ?_, fun z => nomatch z⟩
    have un : ∀ {F H} {ρ2 : Rho} {σ2 : L2.St}, EnvOk K F H ρ2 σ2 → EnvOk K F H (ρ2.set i none) (σ2.set i none) := fun E => paired_set (F := SlO K _ _) (x := none) (y := none) (fun _ e => nomatch e) i E
    refine g a d hd _ (σ'.set i (some (.ref a))) F' H' (envOk_set (s := .v (.ref a)) E1 i rfl) S1 (fun ρ2 m2 σ2 F2 H2 p s2 S2 E2 => q1 _ m2 _ F2 H2 p (s1.trans s2) S2 (un E2)) (fun s m2 v F2 H2 p s2 S2 o2 => q2 s m2 v F2 H2 p (s1.trans s2) S2 o2)
      (fun ρ2 m2 σ2 F2 H2 p s2 S2 E2 => q3 _ m2 _ F2 H2 p (s1.trans s2) S2 (un E2)) (fun ρ2 m2 σ2 F2 H2 p s2 S2 E2 => q4 _ m2 _ F2 H2 p (s1.trans s2) S2 (un E2))
theorem ev_xf {ρ : Rho} {m : Sto} {P : PV} {te : TE} {a C : Addr} {d : Addr} {n : Str} {fs : Flds} {v : V} {s' : Sl} (h : Ev K te ρ m fun s m1 => s = .v (.ref a) ∧ m1 d = some (.raw (.xd fs)) ∧ fs.lookup n = some v ∧ (∀ F H, SlOk K F H s' v) ∧ P s' m1) : Ev K (tXf a (.ref C) (some d) C n te) ρ m P := fun σ F H Q E S q =>
  h σ F H _ E S fun s m1 x F1 H1 ⟨e, hm, hf, hs, p⟩ s1 S1 o1 => by
    subst e
    exact ⟨o1, rfl, d, fs, v, rfl, (S1.mu d _ hm).1, hf, q s' m1 v F1 H1 p s1 S1 (hs F1 H1)⟩
end
end Dv

namespace Dv
open PySem L2 PyProof.Rows
/-! ### list of a text -/
def rListStr : List V → Hp → VK → Prop := fun xs H Q => ∃ z : Str, xs = [.str z] ∧ z.length ≤ 100000 ∧ ∀ l, H l = none → Q (.ref l) (upd H l (.lst (z.cps.toList.map fun c => V.str ⟨#[c]⟩)))
theorem vals_of_get : ∀ {xs : List V} {ys : List Value}, xs.length = ys.length → (∀ (j : Nat) (x : V) (y : Value), xs[j]? = some x → ys[j]? = some y → L2.RelV x y) → Vals xs ys
  | [], [], _, _ => .nil
  | [], _ :: _, h, _ => by simp at h
  | _ :: _, [], h, _ => by simp at h
  | x :: xs, y :: ys, h, g => .cons (g 0 x y rfl rfl) (vals_of_get (by simpa using h) fun j a b ha hb => g (j + 1) a b (by simpa using ha) (by simpa using hb))
theorem call_listStr {X : Cx} (hc : X.calm = true) : CallR X (.type "list") rListStr := by
  rintro pins s σ H xs us Q I r ⟨z, rfl, hz, q⟩
  obtain ⟨u, rfl, rx⟩ := vals1 r
  obtain ⟨t, rfl⟩ := rx
  have hz' : z.cps.size ≤ sizeLine := by have : z.cps.size ≤ 100000 := hz; rw [sizeLine_eq]; omega
  refine PySem.call_list_str (I.ok.hd hc) z t (fun h' tk acc c' kp ho it => ?_) hz'
  obtain ⟨hs, hi⟩ := it
  have hlen : (z.cps.toList.map fun c => V.str ⟨#[c]⟩).length = acc.toList.length := by simp [hs]
  have hv : Vals (z.cps.toList.map fun c => V.str ⟨#[c]⟩) acc.toList := vals_of_get hlen fun j x y hx hy => by
    obtain ⟨c, u, h1, h2⟩ := hi j y (by simpa using hy)
    rw [List.getElem?_map] at hx
    have h3 : z.cps.toList[j]? = some c := by simpa using h1
    rw [h3] at hx
    cases hx
    exact ⟨u, h2⟩
  refine ⟨.ref s.heap.objs.size, upd H s.heap.objs.size (.lst (z.cps.toList.map fun c => V.str ⟨#[c]⟩)), I.laid (t' := tk) (fun _ _ => kp _ _) (Nat.le_refl _) ⟨by rw [hlen]; simp [hs]; exact hz', acc.toList, c', hv, by simpa using ho⟩, rfl, ?_⟩
  exact q _ (I.hok.fresh (Nat.le_refl _))
def rListU (K : PySem.W.Frag) : List V → Hp → VK → Prop := rc2 (rListC K) rListStr
theorem call_listU {X : Cx} (hc : X.calm = true) : CallR X (.type "list") (rListU X.K) := (call_list_of).or (call_listStr hc)
section
variable {K : PySem.W.Frag} {m : Sto} {P : PV}
theorem rc_listStr {z : Str} (h : z.length ≤ 100000) (p : P (.d (.list (signs z))) m) : RC K (rListU K) [.d (.str z)] m P := rc_r fun xs F H Q a S q => by
  obtain ⟨x, e, o⟩ := sls1 a
  cases (show x = .str z from o)
  refine ⟨z, e, h, fun c hc => then_new S p q hc ⟨c, _, rfl, .inl rfl, upd_same, ?_⟩⟩
  have : signs z = (z.cps.toList.map fun c => (⟨#[c]⟩ : Str)).map PyData.str := by rw [List.map_map]; rfl
  rw [this]
  exact imAll_strs.mpr (by rw [List.map_map]; rfl)
end
end Dv

namespace Dv
open PySem L2 PyProof.Rows
section
variable {K : PySem.W.Frag} {ρ : Rho} {m : Sto} {P : PV} {te : TE}
/-- of the store a part is kept -/
theorem ev_keep (h : Ev K te ρ m fun s m' => ∃ m0 : Sto, (∀ a u, m0 a = some u → m' a = some u) ∧ P s m0) : Ev K te ρ m P := fun σ F H Q E S q =>
  h σ F H Q E S fun s m' v F' H' ⟨m0, sub, p⟩ s1 S1 o1 => by
    have st : Step m' F' H' m0 (fun a => F' a ∨ (m' a ≠ none ∧ m0 a = none)) H' := ⟨fun a o ha n => ⟨ha, .inl n⟩, fun a o ha n k => by
      refine ⟨ha, fun z => z.elim n (fun z => z.1 k), ?_⟩
      cases e : m0 a with
      | none => rfl
      | some u => rw [sub a u e] at k; cases k⟩
    have so : StoOk K m0 (fun a => F' a ∨ (m' a ≠ none ∧ m0 a = none)) H' := by
      refine ⟨fun a u e => ⟨muOk_fix (fun b o hb n => ⟨hb, .inl n⟩) (fun o q => q) (S1.mu a u (sub a u e)).1, fun z => z.elim (S1.mu a u (sub a u e)).2 (fun z => ?_)⟩, fun a z => ?_⟩
      · rw [e] at z
        cases z.2
      · rcases z with z | z
        · exact S1.reg a z
        · cases e : m' a with
          | none => exact absurd e z.1
          | some u =>
            obtain ⟨o, q⟩ := muOk_some (S1.mu a u e).1
            rw [q]; simp
    exact q s m0 v _ H' p (s1.trans st) so (slOk_step st o1)
/-! ### lists of lists that change -/
theorem mu_refs {F : Reg} {H : Hp} (S : StoOk K m F H) {a : Addr} {as : List Addr} (h : m a = some (.refs as)) : H a = some (.lst (as.map V.ref)) := (S.mu a _ h).1
theorem then_put {F : Reg} {H : Hp} {Q : VK} {l : Addr} {w u : Mu} {o : HO} {s : Sl} {v : V} (S : StoOk K m F H) (hm : m l = some w) (q : Then K m F H P Q) (p : P s (put m l u)) (hu : MuOk K F (upd H l o) l u) (os : SlOk K F H s v) : Q v (upd H l o) := by
  have st : Step m F H (put m l u) F (upd H l o) := step_mut S hm
  exact q _ _ _ _ _ p st (sto_put S (S.mu l w hm).2 hu) (slOk_step st os)
theorem rx_refs {l b : Addr} {as : List Addr} {j : Int} (hm : m l = some (.refs as)) (h : atI as j = some b) (p : P (.m b) m) : RO K (rIx K) (.m l) (.d (.int j)) m P := fun x y F H Q a c S q => by
  have hl := mu_refs S hm
  have hv : atI (as.map V.ref) j = some (.ref b) := by
    unfold atI at h ⊢
    rw [List.length_map]
    cases e : ixN as.length j with
    | none => rw [e] at h; cases h
    | some n =>
      rw [e] at h
      show (as.map V.ref)[n]? = _
      rw [List.getElem?_map, show as[n]? = some b from h]
      rfl
  exact .inl ⟨l, _, j, .ref b, a, c, SqL.of hl, hv, q _ m _ F H p Step.refl S rfl⟩
theorem rc_lenR {l : Addr} {as : List Addr} (hm : m l = some (.refs as)) (p : P (.d (.int as.length)) m) : RC K (rLenC K) [.m l] m P := fun xs F H Q a S q => by
  obtain ⟨x, e, o⟩ := sls1 a
  cases (show x = .ref l from o)
  exact ⟨_, _, e, .inl ⟨_, SqL.of (mu_refs S hm), rfl⟩, by rw [List.length_map]; exact q _ m _ F H p Step.refl S rfl⟩
theorem ty_listR {l : Addr} {as : List Addr} (hm : m l = some (.refs as)) : TyS K "list" (.m l) m := fun x F H a S => by
  cases (show x = .ref l from a)
  exact .inl ⟨rfl, _, SqL.of (mu_refs S hm)⟩
theorem rm_appendR {l b : Addr} {as : List Addr} (hm : m l = some (.refs as)) (h : as.length < 100000) (p : P (.d .none) (put m l (.refs (as ++ [b])))) : RM K rAppend (.m l) [.m b] m P := fun x xs F H Q a c S q => by
  obtain ⟨y, e, o⟩ := sls1 c
  cases (show x = .ref l from a)
  cases (show y = .ref b from o)
  refine ⟨l, _, _, rfl, e, mu_refs S hm, by rw [List.length_map, sizeLine_eq]; omega, then_put S hm q p ?_ rfl⟩
  show upd H l _ l = _
  rw [upd_same, List.map_append]
  rfl
theorem rm_popR {l b : Addr} {as : List Addr} {j : Int} {k : Nat} (hm : m l = some (.refs as)) (h : as.length < 100000) (hj : 0 ≤ j) (hk : j = (k : Int)) (hd : as[k]? = some b) (p : P (.m b) (put m l (.refs (as.eraseIdx k)))) : RM K rPopAt (.m l) [.d (.int j)] m P := fun x xs F H Q a c S q => by
  obtain ⟨y, e, o⟩ := sls1 c
  cases (show y = .int j from o)
  cases (show x = .ref l from a)
  have hlt := (List.getElem?_eq_some_iff.mp hd).1
  have hv : (as.map V.ref)[k]? = some (.ref b) := by rw [List.getElem?_map, hd]; rfl
  refine ⟨l, _, j, k, .ref b, rfl, e, mu_refs S hm, by omega, by omega, (ixN_seq (show ixN (as.map V.ref).length j = some k from ?_)).1, hv, then_put S hm q p ?_ rfl⟩
  · unfold ixN
    rw [List.length_map, if_pos hj, if_pos (by omega), hk]
    simp
  · show upd H l _ l = _
    rw [upd_same]
    congr 2
    have me : ∀ (xs : List Addr) (i : Nat), (xs.map V.ref).eraseIdx i = (xs.eraseIdx i).map V.ref := by
      intro xs
      induction xs with
      | nil => intro i; rfl
      | cons x xs ih =>
        intro i
        cases i with
        | zero => rfl
        | succ i => simp [ih]
    exact me as k
theorem rm_insertR {l b : Addr} {as : List Addr} {k : Nat} (hm : m l = some (.refs as)) (h : as.length < 100000) (hk : k ≤ 1000000) (p : P (.d .none) (put m l (.refs (as.take k ++ [b] ++ as.drop k)))) : RM K rInsert (.m l) [.d (.int (k : Nat)), .m b] m P := fun x xs F H Q a c S q => by
  obtain ⟨y, z, e, o1, o2⟩ := sls2 c
  cases (show y = .int _ from o1)
  cases (show z = .ref b from o2)
  cases (show x = .ref l from a)
  refine ⟨l, _, _, _, rfl, e, mu_refs S hm, by rw [List.length_map, sizeLine_eq]; omega, by omega, by omega, then_put S hm q p ?_ rfl⟩
  show upd H l _ l = _
  rw [upd_same, Int.toNat_natCast, List.map_append, List.map_append, List.map_take, List.map_drop]
  rfl
theorem rm_insert {l : Addr} {ds : List PyData} {d : PyData} {k : Nat} (hm : m l = some (.lst ds)) (h : ds.length < 100000) (hk : k ≤ 1000000) (p : P (.d .none) (put m l (.lst (ds.take k ++ [d] ++ ds.drop k)))) : RM K rInsert (.m l) [.d (.int (k : Nat)), .d d] m P := fun x xs F H Q a c S q => by
  obtain ⟨y, z, e, o1, o2⟩ := sls2 c
  cases (show y = .int _ from o1)
  cases (show x = .ref l from a)
  obtain ⟨vs, hl, i⟩ := mu_lst S hm
  have st : Step m F H (put m l (.lst (ds.take k ++ [d] ++ ds.drop k))) F (upd H l (.lst (vs.take (k : Int).toNat ++ [z] ++ vs.drop (k : Int).toNat))) := step_mut S hm
  refine ⟨l, vs, _, z, rfl, e, hl, by rw [← imAll_len i, sizeLine_eq]; omega, by omega, by omega, then_put S hm q p ?_ rfl⟩
  refine ⟨_, upd_same, imAll_fix st.fix _ _ ?_⟩
  rw [Int.toNat_natCast]
  exact imAll_app (imAll_app (imAll_iff.mpr (paired_take _ (imAll_iff.mp i))) (imAll_one o2)) (imAll_iff.mpr (paired_drop _ (imAll_iff.mp i)))
/-- xs[j] = e, where what is drawn says j -/
theorem gt_subE {d : PyData} {to ti : TE} {Pr : Rho → Sto → Prop} (ho : Ev K to ρ m fun s m1 => ∃ l, s = .m l ∧ Ev K ti ρ m1 fun s' m2 => ∃ (j : Int) (k : Nat) (ds : List PyData), s' = .d (.int j) ∧ m2 l = some (.lst ds) ∧ ixN ds.length j = some k ∧ Pr ρ (put m2 l (.lst (ds.set k d)))) :
    Gt K (gSub to ti rSetL) [] (.d d) ρ m Pr := fun σ F H v Q E S o q =>
  ho σ F H _ E S fun s m1 x F1 H1 ⟨l, e, h⟩ s1 S1 o1 => h σ F1 H1 _ (envOk_step s1 E) S1 fun s' m2 y F2 H2 ⟨j, k, ds, e2, hm, hk, p⟩ s2 S2 o2 => by
    subst e e2
    cases (show y = .int j from o2)
    obtain ⟨vs, hl, i⟩ := mu_lst S2 hm
    cases (show x = .ref l from o1)
    have st : Step m2 F2 H2 (put m2 l (.lst (ds.set k d))) F2 (upd H2 l (.lst (vs.set k v))) := step_mut S2 hm
    have iv : Im K F2 H2 d v := im_fix (s1.trans s2).fix _ _ o
    refine ⟨l, vs, j, k, rfl, rfl, hl, by rw [← imAll_len i]; exact hk, ?_⟩
    refine q _ _ _ F2 _ p ((s1.trans s2).trans st) (sto_put S2 (S2.mu l _ hm).2 ⟨_, upd_same, imAll_fix st.fix _ _ (imAll_set i k iv)⟩) (envOk_step ((s1.trans s2).trans st) E) fun _ _ => rfl
/-- rows[j] = a list -/
theorem gt_subR {l b : Addr} {as : List Addr} {j : Int} {k : Nat} {to ti : TE} {Pr : Rho → Sto → Prop} (ho : Ev K to ρ m fun s m1 => s = .m l ∧ Ev K ti ρ m1 fun s' m2 => s' = .d (.int j) ∧ m2 l = some (.refs as) ∧ ixN as.length j = some k ∧ Pr ρ (put m2 l (.refs (as.set k b)))) :
    Gt K (gSub to ti rSetL) [] (.m b) ρ m Pr := fun σ F H v Q E S o q =>
  ho σ F H _ E S fun s m1 x F1 H1 ⟨e, h⟩ s1 S1 o1 => h σ F1 H1 _ (envOk_step s1 E) S1 fun s' m2 y F2 H2 ⟨e2, hm, hk, p⟩ s2 S2 o2 => by
    subst e e2
    cases (show y = .int j from o2)
    cases (show v = .ref b from o)
    cases (show x = .ref l from o1)
    have st : Step m2 F2 H2 (put m2 l (.refs (as.set k b))) F2 (upd H2 l (.lst ((as.map V.ref).set k (.ref b)))) := step_mut S2 hm
    refine ⟨l, _, j, k, rfl, rfl, mu_refs S2 hm, by rw [List.length_map]; exact hk, ?_⟩
    refine q _ _ _ F2 _ p ((s1.trans s2).trans st) (sto_put S2 (S2.mu l _ hm).2 ?_) (envOk_step ((s1.trans s2).trans st) E) fun _ _ => rfl
    show upd H2 l _ l = _
    rw [upd_same, List.map_set]
/-- [e for ..] where each e is a list that will change -/
theorem ev_lcRefs {wi : TI} {g : TG} {vs : List Nat} (h : EvI K wi ρ m fun xs C m1 => ∀ D, m1 D = none → ∃ Iv : Nat → Sto → Prop, Iv 0 (put m1 D (.refs [])) ∧ (∀ i m', Iv i m' → C m') ∧
      (∀ i x m', xs[i]? = some x → Iv i m' → ∃ js, (∀ j ∈ js, j ∈ vs) ∧ Gt K g js x (wipeR ρ vs) m' fun ρ2 m2 => Ev K te ρ2 m2 fun z m3 => ∃ b acc, z = .m b ∧ m3 D = some (.refs acc) ∧ acc.length < 100000 ∧ Iv (i + 1) (put m3 D (.refs (acc ++ [b])))) ∧
      ∀ m', Iv xs.length m' → P (.m D) m') : Ev K (tLc wi g tYes te vs) ρ m P := fun σ F H Q E S q =>
  h σ F H _ E S fun xs C m1 F1 H1 J hh s1 S1 w => by
    intro D hD
    obtain ⟨Iv, h0, hC, hs, hd⟩ := hh D (sto_none S1 hD)
    have sD : Step m1 F1 H1 (put m1 D (.refs [])) F1 (upd H1 D (.lst [])) := step_newM S1 hD
    have SD : StoOk K (put m1 D (.refs [])) F1 (upd H1 D (.lst [])) := sto_put S1 (not_reg S1 hD) upd_same
    let Pv : Nat → Hp → Prop := fun i H' => ∃ m' F', Iv i m' ∧ Step m1 F1 H1 m' F' H' ∧ StoOk K m' F' H'
    refine lc_it w Pv ⟨_, _, h0, sD, SD⟩ (fun i H' _ ⟨m', F', a, st, So⟩ => ⟨m', F', hC _ _ a, st, So⟩) ?_ (fun H' ⟨m', F', a, st, So⟩ => q _ _ _ _ H' (hd m' a) (s1.trans st) So rfl)
    rintro i x H' H2 hi ⟨m', F', a, st, So⟩ y
    obtain ⟨F2, s2, S2, sl, hx, o2⟩ := y m' F' (hC _ _ a) st So
    obtain ⟨js, hj, gt⟩ := hs i sl m' hx a
    have E2 : EnvOk K F2 H2 (wipeR ρ vs) (wipe σ vs) := envOk_step ((s1.trans st).trans s2) (envOk_wipe E vs)
    refine gt (wipe σ vs) F2 H2 x _ E2 S2 o2 fun ρ3 m3 σ3 F3 H3 ev s3 S3 E3 hw => ⟨?_, ?_⟩
    · rw [hw vs hj]
      exact wipe_wipe
    show if true = true then te σ3 H3 (fun y H4 => ∃ acc, H4 D = some (HO.lst acc) ∧ acc.length < sizeLine ∧ Pv (i + 1) (upd H4 D (HO.lst (acc ++ [y])))) else Pv (i + 1) H3
    rw [if_pos rfl]
    refine ev σ3 F3 H3 _ E3 S3 fun s m4 v F4 H4 ⟨b, acc, es, hm, hl, iv⟩ s4 S4 o4 => ?_
    subst es
    cases (show v = .ref b from o4)
    refine ⟨_, mu_refs S4 hm, by rw [List.length_map, sizeLine_eq]; omega, ?_⟩
    have sm : Step m4 F4 H4 (put m4 D (.refs (acc ++ [b]))) F4 (upd H4 D (.lst (acc.map V.ref ++ [.ref b]))) := step_mut S4 hm
    exact ⟨_, F4, iv, (((st.trans s2).trans s3).trans s4).trans sm, sto_put S4 (S4.mu D _ hm).2 (by show upd H4 D _ D = _; rw [upd_same, List.map_append]; rfl)⟩
/-- a walk over a list of lists -/
theorem ei_refs {tl : TE} {P : List Sl → (Sto → Prop) → Sto → Prop} (h : Ev K tl ρ m fun s m1 => ∃ a as, s = .m a ∧ m1 a = some (.refs as) ∧ P (as.map .m) (fun m' => m' a = some (.refs as)) m1) : EvI K (iSeqU K tl) ρ m P := fun σ F H R E S q => .inl (h σ F H _ E S fun s m1 v F1 H1 ⟨a, as, e, hm, p⟩ s1 S1 o1 => by
  subst e
  refine ⟨a, o1, ⟨_, SqL.of (mu_refs S1 hm)⟩, q _ _ m1 F1 H1 _ p s1 S1 ⟨fun j H2 hj ⟨m2, F2, c, st, S2⟩ => ?_, fun H2 ⟨m2, F2, c, st, S2⟩ => ?_, fun j H2 x H3 hj ⟨m3, F3, _, _, _⟩ ⟨e3, hx⟩ m2 F2 c st S2 => ?_⟩⟩
  · have ha2 := mu_refs S2 c
    have : j < (as.map V.ref).length := by simpa using hj
    exact ⟨_, (as.map V.ref)[j], SqL.of ha2, List.getElem?_eq_getElem this⟩
  · exact ⟨_, SqL.of (mu_refs S2 c), by simp⟩
  · subst e3
    have ha2 := mu_refs S2 c
    have hj' : j < as.length := by simpa using hj
    have h1 := hx _ (SqL.of ha2)
    rw [List.getElem?_map, List.getElem?_eq_getElem hj'] at h1
    refine ⟨F2, Step.refl, S2, .m as[j], by rw [List.getElem?_map, List.getElem?_eq_getElem hj']; rfl, ?_⟩
    have h2 : some (V.ref as[j]) = some x := h1
    exact (Option.some.inj h2).symm)
/-- [x] * n that will change -/
theorem rm_lstM {ds : List PyData} {n : Int} (h0 : 0 ≤ n) (h1 : n ≤ 1000) (h2 : ds.length ≤ 1000) (p : ∀ a, m a = none → P (.m a) (put m a (.lst (List.replicate n.toNat ds).flatten))) : RO K rMulU (.d (.list ds)) (.d (.int n)) m P := ro_r (ro_r fun u v F H Q a b S q => by
  obtain ⟨l, xs, e1, hl, i1⟩ := im_lst a
  have z1 := imAll_len i1
  have : xs.length * n.toNat ≤ 1000 * 1000 := Nat.mul_le_mul (by omega) (by omega)
  refine ⟨l, n, xs, e1, b, hl, by omega, by omega, by rw [sizeLine_eq]; omega, fun c hc => ?_⟩
  exact q _ _ _ _ _ (p c (sto_none S hc)) (step_newM S hc) (sto_put S (not_reg S hc) ⟨_, upd_same, imAll_fix (step_newM (u := .lst (List.replicate n.toNat ds).flatten) S hc).fix _ _ (imAll_rep i1 _)⟩) rfl)
/-- lists by +, one of them may change -/
theorem ra_lstD {s t : Sl} {ds es : List PyData} (hs : LsS K s m ds) (ht : LsS K t m es) (h : ds.length + es.length ≤ 100000) (p : P (.d (.list (ds ++ es))) m) : RO K (rAddU K) s t m P := ro_r (ro_r (ro_l fun u v F H Q a b S q => by
  obtain ⟨l, xs, e1, h1, i1⟩ := hs u F H a S
  obtain ⟨l2, ys, e2, h2, i2⟩ := ht v F H b S
  have z1 := imAll_len i1
  have z2 := imAll_len i2
  refine ⟨l, l2, xs, ys, e1, e2, h1, h2, by rw [sizeLine_eq]; omega, fun c hc => ?_⟩
  exact then_new S p q hc ⟨c, _, rfl, .inl rfl, upd_same, imAll_fix (step_new S hc).fix _ _ (imAll_app i1 i2)⟩))
end
end Dv

namespace Dv
open PySem L2 PyProof.Rows
/-! ### isinstance of a caught error that has fields -/
structure ErrI (K : PySem.W.Frag) (C : Addr) : Prop where
  xc : ExcC K C
  ic : PySem.W.isClsIn K C = true
def rIsX (K : PySem.W.Frag) (D a : Addr) (cls : Value) (d : Option Addr) : List V → Hp → VK → Prop := fun xs H Q => ∃ (c : V) (cv : Value) (b : Bool), cls = .ref D ∧ (∃ dd fs, d = some dd ∧ H dd = some (.xd fs)) ∧ xs = [.ref a, c] ∧ (∀ u, L2.RelV c u → u = cv) ∧ PySem.W.kitOne K (.ref D) cv = some b ∧ Q (.bl b) H
theorem inst_of {X : Cx} {a D dd : Addr} {oe : Obj} {pn pins : List (Addr × Obj)} {σ : L2.St} {H : Hp} {s : Shared} {fs : List (Str × V)} (I : Inv (X.suite a ((a, oe) :: pn)) pins σ H s) (hz : Zc (.ref D) (some dd) oe) (hf : ∃ vs, oe.data = .fields vs) (hd : H dd = some (.xd fs)) : ∃ od, PySem.W.InstAt s.heap a oe D (some od) := by
  obtain ⟨hp, _⟩ := I.pin (a, oe) (List.mem_append_left _ List.mem_cons_self)
  obtain ⟨mA, ⟨o, es, ep, ho, _⟩, _⟩ := I.hok dd _ hd
  obtain ⟨vs, hv⟩ := hf
  refine ⟨o, hp, hz.1, ?_, ?_⟩
  · unfold PySem.W.notCls
    rw [hv]
  · rw [hz.2]
    exact ho
theorem call_isX {X : Cx} {a D : Addr} {oe : Obj} {pn : List (Addr × Obj)} {cls : Value} {d : Option Addr} (C : ErrI X.K D) (hz : Zc cls d oe) (hf : ∃ vs, oe.data = .fields vs) : CallR (X.suite a ((a, oe) :: pn)) (.builtin "isinstance") (rIsX X.K D a cls d) := by
  rintro pins s σ H xs us Q I r ⟨c, cv, b, rfl, ⟨dd, fs, rfl, hd⟩, rfl, hc, hk, q⟩
  cases r with
  | cons r1 r =>
    cases r with
    | cons r2 r =>
      cases r
      cases r1
      rw [hc _ r2]
      obtain ⟨od, hi⟩ := inst_of I hz hf hd
      exact PySem.W.kia_one (PySem.W.kitx_exc (od := some od) C.ic C.xc.hg C.xc.hk C.xc.hs C.xc.ha C.xc.hn C.xc.ht C.xc.hm) I.kIn hi hk (fun e => by cases e) (fun tk => ⟨.bl b, H, I.tok _, rfl, q⟩)
def rIsXT (K : PySem.W.Frag) (D a : Addr) (cls : Value) (d : Option Addr) : List V → Hp → VK → Prop := fun xs H Q => ∃ (tp : Addr) (cs : List Addr) (b : Bool), cls = .ref D ∧ (∃ dd fs, d = some dd ∧ H dd = some (.xd fs)) ∧ xs = [.ref a, .ref tp] ∧ SqT K H tp (cs.map V.ref) ∧ PySem.W.kitAny K (.ref D) (cs.map Value.ref) = some b ∧ Q (.bl b) H
theorem vals_refs : ∀ {cs : List Addr} {us : List Value}, Vals (cs.map V.ref) us → us = cs.map Value.ref
  | [], _, .nil => rfl
  | c :: cs, _, .cons r t => by rw [vals_refs t]; cases r; rfl
theorem call_isXT {X : Cx} {a D : Addr} {oe : Obj} {pn : List (Addr × Obj)} {cls : Value} {d : Option Addr} (C : ErrI X.K D) (hz : Zc cls d oe) (hf : ∃ vs, oe.data = .fields vs) : CallR (X.suite a ((a, oe) :: pn)) (.builtin "isinstance") (rIsXT X.K D a cls d) := by
  rintro pins s σ H xs us Q I r ⟨tp, cs, b, rfl, ⟨dd, fs, rfl, hd⟩, rfl, hs, hk, q⟩
  cases r with
  | cons r1 r =>
    cases r with
    | cons r2 r =>
      cases r
      cases r1
      cases r2
      obtain ⟨od, hi⟩ := inst_of I hz hf hd
      obtain ⟨its, rv, ht, hz2⟩ := I.tuple hs
      obtain ⟨o, ho, hc, n, hdt⟩ := ht
      have e := vals_refs rv
      subst e
      obtain ⟨oc, odct, odata, osl⟩ := o
      cases hc
      cases hdt
      exact PySem.W.kia_tup (PySem.W.kitx_exc (od := some od) C.ic C.xc.hg C.xc.hk C.xc.hs C.xc.ha C.xc.hn C.xc.ht C.xc.hm) I.kIn hi ho hk (fun e => by cases e) (fun tk => ⟨.bl b, H, I.tok _, rfl, q⟩)
theorem kit_self {K : PySem.W.Frag} {D : Addr} : PySem.W.kitOne K (.ref D) (.ref D) = some true := by
  unfold PySem.W.kitOne
  rw [if_pos]
  exact beq_self_eq_true _
section
variable {K : PySem.W.Frag} {m : Sto} {P : PV}
theorem rc_isX {a d D c : Addr} {fs : Flds} {b : Bool} (hm : m d = some (.raw (.xd fs))) (hk : PySem.W.kitOne K (.ref D) (.ref c) = some b) (p : P (.d (.bool b)) m) : RC K (rIsX K D a (.ref D) (some d)) [.v (.ref a), .v (.ref c)] m P := fun xs F H Q o S q => by
  obtain ⟨x, y, e, o1, o2⟩ := sls2 o
  cases (show x = .ref a from o1)
  cases (show y = .ref c from o2)
  exact ⟨.ref c, .ref c, b, rfl, ⟨d, fs, rfl, (S.mu d _ hm).1⟩, e, fun u hu => hu, hk, q _ m _ F H p Step.refl S rfl⟩
theorem sls_refs {F : Reg} {H : Hp} : ∀ {cs : List Addr} {vs : List V}, SlsOk K F H (cs.map fun c => Sl.v (.ref c)) vs → vs = cs.map V.ref
  | [], _, .nil => rfl
  | c :: cs, _, .cons r t => by rw [sls_refs t]; cases (show _ = V.ref c from r); rfl
/-- a tuple of classes -/
theorem ev_clsT {ρ : Rho} {tr : TA} {te : TE} {cs : List Addr} (h : EvA K tr ρ m fun ss m1 => ss = cs.map (fun c => Sl.v (.ref c)) ∧ cs.length ≤ 100 ∧ m1 = m) {a d D : Addr} {fs : Flds} {b : Bool} (he : Ev K te ρ m fun s m1 => s = .v (.ref a) ∧ m1 = m) (hm : m d = some (.raw (.xd fs))) (hk : PySem.W.kitAny K (.ref D) (cs.map Value.ref) = some b) (p : P (.d (.bool b)) m) :
    Ev K (tCB (rIsXT K D a (.ref D) (some d)) (tCons te (tCons (tTupZ tr) tNil))) ρ m P := fun σ F H Q E S q =>
  he σ F H _ E S fun s m1 x F1 H1 ⟨e, em⟩ s1 S1 o1 => by
    subst e em
    cases (show x = .ref a from o1)
    refine h σ F1 H1 _ (envOk_step s1 E) S1 fun ss m2 vs F2 H2 ⟨e, hl, em⟩ s2 S2 o2 => ?_
    subst em
    have hvs : vs = cs.map V.ref := sls_refs (e ▸ o2)
    subst hvs
    refine ⟨by rw [List.length_map, sizeLine_eq]; omega, fun tp ob ht hdct => ?_⟩
    have st : Step m2 F2 H2 m2 (add F2 tp) (upd H2 tp (.frz ob (.tup (cs.map V.ref)))) := step_new S2 ht
    have so := sto_new (o := .frz ob (.tup (cs.map V.ref))) S2 ht
    exact ⟨tp, cs, b, rfl, ⟨d, fs, rfl, (so.mu d _ hm).1⟩, rfl, ZT.sq ⟨ob, upd_same, hdct⟩, hk, q _ m2 _ _ _ p ((s1.trans s2).trans st) so rfl⟩
end
end Dv

namespace Dv
open PySem L2 PyProof.Rows
/-! ### errors of several classes, caught by one handler -/
theorem al_nil {α : Type} {p : α → Prop} : ∀ x, x ∈ ([] : List α) → p x := fun _ h => by cases h
theorem al_cons {α : Type} {p : α → Prop} {a : α} {l : List α} (h : p a) (t : ∀ x, x ∈ l → p x) : ∀ x, x ∈ a :: l → p x := fun x hx => by
  rcases List.mem_cons.mp hx with e | e
  · rw [e]; exact h
  · exact t x e
theorem pe_cl {X : Cx} {x : Str} {C : Addr} {pos : Pos} (h : X.mg x = some (.ref C)) (hg : Gl X x := by rfl) (hd : (x == ("__debug__" : Str)) = false := by decide) : PE X (.Name x pos) (tC (.ref C)) := pe_glob hg h rfl hd
theorem exm_to {K : PySem.W.Frag} {S c : Addr} (ha : PySem.W.subIn K (.ref c) (.type "BaseException") = some true) (hb : PySem.W.isClsIn K c = true) (hc : PySem.W.typeIn K (.ref c) = some (.type "type")) (hd : PySem.W.subIn K (.ref S) (.ref c) = some true) : PySem.W.exmOne K (.ref S) (.ref c) = some true := by
  have hb' : (PySem.W.clsIn K c).isSome = true := hb
  simp [PySem.W.exmOne, PySem.W.kitCls, ha, hb', hc, hd]
theorem kit_b {K : PySem.W.Frag} {S c : Addr} {b : Bool} (hn : (S == c) = false) (hb : PySem.W.isClsIn K c = true) (hc : PySem.W.typeIn K (.ref c) = some (.type "type")) (hd : PySem.W.subIn K (.ref S) (.ref c) = some b) : PySem.W.kitOne K (.ref S) (.ref c) = some b := by
  have hb' : (PySem.W.clsIn K c).isSome = true := hb
  have hne : S ≠ c := by
    intro e
    rw [e] at hn
    simp at hn
  have hv : ¬ ((Value.ref S == Value.ref c) = true) := by
    intro e
    have := eq_of_beq e
    cases this
    exact hne rfl
  unfold PySem.W.kitOne
  rw [if_neg hv]
  simp [PySem.W.kitCls, hb', hc, hd]
theorem ka_nil {K : PySem.W.Frag} {t : Value} : PySem.W.kitAny K t [] = some false := rfl
theorem ka_no {K : PySem.W.Frag} {t c : Value} {r : List Value} {b : Bool} (h : PySem.W.kitOne K t c = some false) (hr : PySem.W.kitAny K t r = some b) : PySem.W.kitAny K t (c :: r) = some b := by
  simp [PySem.W.kitAny, h, hr]
theorem ka_yes {K : PySem.W.Frag} {t c : Value} {r : List Value} (h : PySem.W.kitOne K t c = some true) : PySem.W.kitAny K t (c :: r) = some true := by
  simp [PySem.W.kitAny, h]
def rIsA (K : PySem.W.Frag) (Ds : List Addr) (a : Addr) (cls : Value) (d : Option Addr) : List V → Hp → VK → Prop := fun xs H Q => ∃ D, D ∈ Ds ∧ rIsX K D a cls d xs H Q
def rIsAT (K : PySem.W.Frag) (Ds : List Addr) (a : Addr) (cls : Value) (d : Option Addr) : List V → Hp → VK → Prop := fun xs H Q => ∃ D, D ∈ Ds ∧ rIsXT K D a cls d xs H Q
theorem call_isA {X : Cx} {a : Addr} {Ds : List Addr} {oe : Obj} {pn : List (Addr × Obj)} {cls : Value} {d : Option Addr} (C : ∀ D, D ∈ Ds → ErrI X.K D) (hz : Zc cls d oe) (hf : ∃ vs, oe.data = .fields vs) : CallR (X.suite a ((a, oe) :: pn)) (.builtin "isinstance") (rIsA X.K Ds a cls d) := by
  rintro pins s σ H xs us Q I r ⟨D, hD, h⟩
  exact call_isX (C D hD) hz hf pins s σ H xs us Q I r h
theorem call_isAT {X : Cx} {a : Addr} {Ds : List Addr} {oe : Obj} {pn : List (Addr × Obj)} {cls : Value} {d : Option Addr} (C : ∀ D, D ∈ Ds → ErrI X.K D) (hz : Zc cls d oe) (hf : ∃ vs, oe.data = .fields vs) : CallR (X.suite a ((a, oe) :: pn)) (.builtin "isinstance") (rIsAT X.K Ds a cls d) := by
  rintro pins s σ H xs us Q I r ⟨D, hD, h⟩
  exact call_isXT (C D hD) hz hf pins s σ H xs us Q I r h
def tXfA (a : Addr) (cls : Value) (d : Option Addr) (Ds : List Addr) (f : Str) (te : TE) : TE := fun σ H Q => ∃ D, D ∈ Ds ∧ tXf a cls d D f te σ H Q
theorem pe_xfA {X : Cx} {a : Addr} {Ds : List Addr} {oe : Obj} {cls : Value} {d : Option Addr} {pn : List (Addr × Obj)} {e : Expr} {te : TE} {pos : Pos} {n : Str} (T : ∀ D, D ∈ Ds → XfC X.K D ∧ PySem.W.findIn X.K (.ref D) n = some none)
    (hz : Zc cls d oe) (hf : ∃ vs, oe.data = .fields vs) (he : PE (X.suite a ((a, oe) :: pn)) e te) (hb : attributeBase e n X.env (eval e X.env) = eval e X.env := by rfl) :
    PE (X.suite a ((a, oe) :: pn)) (.Attribute e n pos) (tXfA a cls d Ds n te) := ⟨fun pins s σ H Q I h => by
  obtain ⟨D, hD, h⟩ := h
  exact (pe_xf (T D hD).1 (T D hD).2 hz hf he hb).run pins s σ H Q I h⟩
section
variable {K : PySem.W.Frag} {m : Sto} {P : PV}
theorem rc_isA {a d D c : Addr} {Ds : List Addr} {fs : Flds} {b : Bool} (hD : D ∈ Ds) (hm : m d = some (.raw (.xd fs))) (hk : PySem.W.kitOne K (.ref D) (.ref c) = some b) (p : P (.d (.bool b)) m) : RC K (rIsA K Ds a (.ref D) (some d)) [.v (.ref a), .v (.ref c)] m P := fun xs F H Q o S q =>
  ⟨D, hD, rc_isX hm hk p xs F H Q o S q⟩
theorem ev_clsA {ρ : Rho} {tr : TA} {te : TE} {cs Ds : List Addr} (h : EvA K tr ρ m fun ss m1 => ss = cs.map (fun c => Sl.v (.ref c)) ∧ cs.length ≤ 100 ∧ m1 = m) {a d D : Addr} {fs : Flds} {b : Bool} (hD : D ∈ Ds) (he : Ev K te ρ m fun s m1 => s = .v (.ref a) ∧ m1 = m) (hm : m d = some (.raw (.xd fs))) (hk : PySem.W.kitAny K (.ref D) (cs.map Value.ref) = some b) (p : P (.d (.bool b)) m) :
    Ev K (tCB (rIsAT K Ds a (.ref D) (some d)) (tCons te (tCons (tTupZ tr) tNil))) ρ m P := fun σ F H Q E S q =>
  he σ F H _ E S fun s m1 x F1 H1 ⟨e, em⟩ s1 S1 o1 => by
    subst e em
    cases (show x = .ref a from o1)
    refine h σ F1 H1 _ (envOk_step s1 E) S1 fun ss m2 vs F2 H2 ⟨e, hl, em⟩ s2 S2 o2 => ?_
    subst em
    have hvs : vs = cs.map V.ref := sls_refs (e ▸ o2)
    subst hvs
    refine ⟨by rw [List.length_map, sizeLine_eq]; omega, fun tp ob ht hdct => ?_⟩
    have st : Step m2 F2 H2 m2 (add F2 tp) (upd H2 tp (.frz ob (.tup (cs.map V.ref)))) := step_new S2 ht
    have so := sto_new (o := .frz ob (.tup (cs.map V.ref))) S2 ht
    exact ⟨D, hD, tp, cs, b, rfl, ⟨d, fs, rfl, (so.mu d _ hm).1⟩, rfl, ZT.sq ⟨ob, upd_same, hdct⟩, hk, q _ m2 _ _ _ p ((s1.trans s2).trans st) so rfl⟩
theorem ev_xfA {ρ : Rho} {te : TE} {a C : Addr} {Ds : List Addr} {d : Addr} {n : Str} {fs : Flds} {v : V} {s' : Sl} (hC : C ∈ Ds) (h : Ev K te ρ m fun s m1 => s = .v (.ref a) ∧ m1 d = some (.raw (.xd fs)) ∧ fs.lookup n = some v ∧ (∀ F H, SlOk K F H s' v) ∧ P s' m1) : Ev K (tXfA a (.ref C) (some d) Ds n te) ρ m P := fun σ F H Q E S q =>
  ⟨C, hC, ev_xf h σ F H Q E S q⟩
theorem wpw_asg {ρ : Rho} {k : Ko} {X : Xv} {te : WX → TE} {g : TG} (h : EvW K te ρ m (fun s m1 => ∃ js, Gt K g js s ρ m1 k.nx) X) : WpW K (fun W => tAsg (te W) g) ρ m k X := fun D W σ F H E S q1 _ _ _ q5 =>
  h W σ F H _ E S (fun s m1 v F1 H1 ⟨js, p⟩ s1 S1 o1 => p σ F1 H1 v _ (envOk_step s1 E) S1 o1 fun a b c d f e s2 S2 E2 _ => q1 a b c d f e (s1.trans s2) S2 E2) q5
end
/-! ### parts of tuples -/
theorem cut_from {α : Type} {xs : List α} {k : Nat} : cutD xs (some (k : Int)) none = xs.drop k := by
  unfold cutD
  rw [HT.sIx_nat]
  show (xs.drop (min k xs.length)).take (xs.length - min k xs.length) = _
  rcases Nat.le_total k xs.length with h | h
  · rw [Nat.min_eq_left h, List.take_of_length_le (by simp)]
  · rw [Nat.min_eq_right h, List.drop_of_length_le (Nat.le_refl _), List.drop_of_length_le h]
    simp
theorem cut_to {α : Type} {xs : List α} {k : Nat} : cutD xs none (some (k : Int)) = xs.take k := by
  unfold cutD
  rw [HT.sIx_nat]
  show (xs.drop 0).take (min k xs.length - 0) = _
  rw [List.drop_zero, Nat.sub_zero]
  rcases Nat.le_total k xs.length with h | h
  · rw [Nat.min_eq_left h]
  · rw [Nat.min_eq_right h, List.take_of_length_le (Nat.le_refl _), List.take_of_length_le h]
theorem cut_mid {α : Type} {xs : List α} {k l : Nat} (hk : k ≤ l) (hl : l ≤ xs.length) : cutD xs (some (k : Int)) (some (l : Int)) = (xs.drop k).take (l - k) := by
  unfold cutD
  rw [HT.sIx_nat, HT.sIx_nat, Nat.min_eq_left hl, Nat.min_eq_left (Nat.le_trans hk hl)]
/-- what stands behind, what stands there, what stands before -/
def crL {α : Type} (k : Nat) (xs : List α) : List α := xs.drop (k + 1) ++ (xs.drop k).take 1 ++ xs.take k
theorem crL_map {α β : Type} {f : α → β} {k : Nat} {xs : List α} : crL k (xs.map f) = (crL k xs).map f := by
  simp [crL, List.map_drop, List.map_take]
theorem crL_len {α : Type} {k : Nat} {xs : List α} (h : k < xs.length) : (crL k xs).length = xs.length := by
  simp [crL]; omega
theorem one_at {α : Type} {k : Nat} {xs : List α} {x : α} (h : xs[k]? = some x) : (xs.drop k).take 1 = [x] := by
  have hk := (List.getElem?_eq_some_iff.mp h).1
  rw [List.drop_eq_getElem_cons hk]
  have := (List.getElem?_eq_some_iff.mp h).2
  simp [this]
theorem crL_at {α : Type} {k : Nat} {xs : List α} {x : α} (h : xs[k]? = some x) : crL k xs = xs.drop (k + 1) ++ [x] ++ xs.take k := by
  unfold crL
  rw [one_at h]
theorem crL_mem {α : Type} {k : Nat} {xs : List α} {x : α} (h : x ∈ crL k xs) : x ∈ xs := by
  unfold crL at h
  rcases List.mem_append.mp h with h | h
  · rcases List.mem_append.mp h with h | h
    · exact List.mem_of_mem_drop h
    · exact List.mem_of_mem_drop (List.mem_of_mem_take h)
  · exact List.mem_of_mem_take h
theorem crL_perm {α : Type} {k : Nat} {xs : List α} : (crL k xs).Perm xs := by
  unfold crL
  have e : xs = xs.take k ++ ((xs.drop k).take 1 ++ xs.drop (k + 1)) := by
    have h1 : xs.drop (k + 1) = (xs.drop k).drop 1 := by rw [List.drop_drop]
    rw [h1, List.take_append_drop, List.take_append_drop]
  refine List.Perm.trans ?_ (List.Perm.of_eq e.symm)
  rw [← List.append_assoc]
  refine (List.perm_append_comm).trans ?_
  rw [List.append_assoc]
  refine List.Perm.append_left _ List.perm_append_comm
def crF {α : Type} (i j : Nat) (fl : List (List α)) : List (List α) := (crL i fl).map (crL j)
def At (fl : List (List (List Nat))) (i j : Nat) (l : List Nat) : Prop := ∃ r, fl[i]? = some r ∧ r[j]? = some l
theorem At.mem {fl : List (List (List Nat))} {i j : Nat} {l : List Nat} (h : At fl i j l) : l ∈ fl.flatten := by
  obtain ⟨r, h1, h2⟩ := h
  exact List.mem_flatten.mpr ⟨r, List.mem_of_getElem? h1, List.mem_of_getElem? h2⟩
theorem at_of {fl : List (List (List Nat))} {l : List Nat} (h : l ∈ fl.flatten) : ∃ i j, At fl i j l := by
  obtain ⟨r, hr, hl⟩ := List.mem_flatten.mp h
  obtain ⟨i, hi⟩ := List.mem_iff_getElem?.mp hr
  obtain ⟨j, hj⟩ := List.mem_iff_getElem?.mp hl
  exact ⟨i, j, r, hi, hj⟩
theorem at_row {fl : List (List (List Nat))} (nd : fl.flatten.Nodup) {i j k : Nat} {l : List Nat} {r : List (List Nat)} (h : At fl i j l) (hr : fl[k]? = some r) (hl : l ∈ r) : k = i := by
  obtain ⟨r1, h1, h2⟩ := h
  have key : ∀ {a b : Nat} {ra rb : List (List Nat)}, fl[a]? = some ra → fl[b]? = some rb → l ∈ ra → (∃ j : Nat, rb[j]? = some l) → ¬ a < b := by
    intro a b ra rb ha hb hla ⟨j, hj⟩ hab
    refine (nd_split nd hb hj).1 ?_
    rw [List.mem_flatten]
    refine ⟨ra, ?_, hla⟩
    rw [List.mem_take_iff_getElem]
    have hal := (List.getElem?_eq_some_iff.mp ha).1
    exact ⟨a, by omega, (List.getElem?_eq_some_iff.mp ha).2⟩
  have k1 := key hr h1 hl ⟨j, h2⟩
  obtain ⟨j', hj'⟩ := List.mem_iff_getElem?.mp hl
  have k2 := key h1 hr (List.mem_of_getElem? h2) ⟨j', hj'⟩
  omega
theorem first_at {fl : List (List (List Nat))} (nd : fl.flatten.Nodup) {i j : Nat} {l : List Nat} {r : List (List Nat)} (hi : fl[i]? = some r) (hj : r[j]? = some l) : ∀ a, a < j → r[a]? ≠ some l := fun a ha q => by
  refine (nd_split nd hi hj).2 ?_
  rw [List.mem_take_iff_getElem]
  have hal := (List.getElem?_eq_some_iff.mp q).1
  exact ⟨a, by have := (List.getElem?_eq_some_iff.mp hj).1; omega, (List.getElem?_eq_some_iff.mp q).2⟩
theorem at_one {fl : List (List (List Nat))} (nd : fl.flatten.Nodup) {i j k n : Nat} {l : List Nat} (h : At fl i j l) (g : At fl k n l) : k = i ∧ n = j := by
  obtain ⟨r, h1, h2⟩ := g
  have e := at_row nd h h1 (List.mem_of_getElem? h2)
  subst e
  obtain ⟨r', h3, h4⟩ := h
  rw [h1] at h3
  cases h3
  refine ⟨rfl, ?_⟩
  have a1 := first_at nd h1 h2
  have a2 := first_at nd h1 h4
  rcases Nat.lt_trichotomy n j with q | q | q
  · exact absurd h2 (a2 n q)
  · exact q
  · exact absurd h4 (a1 j q)
abbrev nameF (l : List Nat) : Flds := [("name", V.str (Sx l))]
section
variable {K : PySem.W.Frag} {Pg : Program} {w : World}
def WX_locate (CU : Addr) : WTX := fun ss m P Y => ∃ (fl : List (List (List Nat))) (l : List Nat), ss = [.d (flD fl), .d (nmD l)] ∧ VF fl ∧ Tx l ∧ (∀ i j, At fl i j l → P (.d (prD (i, j))) m) ∧ (l ∉ fl.flatten → Y CU (nameF l) m)
def t_locate5 (K : PySem.W.Frag) (Pg : Program) (w : World) (CU : Addr) (W : WX) : TS :=
  (tSeq (tFor (iEnumU K (tCons (tVar 0) tNil)) (gTup K 2 (gCons (gName 2) (gCons (gName 3) gNil)))
    (tIfS (tTest (tOp (rInU K Pg w) (tVar 1) (tVar 3)))
    (tRet (tTupZ (tCons (tVar 2) (tCons (tTM K (rTIx K) (tVar 3) (tVar 1)) tNil))))
    tNext))
    (fun _ σ H => tMkO CU (spIni CU ["name"]) [] (tCons (tVar 1) tNil) σ H fun cls d H' => W cls d σ H'))
theorem raise_name {ρ : Rho} {m : Sto} {k : Ko} {X : Xv} {C : Addr} {l : List Nat} {i : Nat} (h : ρ[i]? = some (some (.d (nmD l)))) (x : X ρ C (nameF l) m) : WpW K (fun W _ σ H => tMkO C (spIni C ["name"]) [] (tCons (tVar i) tNil) σ H fun cls d H' => W cls d σ H') ρ m k X :=
  wpw_raise (C := C) (ns := ["name"]) <| ea_cons <| ev_var h <| ea_nil ⟨[.str (Sx l)], fun F H us hu => by
    obtain ⟨x, e, o⟩ := sls1 hu
    cases (show x = .str _ from o)
    exact e, rfl, by simp, x⟩
theorem rd_locate5 (CU : Addr) (ss : List Sl) (m : Sto) (P : PV) (Y : Addr → Flds → Sto → Prop) (h : WX_locate CU ss m P Y) : WpW K (t_locate5 K Pg w CU) (rho ["floor", "name", "row", "names"] ss) m { nx := fun _ m' => P (.d .none) m', rt := P } (fun _ => Y) := by
  obtain ⟨fl, l, rfl, v, hT, p, y⟩ := h
  unfold t_locate5
  have hS := v.short
  refine wpw_seq <| wpw_of <| wp_enum (toD := rwD) <| ea_cons <| ev_var rfl <| ea_nil ⟨fl, fun k ρ' m' => ∃ s2 s3, ρ' = [some (.d (flD fl)), some (.d (nmD l)), s2, s3] ∧ m' = m ∧ l ∉ (fl.take k).flatten, rfl, ⟨_, _, rfl, rfl, by simp⟩, ?_, ?_⟩
  · rintro k rk ρ' m' hk ⟨s2, s3, rfl, rfl, hn⟩
    have hmk : rk ∈ fl := List.mem_of_getElem? hk
    refine wp_if <| et_test <| ev_op <| ev_var rfl <| ev_var rfl <| ri_tup (shaped_str hT) (shaped_names fun l hl => (hS.2 rk hmk).2 l hl).1 ⟨_, rfl, ite_b (fun h1 => ?_) (fun h1 => wp_next ⟨_, _, rfl, rfl, ?_⟩)⟩
    · rw [anyEq_names] at h1
      have hm : l ∈ rk := of_decide_eq_true h1
      obtain ⟨j, hj⟩ := List.mem_iff_getElem?.mp hm
      refine wp_ret <| ev_tup <| ea_cons <| ev_var rfl <| ea_cons <| ev_tm <| ev_var rfl ⟨_, rfl, ev_var rfl ?_⟩
      rw [nms_str]
      refine rm_tindex (j := j) (by rw [List.getElem?_map, hj]; rfl) (fun a ha q => ?_) <| ea_nil ⟨[.int (k : Nat), .int (j : Nat)], rfl, by simp, p k j ⟨rk, hk, hj⟩⟩
      rw [List.getElem?_map] at q
      cases hq : rk[a]? with
      | none => rw [hq] at q; cases q
      | some x =>
        rw [hq] at q
        have : x = l := sx_inj (Option.some.inj q)
        subst this
        exact first_at v.nd hk hj a ha hq
    · rw [anyEq_names] at h1
      rw [take_flat hk, List.mem_append]
      rintro (q | q)
      · exact hn q
      · exact of_decide_eq_false h1 q
  · rintro ρ' m' ⟨s2, s3, rfl, rfl, hn⟩
    rw [List.take_length] at hn
    exact raise_name rfl (y hn)
def WX_locate_leader (CU CN : Addr) : WTX := fun ss m P Y => ∃ (fl : List (List (List Nat))) (l : List Nat), ss = [.d (flD fl), .d (nmD l)] ∧ VF fl ∧ Tx l ∧ (∀ i j, At fl i j l → upN l = true → P (.d (prD (i, j))) m) ∧ (l ∉ fl.flatten → Y CU (nameF l) m) ∧ (l ∈ fl.flatten → upN l = false → Y CN (nameF l) m)
def t_locate_leader (K : PySem.W.Frag) (Pg : Program) (w : World) (CU : Addr) (CN : Addr) (W : WX) : TS :=
  (tSeq (tAsg (tCallS (SpX K (WX_locate CU)) (WE W) (tCons (tVar 0) (tCons (tVar 1) tNil))) (gName 2))
    (tSeq (tIfS (tNot (tTr K (tCall (SpD K W_is_leader) [] E0 (tCons (tVar 1) tNil))))
    (fun _ σ H => tMkO CN (spIni CN ["name"]) [] (tCons (tVar 1) tNil) σ H fun cls d H' => W cls d σ H')
    tNext)
    (tRet (tVar 2))))
theorem rd_locate_leader (CU CN : Addr) (ss : List Sl) (m : Sto) (P : PV) (Y : Addr → Flds → Sto → Prop) (h : WX_locate_leader CU CN ss m P Y) : WpW K (t_locate_leader K Pg w CU CN) (rho ["floor", "name", "place"] ss) m { nx := fun _ m' => P (.d .none) m', rt := P } (fun _ => Y) := by
  obtain ⟨fl, l, rfl, v, hT, p, y, z⟩ := h
  unfold t_locate_leader
  refine wpw_seq <| wpw_set <| evw_call <| ea_cons <| ev_var rfl <| ea_cons <| ev_var rfl <| ea_nil ⟨fl, l, rfl, v, hT, fun i j hat => ?_, y⟩
  obtain ⟨r, hr, hl⟩ := List.mem_flatten.mp hat.mem
  have hne := (v.named r hr l hl).1
  cases l with
  | nil => exact absurd rfl hne
  | cons c t =>
  have ht : t.length ≤ 2000 := by have := hT.1; simp at this; omega
  refine wpw_seq <| wpw_if <| et_not <| et_tr <| ev_call0 <| ea_cons <| ev_var rfl <| ea_nil ⟨c, t, rfl, ht, _, tr_bool, ite_b (fun h1 => ?_) (fun h1 => ?_)⟩
  · exact raise_name rfl (z hat.mem (by show isUp c = false; simpa using h1))
  · exact wpw_of <| wp_next <| wpw_ret <| evw_of <| ev_var rfl <| p i j hat (by show isUp c = true; simpa using h1)
/-! ### crossed, cross -/
def W_crossed : WT := fun ss m P => ∃ (ds : List PyData) (k : Nat), ss = [.d (.tuple ds), .d (.int (k : Nat))] ∧ k < ds.length ∧ ds.length ≤ 1000 ∧ P (.d (.tuple (crL k ds))) m
def t_crossed (K : PySem.W.Frag) (Pg : Program) (w : World) : TS :=
  (tRet (tOp (rAddU K) (tOp (rAddU K) (tSl (rSlU K) (tVar 0) (tPart (tOp (rAddU K) (tVar 1) (tC (.int 1)))) tNoPart) (tSl (rSlU K) (tVar 0) (tPart (tVar 1)) (tPart (tOp (rAddU K) (tVar 1) (tC (.int 1)))))) (tSl (rSlU K) (tVar 0) tNoPart (tPart (tVar 1)))))
theorem rd_crossed (ss : List Sl) (m : Sto) (P : PV) (h : W_crossed ss m P) : Wp K (t_crossed K Pg w) (rho ["line", "at"] ss) m { nx := fun _ m' => P (.d .none) m', rt := P } := by
  obtain ⟨ds, k, rfl, hk, hl, p⟩ := h
  have e1 : (k : Int) + 1 = ((k + 1 : Nat) : Int) := by omega
  refine wp_ret <| ev_op <| ev_op <| ev_sl <| ev_var rfl <| eo_some <| ev_op <| ev_var rfl <| ev_int <| ra_int ⟨_, rfl, eo_no <| rz_tup ?_⟩
  rw [e1, cut_from]
  refine ev_sl <| ev_var rfl <| eo_some <| ev_var rfl ⟨_, rfl, eo_some <| ev_op <| ev_var rfl <| ev_int <| ra_int ⟨_, rfl, rz_tup ?_⟩⟩
  rw [e1, cut_mid (by omega) (by omega), show k + 1 - k = 1 from by omega]
  refine ra_tup ?_ <| ev_sl <| ev_var rfl <| eo_no <| eo_some <| ev_var rfl ⟨_, rfl, rz_tup ?_⟩
  · simp; omega
  rw [cut_to]
  exact ra_tup (by simp; omega) p
def WX_cross (CU CN : Addr) : WTX := fun ss m P Y => ∃ (fl : List (List (List Nat))) (l : List Nat), ss = [.d (flD fl), .d (nmD l)] ∧ VF fl ∧ Tx l ∧ (∀ i j, At fl i j l → upN l = true → P (.d (flD (crF i j fl))) m) ∧ (l ∉ fl.flatten → Y CU (nameF l) m) ∧ (l ∈ fl.flatten → upN l = false → Y CN (nameF l) m)
def t_cross (K : PySem.W.Frag) (Pg : Program) (w : World) (CU : Addr) (CN : Addr) (W : WX) : TS :=
  (tSeq (tAsg (tCallS (SpX K (WX_locate_leader CU CN)) (WE W) (tCons (tVar 0) (tCons (tVar 1) tNil))) (gTup K 2 (gCons (gName 2) (gCons (gName 3) gNil))))
    (tRet (tCB (rTupleC K) (tCons (tLc (iSeqU K (tCall (SpD K W_crossed) [] E0 (tCons (tVar 0) (tCons (tVar 2) tNil)))) (gName 4) tYes (tCall (SpD K W_crossed) [] E0 (tCons (tVar 4) (tCons (tVar 3) tNil))) [4]) tNil))))
theorem rd_cross (CU CN : Addr) (ss : List Sl) (m : Sto) (P : PV) (Y : Addr → Flds → Sto → Prop) (h : WX_cross CU CN ss m P Y) : WpW K (t_cross K Pg w CU CN) (rho ["floor", "name", "row", "column", "names"] ss) m { nx := fun _ m' => P (.d .none) m', rt := P } (fun _ => Y) := by
  obtain ⟨fl, l, rfl, v, hT, p, y, z⟩ := h
  unfold t_cross
  refine wpw_seq <| wpw_asg <| evw_call <| ea_cons <| ev_var rfl <| ea_cons <| ev_var rfl <| ea_nil ⟨fl, l, rfl, v, hT, fun i j hat hu => ⟨[2, 3], gt_pair ?_⟩, y, z⟩
  obtain ⟨r, hr, hl⟩ := id hat
  obtain ⟨c, c0, c1, hc⟩ := v.cols
  have hil := (List.getElem?_eq_some_iff.mp hr).1
  have hjl := (List.getElem?_eq_some_iff.mp hl).1
  have hrc := hc r (List.mem_of_getElem? hr)
  have hm := v.most
  refine wpw_ret <| evw_of <| ev_cb <| ea_cons <| ev_lcF (toD := rwD) List.mem_cons_self <| ei_tup <| ev_call0 <| ea_cons <| ev_var rfl <| ea_cons <| ev_var rfl <| ea_nil ⟨fl.map rwD, i, rfl, by rw [List.length_map]; exact hil, by rw [List.length_map]; omega, _, rfl, crL i fl, fun _ => true, fun r => rwD (crL j r), ?_, trivial, ?_, fun q hq => ⟨et_yes ⟨rfl, rfl⟩, fun _ => ?_⟩, ?_⟩
  · rw [crL_map]
  · rw [crL_len hil]; omega
  · have hqc := hc q (crL_mem hq)
    refine ev_call0 <| ea_cons <| ev_var rfl <| ea_cons <| ev_var rfl <| ea_nil ⟨q.map nmD, j, rfl, by rw [List.length_map]; omega, by rw [List.length_map]; omega, ?_, rfl⟩
    rw [crL_map]
  · refine ea_nil <| rc_tupleL ?_
    rw [List.filter_eq_self.mpr (fun _ _ => rfl)]
    have e : (crL i fl).map (fun r => rwD (crL j r)) = (crF i j fl).map rwD := by unfold crF; rw [List.map_map]; rfl
    rw [e]
    exact p i j hat hu
theorem filt_one {G : Nat → Bool} {i : Nat} (g : G i = true) : ∀ {n : Nat}, i < n → (∀ k, k < n → G k = true → k = i) → (List.range n).filter G = [i]
  | 0, h, _ => absurd h (Nat.not_lt_zero _)
  | n + 1, h, u => by
    rw [List.range_succ, List.filter_append]
    by_cases e : i = n
    · subst e
      have h0 : (List.range i).filter G = [] := List.filter_eq_nil_iff.mpr fun k hk q => by
        have := List.mem_range.mp hk
        have := u k (by omega) q
        omega
      rw [h0]
      simp [g]
    · have hn : G n = false := by
        cases q : G n with
        | false => rfl
        | true => exact absurd (u n (by omega) q).symm e
      rw [filt_one g (by omega) (fun k hk => u k (by omega))]
      simp [hn]
def W_l_cross : WT := fun ss m P => ∃ (fl : List (List (List Nat))) (l : List Nat) (i j : Nat), ss = [.d (flD fl), .d (nmD l)] ∧ VF fl ∧ At fl i j l ∧ P (.d (flD (crF i j fl))) m
def t_l_cross (K : PySem.W.Frag) (Pg : Program) (w : World) : TS :=
  (tSeq (tAsg (tOp (rIx K) (tLc (iRng1 (tCons (tCB (rLenC K) (tCons (tVar 0) tNil)) tNil)) (gName 5) (tTest (tOp (rInU K Pg w) (tVar 1) (tOp (rIx K) (tVar 0) (tVar 5)))) (tVar 5) [5]) (tC (.int 0))) (gName 2))
    (tSeq (tAsg (tTM K (rTIx K) (tOp (rIx K) (tVar 0) (tVar 2)) (tVar 1)) (gName 3))
    (tSeq (tAsg (tOp (rAddU K) (tOp (rAddU K) (tCB (rListC K) (tCons (tSl (rSlU K) (tVar 0) (tPart (tOp (rAddU K) (tVar 2) (tC (.int 1)))) tNoPart) tNil)) (tLst (tCons (tOp (rIx K) (tVar 0) (tVar 2)) tNil))) (tCB (rListC K) (tCons (tSl (rSlU K) (tVar 0) tNoPart (tPart (tVar 2))) tNil))) (gName 4))
    (tRet (tCB (rTupleC K) (tCons (tLc (iSeqU K (tVar 4)) (gName 6) tYes (tCB (rTupleC K) (tCons (tOp (rAddU K) (tOp (rAddU K) (tCB (rListC K) (tCons (tSl (rSlU K) (tVar 6) (tPart (tOp (rAddU K) (tVar 3) (tC (.int 1)))) tNoPart) tNil)) (tLst (tCons (tOp (rIx K) (tVar 6) (tVar 3)) tNil))) (tCB (rListC K) (tCons (tSl (rSlU K) (tVar 6) tNoPart (tPart (tVar 3))) tNil))) tNil)) [6]) tNil))))))
theorem rd_l_cross (ss : List Sl) (m : Sto) (P : PV) (h : W_l_cross ss m P) : Wp K (t_l_cross K Pg w) (rho ["floor", "name", "row", "column", "lines", "index", "line"] ss) m { nx := fun _ m' => P (.d .none) m', rt := P } := by
  obtain ⟨fl, l, i, j, rfl, v, hat, p⟩ := h
  obtain ⟨r, hi, hj⟩ := id hat
  obtain ⟨c, c0, c1, hc⟩ := v.cols
  have hS := v.short
  have hm := v.most
  have hil := (List.getElem?_eq_some_iff.mp hi).1
  have hjl := (List.getElem?_eq_some_iff.mp hj).1
  have hmr := List.mem_of_getElem? hi
  have hrc := hc r hmr
  have hT : Tx l := (hS.2 r hmr).2 l (List.mem_of_getElem? hj)
  have e1 : ∀ k : Nat, (k : Int) + 1 = ((k + 1 : Nat) : Int) := fun k => by omega
  refine wp_seq <| wp_set <| ev_op <| ev_lcF (α := Nat) (toD := fun i => .int (i : Nat)) List.mem_cons_self <| ei_rng1 <| ea_cons <| ev_cb <| ea_cons <| ev_var rfl <| ea_nil <| rc_lenT <| ea_nil ⟨_, rfl, by rw [List.length_map]; omega, by omega, List.range fl.length, fun k => decide (l ∈ fl.getD k []), fun k => .int (k : Nat), ?_, trivial, by simp; omega, fun k hk => ⟨?_, fun _ => ev_var rfl ⟨rfl, rfl⟩⟩, ?_⟩
  · rw [List.length_map, List.map_map]
    rfl
  · have hkl := List.mem_range.mp hk
    have hq : fl[k]? = some (fl.getD k []) := by rw [List.getD_eq_getElem?_getD, List.getElem?_eq_getElem hkl]; rfl
    refine et_test <| ev_op <| ev_var rfl <| ev_op <| ev_var rfl <| ev_var rfl <| rx_tup (atI_map rfl hq) <| ri_tup (shaped_str hT) (shaped_names fun x hx => (hS.2 _ (List.mem_of_getElem? hq)).2 x hx).1 ⟨_, rfl, anyEq_names _ _, rfl⟩
  have hf : (List.range fl.length).filter (fun k => decide (l ∈ fl.getD k [])) = [i] := by
    refine filt_one ?_ hil fun k hk q => ?_
    · rw [List.getD_eq_getElem?_getD, hi]
      exact decide_eq_true (List.mem_of_getElem? hj)
    · have hq : fl[k]? = some (fl.getD k []) := by rw [List.getD_eq_getElem?_getD, List.getElem?_eq_getElem hk]; rfl
      exact at_row v.nd hat hq (of_decide_eq_true q)
  rw [hf]
  refine ev_int <| rx_lst (d := .int (i : Nat)) rfl <| wp_seq <| wp_set <| ev_tm <| ev_op <| ev_var rfl <| ev_var rfl <| rx_tup (atI_map rfl hi) ⟨_, rfl, ev_var rfl ?_⟩
  rw [nms_str]
  refine rm_tindex (j := j) (by rw [List.getElem?_map, hj]; rfl) (fun a ha q => ?_) ?_
  · rw [List.getElem?_map] at q
    cases hq : r[a]? with
    | none => rw [hq] at q; cases q
    | some x =>
      rw [hq] at q
      have : x = l := sx_inj (Option.some.inj q)
      subst this
      exact first_at v.nd hi hj a ha hq
  refine wp_seq <| wp_set <| ev_op <| ev_op <| ev_cb <| ea_cons <| ev_sl <| ev_var rfl <| eo_some <| ev_op <| ev_var rfl <| ev_int <| ra_int ⟨_, rfl, eo_no <| rz_tup ?_⟩
  rw [e1, cut_from]
  refine ea_nil <| rc_list seq_tup <| ev_lst <| ea_cons <| ev_op <| ev_var rfl <| ev_var rfl <| rx_tup (atI_map rfl hi) <| ea_nil ⟨[_], rfl, by simp, ra_lst (by simp; omega) <| ev_cb <| ea_cons <| ev_sl <| ev_var rfl <| eo_no <| eo_some <| ev_var rfl ⟨_, rfl, rz_tup ?_⟩⟩
  rw [cut_to]
  refine ea_nil <| rc_list seq_tup <| ra_lst (by simp; omega) ?_
  have eL : (fl.map rwD).drop (i + 1) ++ [rwD r] ++ (fl.map rwD).take i = (crL i fl).map rwD := by
    rw [crL_at hi]
    simp [List.map_drop, List.map_take]
  rw [eL]
  refine wp_ret <| ev_cb <| ea_cons <| ev_lcF (toD := rwD) List.mem_cons_self <| ei_lst <| ev_var rfl ⟨_, rfl, crL i fl, fun _ => true, fun r => rwD (crL j r), rfl, trivial, by rw [crL_len hil]; omega, fun q hq => ⟨et_yes ⟨rfl, rfl⟩, fun _ => ?_⟩, ?_⟩
  · have hqc := hc q (crL_mem hq)
    obtain ⟨x, hx⟩ : ∃ x, q[j]? = some x := ⟨_, List.getElem?_eq_getElem (by omega)⟩
    refine ev_cb <| ea_cons <| ev_op <| ev_op <| ev_cb <| ea_cons <| ev_sl <| ev_var rfl <| eo_some <| ev_op <| ev_var rfl <| ev_int <| ra_int ⟨_, rfl, eo_no <| rz_tup ?_⟩
    rw [e1, cut_from]
    refine ea_nil <| rc_list seq_tup <| ev_lst <| ea_cons <| ev_op <| ev_var rfl <| ev_var rfl <| rx_tup (atI_map rfl hx) <| ea_nil ⟨[_], rfl, by simp, ra_lst (by simp; omega) <| ev_cb <| ea_cons <| ev_sl <| ev_var rfl <| eo_no <| eo_some <| ev_var rfl ⟨_, rfl, rz_tup ?_⟩⟩
    rw [cut_to]
    refine ea_nil <| rc_list seq_tup <| ra_lst (by simp; omega) <| ea_nil <| rc_tupleL ⟨?_, rfl⟩
    have eQ : (q.map nmD).drop (j + 1) ++ [nmD x] ++ (q.map nmD).take j = (crL j q).map nmD := by
      rw [crL_at hx]
      simp [List.map_drop, List.map_take]
    rw [eQ]
  · refine ea_nil <| rc_tupleL ?_
    rw [List.filter_eq_self.mpr (fun _ _ => rfl)]
    have e : (crL i fl).map (fun r => rwD (crL j r)) = (crF i j fl).map rwD := by unfold crF; rw [List.map_map]; rfl
    rw [e]
    exact p
end
end Dv

namespace Dv
open PySem L2 PyProof.Rows
/-! ### what may be shown and compared: depth at most k, weight at most n -/
structure Nx (k n : Nat) (d : PyData) : Prop where
  sh : PyData.showable d = true
  hd : PyData.hasDict d = false
  cl : PyData.canLay0 d = true
  dp : PyData.depth d ≤ k
  ls : PyData.leavesShort 13 d = true
  wt : PyData.weight d ≤ n
structure NxA (k n : Nat) (ds : List PyData) : Prop where
  sh : PyData.showableAll ds = true
  hd : PyData.hasDictAll ds = false
  cl : PyData.canLayAll0 ds = true
  dp : PyData.depthAll ds ≤ k
  ls : PyData.leavesShortAll 13 ds = true
  wt : PyData.weightAll ds ≤ n
theorem Nx.mono {k n k' n' : Nat} {d : PyData} (h : Nx k n d) (hk : k ≤ k') (hn : n ≤ n') : Nx k' n' d := ⟨h.sh, h.hd, h.cl, Nat.le_trans h.dp hk, h.ls, Nat.le_trans h.wt hn⟩
theorem NxA.mono {k n k' n' : Nat} {d : List PyData} (h : NxA k n d) (hk : k ≤ k') (hn : n ≤ n') : NxA k' n' d := ⟨h.sh, h.hd, h.cl, Nat.le_trans h.dp hk, h.ls, Nat.le_trans h.wt hn⟩
theorem nxa_nil {k : Nat} : NxA k 0 [] := ⟨rfl, rfl, rfl, Nat.zero_le _, rfl, Nat.le_refl _⟩
theorem nxa_cons {k n n' : Nat} {d : PyData} {ds : List PyData} (h : Nx k n d) (t : NxA k n' ds) : NxA k (n + 1 + n') (d :: ds) where
  sh := by rw [PyData.showableAll, h.sh, t.sh]; rfl
  hd := by rw [PyData.hasDictAll, h.hd, t.hd]; rfl
  cl := by rw [PyData.canLayAll0, h.cl, t.cl]; rfl
  dp := by rw [PyData.depthAll]; exact Nat.max_le.mpr ⟨h.dp, t.dp⟩
  ls := by rw [PyData.leavesShortAll, h.ls, t.ls]; rfl
  wt := by rw [PyData.weightAll]; have := h.wt; have := t.wt; omega
theorem nxa_map {α : Type} {f : α → PyData} {k n : Nat} : ∀ {xs : List α}, (∀ x, x ∈ xs → Nx k n (f x)) → NxA k (xs.length * (n + 1)) (xs.map f)
  | [], _ => by rw [List.length_nil, Nat.zero_mul]; exact nxa_nil
  | x :: xs, h => (nxa_cons (h x List.mem_cons_self) (nxa_map fun y hy => h y (List.mem_cons_of_mem _ hy))).mono (Nat.le_refl _) (by rw [List.length_cons, Nat.succ_mul]; omega)
theorem nx_tup {k n : Nat} {ds : List PyData} (h : NxA k n ds) : Nx (k + 1) n (.tuple ds) := ⟨h.sh, h.hd, h.cl, by rw [PyData.depth]; exact Nat.succ_le_succ h.dp, h.ls, h.wt⟩
theorem nx_lst {k n : Nat} {ds : List PyData} (h : NxA k n ds) : Nx (k + 1) n (.list ds) := ⟨h.sh, h.hd, h.cl, by rw [PyData.depth]; exact Nat.succ_le_succ h.dp, h.ls, h.wt⟩
theorem nx_str {k : Nat} {l : List Nat} (h : Tx l) : Nx k 2000 (nmD l) := by
  have hs := shaped_str h
  simp [SeqAt.shaped] at hs
  refine ⟨rfl, rfl, hs.1, Nat.zero_le _, ?_, ?_⟩
  · show (Sx l).cps.toList.all (fun c => decide (c < 16 ^ 8)) = true
    simp only [List.all_eq_true, decide_eq_true_eq]
    intro c hc
    have := h.2 c (by simpa using hc)
    omega
  · have : PyData.weight (nmD l) = l.length := by show (Sx l).cps.size = _; simp
    rw [this]
    exact h.1
theorem nx_bool {k : Nat} {b : Bool} : Nx k 0 (.bool b) := ⟨rfl, rfl, rfl, Nat.zero_le _, rfl, Nat.zero_le _⟩
theorem nx_none {k : Nat} : Nx k 0 .none := ⟨rfl, rfl, rfl, Nat.zero_le _, rfl, Nat.zero_le _⟩
theorem Nx.shaped {k n : Nat} {d : PyData} (h : Nx k n d) (hk : k ≤ 60) : SeqAt.shaped d = true := by
  have := h.dp
  simp [SeqAt.shaped, h.cl]
  omega
theorem Nx.len {k n : Nat} {d : PyData} (h : Nx k n d) (hn : n ≤ 1048576) : (PyData.shown d).length ≤ sizeLine := PyData.shown_fits (B := 13) (by decide) (by decide) h.ls (Nat.le_trans h.wt hn)
theorem Nx.refl {k n : Nat} {d : PyData} (h : Nx k n d) : PyData.eqv d d = true := SeqAt.eqv_refl d h.cl
theorem nx_row {r : List (List Nat)} (h : ∀ l, l ∈ r → Tx l) (hl : r.length ≤ 12) : Nx 1 (12 * 2001) (rwD r) := (nx_tup (nxa_map (k := 0) fun l hl => nx_str (h l hl))).mono (Nat.le_refl _) (Nat.mul_le_mul_right _ hl)
theorem nx_floor {fl : List (List (List Nat))} (h : ∀ r, r ∈ fl → r.length ≤ 12 ∧ ∀ l, l ∈ r → Tx l) (hl : fl.length ≤ 12) : Nx 2 (12 * (12 * 2001 + 1)) (flD fl) := (nx_tup (nxa_map fun r hr => nx_row (h r hr).2 (h r hr).1)).mono (Nat.le_refl _) (Nat.mul_le_mul_right _ hl)
theorem vf_small {fl : List (List (List Nat))} (v : VF fl) : ∀ r, r ∈ fl → r.length ≤ 12 ∧ ∀ l, l ∈ r → Tx l := fun r hr => by
  obtain ⟨c, c0, c1, hc⟩ := v.cols
  exact ⟨by rw [hc r hr]; exact c1, fun l hl => okL_tx (v.ok r hr l hl)⟩
theorem crF_small {fl : List (List (List Nat))} (v : VF fl) (i j : Nat) (hi : i < fl.length) : (∀ r, r ∈ crF i j fl → r.length ≤ 12 ∧ ∀ l, l ∈ r → Tx l) ∧ (crF i j fl).length ≤ 12 := by
  constructor
  · intro r hr
    obtain ⟨q, hq, rfl⟩ := List.mem_map.mp hr
    obtain ⟨a1, a2⟩ := vf_small v q (crL_mem hq)
    exact ⟨by rw [crL_perm.length_eq]; exact a1, fun l hl => a2 l (crL_mem hl)⟩
  · unfold crF
    rw [List.length_map, crL_len hi]
    exact v.most
theorem lower_same : ∀ k < 26, Txt.lower (Sx [97 + k]) = Sx [97 + k] := by decide +kernel
theorem upper_same : ∀ k < 26, Txt.upper (Sx [65 + k]) = Sx [65 + k] := by decide +kernel
theorem lower_lo {c : Nat} (h : isLo c = true) : Txt.lower (Sx [c]) = Sx [c] := by
  simp [isLo] at h
  have e : c = 97 + (c - 97) := by omega
  rw [e]
  exact lower_same (c - 97) (by omega)
theorem upper_up {c : Nat} (h : isUp c = true) : Txt.upper (Sx [c]) = Sx [c] := by
  simp [isUp] at h
  have e : c = 65 + (c - 65) := by omega
  rw [e]
  exact upper_same (c - 65) (by omega)
def upF : List Nat → List Nat
  | [] => []
  | c :: t => (if isLo c = true then c - 32 else c) :: t
theorem low_first {c : Nat} {t : List Nat} (h : okL (c :: t) = true) : Txt.lower (Sx [c]) ++ Sx t = Sx (lowN (c :: t)) := by
  simp [okL] at h
  show _ = Sx ((if isUp c = true then c + 32 else c) :: t)
  rcases h.2.1 with q | q
  · rw [lower_up q, sx_app, if_pos q]; rfl
  · have : ¬ (isUp c = true) := by simp [isLo] at q; simp [isUp]; omega
    rw [lower_lo q, sx_app, if_neg this]; rfl
theorem up_first {c : Nat} {t : List Nat} (h : okL (c :: t) = true) : Txt.upper (Sx [c]) ++ Sx t = Sx (upF (c :: t)) := by
  simp [okL] at h
  show _ = Sx ((if isLo c = true then c - 32 else c) :: t)
  rcases h.2.1 with q | q
  · have : ¬ (isLo c = true) := by simp [isUp] at q; simp [isLo]; omega
    rw [upper_up q, sx_app, if_neg this]; rfl
  · rw [upper_lo q, sx_app, if_pos q]; rfl
theorem tx_low {l : List Nat} (h : okL l = true) : Tx (lowN l) := by
  have hT := okL_tx h
  cases l with
  | nil => cases h
  | cons c t =>
    refine ⟨by have := hT.1; simpa [lowN] using this, fun d hd => ?_⟩
    simp only [lowN] at hd
    rcases List.mem_cons.mp hd with e | e
    · subst e
      split
      · rename_i q; simp [isUp] at q; omega
      · exact hT.2 c List.mem_cons_self
    · exact hT.2 d (List.mem_cons_of_mem _ e)
theorem tx_up {l : List Nat} (h : okL l = true) : Tx (upF l) := by
  have hT := okL_tx h
  cases l with
  | nil => cases h
  | cons c t =>
    have hc := hT.2 c List.mem_cons_self
    refine ⟨by have := hT.1; simpa [upF] using this, fun d hd => ?_⟩
    simp only [upF] at hd
    rcases List.mem_cons.mp hd with e | e
    · subst e
      split <;> omega
    · exact hT.2 d (List.mem_cons_of_mem _ e)
theorem flat12 {fl : List (List (List Nat))} (v : VF fl) : ∀ g : List (List (List Nat)), (∀ r ∈ g, r ∈ fl) → g.flatten.length ≤ g.length * 12 := by
  obtain ⟨c, c0, c1, hc⟩ := v.cols
  intro g
  induction g with
  | nil => intro _; simp
  | cons x g ih =>
    intro hg
    have := ih fun r hr => hg r (List.mem_cons_of_mem _ hr)
    have hx := hc x (hg x List.mem_cons_self)
    simp
    simp at this
    omega
theorem flat144 {fl : List (List (List Nat))} (v : VF fl) (i : Nat) : (fl.take i).flatten.length ≤ 144 := by
  have h1 := flat12 v (fl.take i) fun r hr => List.mem_of_mem_take hr
  have h2 := v.most
  have h3 : (fl.take i).length ≤ 12 := by rw [List.length_take]; omega
  omega
theorem flat144' {fl : List (List (List Nat))} (v : VF fl) : fl.flatten.length ≤ 144 := by
  have := flat144 v fl.length
  rwa [List.take_length] at this
def Told (fl : List (List (List Nat))) (l : List Nat) (d : PyData) : Prop := (∃ i j, At fl i j l ∧ upN l = true ∧ d = flD (crF i j fl)) ∨ (l ∉ fl.flatten ∧ d = .list [.str "unknown", nmD l]) ∨ (l ∈ fl.flatten ∧ upN l = false ∧ d = .list [.str "not leader", nmD l])
section
variable {K : PySem.W.Frag} {Pg : Program} {w : World}
def W_told5 : WT := fun ss m P => ∃ (fl : List (List (List Nat))) (l : List Nat) (d : PyData), ss = [.d (flD fl), .d (nmD l)] ∧ VF fl ∧ Tx l ∧ Told fl l d ∧ P (.d d) m
def t_told5 (K : PySem.W.Frag) (Pg : Program) (w : World) (CB : Addr) (CE : Addr) (CK : Addr) (CN : Addr) (CU : Addr) : TS :=
  (tSeq (tTry K (.ref CE) 3 (fun a cls d =>
    (tSeq (tAsg (tLst (tCons (tC (.str "other")) (tCons (tC (.str "")) tNil))) (gName 2))
    (tSeq (tIfS (tAnd (tTr K (tCB (rIsA K [CU, CN] a cls d) (tCons (tVar 3) (tCons (tC (.ref CN)) tNil)))) (tNot (tTr K (tCB (rIsAT K [CU, CN] a cls d) (tCons (tVar 3) (tCons (tTupZ (tCons (tC (.ref CB)) (tCons (tC (.ref CU)) (tCons (tC (.ref CK)) tNil)))) tNil))))))
    (tAsg (tLst (tCons (tC (.str "not leader")) (tCons (tXfA a cls d [CU, CN] "name" (tVar 3)) tNil))) (gName 2))
    tNext)
    (tIfS (tAnd (tTr K (tCB (rIsA K [CU, CN] a cls d) (tCons (tVar 3) (tCons (tC (.ref CU)) tNil)))) (tNot (tTr K (tCB (rIsAT K [CU, CN] a cls d) (tCons (tVar 3) (tCons (tTupZ (tCons (tC (.ref CB)) (tCons (tC (.ref CN)) (tCons (tC (.ref CK)) tNil)))) tNil))))))
    (tAsg (tLst (tCons (tC (.str "unknown")) (tCons (tXfA a cls d [CU, CN] "name" (tVar 3)) tNil))) (gName 2))
    tNext)))) (fun W =>
    (tAsg (tCallS (SpX K (WX_cross CU CN)) (WE W) (tCons (tVar 0) (tCons (tVar 1) tNil))) (gName 2))))
    (tRet (tVar 2)))
theorem mem1 {α : Type} {a b : α} : a ∈ [a, b] := List.mem_cons_self
theorem mem2 {α : Type} {a b : α} : b ∈ [a, b] := List.mem_cons_of_mem _ List.mem_cons_self
theorem rd_told5 (CB CE CK CN CU : Addr) (xNE : PySem.W.exmOne K (.ref CN) (.ref CE) = some true) (xUE : PySem.W.exmOne K (.ref CU) (.ref CE) = some true)
    (tNB : PySem.W.kitOne K (.ref CN) (.ref CB) = some false) (tNK : PySem.W.kitOne K (.ref CN) (.ref CK) = some false) (tNU : PySem.W.kitOne K (.ref CN) (.ref CU) = some false)
    (tUB : PySem.W.kitOne K (.ref CU) (.ref CB) = some false) (tUK : PySem.W.kitOne K (.ref CU) (.ref CK) = some false) (tUN : PySem.W.kitOne K (.ref CU) (.ref CN) = some false)
    (ss : List Sl) (m : Sto) (P : PV) (h : W_told5 ss m P) : Wp K (t_told5 K Pg w CB CE CK CN CU) (rho ["floor", "name", "found", "e"] ss) m { nx := fun _ m' => P (.d .none) m', rt := P } := by
  obtain ⟨fl, l, d, rfl, v, hT, td, p⟩ := h
  unfold t_told5
  refine wp_seq <| wp_try (XS := fun ρ' C fs m' => ρ' = [some (.d (flD fl)), some (.d (nmD l)), none, none] ∧ m' = m ∧ fs = nameF l ∧ ((C = CU ∧ l ∉ fl.flatten) ∨ (C = CN ∧ l ∈ fl.flatten ∧ upN l = false))) ?_ ?_
  · refine wpw_set <| evw_call <| ea_cons <| ev_var rfl <| ea_cons <| ev_var rfl <| ea_nil ⟨fl, l, rfl, v, hT, fun i j hat hu => ?_, fun hn => ⟨rfl, rfl, rfl, .inl ⟨rfl, hn⟩⟩, fun hm hu => ⟨rfl, rfl, rfl, .inr ⟨rfl, hm, hu⟩⟩⟩
    refine wp_ret <| ev_var rfl ?_
    rcases td with ⟨i', j', hat', _, rfl⟩ | ⟨hn, _⟩ | ⟨_, hu', _⟩
    · obtain ⟨rfl, rfl⟩ := at_one v.nd hat' hat
      exact p
    · exact absurd hat.mem hn
    · rw [hu] at hu'; cases hu'
  · rintro ρ' C fs m' ⟨rfl, rfl, rfl, ⟨rfl, hn⟩ | ⟨rfl, hm, hu⟩⟩
    · refine ⟨xUE, fun a dd hd => ?_⟩
      refine wp_seq <| wp_set <| ev_lst <| ea_cons <| ev_str <| ea_cons <| ev_str <| ea_nil ⟨[_, _], rfl, by simp, ?_⟩
      refine wp_seq <| wp_if <| et_and <| et_tr <| ev_cb <| ea_cons <| ev_var rfl <| ea_cons <| ev_raw <| ea_nil <| rc_isA mem1 put_same tUN ⟨_, tr_bool, ?_⟩
      rw [if_neg Bool.false_ne_true, if_neg Bool.false_ne_true]
      refine wp_next <| wp_if <| et_and <| et_tr <| ev_cb <| ea_cons <| ev_var rfl <| ea_cons <| ev_raw <| ea_nil <| rc_isA mem1 put_same kit_self ⟨_, tr_bool, ?_⟩
      rw [if_pos rfl]
      refine et_not <| et_tr <| ev_clsA (cs := [CB, CN, CK]) (ea_cons <| ev_raw <| ea_cons <| ev_raw <| ea_cons <| ev_raw <| ea_nil ⟨rfl, by simp, rfl⟩) mem1 (ev_var rfl ⟨rfl, rfl⟩) put_same (ka_no tUB <| ka_no tUN <| ka_no tUK ka_nil) ⟨_, tr_bool, ?_⟩
      rw [if_pos (show (!false) = true from rfl)]
      refine wp_set <| ev_lst <| ea_cons <| ev_str <| ea_cons <| ev_xfA (s' := .d (nmD l)) (v := .str (Sx l)) mem1 <| ev_var rfl ⟨rfl, put_same, by simp [List.lookup], fun _ _ => rfl, ea_nil ⟨[_, _], rfl, by simp, ?_⟩⟩
      refine wp_ret <| ev_del <| ev_var rfl ⟨dd, _, put_same, ?_⟩
      rw [del_put hd]
      rcases td with ⟨i', j', hat', _, rfl⟩ | ⟨_, rfl⟩ | ⟨hm, _, _⟩
      · exact absurd hat'.mem hn
      · exact p
      · exact absurd hm hn
    · refine ⟨xNE, fun a dd hd => ?_⟩
      refine wp_seq <| wp_set <| ev_lst <| ea_cons <| ev_str <| ea_cons <| ev_str <| ea_nil ⟨[_, _], rfl, by simp, ?_⟩
      refine wp_seq <| wp_if <| et_and <| et_tr <| ev_cb <| ea_cons <| ev_var rfl <| ea_cons <| ev_raw <| ea_nil <| rc_isA mem2 put_same kit_self ⟨_, tr_bool, ?_⟩
      rw [if_pos rfl]
      refine et_not <| et_tr <| ev_clsA (cs := [CB, CU, CK]) (ea_cons <| ev_raw <| ea_cons <| ev_raw <| ea_cons <| ev_raw <| ea_nil ⟨rfl, by simp, rfl⟩) mem2 (ev_var rfl ⟨rfl, rfl⟩) put_same (ka_no tNB <| ka_no tNU <| ka_no tNK ka_nil) ⟨_, tr_bool, ?_⟩
      rw [if_pos (show (!false) = true from rfl)]
      refine wp_set <| ev_lst <| ea_cons <| ev_str <| ea_cons <| ev_xfA (s' := .d (nmD l)) (v := .str (Sx l)) mem2 <| ev_var rfl ⟨rfl, put_same, by simp [List.lookup], fun _ _ => rfl, ea_nil ⟨[_, _], rfl, by simp, ?_⟩⟩
      refine wp_if <| et_and <| et_tr <| ev_cb <| ea_cons <| ev_var rfl <| ea_cons <| ev_raw <| ea_nil <| rc_isA mem2 put_same tNU ⟨_, tr_bool, ?_⟩
      rw [if_neg Bool.false_ne_true, if_neg Bool.false_ne_true]
      refine wp_next <| wp_ret <| ev_del <| ev_var rfl ⟨dd, _, put_same, ?_⟩
      rw [del_put hd]
      rcases td with ⟨i', j', _, hu', rfl⟩ | ⟨hn, _⟩ | ⟨_, _, rfl⟩
      · rw [hu] at hu'; cases hu'
      · exact absurd hm hn
      · exact p
end
end Dv

namespace Dv
open PySem L2 PyProof.Rows
open Sem (wp)
/-! ### zip of any number of tuples -/
structure ZSep (z TI TO : Addr) (R : Nat) (it l : Nat → Addr) : Prop where
  zI : TI ≠ z
  zO : TO ≠ z
  IO : TI ≠ TO
  zi : ∀ k, k < R → it k ≠ z
  Ii : ∀ k, k < R → TI ≠ it k
  Oi : ∀ k, k < R → TO ≠ it k
  ii : ∀ k j, k < R → j < R → it k = it j → k = j
  li : ∀ k j, k < R → j < R → l k ≠ it j
  lz : ∀ k, k < R → l k ≠ z
  lO : ∀ k, k < R → l k ≠ TO
structure ZIts (h : Heap) (R : Nat) (it l : Nat → Addr) (row : Nat → Array Value) (n : Nat → Nat) : Prop where
  iter : ∀ k, k < R → h.IsTupleIter (it k) (l k) (n k)
  tup : ∀ k, k < R → h.IsTuple (l k) (row k)
def itsA (R : Nat) (it : Nat → Addr) : Array Value := ((List.range R).map fun k => Value.ref (it k)).toArray
def colA (R : Nat) (row : Nat → Array Value) (i : Nat) : Array Value := ((List.range R).map fun k => (row k).getD i .none).toArray
section
variable {prog : Program} {w : World} {A : Around} {E : Value → Shared → Prop} {s : Shared} {z TI TO T : Addr} {R i : Nat} {it l : Nat → Addr} {row : Nat → Array Value}
theorem its_ne (hR : 0 < R) : (itsA R it).isEmpty = false := by
  unfold itsA
  cases R with
  | zero => omega
  | succ n => simp [List.range_succ]
/-- the iterators up to j have moved -/
def upTo2 (i j : Nat) : Nat → Nat := fun k => if k < j then i + 1 else i
structure ZKeep (z : Addr) (R : Nat) (it : Nat → Addr) (h h' : Heap) : Prop where
  size : h'.objs.size = h.objs.size
  get : ∀ c o, c ≠ z → (∀ k, k < R → c ≠ it k) → h.get? c = some o → h'.get? c = some o
theorem its_step {h h' : Heap} {j : Nat} (S : ZSep z TI TO R it l) (hj : j < R) (hI : ZIts h R it l row (upTo2 i j)) (sb : Heap.SameBut (it j) h h') (st : h'.IsTupleIter (it j) (l j) (i + 1)) : ZIts h' R it l row (upTo2 i (j + 1)) := by
  refine ⟨fun k hk => ?_, fun k hk => ?_⟩
  · by_cases e : k = j
    · subst e
      have : upTo2 i (k + 1) k = i + 1 := if_pos (Nat.lt_succ_self _)
      rw [this]
      exact st
    · have e2 : upTo2 i (j + 1) k = upTo2 i j k := by unfold upTo2; split <;> split <;> omega
      rw [e2]
      exact (hI.iter k hk).at fun o q => sb.extBut _ _ (fun z => e (S.ii _ _ hk hj z)) q
  · exact (hI.tup k hk).extBut sb.extBut (S.li k j hk hj)
theorem draws_it (hh : A.handled = none) (S : ZSep z TI TO R it l) {k : Nat} (hk : k < R) : Draws prog w A (it k) [it k, l k] (row k).size (fun j v => (row k)[j]? = some v) (fun j h => h.IsTupleIter (it k) (l k) j ∧ h.IsTuple (l k) (row k)) := Draws.tuple hh (it k) (l k) (S.li k k hk hk) (row k)
theorem drop_cons {α : Type} {xs ys : List α} {x : α} {j : Nat} (h : x :: ys = xs.drop j) : xs[j]? = some x ∧ ys = xs.drop (j + 1) := by
  have e : (xs.drop j)[0]? = some x := by rw [← h]; rfl
  rw [List.getElem?_drop, Nat.add_zero] at e
  refine ⟨e, ?_⟩
  have : xs.drop (j + 1) = (xs.drop j).drop 1 := by rw [List.drop_drop]
  rw [this, ← h]
  rfl
theorem itsA_get {j : Nat} {x : Value} (h : (itsA R it).toList[j]? = some x) : j < R ∧ x = .ref (it j) := by
  unfold itsA at h
  rw [List.getElem?_map] at h
  cases q : (List.range R)[j]? with
  | none => rw [q] at h; cases h
  | some k =>
    rw [q] at h
    have hj := (List.getElem?_eq_some_iff.mp q).1
    rw [List.length_range] at hj
    rw [List.getElem?_range hj] at q
    cases q
    cases h
    exact ⟨hj, rfl⟩
theorem itsA_len : (itsA R it).toList.length = R := by simp [itsA]
def colT (row : Nat → Array Value) (i j : Nat) : Array Value := ((List.range j).map fun k => (row k).getD i .none).toArray
theorem colT_push {j : Nat} {x : Value} (h : (row j)[i]? = some x) : (colT row i j).push x = colT row i (j + 1) := by
  unfold colT
  rw [List.range_succ, List.map_append]
  simp [h]
theorem zn_held {f : Bool} {oT : Obj} {Q : Value → Shared → Prop} (hh : A.handled = none) (S : ZSep z TI TO R it l) (hR : 0 < R) (hz : IsZipHeld s.heap z TI TO T f) (hT : s.heap.get? T = some oT) (hTI : s.heap.get? TI = some { cls := .type "tuple", data := .seq (itsA R it) })
    (hI : ZIts s.heap R it l row fun _ => i) (hlt : ∀ k, k < R → i < (row k).size) (hz24 : R ≤ sizeLine)
    (hQ : ∀ h' tk, IsZipHeld h' z TI TO T true → ZIts h' R it l row (fun _ => i + 1) → h'.get? s.heap.objs.size = some { cls := .type "tuple", data := .seq (colT row i R) } → h'.objs.size = s.heap.objs.size + 1 →
      (∀ c o, c ≠ z → (∀ k, k < R → c ≠ it k) → s.heap.get? c = some o → h'.get? c = some o) → Q (.ref s.heap.objs.size) { s with heap := h', toks := tk }) :
    wpAny (model prog w) A (Builtin.«zip.__next__» ⟨[.ref z], []⟩) (fun fin s' => ∃ v, fin = .done (.ret v) ∧ Q v s') E s := by
  have hne := its_ne (it := it) hR
  obtain ⟨hp, g, d, tk0, os⟩ := s
  show wpAny _ _ (field (.ref z) 2 >>= _) _ _ _
  refine wpAny_bind (wpAny_field hz rfl (x := .bool false) rfl ?_)
  show wpAny _ _ (field (.ref z) 3 >>= _) _ _ _
  refine wpAny_bind (wpAny_field hz rfl (x := .ref TI) rfl ?_)
  refine wpAny_bind (wpAny_seqItems hTI rfl ?_)
  simp only [hne, Bool.false_eq_true, if_false]
  refine wpAny_bind (wpAny_tupleHeld_zip hz hT fun h₁ hz₁ hs₁ => ?_)
  simp only [Bool.false_eq_true, if_false]
  refine wpAny_bind ?_
  refine MeetsSeq2.wpAny_forIn_array _ (fun rest b s' => ∃ j h' tk, rest = (itsA R it).toList.drop j ∧ j ≤ R ∧ b = (none, colT row i j) ∧ s' = ⟨h', g, d, tk, os⟩ ∧ IsZipHeld h' z TI TO T true ∧ ZIts h' R it l row (upTo2 i j) ∧ ZKeep z R it hp h') _ ?turn ?fin _ _ ⟨0, h₁, tk0, rfl, Nat.zero_le _, rfl, rfl, hz₁, ?_, ⟨hs₁.1, fun c o c1 _ e => hs₁.extBut _ _ c1 e⟩⟩
  case turn =>
    rintro x rest b s' ⟨j, h', tk, hr, hj, rfl, rfl, hz', hI', K⟩
    obtain ⟨hx, hrest⟩ := drop_cons hr
    obtain ⟨hjR, rfl⟩ := itsA_get hx
    refine wpAny_bind (wpAny_holding ?_)
    show wpAny _ _ (Builtin.SmallTypes.nextOf (.ref (it j)) >>= _) _ _ _
    have e0 : upTo2 i j j = i := if_neg (Nat.lt_irrefl _)
    have hij := hI'.iter j hjR
    rw [e0] at hij
    refine wpAny_bind ((draws_it hh S hjR).item i _ _ _ (hlt j hjR) ⟨hij, hI'.tup j hjR⟩ fun x h2 tk2 hx2 st2 sb => wpAny_pure ?_)
    refine wpAny_pure ⟨j + 1, h2, tk2, hrest, hjR, ?_, rfl, sb.extBut _ _ (S.zi j hjR).symm hz', its_step S hjR hI' sb st2.1, sb.1.trans K.size, fun c o c1 c2 e => sb.extBut _ _ (c2 j hjR) (K.get c o c1 c2 e)⟩
    rw [colT_push hx2]
  case fin =>
    rintro b s' ⟨j, h', tk, hr, hj, rfl, rfl, hz', hI', K⟩
    have hjR : j = R := by
      have := congrArg List.length hr
      rw [List.length_drop, itsA_len] at this
      simp at this
      omega
    subst hjR
    show wpAny _ _ (newTuple (colT row i j).toList >>= _) _ _ _
    refine wpAny_bind (wpAny_newTuple ?_ (by simp [colT]; exact hz24))
    refine wpAny_pure ⟨_, rfl, ?_⟩
    have hs := K.size
    show Q (.ref h'.objs.size) _
    have hp2 : (h'.push { cls := .type "tuple", data := .seq (colT row i j).toList.toArray }).get? h'.objs.size = some { cls := .type "tuple", data := .seq (colT row i j).toList.toArray } := Heap.get?_push_size _ rfl
    have hz4 : (h'.push { cls := .type "tuple", data := .seq (colT row i j).toList.toArray }).objs.size = h'.objs.size + 1 := Heap.size_push ..
    rw [hs] at hp2 hz4 ⊢
    refine hQ _ tk (Heap.get?_push_of_some _ hz') ⟨fun k hk => ?_, fun k hk => ?_⟩ (by simpa using hp2) hz4 fun c o c1 c2 e => Heap.get?_push_of_some _ (K.get c o c1 c2 e)
    · have := hI'.iter k hk
      have e : upTo2 i j k = i + 1 := if_pos hk
      rw [e] at this
      exact this.at fun o e => Heap.get?_push_of_some _ e
    · obtain ⟨o, ho, q⟩ := hI'.tup k hk
      exact ⟨o, Heap.get?_push_of_some _ ho, q⟩
  · refine ⟨fun k hk => ?_, fun k hk => (hI.tup k hk).extBut hs₁.extBut (S.lz k hk)⟩
    have e : upTo2 i 0 k = i := if_neg (Nat.not_lt_zero _)
    rw [e]
    exact (hI.iter k hk).at fun o q => hs₁.extBut _ _ (S.zi k hk) q
theorem zn_free {Q : Value → Shared → Prop} {old : Array Value} (hh : A.handled = none) (S : ZSep z TI TO R it l) (hR : 0 < R) (hz : IsZip s.heap z TI TO .none) (hTI : s.heap.get? TI = some { cls := .type "tuple", data := .seq (itsA R it) }) (hTO : s.heap.get? TO = some { cls := .type "tuple", data := .seq old }) (hold : old.size = R)
    (hI : ZIts s.heap R it l row fun _ => i) (hlt : ∀ k, k < R → i < (row k).size) (hz24 : R ≤ sizeLine)
    (hQ : ∀ h' tk, IsZipHeld h' z TI TO s.heap.objs.size false → ZIts h' R it l row (fun _ => i + 1) → h'.get? s.heap.objs.size = some { cls := .type "tuple", data := .seq (colT row i R) } → h'.objs.size = s.heap.objs.size + 1 →
      (∀ c o, c ≠ z → c ≠ TO → (∀ k, k < R → c ≠ it k) → s.heap.get? c = some o → h'.get? c = some o) → Q (.ref s.heap.objs.size) { s with heap := h', toks := tk }) :
    wpAny (model prog w) A (Builtin.«zip.__next__» ⟨[.ref z], []⟩) (fun fin s' => ∃ v, fin = .done (.ret v) ∧ Q v s') E s := by
  have hne := its_ne (it := it) hR
  obtain ⟨hp, g, d, tk0, os⟩ := s
  show wpAny _ _ (field (.ref z) 2 >>= _) _ _ _
  refine wpAny_bind (wpAny_field hz rfl (x := .bool false) rfl ?_)
  show wpAny _ _ (field (.ref z) 3 >>= _) _ _ _
  refine wpAny_bind (wpAny_field hz rfl (x := .ref TI) rfl ?_)
  refine wpAny_bind (wpAny_seqItems hTI rfl ?_)
  simp only [hne, Bool.false_eq_true, if_false]
  refine wpAny_bind ?_
  unfold Builtin.SmallTypes.ownedTupleIsFree
  refine wpAny_bind (wpAny_field hz rfl (x := .none) rfl (wpAny_pure ?_))
  simp only [if_true]
  refine wpAny_bind (wpAny_rule ?_)
  refine wpAny_bind (wpAny_field hz rfl (x := .ref TO) rfl ?_)
  refine wpAny_bind (wpAny_setField_rec hz (by simp) fun g0 hz0 hs0 => ?_)
  replace hz0 : IsZip g0 z TI TO .ellipsis := hz0
  replace hs0 : Heap.SameBut z hp g0 := hs0
  refine wpAny_bind ?_
  refine wpAny_forIn_list _ (fun rest b s' => ∃ j h' tk arr, rest = (itsA R it).toList.zipIdx.drop j ∧ j ≤ R ∧ b = (none, ()) ∧ s' = ⟨h', g, d, tk, os⟩ ∧ IsZip h' z TI TO .ellipsis ∧ h'.get? TO = some { cls := .type "tuple", data := .seq arr } ∧ arr.size = R ∧ (∀ k, k < j → arr[k]? = (row k)[i]?) ∧ ZIts h' R it l row (upTo2 i j) ∧ h'.objs.size = hp.objs.size ∧
    (∀ c o, c ≠ z → c ≠ TO → (∀ k, k < R → c ≠ it k) → hp.get? c = some o → h'.get? c = some o)) _ ?turn ?fin _ _ ⟨0, g0, tk0, old, rfl, Nat.zero_le _, rfl, rfl, hz0, hs0.extBut _ _ S.zO hTO, hold, fun k hk => absurd hk (Nat.not_lt_zero _), ?_, hs0.1, fun c o c1 _ _ e => hs0.extBut _ _ c1 e⟩
  case turn =>
    rintro x rest b s' ⟨j, h', tk, arr, hr, hj, rfl, rfl, hz', hO', ha, hA, hI', hsz, K⟩
    obtain ⟨hx, hrest⟩ := drop_cons hr
    rw [List.getElem?_zipIdx] at hx
    obtain ⟨y, hy, rfl⟩ := Option.map_eq_some_iff.mp hx
    obtain ⟨hjR, rfl⟩ := itsA_get hy
    refine wpAny_bind (wpAny_onRaise ?_)
    show wpAny _ _ (Builtin.SmallTypes.nextOf (.ref (it j)) >>= _) _ _ _
    have e0 : upTo2 i j j = i := if_neg (Nat.lt_irrefl _)
    have hij := hI'.iter j hjR
    rw [e0] at hij
    refine wpAny_bind ((draws_it hh S hjR).item i _ _ _ (hlt j hjR) ⟨hij, hI'.tup j hjR⟩ fun x h2 tk2 hx2 st2 sb => wpAny_pure ?_)
    replace sb : Heap.SameBut (it j) h' h2 := sb
    have hO2 := sb.extBut _ _ (S.Oi j hjR) hO'
    refine wpAny_bind (wpAny_seqItems (s := ⟨h2, g, d, tk2, os⟩) hO2 rfl ?_)
    refine wpAny_bind (wpAny_updateSeq (s := ⟨h2, g, d, tk2, os⟩) hO2 rfl ?_ (by rw [ha]; exact hz24) (by show (arr.setIfInBounds _ _).size ≤ _; rw [Array.size_setIfInBounds, ha]; exact Nat.le_succ_of_le hz24))
    refine wpAny_bind (wpAny_letGo (wpAny_pure ?_))
    have oth : ∀ b o, b ≠ TO → h2.get? b = some o → (h2.update TO (Obj.mapSeq (·.setIfInBounds (0 + j) x))).get? b = some o := fun b o hb e => (Heap.get?_update_other _ _ (Ne.symm hb)).trans e
    refine ⟨j + 1, _, tk2, arr.setIfInBounds (0 + j) x, hrest, hjR, rfl, rfl, oth _ _ S.zO.symm (sb.extBut _ _ (S.zi j hjR).symm hz'), ?_, by rw [Array.size_setIfInBounds, ha], fun k hk => ?_, ?_, ?_, fun c o c1 c2 c3 e => oth _ _ c2 (sb.extBut _ _ (c3 j hjR) (K c o c1 c2 c3 e))⟩
    · rw [Heap.get?_update_self _ hO2 rfl]
      simp [Obj.mapSeq]
    · rw [Nat.zero_add, Array.getElem?_setIfInBounds]
      by_cases e : j = k
      · subst e
        rw [if_pos rfl, if_pos (by omega)]
        exact hx2.symm
      · rw [if_neg e]
        exact hA k (by omega)
    · have h3 := its_step S hjR hI' sb st2.1
      exact ⟨fun k hk => (h3.iter k hk).at fun o q => oth _ _ (S.Oi k hk).symm q, fun k hk => by
        obtain ⟨o, ho, q⟩ := h3.tup k hk
        exact ⟨o, oth _ _ (S.lO k hk) ho, q⟩⟩
    · rw [Heap.size_update, sb.1, hsz]
  case fin =>
    rintro b s' ⟨j, h', tk, arr, hr, hj, rfl, rfl, hz', hO', ha, hA, hI', hsz, K⟩
    have hjR : j = R := by
      have := congrArg List.length hr
      rw [List.length_drop, List.length_zipIdx, itsA_len] at this
      simp at this
      omega
    subst hjR
    have ecol : arr = colT row i j := by
      apply Array.ext
      · rw [ha]; simp [colT]
      · intro k h1 h2
        have := hA k (by omega)
        rw [Array.getElem?_eq_getElem h1, Array.getElem?_eq_getElem (hlt k (by omega))] at this
        have e1 := Option.some.inj this
        rw [e1]
        unfold colT
        simp [hlt k (by omega)]
    subst ecol
    refine wpAny_bind (wpAny_seqItems (s := ⟨h', g, d, tk, os⟩) hO' rfl ?_)
    refine wpAny_bind (wpAny_newTuple ?_ (by simp [colT]; exact hz24))
    have hzlt : z < h'.objs.size := Heap.lt_size hz'
    show wpAny _ _ (Builtin.SmallTypes.ownedTupleHandOut (.ref z) (.ref h'.objs.size) >>= _) _ _ ⟨h'.push { cls := .type "tuple", data := .seq (colT row i j).toList.toArray }, g, d, tk, os⟩
    refine wpAny_bind ?_
    unfold Builtin.SmallTypes.ownedTupleHandOut
    have z6 : IsZip (h'.push { cls := .type "tuple", data := .seq (colT row i j).toList.toArray }) z TI TO .ellipsis := Heap.get?_push_of_some _ hz'
    refine wpAny_bind (wpAny_setField_rec z6 (by simp) fun h7 z7 s7 => ?_)
    replace z7 : IsZip h7 z TI TO (rawInt h'.objs.size) := z7
    refine wpAny_setField_rec z7 (by simp) fun h8 z8 s8 => ?_
    replace z8 : IsZip h8 z TI TO (rawInt h'.objs.size) := z8
    replace s7 : Heap.SameBut z (h'.push { cls := .type "tuple", data := .seq (colT row i j).toList.toArray }) h7 := s7
    replace s8 : Heap.SameBut z h7 h8 := s8
    have up : ∀ c o, c ≠ z → h'.get? c = some o → h8.get? c = some o := fun c o c1 e => s8.extBut _ _ c1 (s7.extBut _ _ c1 (Heap.get?_push_of_some _ e))
    have t8 : h8.get? h'.objs.size = some { cls := .type "tuple", data := .seq (colT row i j).toList.toArray } := s8.extBut _ _ (Nat.ne_of_gt hzlt) (s7.extBut _ _ (Nat.ne_of_gt hzlt) (Heap.get?_push_size _ rfl))
    have n8 : h8.objs.size = h'.objs.size + 1 := by rw [s8.1, s7.1, Heap.size_push]
    refine wpAny_pure ⟨_, rfl, ?_⟩
    show Q (.ref h'.objs.size) _
    rw [hsz] at z8 t8 n8 ⊢
    refine hQ h8 tk z8 ⟨fun k hk => ?_, fun k hk => ?_⟩ (by simpa using t8) n8 fun c o c1 c2 c3 e => up _ _ c1 (K c o c1 c2 c3 e)
    · have := hI'.iter k hk
      have e : upTo2 i j k = i + 1 := if_pos hk
      rw [e] at this
      exact this.at fun o e => up _ _ (S.zi k hk) e
    · obtain ⟨o, ho, q⟩ := hI'.tup k hk
      exact ⟨o, up _ _ (S.lz k hk) ho, q⟩
  · refine ⟨fun k hk => ?_, fun k hk => (hI.tup k hk).extBut hs0.extBut (S.lz k hk)⟩
    have e : upTo2 i 0 k = i := if_neg (Nat.not_lt_zero _)
    rw [e]
    exact (hI.iter k hk).at fun o q => hs0.extBut _ _ (S.zi k hk) q
theorem zn_end {f : Bool} {oT : Obj} {Q : Fin → Shared → Prop} (hh : A.handled = none) (S : ZSep z TI TO R it l) (hR : 0 < R) (hz : IsZipHeld s.heap z TI TO T f) (hT : s.heap.get? T = some oT) (hTI : s.heap.get? TI = some { cls := .type "tuple", data := .seq (itsA R it) })
    (hI : ZIts s.heap R it l row fun _ => (row 0).size)
    (hE : ∀ h' e, (∀ c o, c ≠ z → (∀ k, k < R → c ≠ it k) → s.heap.get? c = some o → h'.get? c = some o) → (∃ o, h'.get? e = some o ∧ o.cls = .type "StopIteration") → E (.ref e) { s with heap := h' }) :
    wpAny (model prog w) A (Builtin.«zip.__next__» ⟨[.ref z], []⟩) Q E s := by
  have hne := its_ne (it := it) hR
  obtain ⟨hp, g, d, tk0, os⟩ := s
  show wpAny _ _ (field (.ref z) 2 >>= _) _ _ _
  refine wpAny_bind (wpAny_field hz rfl (x := .bool false) rfl ?_)
  show wpAny _ _ (field (.ref z) 3 >>= _) _ _ _
  refine wpAny_bind (wpAny_field hz rfl (x := .ref TI) rfl ?_)
  refine wpAny_bind (wpAny_seqItems hTI rfl ?_)
  simp only [hne, Bool.false_eq_true, if_false]
  refine wpAny_bind (wpAny_tupleHeld_zip hz hT fun h₁ hz₁ hs₁ => ?_)
  simp only [Bool.false_eq_true, if_false]
  refine wpAny_bind ?_
  rw [← Array.forIn_toList]
  obtain ⟨n, rfl⟩ : ∃ n, R = n + 1 := ⟨R - 1, by omega⟩
  have el : (itsA (n + 1) it).toList = .ref (it 0) :: ((List.range n).map fun k => Value.ref (it (k + 1))) := by
    unfold itsA
    rw [List.range_succ_eq_map]
    simp
  rw [el, List.forIn_cons]
  refine wpAny_bind (wpAny_bind (wpAny_holding ?_))
  show wpAny _ _ (Builtin.SmallTypes.nextOf (.ref (it 0)) >>= _) _ _ _
  refine wpAny_bind ((draws_it hh S (Nat.succ_pos n)).done _ _ _ ⟨(hI.iter 0 (Nat.succ_pos n)).at fun o q => hs₁.extBut _ _ (S.zi 0 (Nat.succ_pos n)) q, (hI.tup 0 (Nat.succ_pos n)).extBut hs₁.extBut (S.lz 0 (Nat.succ_pos n))⟩ fun h' e hs he => ?_)
  exact hE h' e (fun c o c1 c2 q => hs _ _ (c2 0 (Nat.succ_pos n)) (hs₁.extBut _ _ c1 q)) he
end
end Dv

namespace Dv
open PySem L2 PyProof.Rows
open Sem (wp)
theorem zip_type : ∀ us : List Value, us.length ≤ 12 → checkTypeCall "zip" ⟨us, []⟩ = pure ()
  | [], _ => by kernel_rfl
  | [_], _ => by kernel_rfl
  | [_, _], _ => by kernel_rfl
  | [_, _, _], _ => by kernel_rfl
  | [_, _, _, _], _ => by kernel_rfl
  | [_, _, _, _, _], _ => by kernel_rfl
  | [_, _, _, _, _, _], _ => by kernel_rfl
  | [_, _, _, _, _, _, _], _ => by kernel_rfl
  | [_, _, _, _, _, _, _, _], _ => by kernel_rfl
  | [_, _, _, _, _, _, _, _, _], _ => by kernel_rfl
  | [_, _, _, _, _, _, _, _, _, _], _ => by kernel_rfl
  | [_, _, _, _, _, _, _, _, _, _, _], _ => by kernel_rfl
  | [_, _, _, _, _, _, _, _, _, _, _, _], _ => by kernel_rfl
  | _ :: _ :: _ :: _ :: _ :: _ :: _ :: _ :: _ :: _ :: _ :: _ :: _ :: _, h => by simp at h
theorem zip_newC : ∀ us : List Value, us.length ≤ 12 → checkBuiltinCall "zip.__new__" ⟨.type "zip" :: us, []⟩ = pure ()
  | [], _ => by kernel_rfl
  | [_], _ => by kernel_rfl
  | [_, _], _ => by kernel_rfl
  | [_, _, _], _ => by kernel_rfl
  | [_, _, _, _], _ => by kernel_rfl
  | [_, _, _, _, _], _ => by kernel_rfl
  | [_, _, _, _, _, _], _ => by kernel_rfl
  | [_, _, _, _, _, _, _], _ => by kernel_rfl
  | [_, _, _, _, _, _, _, _], _ => by kernel_rfl
  | [_, _, _, _, _, _, _, _, _], _ => by kernel_rfl
  | [_, _, _, _, _, _, _, _, _, _], _ => by kernel_rfl
  | [_, _, _, _, _, _, _, _, _, _, _], _ => by kernel_rfl
  | [_, _, _, _, _, _, _, _, _, _, _, _], _ => by kernel_rfl
  | _ :: _ :: _ :: _ :: _ :: _ :: _ :: _ :: _ :: _ :: _ :: _ :: _ :: _, h => by simp at h
theorem zip_obj (o : Value) : ∀ us : List Value, us.length ≤ 12 → argsOk "object.__init__" ⟨o :: us, []⟩ := fun us h => by
  unfold argsOk
  rw [signature?_of (id := "object.__init__") (n := ['_', '_', 't', 'i', 'n', 'i', '_', '_']) (o := ['t', 'c', 'e', 'j', 'b', 'o']) (by kernel_rfl) F.owner_object]
  match us, h with
  | [], _ => kernel_rfl
  | [_], _ => kernel_rfl
  | [_, _], _ => kernel_rfl
  | [_, _, _], _ => kernel_rfl
  | [_, _, _, _], _ => kernel_rfl
  | [_, _, _, _, _], _ => kernel_rfl
  | [_, _, _, _, _, _], _ => kernel_rfl
  | [_, _, _, _, _, _, _], _ => kernel_rfl
  | [_, _, _, _, _, _, _, _], _ => kernel_rfl
  | [_, _, _, _, _, _, _, _, _], _ => kernel_rfl
  | [_, _, _, _, _, _, _, _, _, _], _ => kernel_rfl
  | [_, _, _, _, _, _, _, _, _, _, _], _ => kernel_rfl
  | [_, _, _, _, _, _, _, _, _, _, _, _], _ => kernel_rfl
  | _ :: _ :: _ :: _ :: _ :: _ :: _ :: _ :: _ :: _ :: _ :: _ :: _ :: _, h => simp at h
def iterO (a : Addr) : Obj := { cls := .type "tuple_iterator", data := .fields #[.ref a, .int 0 0] }
/-- the heap of the iterators -/
def pushIts (l : Nat → Addr) (h : Heap) : Nat → Heap
  | 0 => h
  | j + 1 => (pushIts l h j).push (iterO (l j))
theorem pushIts_size (l : Nat → Addr) (h : Heap) : ∀ j, (pushIts l h j).objs.size = h.objs.size + j
  | 0 => rfl
  | j + 1 => by show ((pushIts l h j).push _).objs.size = _; rw [Heap.size_push, pushIts_size l h j]; omega
theorem pushIts_old (l : Nat → Addr) (h : Heap) {c : Addr} {o : Obj} (e : h.get? c = some o) : ∀ j, (pushIts l h j).get? c = some o
  | 0 => e
  | j + 1 => Heap.get?_push_of_some _ (pushIts_old l h e j)
theorem pushIts_at (l : Nat → Addr) (h : Heap) : ∀ j k, k < j → (pushIts l h j).get? (h.objs.size + k) = some (iterO (l k))
  | 0, k, hk => absurd hk (Nat.not_lt_zero _)
  | j + 1, k, hk => by
    by_cases e : k = j
    · subst e
      have : ((pushIts l h k).push (iterO (l k))).get? (pushIts l h k).objs.size = some (iterO (l k)) := Heap.get?_push_size _ rfl
      rw [pushIts_size] at this
      exact this
    · exact Heap.get?_push_of_some _ (pushIts_at l h j k (by omega))
abbrev zH1 (l : Nat → Addr) (h : Heap) (R : Nat) : Heap := (pushIts l h R).push { cls := .type "tuple", data := .seq (itsA R fun k => h.objs.size + k) }
abbrev zH2 (l : Nat → Addr) (h : Heap) (R : Nat) : Heap := (zH1 l h R).push { cls := .type "tuple", data := .seq ((itsA R fun k => h.objs.size + k).toList.map fun _ => Value.none).toArray }
abbrev zH3 (l : Nat → Addr) (h : Heap) (R : Nat) : Heap := (zH2 l h R).push { cls := .type "zip", data := .fields #[.none, .bool false, .bool false, .ref (h.objs.size + R), .ref (h.objs.size + R + 1)] }
theorem meets_zipN (R : Nat) (hR : R ≤ 12) (l : Nat → Addr) (row : Nat → Array Value) :
    Meets (Builtin.«zip.__new__» ⟨.type "zip" :: ((List.range R).map fun k => Value.ref (l k)), []⟩) (fun _ W s => (∀ k, k < R → s.heap.IsTuple (l k) (row k)) ∧
      W (.ok (.ret (.ref (s.heap.objs.size + R + 2)))) { s with heap := zH3 l s.heap R }) :=
  .of_wp fun prog w A W s h => by
    obtain ⟨hp, g, d, tk, os⟩ := s
    obtain ⟨hl, h⟩ := h
    have hsub := sub_zip
    wp_walk
    show wpAny _ _ (forIn ((List.range R).map fun k => Value.ref (l k)) (#[] : Array Value) fun x its => do let v ← holding its.toList (pyIter x); pure (ForInStep.yield (its.push v))) _ _ _
    refine wpAny_forIn_list _ (fun rest b s' => ∃ j, rest = ((List.range R).map fun k => Value.ref (l k)).drop j ∧ j ≤ R ∧ b = itsA j (fun k => hp.objs.size + k) ∧ s' = ⟨pushIts l hp j, g, d, tk, os⟩) _ ?turn ?fin _ _ ⟨0, rfl, Nat.zero_le _, rfl, rfl⟩
    case turn =>
      rintro x rest b s' ⟨j, hr, hj, rfl, rfl⟩
      obtain ⟨hx, hrest⟩ := drop_cons hr
      have hx' : j < R ∧ x = .ref (l j) := by
        have := itsA_get (R := R) (it := l) (j := j) (x := x) (by simpa [itsA] using hx)
        exact this
      obtain ⟨hjR, rfl⟩ := hx'
      have hL : Heap.IsTuple (Shared.heap ⟨pushIts l hp j, g, d, tk, os⟩) (l j) (row j) := by
        obtain ⟨o, ho, q⟩ := hl j hjR
        exact ⟨o, pushIts_old l hp ho j, q⟩
      refine wpAny_bind (wpAny_holding (wpAny_pyIter_tuple hL (wpAny_pure ⟨j + 1, hrest, hjR, ?_, rfl⟩)))
      show (itsA j _).push (.ref (pushIts l hp j).objs.size) = _
      rw [pushIts_size]
      unfold itsA
      rw [List.range_succ, List.map_append]
      simp
    case fin =>
      rintro b s' ⟨j, hr, hj, rfl, rfl⟩
      have hjR : j = R := by
        have := congrArg List.length hr
        rw [List.length_drop] at this
        simp at this
        omega
      subst hjR
      refine wpAny_pure ?_
      have n0 := pushIts_size l hp j
      have n1 : (zH1 l hp j).objs.size = hp.objs.size + j + 1 := by rw [Heap.size_push, n0]
      have n2 : (zH2 l hp j).objs.size = hp.objs.size + j + 2 := by rw [Heap.size_push, n1]
      refine wpAny_bind (wpAny_newTuple ?_ (by simp [itsA, sizeLine_eq]; omega))
      refine wpAny_bind (wpAny_newTuple ?_ (by simp [itsA, sizeLine_eq]; omega))
      wp_walk
      refine ⟨_, rfl, ?_⟩
      show W (.ok (.ret (.ref (zH2 l hp j).objs.size))) ⟨(zH2 l hp j).push { cls := .type "zip", data := .fields #[.none, .bool false, .bool false, .ref (pushIts l hp j).objs.size, .ref (zH1 l hp j).objs.size] }, g, d, tk, os⟩
      rw [n2, n1, n0]
      exact h
section
variable {prog : Program} {w : World} {A : Around} {E : Value → Shared → Prop} {s : Shared} {z TI TO T : Addr} {R C i : Nat} {it l : Nat → Addr} {row : Nat → Array Value}
/-- a zip before turn i; Ts are the tuples that it gave out -/
structure ZW (z TI TO : Addr) (R : Nat) (it l : Nat → Addr) (row : Nat → Array Value) (h : Heap) (i : Nat) (Ts : List Addr) : Prop where
  sep : ZSep z TI TO R it l
  len : Ts.length = i
  outs : ∀ (j : Nat) (T : Addr), Ts[j]? = some T → h.get? T = some { cls := .type "tuple", data := .seq (colT row j R) }
  tI : h.get? TI = some { cls := .type "tuple", data := .seq (itsA R it) }
  its : ZIts h R it l row fun _ => i
  st : (i = 0 ∧ IsZip h z TI TO .none ∧ ∃ old : Array Value, old.size = R ∧ h.get? TO = some { cls := .type "tuple", data := .seq old }) ∨ (∃ T f, IsZipHeld h z TI TO T f ∧ T ∈ Ts)
  apart : ∀ T, T ∈ Ts → T ≠ z ∧ T ≠ TO ∧ ∀ k, k < R → T ≠ it k
  ltO : TO < h.objs.size
  nd : Ts.Nodup
theorem ZW.alive {h : Heap} {Ts : List Addr} (W : ZW z TI TO R it l row h i Ts) (hT : T ∈ Ts) : ∃ o, h.get? T = some o := by
  obtain ⟨j, hj⟩ := List.mem_iff_getElem?.mp hT
  exact ⟨_, W.outs j T hj⟩
theorem ZW.zip {Ts : List Addr} (W : ZW z TI TO R it l row s.heap i Ts) : s.TypeIs (.ref z) "zip" := by
  rcases W.st with ⟨_, hz, _⟩ | ⟨T, f, hz, _⟩
  · exact ⟨_, hz, rfl⟩
  · exact ⟨_, hz, rfl⟩
def InZ (z TI TO : Addr) (R : Nat) (it l : Nat → Addr) (Ts : List Addr) (c : Addr) : Prop := c = z ∨ c = TI ∨ c = TO ∨ (∃ k, k < R ∧ (c = it k ∨ c = l k)) ∨ c ∈ Ts
/-- what a turn changes -/
def ZOut (z TO : Addr) (R : Nat) (it : Nat → Addr) (h h' : Heap) : Prop := ∀ c o, c ≠ z → c ≠ TO → (∀ k, k < R → c ≠ it k) → h.get? c = some o → h'.get? c = some o
theorem ZOut.trans {h1 h2 h3 : Heap} (a : ZOut z TO R it h1 h2) (b : ZOut z TO R it h2 h3) : ZOut z TO R it h1 h3 := fun c o x y v e => b c o x y v (a c o x y v e)
theorem ZW.at {h h' : Heap} {Ts : List Addr} (W : ZW z TI TO R it l row h i Ts) (hs : h.objs.size ≤ h'.objs.size) (k : ∀ c o, h.get? c = some o → InZ z TI TO R it l Ts c → h'.get? c = some o) : ZW z TI TO R it l row h' i Ts where
  sep := W.sep
  len := W.len
  outs := fun j T e => k _ _ (W.outs j T e) (.inr (.inr (.inr (.inr (List.mem_of_getElem? e)))))
  tI := k _ _ W.tI (.inr (.inl rfl))
  its := ⟨fun j hj => (W.its.iter j hj).at fun o q => k _ _ q (.inr (.inr (.inr (.inl ⟨j, hj, .inl rfl⟩)))), fun j hj => by
    obtain ⟨o, ho, q⟩ := W.its.tup j hj
    exact ⟨o, k _ _ ho (.inr (.inr (.inr (.inl ⟨j, hj, .inr rfl⟩)))), q⟩⟩
  st := W.st.imp (fun ⟨e, hz, old, ho, hO⟩ => ⟨e, k _ _ hz (.inl rfl), old, ho, k _ _ hO (.inr (.inr (.inl rfl)))⟩) fun ⟨T, f, hz, hT⟩ => ⟨T, f, k _ _ hz (.inl rfl), hT⟩
  apart := W.apart
  ltO := Nat.lt_of_lt_of_le W.ltO hs
  nd := W.nd
theorem ZW.next {Ts : List Addr} {Q : Option Value → Shared → Prop} (hh : A.handled = none) (hR : 0 < R) (hz24 : R ≤ sizeLine) (hC : ∀ k, k < R → (row k).size = C) (hi : i < C) (W : ZW z TI TO R it l row s.heap i Ts)
    (hQ : ∀ h' tk, ZW z TI TO R it l row h' (i + 1) (Ts ++ [s.heap.objs.size]) → h'.objs.size = s.heap.objs.size + 1 → ZOut z TO R it s.heap h' → Q (some (.ref s.heap.objs.size)) { s with heap := h', toks := tk }) : wpAny (model prog w) A (pyNext (.ref z)) Q E s := by
  have hTy := W.zip
  have S := W.sep
  have hlt : ∀ k, k < R → i < (row k).size := fun k hk => by rw [hC k hk]; exact hi
  have fresh : ∀ {c : Addr} {o : Obj}, s.heap.get? c = some o → s.heap.objs.size ≠ c := fun {c o} e => Nat.ne_of_gt (Heap.lt_size e)
  have aN : ∀ k, k < R → s.heap.objs.size ≠ it k := fun k hk => by obtain ⟨o, ho, _⟩ := W.its.iter k hk; exact fresh ho
  have nO : s.heap.objs.size ≠ TO := Nat.ne_of_gt W.ltO
  have ends : ∀ (h' : Heap) (tk : Nat) (f : Bool), s.heap.objs.size ≠ z → h'.objs.size = s.heap.objs.size + 1 → IsZipHeld h' z TI TO s.heap.objs.size f ∨ (∃ T f, IsZipHeld h' z TI TO T f ∧ T ∈ Ts) → ZIts h' R it l row (fun _ => i + 1) → h'.get? s.heap.objs.size = some { cls := .type "tuple", data := .seq (colT row i R) } → ZOut z TO R it s.heap h' → ZW z TI TO R it l row h' (i + 1) (Ts ++ [s.heap.objs.size]) := by
    intro h' tk f nz hsz hz hI ht K
    refine ⟨S, by rw [List.length_append, W.len]; rfl, fun j T e => ?_, K _ _ S.zI S.IO (fun k hk => S.Ii k hk) W.tI, hI, .inr ?_, fun T hT => ?_, by rw [hsz]; exact Nat.lt_succ_of_lt W.ltO, ?_⟩
    · by_cases hj : j < Ts.length
      · rw [List.getElem?_append_left hj] at e
        obtain ⟨a1, a2, a3⟩ := W.apart T (List.mem_of_getElem? e)
        exact K _ _ a1 a2 a3 (W.outs j T e)
      · rw [List.getElem?_append_right (by omega)] at e
        have hl := W.len
        have h1 := (List.getElem?_eq_some_iff.mp e).1
        have h2 : j = i := by simp at h1; omega
        subst h2
        rw [hl, Nat.sub_self] at e
        cases e
        exact ht
    · rcases hz with hz | ⟨T, f, hz, hT⟩
      · exact ⟨_, _, hz, List.mem_append_right _ List.mem_cons_self⟩
      · exact ⟨T, f, hz, List.mem_append_left _ hT⟩
    · rcases List.mem_append.mp hT with h | h
      · exact W.apart T h
      · rw [List.mem_singleton.mp h]
        exact ⟨nz, nO, aN⟩
    · rw [List.nodup_append]
      refine ⟨W.nd, by simp, fun a ha b hb e => ?_⟩
      obtain ⟨o, ho⟩ := W.alive ha
      exact fresh ho ((List.mem_singleton.mp hb).symm.trans e.symm)
  unfold pyNext
  rcases W.st with ⟨e0, hz, old, ho, hO⟩ | ⟨T, f, hz, hT⟩
  · refine wpAny_bind (wpAny_attempt (wpAny_callSpecial?_slot (name := Str.ofString "__next__") hTy F.slot_zip_next (wpAny_call_entry F.slot_zip_next hTy F.entry_zip_next ?_ (F.args_zip_next_1 _))))
    refine zn_free (old := old) hh S hR hz W.tI hO ho W.its hlt hz24 fun h' tk a1 a2 a3 a4 a5 => wpAny_pure ?_
    exact hQ h' tk (ends h' tk false (fresh hz) a4 (.inl a1) a2 a3 a5) a4 a5
  · obtain ⟨oT, hoT⟩ := W.alive hT
    refine wpAny_bind (wpAny_attempt (wpAny_callSpecial?_slot (name := Str.ofString "__next__") hTy F.slot_zip_next (wpAny_call_entry F.slot_zip_next hTy F.entry_zip_next ?_ (F.args_zip_next_1 _))))
    refine zn_held hh S hR hz hoT W.tI W.its hlt hz24 fun h' tk a1 a2 a3 a4 a5 => wpAny_pure ?_
    exact hQ h' tk (ends h' tk true (fresh hz) a4 (.inr ⟨T, true, a1, hT⟩) a2 a3 fun c o c1 _ c3 e => a5 c o c1 c3 e) a4 fun c o c1 _ c3 e => a5 c o c1 c3 e
theorem ZW.done {Ts : List Addr} {Q : Option Value → Shared → Prop} (hh : A.handled = none) (hR : 0 < R) (h0 : 0 < C) (hC : ∀ k, k < R → (row k).size = C) (W : ZW z TI TO R it l row s.heap C Ts)
    (hQ : ∀ h', ZOut z TO R it s.heap h' → Q none { s with heap := h' }) : wpAny (model prog w) A (pyNext (.ref z)) Q E s := by
  have hTy := W.zip
  unfold pyNext
  rcases W.st with ⟨e0, _⟩ | ⟨T, f, hz, hT⟩
  · omega
  · obtain ⟨oT, hoT⟩ := W.alive hT
    refine wpAny_bind (wpAny_attempt (wpAny_callSpecial?_slot (name := Str.ofString "__next__") hTy F.slot_zip_next (wpAny_call_entry F.slot_zip_next hTy F.entry_zip_next ?_ (F.args_zip_next_1 _))))
    refine zn_end hh W.sep hR hz hoT W.tI (by rw [hC 0 hR]; exact W.its) fun h' e hk he => ?_
    obtain ⟨o, ho, hc⟩ := he
    refine wpAny_bind (wpAny_isInstance (T := "StopIteration") (b := true) ⟨o, ho, hc⟩ isSubtype_stop ?_)
    exact wpAny_pure (hQ _ fun c o c1 _ c3 e => hk c o c1 c3 e)
/-- the loop that a list fills from a zip -/
theorem zip_loop (hh : A.handled = none) (hR : 0 < R) (hz24 : R ≤ sizeLine) (h0 : 0 < C) (hC24 : C ≤ sizeLine) (hC : ∀ k, k < R → (row k).size = C) (D : Addr) (res : Value) {W0 : Result → Shared → Prop} : ∀ (m i : Nat) (s : Shared) (Ts : List Addr) (c : Nat), C - i = m → i ≤ C → ZW z TI TO R it l row s.heap i Ts → ¬ InZ z TI TO R it l Ts D →
    s.heap.get? D = some { cls := .type "list", dict := none, data := .seq (Ts.map Value.ref).toArray c, slots := #[] } →
    (∀ (h' : Heap) (tk : Nat) (Ts' : List Addr) (c' : Nat), Ts'.length = C → (∀ (j : Nat) (T : Addr), Ts'[j]? = some T → h'.get? T = some { cls := .type "tuple", data := .seq (colT row j R) }) → Ts'.Nodup → h'.get? D = some { cls := .type "list", dict := none, data := .seq (Ts'.map Value.ref).toArray c', slots := #[] } → (∀ c o, c ≠ D → c ≠ z → c ≠ TO → (∀ k, k < R → c ≠ it k) → s.heap.get? c = some o → h'.get? c = some o) → (∀ T, T ∈ Ts' → T ∈ Ts ∨ s.heap.objs.size ≤ T) → W0 (.ok (.ret res)) { s with heap := h', toks := tk }) →
    codeAny (model prog w) A (.builtin "list.extend.loop" ⟨[.ref D, .ref z, res], []⟩) W0 s := by
  intro m
  induction m with
  | zero =>
    intro i s Ts c hm hi W hD hS hQ
    have e : i = C := by omega
    subst e
    refine codeAny_builtin F.entry_extend_loop ?_
    rw [Around.under_plainId F.plain_extend_loop _]
    show wpAny _ A.in1 (pyNext (.ref z) >>= _) _ _ s
    refine wpAny_bind (W.done (A := A.in1) hh hR h0 hC fun h' K => wpAny_pure ?_)
    have nD : ∀ k, k < R → D ≠ it k := fun k hk e => hD (.inr (.inr (.inr (.inl ⟨k, hk, .inl e⟩))))
    exact hQ h' s.toks Ts c W.len (fun j T e => by
      obtain ⟨a1, a2, a3⟩ := W.apart T (List.mem_of_getElem? e)
      exact K _ _ a1 a2 a3 (W.outs j T e)) W.nd (K D _ (fun e => hD (.inl e)) (fun e => hD (.inr (.inr (.inl e)))) nD hS) (fun c o _ c2 c3 c4 e => K c o c2 c3 c4 e) fun T hT => .inl hT
  | succ m ih =>
    intro i s Ts c hm hi W hD hS hQ
    refine codeAny_builtin F.entry_extend_loop ?_
    rw [Around.under_plainId F.plain_extend_loop _]
    show wpAny _ A.in1 (pyNext (.ref z) >>= _) _ _ s
    have nD : ∀ k, k < R → D ≠ it k := fun k hk e => hD (.inr (.inr (.inr (.inl ⟨k, hk, .inl e⟩))))
    refine wpAny_bind (W.next (A := A.in1) hh hR hz24 hC (by omega) fun h' tk W' hsz K => ?_)
    have hS' := K D _ (fun e => hD (.inl e)) (fun e => hD (.inr (.inr (.inl e)))) nD hS
    have hTl := W.len
    show wpAny _ A.in1 (updateSeq D (·.push (.ref s.heap.objs.size)) >>= _) _ _ _
    have oth : ∀ b o, b ≠ D → h'.get? b = some o → (h'.update D (Obj.mapSeq (·.push (.ref s.heap.objs.size)))).get? b = some o := fun b o hb e => (Heap.get?_update_other _ _ (Ne.symm hb)).trans e
    have hDs : D ≠ s.heap.objs.size := Nat.ne_of_lt (Heap.lt_size hS)
    have hD' : ¬ InZ z TI TO R it l (Ts ++ [s.heap.objs.size]) D := by
      rintro (e | e | e | e | e)
      · exact hD (.inl e)
      · exact hD (.inr (.inl e))
      · exact hD (.inr (.inr (.inl e)))
      · exact hD (.inr (.inr (.inr (.inl e))))
      · rcases List.mem_append.mp e with e | e
        · exact hD (.inr (.inr (.inr (.inr e))))
        · exact hDs (List.mem_singleton.mp e)
    refine wpAny_bind (wpAny_updateSeq (s := { s with heap := h', toks := tk }) hS' rfl (wpAny_pure ⟨plainId_quiet F.plain_extend_loop _, ih (i + 1) _ (Ts ++ [s.heap.objs.size]) (c + 1) (by omega) (by omega) (W'.at (Nat.le_of_eq (Heap.size_update ..).symm) fun b o e hb => oth b o (fun q => hD' (q ▸ hb)) e) hD' ?_ fun h2 tk2 Ts2 c2 b0 b1 bn b2 b3 b4 => ?_⟩) (by simp [hTl]; omega) (by show ((Ts.map Value.ref).toArray.push _).size ≤ _; simp [hTl]; omega))
    · show (h'.update D _).get? D = _
      rw [Heap.get?_update_self _ hS' rfl]
      simp [Obj.mapSeq]
    · have hs2 : (h'.update D (Obj.mapSeq (·.push (.ref s.heap.objs.size)))).objs.size = s.heap.objs.size + 1 := by rw [Heap.size_update, hsz]
      refine hQ h2 tk2 Ts2 c2 b0 b1 bn b2 (fun c o c1 c2 c3 c4 e => b3 c o c1 c2 c3 c4 (oth c o c1 (K c o c2 c3 c4 e))) (fun T hT => ?_)
      rcases b4 T hT with q | q
      · rcases List.mem_append.mp q with q | q
        · exact .inl q
        · rw [List.mem_singleton.mp q]
          exact .inr (Nat.le_refl _)
      · rw [hs2] at q
        exact .inr (by omega)
theorem zip_noLen : typeLookup (.type "zip") "__len__" = pure none := by rw [typeLookup_type, builtinLookup_eq_fast]; kernel_rfl
theorem zip_noHint : typeLookup (.type "zip") "__length_hint__" = pure none := by rw [typeLookup_type, builtinLookup_eq_fast]; kernel_rfl
/-- the tuples of a zip, as a list of values -/
theorem zip_collect {Q : List Value → Shared → Prop} (hh : A.handled = none) (hR : 0 < R) (hz24 : R ≤ sizeLine) (h0 : 0 < C) (hC24 : C ≤ sizeLine) (hC : ∀ k, k < R → (row k).size = C) (W : ZW z TI TO R it l row s.heap 0 []) (hlt : ∀ c, InZ z TI TO R it l [] c → c < s.heap.objs.size)
    (hQ : ∀ (h' : Heap) (tk : Nat) (Ts : List Addr), Ts.length = C → (∀ (j : Nat) (T : Addr), Ts[j]? = some T → h'.get? T = some { cls := .type "tuple", data := .seq (colT row j R) }) → Ts.Nodup → (∀ c o, c ≠ z → c ≠ TO → (∀ k, k < R → c ≠ it k) → s.heap.get? c = some o → h'.get? c = some o) → (∀ T, T ∈ Ts → s.heap.objs.size < T) → s.heap.objs.size < h'.objs.size → Q (Ts.map Value.ref) { s with heap := h', toks := tk }) :
    wpAny (model prog w) A (collect (.ref z)) Q E s := by
  have hDz : ∀ c, InZ z TI TO R it l [] c → s.heap.objs.size ≠ c := fun c hc => Nat.ne_of_gt (hlt c hc)
  unfold collect
  refine wpAny_bind (wpAny_runValue (codeAny_builtin F.entry_proto_collect ?_))
  rw [Around.under_plainId F.plain_proto_collect _]
  show wpAny _ A.in1 (newList [] >>= fun l => again (.builtin "list.__iadd__" ⟨[l, .ref z], []⟩)) _ _ s
  refine wpAny_bind (wpAny_newObj_type ?_)
  refine wpAny_pure ⟨plainId_quiet F.plain_list_iadd _, codeAny_builtin F.entry_list_iadd ?_⟩
  rw [Around.under_plainId F.plain_list_iadd _]
  have W1 : ZW z TI TO R it l row (Shared.heap { s with heap := s.heap.push { cls := .type "list", data := .seq ([] : List Value).toArray } }) 0 [] := W.at (by show _ ≤ (s.heap.push _).objs.size; rw [Heap.size_push]; omega) fun c o e _ => Heap.get?_push_of_some _ e
  show wpAny _ A.in1 (Builtin.List.listExtendWith (.ref s.heap.objs.size) (.ref z) (.ref s.heap.objs.size)) _ _ _
  unfold Builtin.List.listExtendWith
  refine wpAny_bind (wpAny_typeOf W1.zip ?_)
  have q1 : Builtin.List.listSameRef (.ref s.heap.objs.size) (.ref z) = false := by simp [Builtin.List.listSameRef, hDz z (.inl rfl)]
  have q2 : (Value.type "zip" == Value.type "list") = false := by decide
  have q3 : (Value.type "zip" == Value.type "tuple") = false := by decide
  simp only [q1, q2, q3, Bool.or_false, Bool.false_eq_true, if_false]
  have pI : ∀ {Q' : Value → Shared → Prop} {E' : Value → Shared → Prop} {s' : Shared}, ZW z TI TO R it l row s'.heap 0 [] → Q' (.ref z) s' → wpAny (model prog w) A.in1 (pyIter (.ref z)) Q' E' s' := fun V q => by
    rcases V.st with ⟨_, hz, _⟩ | ⟨T, f, _, hT⟩
    · exact wpAny_pyIter_zip hz q
    · cases hT
  refine wpAny_bind (pI W1 ?_)
  refine wpAny_bind (wpAny_holding ?_)
  unfold Builtin.List.listLengthHint
  refine wpAny_bind (wpAny_specialOf W1.zip zip_noLen ?_)
  show wpAny _ A.in1 (specialOf (Value.ref z) (Str.ofString "__length_hint__") >>= _) _ _ _
  refine wpAny_bind (wpAny_specialOf W1.zip zip_noHint ?_)
  refine wpAny_pure ?_
  show wpAny _ A.in1 (rule "list.extend.makes-room" >>= fun _ => Builtin.List.listTouch (.ref s.heap.objs.size) >>= fun _ => again (.builtin "list.extend.loop" ⟨[.ref s.heap.objs.size, .ref z, .ref s.heap.objs.size], []⟩)) _ _ _
  refine wpAny_bind (wpAny_rule ?_)
  have g1 : (s.heap.push { cls := .type "list", data := .seq ([] : List Value).toArray }).get? s.heap.objs.size = some { cls := .type "list", data := .seq ([] : List Value).toArray } := Heap.get?_push_size _ rfl
  refine wpAny_bind ?_
  show wpAny _ A.in1 (updateSeq s.heap.objs.size (·.push .none) >>= fun _ => updateSeq s.heap.objs.size (·.pop)) _ _ _
  refine wpAny_bind (wpAny_updateSeq g1 rfl ?_)
  have g2 := Heap.get?_update_self (Obj.mapSeq (·.push Value.none)) g1 rfl
  refine wpAny_updateSeq g2 rfl ?_
  have g3 := Heap.get?_update_self (Obj.mapSeq (·.pop)) g2 rfl
  let h3 := ((s.heap.push { cls := .type "list", data := .seq ([] : List Value).toArray }).update s.heap.objs.size (Obj.mapSeq (·.push Value.none))).update s.heap.objs.size (Obj.mapSeq (·.pop))
  have n3 : h3.objs.size = s.heap.objs.size + 1 := by
    show (((s.heap.push _).update _ _).update _ _).objs.size = _
    rw [Heap.size_update, Heap.size_update, Heap.size_push]
  have oth : ∀ b o, s.heap.get? b = some o → h3.get? b = some o := fun b o e => by
    have hb : b ≠ s.heap.objs.size := Nat.ne_of_lt (Heap.lt_size e)
    exact (Heap.get?_update_other _ _ (Ne.symm hb)).trans ((Heap.get?_update_other _ _ (Ne.symm hb)).trans (Heap.get?_push_of_some _ e))
  have W3 : ZW z TI TO R it l row (Shared.heap { s with heap := h3 }) 0 [] := W.at (by show _ ≤ h3.objs.size; rw [n3]; omega) fun c o e _ => oth c o e
  refine wpAny_pure ⟨plainId_quiet F.plain_extend_loop _, zip_loop (A := A) hh hR hz24 h0 hC24 hC s.heap.objs.size (.ref s.heap.objs.size) C 0 _ [] _ (Nat.sub_zero _) (Nat.zero_le _) W3 (fun hc => hDz _ hc rfl) g3 fun h' tk Ts c' b0 b1 bn b2 b3 b4 => ?_⟩
  show wpAny _ A (load s.heap.objs.size >>= _) _ _ _
  refine wpAny_bind (wpAny_load b2 ?_)
  refine wpAny_pure (hQ h' tk Ts b0 b1 bn (fun c o c1 c2 c3 e => b3 c o (Nat.ne_of_lt (Heap.lt_size e)) c1 c2 c3 (oth c o e)) (fun T hT => ?_) (Heap.lt_size b2))
  rcases b4 T hT with q | q
  · cases q
  · have : h3.objs.size ≤ T := q
    rw [n3] at this
    omega
end
end Dv

namespace Dv
open PySem L2 PyProof.Rows
open Sem (wp)
theorem ad_ne {a b : Nat} (h : a < b ∨ b < a) : (show Addr from a) ≠ b := h.elim Nat.ne_of_lt Nat.ne_of_gt
theorem ad_lt {a b c : Nat} (e : a = b) (h : b < c) : a < c := e ▸ h
section
variable {prog : Program} {w : World} {A : Around} {E : Value → Shared → Prop} {s : Shared} {z TI TO T : Addr} {R C i : Nat} {it l : Nat → Addr} {row : Nat → Array Value}
/-- what stands behind tuple(a zip) -/
structure ZEnd (C R : Nat) (row : Nat → Array Value) (h h' : Heap) (p : Addr) (Ts : List Addr) : Prop where
  len : Ts.length = C
  outs : ∀ (j : Nat) (T : Addr), Ts[j]? = some T → h'.get? T = some { cls := .type "tuple", data := .seq (colT row j R) }
  nd : Ts.Nodup
  keep : ∀ c o, h.get? c = some o → h'.get? c = some o
  new : ∀ T, T ∈ Ts → h.objs.size ≤ T
  at_ : h'.get? p = some { cls := .type "tuple", data := .seq (Ts.map Value.ref).toArray }
  pn : h.objs.size ≤ p
  pT : p ∉ Ts
theorem zip_tuple {h0 : Heap} {Q : Value → Shared → Prop} (hh : A.handled = none) (hR : 0 < R) (hz24 : R ≤ sizeLine) (h0C : 0 < C) (hC24 : C ≤ sizeLine) (hC : ∀ k, k < R → (row k).size = C) (W : ZW z TI TO R it l row s.heap 0 []) (hlt : ∀ c, InZ z TI TO R it l [] c → c < s.heap.objs.size)
    (hz0 : h0.objs.size ≤ z) (hO0 : h0.objs.size ≤ TO) (hi0 : ∀ k, k < R → h0.objs.size ≤ it k) (hs0 : h0.objs.size ≤ s.heap.objs.size) (K0 : ∀ c o, h0.get? c = some o → s.heap.get? c = some o)
    (hQ : ∀ h' tk p Ts, ZEnd C R row h0 h' p Ts → Q (.ref p) { s with heap := h', toks := tk }) : wpAny (model prog w) A (call (.type "tuple") [.ref z]) Q E s := by
  have code : codeAny (model prog w) A.in1 (.call (.builtin "tuple.__new__") ⟨[.type "tuple", .ref z], []⟩) (wants (fun obj s₁ => s₁.TypeIs obj "tuple" ∧ Q obj s₁) E) s := by
    refine codeAny_of_tree ?_
    show wpAny _ A.in1.in1 (do checkBuiltinCall "tuple.__new__" ⟨[.type "tuple", .ref z], []⟩; again (.builtin "tuple.__new__" ⟨[.type "tuple", .ref z], []⟩)) _ _ s
    refine wpAny_bind (wpAny_of_eq (F.newCall_tuple_1 _) (wpAny_pure ⟨plainId_quiet F.plain_tuple_new _, codeAny_builtin F.entry_tuple_new ?_⟩))
    rw [Around.under_plainId F.plain_tuple_new _]
    have hsub := sub_tuple_self
    have hinit := init_tuple_lookup
    have hmh := madeHere_tuple
    have hTI := W.zip
    have col : ∀ {Q' : List Value → Shared → Prop} {E' : Value → Shared → Prop}, (∀ (h' : Heap) (tk : Nat) (Ts : List Addr), Ts.length = C → (∀ (j : Nat) (T : Addr), Ts[j]? = some T → h'.get? T = some { cls := .type "tuple", data := .seq (colT row j R) }) → Ts.Nodup → (∀ c o, c ≠ z → c ≠ TO → (∀ k, k < R → c ≠ it k) → s.heap.get? c = some o → h'.get? c = some o) → (∀ T, T ∈ Ts → s.heap.objs.size < T) → s.heap.objs.size < h'.objs.size → Q' (Ts.map Value.ref) { s with heap := h', toks := tk }) → wpAny (model prog w) A.in1.in1 (collect (.ref z)) Q' E' s := fun q => zip_collect (A := A.in1.in1) hh hR hz24 h0C hC24 hC W hlt q
    wp_walk using wpAny_typeOf hTI, col
    intro h' tk Ts b0 b1 bn b2 b3 b4
    show wpAny _ _ (Builtin.Tuple.tupleExact (Ts.map Value.ref).toArray >>= fun v => ret v) _ _ _
    unfold Builtin.Tuple.tupleExact
    refine wpAny_bind (wpAny_newObj_type ?_ (by show (Ts.map Value.ref).toArray.size ≤ sizeLine; simp [b0]; exact hC24))
    have up : ∀ {c : Addr} {o : Obj}, h'.get? c = some o → (h'.push { cls := .type "tuple", data := .seq (Ts.map Value.ref).toArray }).get? c = some o := fun e => Heap.get?_push_of_some _ e
    have self : (h'.push { cls := .type "tuple", data := .seq (Ts.map Value.ref).toArray }).get? h'.objs.size = some { cls := .type "tuple", data := .seq (Ts.map Value.ref).toArray } := Heap.get?_push_size _ rfl
    have alive : ∀ {c : Addr} {o : Obj}, h0.get? c = some o → h'.get? c = some o := fun {c o} e => b2 c o (Nat.ne_of_lt (Nat.lt_of_lt_of_le (Heap.lt_size e) hz0)) (Nat.ne_of_lt (Nat.lt_of_lt_of_le (Heap.lt_size e) hO0)) (fun k hk => Nat.ne_of_lt (Nat.lt_of_lt_of_le (Heap.lt_size e) (hi0 k hk))) (K0 c o e)
    refine wpAny_pure ⟨⟨_, self, rfl⟩, hQ _ tk h'.objs.size Ts ⟨b0, fun j T e => up (b1 j T e), bn, fun c o e => up (alive e), fun T hT => by have := b3 T hT; omega, self, by omega, fun hT => ?_⟩⟩
    obtain ⟨j, hj⟩ := List.mem_iff_getElem?.mp hT
    exact Nat.lt_irrefl _ (Heap.lt_size (b1 j _ hj))
  refine callType_codes (Q₁ := fun obj s₁ => s₁.TypeIs obj "tuple" ∧ Q obj s₁) F.called_tuple (F.typeCall_tuple_1 _) F.entry_object_init code fun obj s₁ h₁ => ?_
  exact ⟨h₁.1, F.args_object_init_2 obj _, object_init_meets F.called_tuple.init.lookup F.called_tuple.made (by decide) prog w A.in1 _ s₁ ⟨h₁.1, rfl, h₁.2⟩⟩
/-- zip(*..) made -/
theorem zip_made {Q : Value → Shared → Prop} (hR : 0 < R) (hR12 : R ≤ 12) (hl : ∀ k, k < R → s.heap.IsTuple (l k) (row k))
    (hQ : ∀ z TI TO it h', ZW z TI TO R it l row h' 0 [] → (∀ c, InZ z TI TO R it l [] c → c < h'.objs.size) → s.heap.objs.size ≤ z → s.heap.objs.size ≤ TO → (∀ k, k < R → s.heap.objs.size ≤ it k) → s.heap.objs.size ≤ h'.objs.size → (∀ c o, s.heap.get? c = some o → h'.get? c = some o) → Q (.ref z) { s with heap := h' }) :
    wpAny (model prog w) A (call (.type "zip") ((List.range R).map fun k => Value.ref (l k))) Q E s := by
  have hlen : ((List.range R).map fun k => Value.ref (l k)).length ≤ 12 := by simpa using hR12
  refine callType_new F.called_zip (by decide) (zip_type _ hlen) (zip_newC _ hlen) (fun obj => zip_obj obj _ hlen) F.entry_zip_new (meets_zipN R hR12 l row) ⟨hl, ?_⟩
  have n0 := pushIts_size l s.heap R
  have n1 : (zH1 l s.heap R).objs.size = s.heap.objs.size + R + 1 := by rw [Heap.size_push, n0]
  have n2 : (zH2 l s.heap R).objs.size = s.heap.objs.size + R + 2 := by rw [Heap.size_push, n1]
  have n3 : (zH3 l s.heap R).objs.size = s.heap.objs.size + R + 3 := by rw [Heap.size_push, n2]
  have u1 : ∀ {c : Addr} {o : Obj}, (pushIts l s.heap R).get? c = some o → (zH3 l s.heap R).get? c = some o := fun e => Heap.get?_push_of_some _ (Heap.get?_push_of_some _ (Heap.get?_push_of_some _ e))
  have gz : (zH3 l s.heap R).get? (s.heap.objs.size + R + 2) = some { cls := .type "zip", data := .fields #[.none, .bool false, .bool false, .ref (s.heap.objs.size + R), .ref (s.heap.objs.size + R + 1)] } := by
    have := Heap.get?_push_size (zH2 l s.heap R) (o := { cls := .type "zip", data := .fields #[.none, .bool false, .bool false, .ref (s.heap.objs.size + R), .ref (s.heap.objs.size + R + 1)] }) rfl
    rwa [n2] at this
  have gO : (zH3 l s.heap R).get? (s.heap.objs.size + R + 1) = some { cls := .type "tuple", data := .seq ((itsA R fun k => s.heap.objs.size + k).toList.map fun _ => Value.none).toArray } := by
    have := Heap.get?_push_size (zH1 l s.heap R) (o := { cls := .type "tuple", data := .seq ((itsA R fun k => s.heap.objs.size + k).toList.map fun _ => Value.none).toArray }) rfl
    rw [n1] at this
    exact Heap.get?_push_of_some _ this
  have gI : (zH3 l s.heap R).get? (s.heap.objs.size + R) = some { cls := .type "tuple", data := .seq (itsA R fun k => s.heap.objs.size + k) } := by
    have := Heap.get?_push_size (pushIts l s.heap R) (o := { cls := .type "tuple", data := .seq (itsA R fun k => s.heap.objs.size + k) }) rfl
    rw [n0] at this
    exact Heap.get?_push_of_some _ (Heap.get?_push_of_some _ this)
  have gi : ∀ k, k < R → (zH3 l s.heap R).get? (s.heap.objs.size + k) = some (iterO (l k)) := fun k hk => u1 (pushIts_at l s.heap R k hk)
  have ll : ∀ k, k < R → l k < s.heap.objs.size := fun k hk => by obtain ⟨o, ho, _⟩ := hl k hk; exact Heap.lt_size ho
  have old : ∀ c o, s.heap.get? c = some o → (zH3 l s.heap R).get? c = some o := fun c o e => u1 (pushIts_old l s.heap e R)
  generalize s.heap.objs.size = n at *
  have sep : ZSep (n + R + 2) (n + R) (n + R + 1) R (fun k => n + k) l :=
    { zI := ad_ne (by omega), zO := ad_ne (by omega), IO := ad_ne (by omega)
      zi := fun k hk => ad_ne (by omega)
      Ii := fun k hk => ad_ne (by omega)
      Oi := fun k hk => ad_ne (by omega)
      ii := fun k j _ _ e => Nat.add_left_cancel e
      li := fun k j hk _ => Nat.ne_of_lt (Nat.lt_of_lt_of_le (ll k hk) (Nat.le_add_right _ _))
      lz := fun k hk => Nat.ne_of_lt (Nat.lt_of_lt_of_le (ll k hk) (by rw [Nat.add_assoc]; exact Nat.le_add_right _ _))
      lO := fun k hk => Nat.ne_of_lt (Nat.lt_of_lt_of_le (ll k hk) (by rw [Nat.add_assoc]; exact Nat.le_add_right _ _)) }
  have W : ZW (n + R + 2) (n + R) (n + R + 1) R (fun k => n + k) l row (zH3 l s.heap R) 0 [] :=
    { sep := sep, len := rfl, outs := fun j T e => by simp at e
      tI := gI
      its := ⟨fun k hk => ⟨_, gi k hk, rfl, rfl⟩, fun k hk => by
        obtain ⟨o, ho, q⟩ := hl k hk
        exact ⟨o, old _ _ ho, q⟩⟩
      st := .inl ⟨rfl, gz, _, by simp [itsA], gO⟩
      apart := fun T hT => by cases hT
      ltO := by rw [n3]; exact Nat.lt_succ_of_lt (Nat.lt_succ_self _)
      nd := .nil }
  have e2 : n ≤ n + R + 2 := by omega
  have e1 : n ≤ n + R + 1 := by omega
  refine ⟨⟨_, gz, rfl⟩, hQ _ _ _ _ _ W (fun c hc => ?_) e2 e1 (fun k hk => Nat.le_add_right _ _) (by rw [n3]; omega) old⟩
  rw [n3]
  rcases hc with e | e | e | ⟨k, hk, e | e⟩ | e
  · exact ad_lt e (by omega)
  · exact ad_lt e (by omega)
  · exact ad_lt e (by omega)
  · exact ad_lt e (show n + k < n + R + 3 by omega)
  · exact ad_lt e (Nat.lt_of_lt_of_le (ll k hk) (by rw [Nat.add_assoc]; exact Nat.le_add_right _ _))
  · cases e
theorem inv_many {X : Cx} {pins : List (Addr × Obj)} {σ : L2.St} {H H' : Hp} {sI s' : Shared} (I : Inv X pins σ H sI) (sub : ∀ b u, sI.heap.get? b = some u → s'.heap.get? b = some u) (hH : ∀ b o, H b = some o → H' b = some o) (hn : ∀ b, H b = none → H' b ≠ none → sI.heap.get? b = none)
    (ob : ∀ b o, H b = none → H' b = some o → ObjOk X.prog X.w H' s'.heap b o) (eo : s'.os = sI.os) (hb : AllBare s'.gens) : Inv X pins σ H' s' := by
  obtain ⟨hp, g, d, t, os⟩ := s'
  cases (show os = sI.os from eo)
  refine I.step (ch := []) (fun b hb => by cases hb) (fun b u _ _ _ e _ => sub b u e) (fun b u _ _ _ e _ => ⟨u.slots, sub b u e⟩) (fun b u _ e z => ?_) (fun b u _ e => ⟨u, sub b u e⟩) (fun b xs e => hH b _ e) (fun b u v e => hH b _ e)
    (fun b ps e => ⟨#[], by simpa using hH b _ e⟩) (fun m ⟨u, es, ep, e, r⟩ => ⟨u, es, ep, sub _ u e, r⟩) (fun b u e => ?_) hb
  · cases q : H' b with
    | none => rfl
    | some o =>
      have := hn b z (by rw [q]; simp)
      rw [this] at e
      cases e
  · cases z : H b with
    | none => exact ob b u z e
    | some o =>
      have e2 := hH b o z
      rw [e] at e2
      cases e2
      exact (I.hok b u z).stay (fun c v _ hc => sub c v hc) (fun c hc => hH c _ hc) (fun c xs hc => hH c _ hc)
end
end Dv

namespace Dv
open PySem L2 PyProof.Rows
/-- tuple(zip(*e)) of one to twelve tuples of one length -/
def tZipT (K : PySem.W.Frag) (te : TE) : TE := fun σ H Q => te σ H fun x H1 => ∃ (a : Addr) (ps : List Addr) (rows : List (List V)) (C : Nat), x = .ref a ∧ SqT K H1 a (ps.map V.ref) ∧ Paired (fun p r => SqT K H1 p r ∧ r.length = C) ps rows ∧ 0 < rows.length ∧ rows.length ≤ 12 ∧ 0 < C ∧ C ≤ 1000 ∧
  ∀ (H' : Hp) (p : Addr) (Ts : List Addr), (∀ b o, H1 b = some o → H' b = some o) → (∀ b, H1 b = none → H' b ≠ none → b = p ∨ b ∈ Ts) → H1 p = none → (∀ t, t ∈ Ts → H1 t = none) → Ts.length = C → ZT H' p (Ts.map V.ref) → (∀ (j : Nat) (T : Addr), Ts[j]? = some T → ZT H' T (rows.map fun r => r.getD j .non)) → Q (.ref p) H'
def tupO (its : Array Value) : Obj := { cls := .type "tuple", data := .seq its }
theorem objOk_tup {P : Program} {w : World} {H : Hp} {h : Heap} {a : Addr} {xs : List V} {its : Array Value} (e : h.get? a = some (tupO its)) (hz : xs.length ≤ sizeLine) (r : Vals xs its.toList) : ObjOk P w H h a (.frz (tupO its) (.tup xs)) :=
  ⟨e, hz, its.toList, r, ⟨_, e, rfl, _, rfl⟩⟩
theorem vals_at {xs : List V} {us : List Value} (r : Vals xs us) {j : Nat} (h : j < xs.length) : L2.RelV (xs.getD j .non) (us.getD j .none) := by
  obtain ⟨x, hx⟩ : ∃ x, xs[j]? = some x := ⟨_, List.getElem?_eq_getElem h⟩
  obtain ⟨u, hu, ru⟩ := r.get hx
  rw [List.getD_eq_getElem?_getD, List.getD_eq_getElem?_getD, hx, hu]
  exact ru
theorem nodup_at {α : Type} {xs : List α} (nd : xs.Nodup) {i j : Nat} (hi : i < xs.length) (hj : j < xs.length) (e : xs[i] = xs[j]) : i = j := by
  have p := List.pairwise_iff_getElem.mp nd
  rcases Nat.lt_trichotomy i j with h | h | h
  · exact absurd e (p i j hi hj h)
  · exact h
  · exact absurd e.symm (p j i hj hi h)
theorem vals_refMap : ∀ Ts : List Addr, Vals (Ts.map V.ref) (Ts.map Value.ref)
  | [] => .nil
  | _ :: r => .cons rfl (vals_refMap r)
theorem pe_zipT {X : Cx} {e : Expr} {te : TE} {p p2 p3 p4 pos : Pos} (hc : X.calm = true) (hg : Gl X "tuple") (hm : X.mg "tuple" = none) (hg2 : Gl X "zip") (hm2 : X.mg "zip" = none) (he : PE X e te)
    (hs1 : starEach [.Call (.Name "zip" p2) [.Starred e p3] [] p4] X.env = (false, eval (.Call (.Name "zip" p2) [.Starred e p3] [] p4) X.env) :: starEach [] X.env := by rfl) (hs2 : starEach [.Starred e p3] X.env = [(true, eval e X.env)] := by rfl) :
    PE X (.Call (.Name "tuple" p) [.Call (.Name "zip" p2) [.Starred e p3] [] p4] [] pos) (tZipT X.K te) := by
  refine ⟨fun pins s σ H Q I hq => ?_⟩
  refine wpAny_Call_Name_kw (ld_blt I hg hm (show bootBuiltins "tuple" = some (.type "tuple") by decide +kernel) ?_)
  refine PyProof.Rows.callWith_type1 ?_ hs1 rfl
  rw [hs1]
  show wpAny _ _ (spliced ((false, eval (.Call (.Name "zip" p2) [.Starred e p3] [] p4) X.env) :: backTo pos (starEach [] X.env))) _ _ s
  refine Calls.spliced_cons ?_
  refine wpAny_Call_Name_kw (ld_blt I hg2 hm2 PyProof.Rows.boot_zip ?_)
  rw [hs2]
  refine PySem.W.ks_call (P := fun _ => True) rfl (fun h _ => ⟨.machine, .inr (.inl rfl), PySem.W.Looks.of_pure rfl⟩) (PySem.W.ks_lone (thn (he.run pins s σ H _ I hq) fun u s1 ⟨x, H1, I1, rx, a, ps, rows, C, ex, ha, hp, h0, h12, hC0, hC, q⟩ => ?_))
  subst ex
  obtain rfl : u = Value.ref a := rx
  refine StX.star_any I1 (.inl ha) fun us s2 I2 rv => ⟨trivial, ?_⟩
  have eus := vals_refs rv
  subst eus
  have hlen := Paired.length hp
  have ex : ∀ k : Nat, ∃ arr : Array Value, k < rows.length → s2.heap.IsTuple (ps.getD k 0) arr ∧ Vals (rows.getD k []) arr.toList ∧ (rows.getD k []).length = C := fun k => by
    by_cases hk : k < rows.length
    · obtain ⟨r, hr⟩ : ∃ r, rows[k]? = some r := ⟨_, List.getElem?_eq_getElem hk⟩
      obtain ⟨p, hpk⟩ : ∃ p, ps[k]? = some p := ⟨_, List.getElem?_eq_getElem (by rw [hlen]; exact hk)⟩
      obtain ⟨r', hr', sq, hl⟩ := Dv.paired_get hp hpk
      rw [hr] at hr'
      cases hr'
      obtain ⟨its, rv', pt, _⟩ := I2.tuple sq
      refine ⟨its.toArray, fun _ => ?_⟩
      rw [List.getD_eq_getElem?_getD, List.getD_eq_getElem?_getD, hr, hpk]
      exact ⟨pt, rv', hl⟩
    · exact ⟨#[], fun h => absurd h hk⟩
  obtain ⟨row, hrow⟩ := Classical.axiomOfChoice ex
  have hsz : ∀ k, k < rows.length → (row k).size = C := fun k hk => by
    obtain ⟨_, r, hl⟩ := hrow k hk
    have := r.length
    rw [hl] at this
    rw [← Array.length_toList]
    exact this.symm
  have eps : ps.map Value.ref = (List.range rows.length).map fun k => Value.ref (ps.getD k 0) := by
    apply List.ext_getElem?
    intro k
    rw [List.getElem?_map, List.getElem?_map]
    by_cases hk : k < rows.length
    · rw [List.getElem?_range hk, List.getElem?_eq_getElem (by rw [hlen]; exact hk)]
      simp [List.getD_eq_getElem?_getD, hlen, hk]
    · rw [List.getElem?_eq_none (by rw [hlen]; omega), List.getElem?_eq_none (by simpa using hk)]
      rfl
  have hR24 : rows.length ≤ sizeLine := by rw [sizeLine_eq]; omega
  show wpAny _ _ (call (.type "zip") ([] ++ ps.map Value.ref)) _ _ _
  rw [List.nil_append, eps]
  refine zip_made (row := row) h0 h12 (fun k hk => (hrow k hk).1) fun z TI TO it h' W hlt hz hO hi hs K => ?_
  refine Calls.spliced_nil ?_
  refine zip_tuple (h0 := s2.heap) (s := { s2 with heap := h' }) (I2.ok.hd hc) h0 hR24 hC0 (by rw [sizeLine_eq]; omega) hsz W hlt hz hO hi hs K fun h2 tk P Ts Z => ?_
  have nT : ∀ T, T ∈ Ts → H1 T = none := fun T hT => I2.hok.fresh (Z.new T hT)
  have nP : H1 P = none := I2.hok.fresh Z.pn
  let cell : Nat → List V := fun j => rows.map fun r => r.getD j .non
  let H' : Hp := fun b => if b = P then some (.frz (tupO (Ts.map Value.ref).toArray) (.tup (Ts.map V.ref))) else if b ∈ Ts then some (.frz (tupO (colT row (Ts.idxOf b) rows.length)) (.tup (cell (Ts.idxOf b)))) else H1 b
  have atP : H' P = some (.frz (tupO (Ts.map Value.ref).toArray) (.tup (Ts.map V.ref))) := if_pos rfl
  have atT : ∀ T, T ∈ Ts → H' T = some (.frz (tupO (colT row (Ts.idxOf T) rows.length)) (.tup (cell (Ts.idxOf T)))) := fun T hT => by
    have ne : T ≠ P := fun e => Z.pT (e ▸ hT)
    simp only [H', if_neg ne, if_pos hT]
  have off : ∀ b, b ≠ P → b ∉ Ts → H' b = H1 b := fun b e1 e2 => by
    simp only [H', if_neg e1, if_neg e2]
  have hsub : ∀ b o, H1 b = some o → H' b = some o := fun b o eb => by
    rw [off b (fun z => by rw [z, nP] at eb; cases eb) (fun z => by rw [nT b z] at eb; cases eb)]
    exact eb
  have idx : ∀ T, T ∈ Ts → Ts[Ts.idxOf T]? = some T ∧ Ts.idxOf T < C := fun T hT => by
    have h1 := List.idxOf_lt_length_of_mem hT
    exact ⟨by rw [List.getElem?_eq_getElem h1, List.getElem_idxOf], by rw [← Z.len]; exact h1⟩
  have vcol : ∀ j, j < C → Vals (cell j) (colT row j rows.length).toList := fun j hj => by
    refine vals_of_get (by simp [cell, colT]) fun k x y hx hy => ?_
    have hk : k < rows.length := by
      have := (List.getElem?_eq_some_iff.mp hx).1
      simpa [cell] using this
    obtain ⟨_, r, hl⟩ := hrow k hk
    have hv := vals_at r (by rw [hl]; exact hj)
    have e1 : x = (rows.getD k []).getD j .non := by
      simp only [cell, List.getElem?_map, List.getElem?_eq_getElem hk, Option.map_some, Option.some.injEq] at hx
      rw [← hx, List.getD_eq_getElem?_getD (l := rows), List.getElem?_eq_getElem hk]
      rfl
    have e2 : y = (row k).toList.getD j .none := by
      have : (colT row j rows.length).toList = (List.range rows.length).map fun k => (row k).getD j .none := by simp [colT]
      rw [this, List.getElem?_map, List.getElem?_range hk] at hy
      have := Option.some.inj hy
      rw [← this, List.getD_eq_getElem?_getD, Array.getElem?_toList]
      simp [Array.getD_eq_getD_getElem?]
    rw [e1, e2]
    exact hv
  have J : Inv X pins σ H' { s2 with heap := h2, toks := tk } := by
    refine inv_many I2 Z.keep hsub (fun b hb hb' => ?_) (fun b o hb ho => ?_) rfl I2.bare
    · by_cases e1 : b = P
      · rw [e1]; exact Heap.get?_none_of_le Z.pn
      · by_cases e2 : b ∈ Ts
        · exact Heap.get?_none_of_le (Z.new b e2)
        · rw [off b e1 e2] at hb'
          exact absurd hb hb'
    · by_cases e1 : b = P
      · subst e1
        rw [atP] at ho
        cases ho
        exact objOk_tup Z.at_ (by rw [List.length_map, Z.len, sizeLine_eq]; omega) (by simpa using vals_refMap Ts)
      · by_cases e2 : b ∈ Ts
        · rw [atT b e2] at ho
          cases ho
          obtain ⟨i1, i2⟩ := idx b e2
          exact objOk_tup (Z.outs _ b i1) (by simp [cell]; exact hR24) (vcol _ i2)
        · rw [off b e1 e2, hb] at ho
          cases ho
  refine ⟨.ref P, H', J, rfl, q H' P Ts hsub (fun b hb hb' => ?_) nP nT Z.len ⟨_, atP, rfl⟩ fun j T hj => ?_⟩
  · by_cases e1 : b = P
    · exact .inl e1
    · by_cases e2 : b ∈ Ts
      · exact .inr e2
      · rw [off b e1 e2] at hb'
        exact absurd hb hb'
  · have hT := List.mem_of_getElem? hj
    obtain ⟨i1, i2⟩ := idx T hT
    have e : Ts.idxOf T = j := by
      have a1 := (List.getElem?_eq_some_iff.mp hj)
      have a2 := (List.getElem?_eq_some_iff.mp i1)
      exact nodup_at Z.nd a2.1 a1.1 (a2.2.trans a1.2.symm)
    rw [← e]
    exact ⟨_, atT T hT, rfl⟩
section
variable {K : PySem.W.Frag} {ρ : Rho} {m : Sto} {P : PV} {te : TE}
theorem imAll_cell {F : Reg} {H : Hp} {j : Nat} : ∀ {dss : List (List PyData)} {rows : List (List V)}, Paired (fun ds r => ImAll K F H ds r) dss rows → (∀ ds ∈ dss, j < ds.length) → ImAll K F H (dss.map fun ds => ds.getD j .none) (rows.map fun r => r.getD j .non)
  | _, _, .nil, _ => rfl
  | ds :: dss, r :: rows, .cons a t, h => by
    obtain ⟨d, hd⟩ : ∃ d, ds[j]? = some d := ⟨_, List.getElem?_eq_getElem (h ds List.mem_cons_self)⟩
    obtain ⟨v, hv, iv⟩ := imAll_get a hd
    refine ⟨v, _, ?_, ?_, imAll_cell t fun d hd => h d (List.mem_cons_of_mem _ hd)⟩
    · rw [List.map_cons, List.getD_eq_getElem?_getD, hv]; rfl
    · show Im K F H (ds.getD j .none) v
      rw [List.getD_eq_getElem?_getD, hd]; exact iv
/-- the columns -/
def colsD (C : Nat) (dss : List (List PyData)) : List PyData := (List.range C).map fun j => .tuple (dss.map fun ds => ds.getD j .none)
theorem ev_zipT (h : Ev K te ρ m fun s m1 => ∃ (dss : List (List PyData)) (C : Nat), s = .d (.tuple (dss.map .tuple)) ∧ 0 < dss.length ∧ dss.length ≤ 12 ∧ 0 < C ∧ C ≤ 1000 ∧ (∀ ds ∈ dss, ds.length = C) ∧ P (.d (.tuple (colsD C dss))) m1) : Ev K (tZipT K te) ρ m P := fun σ F H Q E S q =>
  h σ F H _ E S fun s m1 x F1 H1 ⟨dss, C, e, h0, h12, hC0, hC, hl, p⟩ s1 S1 o1 => by
    subst e
    obtain ⟨a, vs, e, sq, iv⟩ := im_tup o1
    have split : ∀ {dss : List (List PyData)} {vs : List V}, ImAll K F1 H1 (dss.map .tuple) vs → (∀ ds ∈ dss, ds.length = C) → ∃ (ps : List Addr) (rows : List (List V)), vs = ps.map V.ref ∧ Paired (fun p r => SqT K H1 p r ∧ r.length = C) ps rows ∧ Paired (fun ds r => ImAll K F1 H1 ds r) dss rows := by
      intro dss
      induction dss with
      | nil => intro vs h _; exact ⟨[], [], h, .nil, .nil⟩
      | cons ds dss ih =>
        intro vs h hl
        obtain ⟨v, r, e, h1, h2⟩ := h
        obtain ⟨b, ws, e2, sq2, i2⟩ := im_tup h1
        obtain ⟨ps, rows, e3, p1, p2⟩ := ih h2 fun d hd => hl d (List.mem_cons_of_mem _ hd)
        exact ⟨b :: ps, ws :: rows, by rw [e, e2, e3]; rfl, .cons ⟨sq2, by rw [← imAll_len i2]; exact hl ds List.mem_cons_self⟩ p1, .cons i2 p2⟩
    obtain ⟨ps, rows, e3, p1, p2⟩ := split iv hl
    subst e3
    have hlen : dss.length = rows.length := paired_len p2
    refine ⟨a, ps, rows, C, e, sq, p1, by omega, by omega, hC0, hC, fun H' pp Ts hsub honly nP nT hTl zP zT => ?_⟩
    have st : Step m1 F1 H1 m1 (fun b => (b = pp ∨ b ∈ Ts) ∨ F1 b) H' := ⟨fun b o hb n => ⟨hsub b o hb, .inr n⟩, fun b o hb n k => ⟨hsub b o hb, fun z => z.elim (fun z => z.elim (fun e => by rw [e, nP] at hb; cases hb) (fun e => by rw [nT b e] at hb; cases hb)) n, k⟩⟩
    have so : StoOk K m1 (fun b => (b = pp ∨ b ∈ Ts) ∨ F1 b) H' := by
      refine ⟨fun b u e => ⟨muOk_fix st.fix (fun o hb => hsub b o hb) (S1.mu b u e).1, fun z => z.elim (fun z => ?_) (S1.mu b u e).2⟩, fun b z => ?_⟩
      · obtain ⟨o, ho⟩ := muOk_some (S1.mu b u e).1
        rcases z with z | z
        · rw [z, nP] at ho; cases ho
        · rw [nT b z] at ho; cases ho
      · rcases z with (z | z) | z
        · obtain ⟨ob, ho, _⟩ := zP; rw [z, ho]; simp
        · obtain ⟨j, hj⟩ := List.mem_iff_getElem?.mp z
          obtain ⟨ob, ho, _⟩ := zT j b hj; rw [ho]; simp
        · cases q1 : H1 b with
          | none => exact absurd q1 (S1.reg b z)
          | some o => rw [hsub b o q1]; simp
    refine q _ m1 _ _ H' p (s1.trans st) so ⟨pp, Ts.map V.ref, rfl, .inl ⟨.inl (.inl rfl), zP⟩, ?_⟩
    have p3 : Paired (fun ds r => ImAll K (fun b => (b = pp ∨ b ∈ Ts) ∨ F1 b) H' ds r) dss rows := Paired.mapP p2 fun _ _ i => imAll_fix st.fix _ _ i
    refine imAll_iff.mpr ?_
    have key : ∀ (n : Nat) (Us : List Addr) (k : Nat), Us.length = n → (∀ j T, Us[j]? = some T → Ts[k + j]? = some T) → Paired (Im K (fun b => (b = pp ∨ b ∈ Ts) ∨ F1 b) H') ((List.range' k n).map fun j => .tuple (dss.map fun ds => ds.getD j .none)) (Us.map V.ref) := by
      intro n
      induction n with
      | zero =>
        intro Us k hU _
        rw [List.length_eq_zero_iff.mp hU]
        exact .nil
      | succ n ih =>
        intro Us k hU hT
        cases Us with
        | nil => cases hU
        | cons T Us =>
          have h1 := hT 0 T rfl
          rw [Nat.add_zero] at h1
          have hk : k < C := by rw [← hTl]; exact (List.getElem?_eq_some_iff.mp h1).1
          rw [List.range'_succ, List.map_cons, List.map_cons]
          refine .cons ⟨T, _, rfl, .inl ⟨.inl (.inr (List.mem_of_getElem? h1)), zT k T h1⟩, imAll_cell p3 fun ds hd => by rw [hl ds hd]; exact hk⟩ (ih Us (k + 1) (by simpa using hU) fun j T' e => ?_)
          have := hT (j + 1) T' (by simpa using e)
          rw [show k + 1 + j = k + (j + 1) by omega]
          exact this
    have := key C Ts 0 hTl fun j T e => by rw [Nat.zero_add]; exact e
    unfold colsD
    rw [List.range_eq_range']
    exact this
end
end Dv

namespace Dv
open PySem L2 PyProof.Rows
/-! ### an error as a value: made as for a raise, then kept -/
def exV (a C : Addr) (d : Option Addr) : HO := .ext fun h => ∃ oe vs, h.get? a = some oe ∧ Zc (.ref C) d oe ∧ oe.data = .fields vs
theorem inv_more {X : Cx} {pins : List (Addr × Obj)} {σ : L2.St} {H : Hp} {sI s' : Shared} {a : Addr} {o : HO} (I : Inv X pins σ H sI) (sub : ∀ b u, sI.heap.get? b = some u → s'.heap.get? b = some u) (hn : sI.heap.get? a = none) (hH : H a = none)
    (ob : ObjOk X.prog X.w (upd H a o) s'.heap a o) (eo : s'.os = sI.os) (hb : AllBare s'.gens) : Inv X pins σ (upd H a o) s' := by
  have ne : ∀ {b : Addr} {u : Obj}, sI.heap.get? b = some u → b ≠ a := fun {b u} e z => by rw [z, hn] at e; cases e
  have neH : ∀ {b : Addr} {u : HO}, H b = some u → b ≠ a := fun {b u} e z => by rw [z, hH] at e; cases e
  obtain ⟨hp, g, d, t, os⟩ := s'
  cases (show os = sI.os from eo)
  refine I.step (ch := []) (fun b hb => by cases hb) (fun b u _ _ _ e _ => sub b u e) (fun b u _ _ _ e _ => ⟨u.slots, sub b u e⟩) (fun b u _ e z => by rw [upd_ne (ne e)]; exact z) (fun b u _ e => ⟨u, sub b u e⟩) (fun b xs e => by rw [upd_ne (neH e)]; exact e) (fun b u v e => by rw [upd_ne (neH e)]; exact e)
    (fun b ps e => ⟨#[], by rw [upd_ne (neH e)]; simpa using e⟩) (fun m ⟨u, es, ep, e, r⟩ => ⟨u, es, ep, sub _ u e, r⟩) (fun b u e => ?_) hb
  by_cases z : b = a
  · subst z
    rw [upd_same] at e
    cases e
    exact ob
  · rw [upd_ne z] at e
    exact (I.hok b u e).stay (fun c v _ hc => sub c v hc) (fun c hc => by rw [upd_ne (neH hc)]; exact hc) (fun c xs hc => by rw [upd_ne (neH hc)]; exact hc)
theorem pe_of_mk {X : Cx} {e : Expr} {t : L2.St → Hp → XK → Prop} (h : PMk X e t) : PE X e (fun σ H Q => t σ H fun cls d H' => ∃ C, cls = .ref C ∧ ∀ a, H' a = none → Q (.ref a) (upd H' a (exV a C d))) := by
  constructor
  intro pins s σ H Q I q
  refine wpAny_mono (h pins s σ H _ I q) ?_ (fun _ _ z => z)
  rintro u s' ⟨a, oe, vs, sI, H', cls, d, rfl, I', sub, hn, ha, hz, hv, _, hH, eo, hb, _, C, rfl, q'⟩
  exact ⟨.ref a, upd H' a (exV a C d), inv_more I' sub hn hH ⟨⟨oe, vs, ha, hz, hv⟩, ⟨oe, ha⟩, fun h1 h2 ⟨oe, vs, a1, z1, v1⟩ sb => ⟨oe, vs, sb _ a1, z1, v1⟩⟩ eo hb, rfl, q' a hH⟩
end Dv

namespace Dv
open PySem L2 PyProof.Rows
open PySem.Calls
open PySem.W (EachIs AllAlike Sortable dataLe dataKind SortsAt sortingHeap)
/-! ### sorted of alike data: of a list, of a tuple, of what is collected -/
section
variable {prog : Program} {w : World} {A : Around} {E : Value → Shared → Prop} {s : Shared}
theorem sortingHeap_new {h : Heap} {vs : List Value} {b : Addr} {o : Obj} (e : h.get? b = some o) : (sortingHeap (h.push (seqObj "list" vs.toArray 0)) h.objs.size vs).get? b = some o :=
  PySem.W.sortingHeap_old (Nat.ne_of_lt (Heap.lt_size e)) (Heap.get?_push_of_some _ e)
theorem sorted_col {v : Value} {vs : List Value} {bs : List (V × PyData)} {Q : Value → Shared → Prop} (Ok : Shared → Prop) (hL : vs.length ≤ sizeLine) (hcol : ∀ (Q' : List Value → Shared → Prop) (E' : Value → Shared → Prop), (∀ s1, Ok s1 → Q' vs s1) → wpAny (model prog w) A.in1 (collect v) Q' E' s)
    (e : EachIs (fun v b => L2.RelV b.1 v) vs bs) (er : ∀ s1, Ok s1 → EachIs (fun v b => ∃ as, Reads s1.heap v b.2 as) vs bs) (hal : AllAlike (bs.map Prod.snd)) (hk : Sortable (bs.map Prod.snd)) (hu : ∀ b, b ∈ bs → A.units + 2 + b.2.depth < cLine)
    (hQ : ∀ (s1 : Shared) (out : List Value) (h' : Heap), Ok s1 → (∀ b o, s1.heap.get? b = some o → h'.get? b = some o) → out.length = bs.length → EachIs (fun v b => L2.RelV b.1 v) out (bs.mergeSort (dataLe false Prod.snd)) → (∃ c, h'.get? s1.heap.objs.size = some (seqObj "list" out.toArray c)) → Q (.ref s1.heap.objs.size) { s1 with heap := h' }) :
    wpAny (model prog w) A (call (.builtin "sorted") [v]) Q E s := by
  refine call_function_entry_kw kind_sorted plain_sorted entry_sorted (args_sorted1 _) ?_
  unfold Builtin.«sorted»
  refine wpAny_bind (m := checkCount "sorted" 1 1 _) (wpAny_pure ?_)
  refine wpAny_bind (hcol _ _ fun s1 ok => ?_)
  refine wpAny_bind (wpAny_newList ?_ hL)
  have hD : (s1.heap.push (seqObj "list" vs.toArray 0)).get? s1.heap.objs.size = some (seqObj "list" vs.toArray 0) := Heap.get?_push_size _ rfl
  have er' : EachIs (fun v b => ∃ as, Reads (sortingHeap (s1.heap.push (seqObj "list" vs.toArray 0)) s1.heap.objs.size vs) v b.2 as) vs bs := (er s1 ok).mono fun _ _ ⟨as, r⟩ => ⟨as, PyProof.Rows.Reads.keeps (fun _ _ q => sortingHeap_new q) r⟩
  have S : SortsAt prog w A.in1.in1 { s1 with heap := sortingHeap (s1.heap.push (seqObj "list" vs.toArray 0)) s1.heap.objs.size vs } (dataKind (sortingHeap (s1.heap.push (seqObj "list" vs.toArray 0)) s1.heap.objs.size vs) (bs.map Prod.snd)) vs :=
    SortsAt.data (s := { s1 with heap := sortingHeap (s1.heap.push (seqObj "list" vs.toArray 0)) s1.heap.objs.size vs }) (PySem.W.each_map (R := fun v d => ∃ as, Reads (sortingHeap (s1.heap.push (seqObj "list" vs.toArray 0)) s1.heap.objs.size vs) v d as) Prod.snd er') hal hk (PySem.W.bound_map hu)
  refine wpAny_bind (wpAny_holding (wpAny_call_entry_kw slot_list_sort ⟨_, hD, rfl⟩ entry_list_sort ?_ (args_list_sort _)))
  show wpAny (model prog w) A.in1.in1 (Builtin.«list.sort» ⟨[.ref s1.heap.objs.size], []⟩) _ _ _
  refine PySem.W.list_sort_vals (s := { s1 with heap := s1.heap.push (seqObj "list" vs.toArray 0) }) hD S hL ⟨_, rfl, ?_⟩
  refine wpAny_pure ⟨_, rfl, ?_⟩
  have hlen : vs.length = bs.length := e.length
  refine hQ s1 _ _ ok (fun b o q => ?_) (by rw [PySem.W.sortVals_length false rfl]; exact hlen) (PySem.W.sortVals_data false e er' hal) (sortedHeap_at hD)
  have hlt := Heap.lt_size q
  rw [sortedHeap_old (Nat.ne_of_lt hlt) (by rw [size_push']; exact Nat.lt_succ_of_lt hlt)]
  exact Heap.get?_push_of_some _ q
end
end Dv
namespace Dv
open PySem L2 PyProof.Rows PySem.Calls
open PySem.W (EachIs AllAlike Sortable dataLe)
def rSortD (K : PySem.W.Frag) : List V → Hp → VK → Prop := fun vs H Q => ∃ (a : Addr) (xs : List V) (ds : List PyData), vs = [V.ref a] ∧ (SqL K H a xs ∨ SqT K H a xs) ∧ DpAll K H xs ds ∧ AllAlike ds ∧ Sortable ds ∧ (∀ d, d ∈ ds → d.depth ≤ 20) ∧
  ∀ p, H p = none → Q (.ref p) (upd H p (.lst (((xs.zip ds).mergeSort (dataLe false Prod.snd)).map Prod.fst)))
theorem each_zip {h : Heap} : ∀ {us : List Value} {xs : List V} {ds : List PyData} {as : List Addr}, Vals xs us → ReadsAll h us ds as → EachIs (fun v (b : V × PyData) => L2.RelV b.1 v) us (xs.zip ds) ∧ EachIs (fun v (b : V × PyData) => ∃ as, Reads h v b.2 as) us (xs.zip ds)
  | _, _, _, _, .nil, .nil => ⟨.nil, .nil⟩
  | _, _, _, _, .cons r t, .cons a b => by
    obtain ⟨h1, h2⟩ := each_zip t b
    exact ⟨.cons r h1, .cons ⟨_, a⟩ h2⟩
theorem each_vals : ∀ {us : List Value} {bs : List (V × PyData)}, EachIs (fun v b => L2.RelV b.1 v) us bs → Vals (bs.map Prod.fst) us
  | _, _, .nil => .nil
  | _, _, .cons r t => .cons r (each_vals t)
theorem hok_there {P : Program} {w : World} {H : Hp} {h : Heap} {a : Addr} {o : HO} (x : ObjOk P w H h a o) : ∃ u, h.get? a = some u := by
  cases o with
  | lst xs => obtain ⟨_, _, _, _, e⟩ := x; exact ⟨_, e⟩
  | tup xs => obtain ⟨_, _, _, o, e, _⟩ := x; exact ⟨_, e⟩
  | dK kvs => obtain ⟨_, _, _, _, o, _, _, e, _⟩ := x; exact ⟨_, e⟩
  | dT kvs => obtain ⟨_, _, _, _, o, _, _, e, _⟩ := x; exact ⟨_, e⟩
  | set S n => obtain ⟨o, _, _, _, e, _⟩ := x; exact ⟨_, e⟩
  | ins C dx fs => obtain ⟨_, _, _, e, _⟩ := x; exact ⟨_, e⟩
  | own y => exact x
  | xd fs => obtain ⟨_, ⟨_, _, _, e, _⟩, _⟩ := x; exact ⟨_, e⟩
  | rng lo hi => obtain ⟨_, _, _, e⟩ := x; exact ⟨_, e⟩
  | frz ob u => exact ⟨_, x.1⟩
  | tbl ps => exact ⟨_, x⟩
  | met f y => exact ⟨_, x⟩
  | ext φ => exact x.2.1
theorem cr_sortD {X : Cx} (hu : X.A.units + 30 < cLine) : CallR X (.builtin "sorted") (rSortD X.K) := by
  intro pins s σ H vs us Q I r h
  obtain ⟨a, xs, ds, rfl, hs, hd, hal, hk, hdp, q⟩ := h
  rw [Vals.ref1 r]
  obtain ⟨its, rv, hz, hcol⟩ : ∃ its : List Value, Vals xs its ∧ its.length ≤ sizeLine ∧ ∀ (A' : Around) (Q' : List Value → Shared → Prop) (E' : Value → Shared → Prop), (∀ s1, (∃ h1, s1 = { s with heap := h1 } ∧ ∀ b o, s.heap.get? b = some o → h1.get? b = some o) → Q' its s1) → wpAny (model X.prog X.w) A' (collect (.ref a)) Q' E' s := by
    rcases hs with hs | hs
    · obtain ⟨its, rv, hl, hz⟩ := I.list hs
      have hz' : its.length ≤ sizeLine := by rw [← rv.length]; exact hz
      obtain ⟨o, n, ho, hc, hd', hdat⟩ := hl
      exact ⟨its, rv, hz', fun A' Q' E' q' => wpAny_collect_seq a (.inl rfl) ho hc hdat (fun h' k => q' _ ⟨h', rfl, k⟩) (by simpa using hz')⟩
    · obtain ⟨its, rv, ⟨o, ho, hc, n, hdat⟩, hz⟩ := I.tuple hs
      have hz' : its.length ≤ sizeLine := by rw [← rv.length]; exact hz
      exact ⟨its, rv, hz', fun A' Q' E' q' => wpAny_collect_seq a (.inr rfl) ho hc hdat (fun h' k => q' _ ⟨h', rfl, k⟩) (by simpa using hz')⟩
  obtain ⟨as, ra⟩ := Dp.readsAll I ds xs its hd rv
  obtain ⟨e1, e2⟩ := each_zip rv ra
  have hlen : xs.length = ds.length := by
    have h1 := rv.length
    have h2 := SeqAt.ReadsAll.length _ _ _ ra
    omega
  have hmap : (xs.zip ds).map Prod.snd = ds := List.map_snd_zip (by omega)
  refine sorted_col (fun s1 => ∃ h1, s1 = { s with heap := h1 } ∧ ∀ b o, s.heap.get? b = some o → h1.get? b = some o) hz (hcol X.A.in1) e1 (fun s1 ⟨h1, eh, k⟩ => e2.mono fun v b ⟨as, r⟩ => ⟨as, by subst eh; exact PyProof.Rows.Reads.keeps k r⟩) (by rw [hmap]; exact hal) (by rw [hmap]; exact hk) (fun b hb => ?_) fun s1 out h' ⟨h1, eh, k⟩ k2 ho eo hc => ?_
  · have h3 : PyData.depth b.2 ≤ 20 := hdp _ (List.of_mem_zip hb).2
    exact Nat.lt_of_le_of_lt (Nat.add_le_add_left h3 _) (by omega)
  · subst eh
    obtain ⟨c, hc⟩ := hc
    have hn : s.heap.get? h1.objs.size = none := by
      cases hg : s.heap.get? h1.objs.size with
      | none => rfl
      | some o => exact absurd (Heap.lt_size (k _ _ hg)) (Nat.lt_irrefl _)
    have hH : H h1.objs.size = none := by
      cases hg : H h1.objs.size with
      | none => rfl
      | some o =>
        obtain ⟨u, hu⟩ := hok_there (I.hok _ _ hg)
        rw [hn] at hu
        cases hu
    have hv := each_vals eo
    exact ⟨.ref h1.objs.size, _, inv_more (s' := { s with heap := h' }) I (fun b o q => k2 b o (k b o q)) hn hH (show ObjOk X.prog X.w _ h' _ (.lst (((xs.zip ds).mergeSort (dataLe false Prod.snd)).map Prod.fst)) from ⟨by have h0 := rv.length; rw [hv.length, ho, List.length_zip]; exact Nat.le_trans (Nat.min_le_left _ _) (by omega), out, c, hv, hc⟩) rfl I.bare, rfl, q _ hH⟩
theorem lt_asym {a b : List Nat} (h : Spec.ltCps a b = true) : Spec.ltCps b a = false := by
  rw [ltCps_eq] at h ⊢
  exact decide_eq_false (List.lt_asymm (of_decide_eq_true h))
theorem ge_self (a : List Nat) : geC a a := by
  show Spec.ltCps a a = false
  rw [ltCps_eq]
  exact decide_eq_false (List.lt_irrefl a)
theorem ge_total (a b : List Nat) : geC a b ∨ geC b a := by
  cases h : Spec.ltCps b a with
  | false => exact .inl h
  | true => exact .inr (lt_asym h)
theorem dataLt_strs (x y : Str) : PySem.W.dataLt (.str x) (.str y) = Spec.ltCps x.cps.toList y.cps.toList := by
  rw [PySem.W.dataLt_str, ltCps_eq]
theorem minD_strs : ∀ (xs : List Str) (a : Str), ∃ z, PySem.W.minD (.str a) (xs.map .str) = .str z ∧ z ∈ a :: xs ∧ ∀ y, y ∈ a :: xs → geC z.cps.toList y.cps.toList
  | [], a => ⟨a, rfl, List.mem_cons_self, fun y hy => by rw [List.mem_singleton.mp hy]; exact ge_self _⟩
  | x :: xs, a => by
    have e : PySem.W.minD (.str a) ((x :: xs).map .str) = PySem.W.minD (if PySem.W.dataLt (.str x) (.str a) = true then .str x else .str a) (xs.map .str) := rfl
    rw [e, dataLt_strs]
    by_cases h : Spec.ltCps x.cps.toList a.cps.toList = true
    · rw [if_pos h]
      obtain ⟨z, h1, h2, h3⟩ := minD_strs xs x
      refine ⟨z, h1, List.mem_cons_of_mem _ h2, fun y hy => ?_⟩
      rcases List.mem_cons.mp hy with q | q
      · subst q
        exact ge_trans (h3 x List.mem_cons_self) (lt_asym h)
      · exact h3 y q
    · rw [if_neg h]
      obtain ⟨z, h1, h2, h3⟩ := minD_strs xs a
      have ha := h3 a List.mem_cons_self
      refine ⟨z, h1, ?_, fun y hy => ?_⟩
      · rcases List.mem_cons.mp h2 with q | q
        · rw [q]; exact List.mem_cons_self
        · exact List.mem_cons_of_mem _ (List.mem_cons_of_mem _ q)
      · rcases List.mem_cons.mp hy with q | q
        · rw [q]; exact ha
        · rcases List.mem_cons.mp q with q | q
          · subst q
            exact ge_trans ha (by simpa using h)
          · exact h3 y (List.mem_cons_of_mem _ q)
def rMinS (K : PySem.W.Frag) : List V → Hp → VK → Prop := fun vs H Q => ∃ (a : Addr) (zs : List Str), vs = [V.ref a] ∧ (SqL K H a (zs.map V.str) ∨ SqT K H a (zs.map V.str)) ∧ zs ≠ [] ∧ ∀ z, z ∈ zs → (∀ y, y ∈ zs → geC z.cps.toList y.cps.toList) → Q (.str z) H
theorem dpAll_strs {K : PySem.W.Frag} {H : Hp} : ∀ zs : List Str, DpAll K H (zs.map V.str) (zs.map .str)
  | [] => .nil
  | z :: zs => .cons (.str z) (dpAll_strs zs)
theorem cr_minS {X : Cx} (hc : X.calm = true) (hu : X.A.units + 30 < cLine) : CallR X (.builtin "min") (rMinS X.K) := by
  intro pins s σ H vs us Q I r h
  obtain ⟨a, zs, rfl, hs, hne, q⟩ := h
  rw [Vals.ref1 r]
  cases zs with
  | nil => exact absurd rfl hne
  | cons x xs =>
  have ha : PySem.W.AlikeAll (.str x :: xs.map .str) := by
    refine ⟨fun d hd e he => ?_, fun d hd => ?_⟩
    · have h1 : ∀ {d : PyData}, d ∈ (PyData.str x :: xs.map .str) → ∃ z, d = .str z := fun hd => by
        rcases List.mem_cons.mp hd with q | q
        · exact ⟨x, q⟩
        · obtain ⟨z, _, e⟩ := List.mem_map.mp q; exact ⟨z, e.symm⟩
      obtain ⟨z, rfl⟩ := h1 hd
      obtain ⟨y, rfl⟩ := h1 he
      simp [PySem.W.alike]
    · rcases List.mem_cons.mp hd with q | q
      · rw [q]; intro e; cases e
      · obtain ⟨z, _, e⟩ := List.mem_map.mp q
        rw [← e]; intro e; cases e
  have hdep : PyData.depthAll (.str x :: xs.map .str) = 0 := by
    have : ∀ zs : List Str, PyData.depthAll (zs.map .str) = 0 := by
      intro zs
      induction zs with
      | nil => rfl
      | cons z zs ih => rw [List.map_cons, PyData.depthAll, ih]; rfl
    exact this (x :: xs)
  have hroom : X.A.units + 1 + PyData.depthAll (.str x :: xs.map .str) < cLine := by rw [hdep]; omega
  obtain ⟨z, e1, e2, e3⟩ := minD_strs xs x
  have fin : ∀ {its : List Value}, Vals ((x :: xs).map V.str) its → ∀ (i : Nat) (v : Value) (h' : Heap) (tk : Nat) (bs : List Addr), its.toArray[i]? = some v → Reads h' v (PySem.W.minD (.str x) (xs.map .str)) bs → (∀ b o, s.heap.get? b = some o → h'.get? b = some o) → EP X pins σ Q v { s with heap := h', toks := tk } := by
    intro its rv i v h' tk bs hv hr hk
    have hv' : its[i]? = some v := by simpa using hv
    have hi : i < ((x :: xs).map V.str).length := by rw [rv.length]; exact (List.getElem?_eq_some_iff.mp hv').1
    obtain ⟨u, hu', ru⟩ := rv.get (List.getElem?_eq_getElem hi)
    rw [hv'] at hu'
    cases hu'
    rw [List.getElem_map] at ru
    obtain ⟨t, rfl⟩ := ru
    rw [e1] at hr
    have hi2 : i < (x :: xs).length := by simpa using hi
    have ez : (x :: xs)[i]'hi2 = z := by cases hr; rfl
    rw [ez]
    exact ⟨.str z, H, I.kept hk, ⟨_, rfl⟩, q z e2 e3⟩
  rcases hs with hs | hs
  · obtain ⟨its, rv, hl, _⟩ := I.list hs
    obtain ⟨as, ra⟩ := Dp.readsAll I _ _ its (dpAll_strs (K := X.K) (H := H) (x :: xs)) rv
    exact PySem.W.min_list_data (I.ok.hd hc) hl.isList (by simpa using ra) ha hroom (fin rv)
  · obtain ⟨its, rv, hl, _⟩ := I.tuple hs
    obtain ⟨as, ra⟩ := Dp.readsAll I _ _ its (dpAll_strs (K := X.K) (H := H) (x :: xs)) rv
    exact PySem.W.min_tuple_data (I.ok.hd hc) hl (by simpa using ra) ha hroom (fin rv)
def rMinA (K : PySem.W.Frag) : List V → Hp → VK → Prop := rc2 rMinC (rMinS K)
theorem call_minA {X : Cx} (hc : X.calm = true) (hu : X.A.units + 30 < cLine) : CallR X (.builtin "min") (rMinA X.K) := (call_minU hc).or (cr_minS hc hu)
def rMaxA (K : PySem.W.Frag) : List V → Hp → VK → Prop := rc2 rMaxC (rMax K)
theorem call_maxA {X : Cx} (hc : X.calm = true) : CallR X (.builtin "max") (rMaxA X.K) := (call_max2 hc).or (cr_max hc)
section
variable {K : PySem.W.Frag} {m : Sto} {P : PV}
theorem hu30 {X : Cx} {k : Nat} (hr : Room k X.A) : X.A.units + 30 < cLine := by have := hr.units; omega
theorem rc_minN {s : Sl} {r : List (List Nat)} (h : SeqS K s m (r.map nmD)) (hr : r ≠ []) (p : ∀ l, l ∈ r → (∀ y, y ∈ r → geC l y) → P (.d (nmD l)) m) : RC K (rMinA K) [s] m P := rc_r fun xs F H Q a S q => by
  obtain ⟨x, e, o⟩ := sls1 a
  obtain ⟨l, vs, e2, hl, i⟩ := h x F H o S
  subst e2
  rw [nms_str] at i
  have := imAll_strs.mp i
  subst this
  refine ⟨l, r.map Sx, e, hl, by simpa using hr, fun z hz hle => ?_⟩
  obtain ⟨n, hn, rfl⟩ := List.mem_map.mp hz
  exact q _ m _ F H (p n hn fun y hy => by simpa using hle (Sx y) (List.mem_map_of_mem hy)) Step.refl S rfl
theorem rc_minA2 {i j : Int} (p : P (.d (.int (if j < i then j else i))) m) : RC K (rMinA K) [.d (.int i), .d (.int j)] m P := rc_l (rc_min2 p)
theorem rc_maxA2 {i j : Int} (p : P (.d (.int (if j > i then j else i))) m) : RC K (rMaxA K) [.d (.int i), .d (.int j)] m P := rc_l (rc_max2 p)
theorem imAll_intsOf {F : Reg} {H : Hp} : ∀ {ns : List Int} {vs : List V}, ImAll K F H (ns.map .int) vs → vs = ns.map V.int
  | [], vs, h => h
  | n :: ns, vs, h => by
    obtain ⟨v, r, e, h1, h2⟩ := h
    cases (show v = .int n from h1)
    rw [e, imAll_intsOf h2]
    rfl
theorem rc_maxL {ns : List Int} (hne : ns ≠ []) (p : ∀ k, k ∈ ns → (∀ y, y ∈ ns → y ≤ k) → P (.d (.int k)) m) : RC K (rMaxA K) [.d (.list (ns.map .int))] m P := rc_r fun xs F H Q a S q => by
  obtain ⟨x, e, o⟩ := sls1 a
  obtain ⟨l, vs, e2, hl, i⟩ := im_lst o
  subst e2
  have := imAll_intsOf i
  subst this
  exact ⟨l, ns, e, SqL.of hl, List.length_pos_iff.mpr hne, fun k hk hle => q _ m _ F H (p k hk hle) Step.refl S rfl⟩
theorem rc_sumL {ns : List Int} (p : P (.d (.int ns.sum)) m) : RC K (rSum K) [.d (.list (ns.map .int))] m P := fun xs F H Q a S q => by
  obtain ⟨x, e, o⟩ := sls1 a
  obtain ⟨l, vs, e2, hl, i⟩ := im_lst o
  subst e2
  have := imAll_intsOf i
  subst this
  exact ⟨l, ns, e, SqL.of hl, q _ m _ F H p Step.refl S rfl⟩
theorem rc_sortD {s : Sl} {ds : List PyData} (h : SeqS K s m ds) (hal : AllAlike ds) (hk : Sortable ds) (hd : ∀ d, d ∈ ds → d.depth ≤ 20) (p : P (.d (.list (ds.mergeSort (dataLe false id)))) m) : RC K (rSortD K) [s] m P := fun xs F H Q a S q => by
  obtain ⟨x, e, o⟩ := sls1 a
  obtain ⟨l, vs, e2, hl, i⟩ := h x F H o S
  subst e2
  refine ⟨l, vs, ds, e, hl, imAll_dp _ _ i, hal, hk, hd, fun c hc => then_new S p q hc ⟨c, _, rfl, .inl rfl, upd_same, ?_⟩⟩
  have hlen := imAll_len i
  have e3 : ds.mergeSort (dataLe false id) = ((vs.zip ds).mergeSort (dataLe false Prod.snd)).map Prod.snd := by
    rw [PySem.W.sort_maps (r := dataLe false Prod.snd) (s := dataLe false id) (l := vs.zip ds) Prod.snd (fun _ _ _ _ => rfl), List.map_snd_zip (by omega)]
  rw [e3]
  have key : ∀ bs : List (V × PyData), (∀ b, b ∈ bs → Im K (add F c) (upd H c (.lst (((vs.zip ds).mergeSort (dataLe false Prod.snd)).map Prod.fst))) b.2 b.1) → ImAll K (add F c) (upd H c (.lst (((vs.zip ds).mergeSort (dataLe false Prod.snd)).map Prod.fst))) (bs.map Prod.snd) (bs.map Prod.fst) := by
    intro bs
    induction bs with
    | nil => intro _; rfl
    | cons b bs ih => intro hb; exact ⟨_, _, rfl, hb b List.mem_cons_self, ih fun x hx => hb x (List.mem_cons_of_mem _ hx)⟩
  refine key _ fun b hb => ?_
  have hb' : b ∈ vs.zip ds := (List.mergeSort_perm _ _).mem_iff.mp hb
  obtain ⟨j, hj⟩ := List.mem_iff_getElem?.mp hb'
  rw [List.getElem?_zip_eq_some] at hj
  obtain ⟨j1, j2⟩ := hj
  obtain ⟨v, hv, iv⟩ := imAll_get i j2
  rw [j1] at hv
  cases hv
  exact im_fix (step_new S hc).fix _ _ iv
/-- the names in order -/
def srt (r : List (List Nat)) : List (List Nat) := r.mergeSort fun a b => !Spec.ltCps b a
theorem srt_perm (r : List (List Nat)) : (srt r).Perm r := List.mergeSort_perm _ _
theorem srt_pw (r : List (List Nat)) : (srt r).Pairwise geC := by
  have h : (srt r).Pairwise fun a b => (!Spec.ltCps b a) = true := List.pairwise_mergeSort (fun a b c h1 h2 => by
    have h1' : geC a b := by simpa using h1
    have h2' : geC b c := by simpa using h2
    have := ge_trans h1' h2'
    simpa using this) (fun a b => by
    rcases ge_total a b with h | h
    · simp [show Spec.ltCps b a = false from h]
    · simp [show Spec.ltCps a b = false from h]) r
  exact h.imp fun {a b} q => by simpa using q
theorem pwN_unique : ∀ {xs ys : List (List Nat)}, xs.Pairwise geC → ys.Pairwise geC → xs.Perm ys → xs = ys
  | [], ys, _, _, p => by rw [List.nil_perm.mp p]
  | x :: xs, [], _, _, p => by cases List.perm_nil.mp p
  | x :: xs, y :: ys, hx, hy, p => by
    obtain ⟨x1, x2⟩ := List.pairwise_cons.mp hx
    obtain ⟨y1, y2⟩ := List.pairwise_cons.mp hy
    have e : x = y := by
      have m1 : x ∈ y :: ys := p.mem_iff.mp List.mem_cons_self
      have m2 : y ∈ x :: xs := p.mem_iff.mpr List.mem_cons_self
      rcases List.mem_cons.mp m1 with e | e
      · exact e
      · rcases List.mem_cons.mp m2 with e2 | e2
        · exact e2.symm
        · exact ge_anti (x1 y e2) (y1 x e)
    subst e
    rw [pwN_unique x2 y2 ((List.perm_cons x).mp p)]
theorem srt_of {xs r : List (List Nat)} (h : xs.Pairwise geC) (p : xs.Perm r) : srt r = xs := pwN_unique (srt_pw r) h ((srt_perm r).trans p.symm)
theorem srt_congr {r r' : List (List Nat)} (p : r.Perm r') : srt r = srt r' := srt_of (srt_pw r') ((srt_perm r').trans p.symm)
theorem alike_nms (r : List (List Nat)) : AllAlike (r.map nmD) := fun d hd e he => by
  obtain ⟨a, _, rfl⟩ := List.mem_map.mp hd
  obtain ⟨b, _, rfl⟩ := List.mem_map.mp he
  simp [PySem.W.alike]
theorem sortable_nms (r : List (List Nat)) : Sortable (r.map nmD) := .inr fun d hd => by
  obtain ⟨a, _, rfl⟩ := List.mem_map.mp hd
  exact ⟨fun e => (nomatch e), fun xs e => (nomatch e)⟩
theorem rc_sortN {s : Sl} {r : List (List Nat)} (h : SeqS K s m (r.map nmD)) (p : P (.d (.list ((srt r).map nmD))) m) : RC K (rSortD K) [s] m P := rc_sortD h (alike_nms r) (sortable_nms r) (fun d hd => by
  obtain ⟨a, _, rfl⟩ := List.mem_map.mp hd
  exact Nat.zero_le _) (by
  have e : (r.map nmD).mergeSort (dataLe false id) = (srt r).map nmD := by
    rw [srt, PySem.W.sort_maps (r := fun a b => !Spec.ltCps b a) (s := dataLe false id) (l := r) nmD]
    intro a _ b _
    rw [PySem.W.dataLe_eq]
    show (!Spec.ltCps b a) = !PySem.W.dataLt (nmD b) (nmD a)
    rw [dataLt_strs]
  rw [e]
  exact p)
/-- the least name -/
def mnL (r : List (List Nat)) : List Nat := (srt r).headD []
theorem mnL_head {r : List (List Nat)} (h : r ≠ []) : ∃ t, srt r = mnL r :: t := by
  cases e : srt r with
  | nil =>
    have := (srt_perm r).length_eq
    rw [e] at this
    exact absurd (List.length_eq_zero_iff.mp this.symm) h
  | cons a t => exact ⟨t, by simp [mnL, e]⟩
theorem mnL_mem {r : List (List Nat)} (h : r ≠ []) : mnL r ∈ r := by
  obtain ⟨t, e⟩ := mnL_head h
  exact (srt_perm r).mem_iff.mp (by rw [e]; exact List.mem_cons_self)
theorem mnL_le {r : List (List Nat)} {y : List Nat} (hy : y ∈ r) : geC (mnL r) y := by
  have h : r ≠ [] := fun e => by rw [e] at hy; cases hy
  obtain ⟨t, e⟩ := mnL_head h
  have hm : y ∈ srt r := (srt_perm r).mem_iff.mpr hy
  have pw := srt_pw r
  rw [e] at pw hm
  rcases List.mem_cons.mp hm with q | q
  · rw [q]; exact ge_self _
  · exact (List.pairwise_cons.mp pw).1 y q
theorem mnL_one {r : List (List Nat)} {l : List Nat} (hl : l ∈ r) (h : ∀ y, y ∈ r → geC l y) : l = mnL r := by
  have hne : r ≠ [] := fun e => by rw [e] at hl; cases hl
  exact ge_anti (h _ (mnL_mem hne)) (mnL_le hl)
theorem rc_minM {s : Sl} {r : List (List Nat)} (h : SeqS K s m (r.map nmD)) (hr : r ≠ []) (p : P (.d (nmD (mnL r))) m) : RC K (rMinA K) [s] m P := rc_minN h hr fun l h1 h2 => by rw [mnL_one h1 h2]; exact p
end
end Dv

namespace Dv
open PySem L2 PyProof.Rows
/-! ### law 8: rings, used labels, matched, clear -/
structure GL (r : List (List Nat)) : Prop where
  pos : r ≠ []
  most : r.length ≤ 12
  ok : ∀ l ∈ r, l ≠ [] ∧ Tx l
structure Good (ls : List (List (List Nat))) : Prop where
  most : ls.length ≤ 24
  ok : ∀ r ∈ ls, GL r
def colsN (C : Nat) (fl : List (List (List Nat))) : List (List (List Nat)) := (List.range C).map fun j => fl.map fun r => r.getD j []
def colsL (fl : List (List (List Nat))) : List (List (List Nat)) := colsN (fl.getD 0 []).length fl
theorem VF.head {fl : List (List (List Nat))} (v : VF fl) : ∃ r0, fl[0]? = some r0 ∧ (fl.getD 0 []) = r0 ∧ 0 < r0.length ∧ r0.length ≤ 12 ∧ ∀ r ∈ fl, r.length = r0.length := by
  obtain ⟨c, c0, c1, hc⟩ := v.cols
  cases fl with
  | nil => exact absurd rfl v.pos
  | cons a b =>
    have := hc a List.mem_cons_self
    exact ⟨a, rfl, rfl, by omega, by omega, fun r hr => by rw [hc r hr]; omega⟩
theorem VF.rows {fl : List (List (List Nat))} (v : VF fl) : Good fl where
  most := by have := v.most; omega
  ok r hr := by
    obtain ⟨r0, _, _, h1, h2, h3⟩ := v.head
    have := h3 r hr
    exact ⟨fun e => by subst e; simp at this; omega, by omega, fun l hl => ⟨okL_ne (v.ok r hr l hl), okL_tx (v.ok r hr l hl)⟩⟩
theorem VF.colm {fl : List (List (List Nat))} (v : VF fl) {r : List (List Nat)} (h : r ∈ colsL fl) : r.length = fl.length ∧ ∀ l ∈ r, l ∈ fl.flatten := by
  obtain ⟨r0, h0, e0, h1, h2, h3⟩ := v.head
  unfold colsL colsN at h
  rw [e0] at h
  obtain ⟨j, hj, rfl⟩ := List.mem_map.mp h
  have hj := List.mem_range.mp hj
  refine ⟨List.length_map .., fun l hl => ?_⟩
  obtain ⟨r, hr, rfl⟩ := List.mem_map.mp hl
  have hjr : j < r.length := by rw [h3 r hr]; exact hj
  rw [List.getD_eq_getElem?_getD, List.getElem?_eq_getElem hjr]
  exact List.mem_flatten.mpr ⟨r, hr, List.getElem_mem _⟩
theorem VF.colk {fl : List (List (List Nat))} (v : VF fl) : Good (colsL fl) where
  most := by
    obtain ⟨r0, h0, e0, h1, h2, h3⟩ := v.head
    unfold colsL colsN
    rw [e0, List.length_map, List.length_range]
    omega
  ok r hr := by
    obtain ⟨h1, h2⟩ := v.colm hr
    have h3 := v.most
    have h4 : fl.length ≠ 0 := fun e => v.pos (List.length_eq_zero_iff.mp e)
    refine ⟨fun e => by subst e; simp at h1; omega, by omega, fun l hl => ?_⟩
    obtain ⟨q, hq, hl2⟩ := List.mem_flatten.mp (h2 l hl)
    exact ⟨okL_ne (v.ok q hq l hl2), okL_tx (v.ok q hq l hl2)⟩
theorem getD_map {α β : Type} {f : α → β} {xs : List α} {j : Nat} {a : α} {b : β} (h : j < xs.length) : (xs.map f).getD j b = f (xs.getD j a) := by
  rw [List.getD_eq_getElem?_getD, List.getD_eq_getElem?_getD, List.getElem?_map, List.getElem?_eq_getElem h]
  rfl
theorem colsD_eq {fl : List (List (List Nat))} {C : Nat} (h : ∀ r ∈ fl, r.length = C) : colsD C (fl.map fun r => r.map nmD) = (colsN C fl).map rwD := by
  unfold colsD colsN
  rw [List.map_map]
  refine List.map_congr_left fun j hj => ?_
  have hj := List.mem_range.mp hj
  show PyData.tuple _ = PyData.tuple _
  rw [List.map_map, List.map_map]
  refine congrArg _ (List.map_congr_left fun r hr => ?_)
  exact getD_map (by rw [h r hr]; exact hj)
theorem ftrue {α : Type} (xs : List α) : xs.filter (fun _ => true) = xs := List.filter_eq_self.mpr fun _ _ => rfl
def hasL (r : List (List Nat)) : Bool := !(r.filter upN).isEmpty
def oneL (r : List (List Nat)) : Bool := decide ((r.filter upN).length ≤ 1)
def mtch (fl : List (List (List Nat))) : Bool := (fl ++ colsL fl).all oneL
def ringD (ls : List (List (List Nat))) : PyData := .tuple (.str "" :: (ls.map mnL).map nmD)
def usedL (ls : List (List (List Nat))) : List (List Nat) := srt ((ls.filter hasL).map mnL)
section
variable {K : PySem.W.Frag} {Pg : Program} {w : World} {m : Sto}
def W_columns_of : WT := fun ss m P => ∃ fl, ss = [.d (flD fl)] ∧ VF fl ∧ P (.d (flD (colsL fl))) m
def t_columns_of (K : PySem.W.Frag) (Pg : Program) (w : World) : TS :=
  (tRet (tZipT K (tVar 0)))
theorem rd_columns_of (ss : List Sl) (m : Sto) (P : PV) (h : W_columns_of ss m P) : Wp K (t_columns_of K Pg w) (rho ["floor"] ss) m { nx := fun _ m' => P (.d .none) m', rt := P } := by
  obtain ⟨fl, rfl, v, p⟩ := h
  obtain ⟨r0, h0, e0, h1, h2, h3⟩ := v.head
  refine wp_ret <| ev_zipT <| ev_var rfl ⟨fl.map fun r => r.map nmD, r0.length, by rw [List.map_map]; rfl, ?_, ?_, h1, by omega, ?_, ?_⟩
  · rw [List.length_map]; exact List.length_pos_iff.mpr v.pos
  · rw [List.length_map]; exact v.most
  · intro ds hds
    obtain ⟨r, hr, rfl⟩ := List.mem_map.mp hds
    rw [List.length_map]; exact h3 r hr
  · rw [colsD_eq h3, ← e0]
    exact p
def W_ring_of : WT := fun ss m P => ∃ ls, ss = [.d (flD ls)] ∧ Good ls ∧ P (.d (ringD ls)) m
def t_ring_of (K : PySem.W.Frag) (Pg : Program) (w : World) : TS :=
  (tRet (tOp (rAddU K) (tTupZ (tCons (tC (.str "")) tNil)) (tCB (rTupleC K) (tCons (tLc (iSeqU K (tVar 0)) (gName 1) tYes (tCB (rMinA K) (tCons (tVar 1) tNil)) [1]) tNil))))
theorem rd_ring_of (ss : List Sl) (m : Sto) (P : PV) (h : W_ring_of ss m P) : Wp K (t_ring_of K Pg w) (rho ["lines", "line"] ss) m { nx := fun _ m' => P (.d .none) m', rt := P } := by
  obtain ⟨ls, rfl, g, p⟩ := h
  have gm := g.most
  refine wp_ret <| ev_op <| ev_tup <| ea_cons <| ev_str <| ea_nil ⟨[_], rfl, by simp, ev_cb <| ea_cons <| ev_lcF (toD := rwD) List.mem_cons_self <| ei_tup <| ev_var rfl ⟨_, rfl, ls, fun _ => true, nmD ∘ mnL, rfl, trivial, by omega, fun r hr => ⟨et_yes ⟨rfl, rfl⟩, fun _ => ev_cb <| ea_cons <| ev_var rfl <| ea_nil <| rc_minM seq_tup (g.ok r hr).pos ⟨rfl, rfl⟩⟩, ea_nil <| rc_tupleL <| ra_tup ?_ ?_⟩⟩
  · rw [ftrue, List.length_map]; simp; omega
  · rw [ftrue, ← List.map_map]
    exact p
def W_row_ring : WT := fun ss m P => ∃ fl, ss = [.d (flD fl)] ∧ VF fl ∧ P (.d (ringD fl)) m
def t_row_ring (K : PySem.W.Frag) (Pg : Program) (w : World) : TS :=
  (tRet (tCall (SpD K W_ring_of) [] E0 (tCons (tVar 0) tNil)))
theorem rd_row_ring (ss : List Sl) (m : Sto) (P : PV) (h : W_row_ring ss m P) : Wp K (t_row_ring K Pg w) (rho ["floor"] ss) m { nx := fun _ m' => P (.d .none) m', rt := P } := by
  obtain ⟨fl, rfl, v, p⟩ := h
  exact wp_ret <| ev_call0 <| ea_cons <| ev_var rfl <| ea_nil ⟨fl, rfl, v.rows, p⟩
def W_column_ring : WT := fun ss m P => ∃ fl, ss = [.d (flD fl)] ∧ VF fl ∧ P (.d (ringD (colsL fl))) m
def t_column_ring (K : PySem.W.Frag) (Pg : Program) (w : World) : TS :=
  (tRet (tCall (SpD K W_ring_of) [] E0 (tCons (tCall (SpD K W_columns_of) [] E0 (tCons (tVar 0) tNil)) tNil)))
theorem rd_column_ring (ss : List Sl) (m : Sto) (P : PV) (h : W_column_ring ss m P) : Wp K (t_column_ring K Pg w) (rho ["floor"] ss) m { nx := fun _ m' => P (.d .none) m', rt := P } := by
  obtain ⟨fl, rfl, v, p⟩ := h
  exact wp_ret <| ev_call0 <| ea_cons <| ev_call0 <| ea_cons <| ev_var rfl <| ea_nil ⟨fl, rfl, v, ea_nil ⟨_, rfl, v.colk, p⟩⟩
def W_count_leaders : WT := fun ss m P => ∃ r : List (List Nat), ss = [.d (rwD r)] ∧ GL r ∧ P (.d (.int ((r.filter upN).length))) m
def t_count_leaders (K : PySem.W.Frag) (Pg : Program) (w : World) : TS :=
  (tRet (tCB (rLenC K) (tCons (tLc (iSeqU K (tVar 0)) (gName 1) (tTr K (tCall (SpD K W_is_leader) [] E0 (tCons (tVar 1) tNil))) (tVar 1) [1]) tNil)))
theorem rd_count_leaders (ss : List Sl) (m : Sto) (P : PV) (h : W_count_leaders ss m P) : Wp K (t_count_leaders K Pg w) (rho ["line", "name"] ss) m { nx := fun _ m' => P (.d .none) m', rt := P } := by
  obtain ⟨r, rfl, g, p⟩ := h
  have gm := g.most
  refine wp_ret <| ev_cb <| ea_cons <| ev_lcF (toD := nmD) List.mem_cons_self <| ei_tup <| ev_var rfl ⟨_, rfl, r, upN, nmD, rfl, trivial, by omega, fun l hl => ⟨?_, fun _ => ev_var rfl ⟨rfl, rfl⟩⟩, ea_nil <| rc_lenL ?_⟩
  · obtain ⟨n1, n2⟩ := g.ok l hl
    cases l with
    | nil => exact absurd rfl n1
    | cons c t => exact et_tr <| ev_call0 <| ea_cons <| ev_var rfl <| ea_nil ⟨c, t, rfl, by have := n2.1; simp at this; omega, _, tr_bool, rfl, rfl⟩
  · rw [List.length_map]
    exact p
def W_used_labels : WT := fun ss m P => ∃ ls, ss = [.d (flD ls)] ∧ Good ls ∧ P (.d (.tuple ((usedL ls).map nmD))) m
def t_used_labels (K : PySem.W.Frag) (Pg : Program) (w : World) : TS :=
  (tRet (tCB (rTupleC K) (tCons (tCB (rSortD K) (tCons (tLc (iSeqU K (tVar 0)) (gName 1) (tTest (tOp (rI0 fun i j => .bl (decide (j < i))) (tCall (SpD K W_count_leaders) [] E0 (tCons (tVar 1) tNil)) (tC (.int 0)))) (tCB (rMinA K) (tCons (tVar 1) tNil)) [1]) tNil)) tNil)))
theorem hasL_eq (r : List (List Nat)) : decide ((0 : Int) < ((r.filter upN).length : Int)) = hasL r := by
  unfold hasL
  cases r.filter upN <;> simp
theorem rd_used_labels (ss : List Sl) (m : Sto) (P : PV) (h : W_used_labels ss m P) : Wp K (t_used_labels K Pg w) (rho ["lines", "line"] ss) m { nx := fun _ m' => P (.d .none) m', rt := P } := by
  obtain ⟨ls, rfl, g, p⟩ := h
  have gm := g.most
  refine wp_ret <| ev_cb <| ea_cons <| ev_cb <| ea_cons <| ev_lcF (toD := rwD) List.mem_cons_self <| ei_tup <| ev_var rfl ⟨_, rfl, ls, hasL, nmD ∘ mnL, rfl, trivial, by omega, fun r hr => ⟨et_test <| ev_op <| ev_call0 <| ea_cons <| ev_var rfl <| ea_nil ⟨r, rfl, g.ok r hr, ev_int <| rl_gt ⟨_, rfl, hasL_eq r, rfl⟩⟩, fun _ => ev_cb <| ea_cons <| ev_var rfl <| ea_nil <| rc_minM seq_tup (g.ok r hr).pos ⟨rfl, rfl⟩⟩, ea_nil ?_⟩
  rw [← List.map_map]
  exact rc_sortN seq_lst <| ea_nil <| rc_tupleL p
def W_used_rows : WT := fun ss m P => ∃ fl, ss = [.d (flD fl)] ∧ VF fl ∧ P (.d (.tuple ((usedL fl).map nmD))) m
def t_used_rows (K : PySem.W.Frag) (Pg : Program) (w : World) : TS :=
  (tRet (tCall (SpD K W_used_labels) [] E0 (tCons (tVar 0) tNil)))
theorem rd_used_rows (ss : List Sl) (m : Sto) (P : PV) (h : W_used_rows ss m P) : Wp K (t_used_rows K Pg w) (rho ["floor"] ss) m { nx := fun _ m' => P (.d .none) m', rt := P } := by
  obtain ⟨fl, rfl, v, p⟩ := h
  exact wp_ret <| ev_call0 <| ea_cons <| ev_var rfl <| ea_nil ⟨fl, rfl, v.rows, p⟩
def W_used_columns : WT := fun ss m P => ∃ fl, ss = [.d (flD fl)] ∧ VF fl ∧ P (.d (.tuple ((usedL (colsL fl)).map nmD))) m
def t_used_columns (K : PySem.W.Frag) (Pg : Program) (w : World) : TS :=
  (tRet (tCall (SpD K W_used_labels) [] E0 (tCons (tCall (SpD K W_columns_of) [] E0 (tCons (tVar 0) tNil)) tNil)))
theorem rd_used_columns (ss : List Sl) (m : Sto) (P : PV) (h : W_used_columns ss m P) : Wp K (t_used_columns K Pg w) (rho ["floor"] ss) m { nx := fun _ m' => P (.d .none) m', rt := P } := by
  obtain ⟨fl, rfl, v, p⟩ := h
  exact wp_ret <| ev_call0 <| ea_cons <| ev_call0 <| ea_cons <| ev_var rfl <| ea_nil ⟨fl, rfl, v, ea_nil ⟨_, rfl, v.colk, p⟩⟩
def W_is_matched : WT := fun ss m P => ∃ fl, ss = [.d (flD fl)] ∧ VF fl ∧ P (.d (.bool (mtch fl))) m
def t_is_matched (K : PySem.W.Frag) (Pg : Program) (w : World) : TS :=
  (tRet (tCB (rAll K) (tCons (tLc (iSeqU K (tOp (rAddU K) (tVar 0) (tCall (SpD K W_columns_of) [] E0 (tCons (tVar 0) tNil)))) (gName 1) tYes (tOp (rI0 fun i j => .bl (decide (i ≤ j))) (tCall (SpD K W_count_leaders) [] E0 (tCons (tVar 1) tNil)) (tC (.int 1))) [1]) tNil)))
theorem oneL_eq (r : List (List Nat)) : decide (((r.filter upN).length : Int) ≤ (1 : Int)) = oneL r := by
  unfold oneL
  by_cases h : (r.filter upN).length ≤ 1
  · rw [decide_eq_true h, decide_eq_true (by omega)]
  · rw [decide_eq_false h, decide_eq_false (by omega)]
theorem VF.lines {fl : List (List (List Nat))} (v : VF fl) : ∀ r ∈ fl ++ colsL fl, GL r := fun r hr => (List.mem_append.mp hr).elim (v.rows.ok r) (v.colk.ok r)
theorem rd_is_matched (ss : List Sl) (m : Sto) (P : PV) (h : W_is_matched ss m P) : Wp K (t_is_matched K Pg w) (rho ["floor", "line"] ss) m { nx := fun _ m' => P (.d .none) m', rt := P } := by
  obtain ⟨fl, rfl, v, p⟩ := h
  have m1 := v.rows.most
  have m2 := v.colk.most
  refine wp_ret <| ev_cb <| ea_cons <| ev_lcF (toD := rwD) List.mem_cons_self <| ei_tup <| ev_op <| ev_var rfl <| ev_call0 <| ea_cons <| ev_var rfl <| ea_nil ⟨fl, rfl, v, ra_tup (by simp; omega) ⟨_, rfl, fl ++ colsL fl, fun _ => true, PyData.bool ∘ oneL, by rw [← List.map_append], trivial, by simp; omega, fun r hr => ⟨et_yes ⟨rfl, rfl⟩, fun _ => ev_op <| ev_call0 <| ea_cons <| ev_var rfl <| ea_nil ⟨r, rfl, v.lines r hr, ev_int <| rl_le ⟨congrArg (fun b => Sl.d (.bool b)) (oneL_eq r), rfl⟩⟩⟩, ea_nil ?_⟩⟩
  rw [ftrue, ← List.map_map]
  refine rc_all ?_
  rw [List.all_map]
  exact p
def W_is_clear : WT := fun ss m P => ∃ fl, ss = [.d (flD fl)] ∧ VF fl ∧ P (.d (.bool (mtch fl || fl.flatten.all upN))) m
def t_is_clear (K : PySem.W.Frag) (Pg : Program) (w : World) : TS :=
  (tRet (tOrV (tCall (SpD K W_is_matched) [] E0 (tCons (tVar 0) tNil)) (tCB (rAll K) (tCons (tLc2 (iSeqU K (tVar 0)) (gName 1) tYes (iSeqU K (tVar 1)) (gName 2) tYes (tCall (SpD K W_is_leader) [] E0 (tCons (tVar 2) tNil)) [1, 2] [2]) tNil))))
theorem rd_is_clear (ss : List Sl) (m : Sto) (P : PV) (h : W_is_clear ss m P) : Wp K (t_is_clear K Pg w) (rho ["floor", "names", "name"] ss) m { nx := fun _ m' => P (.d .none) m', rt := P } := by
  obtain ⟨fl, rfl, v, p⟩ := h
  refine wp_ret <| ev_orV <| ev_call0 <| ea_cons <| ev_var rfl <| ea_nil ⟨fl, rfl, v, _, rfl, ite_b (fun h => by rw [h] at p; exact p) (fun h => ?_)⟩
  rw [h, Bool.false_or] at p
  have hN := v.named
  have hS := v.short
  refine ev_cb <| ea_cons <| ev_lc2 <| ei_tup <| ev_var rfl ⟨_, rfl, fun D hD => ⟨fun i m' => m' = put m D (.lst ((fl.take i).flatten.map (PyData.bool ∘ upN))), rfl, fun _ _ _ => trivial, ?_, ?_⟩⟩
  · rintro i x m' hx rfl
    rw [List.getElem?_map, List.getElem?_map] at hx
    cases hr : fl[i]? with
    | none => rw [hr] at hx; cases hx
    | some r =>
    rw [hr] at hx
    cases hx
    have hmr : r ∈ fl := List.mem_of_getElem? hr
    refine ⟨[1], by simp, gt_name <| et_yes ?_⟩
    rw [if_pos rfl]
    refine ei_tup <| ev_var rfl ⟨_, rfl, fun j m' => m' = put m D (.lst (((fl.take i).flatten ++ r.take j).map (PyData.bool ∘ upN))), by simp, fun _ _ _ => trivial, ?_, ?_⟩
    · rintro j y m' hy rfl
      rw [List.getElem?_map, List.getElem?_map] at hy
      cases hl : r[j]? with
      | none => rw [hl] at hy; cases hy
      | some l =>
      rw [hl] at hy
      cases hy
      obtain ⟨n1, n2⟩ := hN r hmr l (List.mem_of_getElem? hl)
      cases l with
      | nil => exact absurd rfl n1
      | cons c t =>
      have key : ((fl.take i).flatten ++ r.take (j + 1)).map (PyData.bool ∘ upN) = ((fl.take i).flatten ++ r.take j).map (PyData.bool ∘ upN) ++ [.bool (isUp c)] := by
        rw [List.take_add_one, hl]
        simp [upN]
      refine ⟨[2], by simp, gt_name <| et_yes ?_⟩
      rw [if_pos rfl]
      refine ev_call0 <| ea_cons <| ev_var rfl <| ea_nil ⟨c, t, rfl, by have := n2.1; simp at this; omega, _, _, rfl, put_same, ?_, ?_⟩
      · have a1 := flat144 v i
        have a2 := (vf_small v r hmr).1
        rw [List.length_map, List.length_append, List.length_take]
        omega
      · show put (put m D _) D _ = put m D (.lst (((fl.take i).flatten ++ r.take (j + 1)).map (PyData.bool ∘ upN)))
        rw [put_put, key]
    · rintro m' rfl
      show _ = _
      rw [take_flat hr, List.length_map, List.length_map, List.take_of_length_le (Nat.le_refl _)]
  · rintro m' rfl
    refine ⟨_, put_same, ea_nil ?_⟩
    rw [List.length_map, List.length_map, List.take_of_length_le (Nat.le_refl _), del_put hD, ← List.map_map]
    refine rc_all ?_
    rw [List.all_map]
    exact p
end
end Dv

namespace Dv
open PySem L2 PyProof.Rows
/-- a tuple or a list -/
def bx (b : Bool) (ds : List PyData) : PyData := if b = true then .tuple ds else .list ds
abbrev Ln := Bool × List (List Nat)
def lnD (x : Ln) : PyData := bx x.1 (x.2.map nmD)
def tagF (b : Bool) (ls : List (List (List Nat))) : List Ln := ls.map fun r => (b, r)
theorem tagF_snd (b : Bool) (ls : List (List (List Nat))) : (tagF b ls).map Prod.snd = ls := by
  unfold tagF
  rw [List.map_map]
  exact List.map_id _
theorem bx_floor (fl : List (List (List Nat))) : flD fl = bx true ((tagF true fl).map lnD) := by
  unfold tagF
  rw [List.map_map]
  rfl
abbrev clD (fl : List (List (List Nat))) : PyData := .list (fl.map fun r => .list (r.map nmD))
theorem bx_cols (fl : List (List (List Nat))) : clD fl = bx false ((tagF false fl).map lnD) := by
  unfold tagF
  rw [List.map_map]
  rfl
structure GX (xs : List Ln) : Prop where
  most : xs.length ≤ 48
  ok : ∀ x ∈ xs, GL x.2
theorem Good.tag {ls : List (List (List Nat))} (g : Good ls) (b : Bool) : GX (tagF b ls) where
  most := by have := g.most; unfold tagF; rw [List.length_map]; omega
  ok x hx := by
    obtain ⟨r, hr, rfl⟩ := List.mem_map.mp hx
    exact g.ok r hr
section
variable {K : PySem.W.Frag} {Pg : Program} {w : World} {m : Sto}
theorem ei_bx {ρ : Rho} {i : Nat} {b : Bool} {ds : List PyData} {P : List Sl → (Sto → Prop) → Sto → Prop} (h : ρ[i]? = some (some (.d (bx b ds)))) (p : P (ds.map .d) Any m) : EvI K (iSeqU K (tVar i)) ρ m P := by
  cases b with
  | true => exact ei_tup <| ev_var h ⟨ds, rfl, p⟩
  | false => exact ei_lst <| ev_var h ⟨ds, rfl, p⟩
theorem seq_bx {b : Bool} {ds : List PyData} : SeqS K (.d (bx b ds)) m ds := by
  cases b with
  | true => exact seq_tup
  | false => exact seq_lst
theorem srt_at {r : List (List Nat)} (h : r ≠ []) : atI ((srt r).map nmD) 0 = some (nmD (mnL r)) := by
  obtain ⟨t, e⟩ := mnL_head h
  rw [e]
  exact atI_zero
def W_columns : WT := fun ss m P => ∃ fl, ss = [.d (flD fl)] ∧ VF fl ∧ P (.d (clD (colsL fl))) m
def t_columns (K : PySem.W.Frag) (Pg : Program) (w : World) : TS :=
  (tRet (tLc (iRng1 (tCons (tCB (rLenC K) (tCons (tOp (rIx K) (tVar 0) (tC (.int 0))) tNil)) tNil)) (gName 1) tYes (tLc (iSeqU K (tVar 0)) (gName 2) tYes (tOp (rIx K) (tVar 2) (tVar 1)) [2]) [1]))
theorem rd_columns (ss : List Sl) (m : Sto) (P : PV) (h : W_columns ss m P) : Wp K (t_columns K Pg w) (rho ["floor", "column", "cells"] ss) m { nx := fun _ m' => P (.d .none) m', rt := P } := by
  obtain ⟨fl, rfl, v, p⟩ := h
  obtain ⟨r0, h0, e0, h1, h2, h3⟩ := v.head
  have hm := v.most
  refine wp_ret <| ev_lcR List.mem_cons_self <| ea_cons <| ev_cb <| ea_cons <| ev_op <| ev_var rfl <| ev_int <| rx_tup (atI_map (k := 0) rfl h0) <| ea_nil <| rc_lenT <| ea_nil ⟨r0.length, fun j => .list ((fl.map fun r => r.getD j []).map nmD), by rw [List.length_map], by omega, fun j hj => ev_lcF (toD := rwD) List.mem_cons_self <| ei_tup <| ev_var rfl ⟨_, rfl, fl, fun _ => true, nmD ∘ fun r => r.getD j [], rfl, trivial, by omega, fun r hr => ⟨et_yes ⟨rfl, rfl⟩, fun _ => ev_op <| ev_var rfl <| ev_var rfl <| rx_tup (d := nmD (r.getD j [])) ?_ ⟨rfl, rfl⟩⟩, by rw [ftrue, ← List.map_map], rfl⟩, ?_⟩
  · have hjr : j < r.length := by rw [h3 r hr]; exact hj
    exact atI_map rfl (by rw [List.getD_eq_getElem?_getD, List.getElem?_eq_getElem hjr]; rfl)
  · have e : (List.range r0.length).map (fun j => PyData.list ((fl.map fun r => r.getD j []).map nmD)) = (colsL fl).map fun r => .list (r.map nmD) := by
      unfold colsL colsN
      rw [e0, List.map_map]
      rfl
    rw [e]
    exact p
def W_labels : WT := fun ss m P => ∃ (b : Bool) (xs : List Ln), ss = [.d (bx b (xs.map lnD))] ∧ GX xs ∧ P (.d (.list (((xs.map Prod.snd).map mnL).map nmD))) m
def t_labels (K : PySem.W.Frag) (Pg : Program) (w : World) : TS :=
  (tRet (tLc (iSeqU K (tVar 0)) (gName 1) tYes (tOp (rIx K) (tCB (rSortD K) (tCons (tVar 1) tNil)) (tC (.int 0))) [1]))
theorem rd_labels (ss : List Sl) (m : Sto) (P : PV) (h : W_labels ss m P) : Wp K (t_labels K Pg w) (rho ["lines", "line"] ss) m { nx := fun _ m' => P (.d .none) m', rt := P } := by
  obtain ⟨b, xs, rfl, g, p⟩ := h
  have gm := g.most
  refine wp_ret <| ev_lcF (toD := lnD) List.mem_cons_self <| ei_bx rfl ⟨xs, fun _ => true, nmD ∘ mnL ∘ Prod.snd, rfl, trivial, by omega, fun x hx => ⟨et_yes ⟨rfl, rfl⟩, fun _ => ev_op <| ev_cb <| ea_cons <| ev_var rfl <| ea_nil <| rc_sortN seq_bx <| ev_int <| rx_lst (srt_at (g.ok x hx).pos) ⟨rfl, rfl⟩⟩, ?_⟩
  rw [ftrue, ← List.map_map, ← List.map_map]
  exact p
def inL (zs : List (List Nat)) (r : List (List Nat)) : Bool := !(r.filter fun l => decide (l ∈ zs)).isEmpty
def W_used : WT := fun ss m P => ∃ (b : Bool) (xs : List Ln) (zs : List (List Nat)), ss = [.d (bx b (xs.map lnD)), .d (.list (zs.map nmD))] ∧ GX xs ∧ (∀ l ∈ zs, Tx l) ∧ P (.d (.list ((srt (((xs.map Prod.snd).filter (inL zs)).map mnL)).map nmD))) m
def t_used (K : PySem.W.Frag) (Pg : Program) (w : World) : TS :=
  (tRet (tCB (rSortD K) (tCons (tLc (iSeqU K (tVar 0)) (gName 2) (tTest (tOp (rNeU K) (tLc (iSeqU K (tVar 2)) (gName 3) (tTest (tOp (rInU K Pg w) (tVar 3) (tVar 1))) (tVar 3) [3]) (tLst tNil))) (tOp (rIx K) (tCB (rSortD K) (tCons (tVar 2) tNil)) (tC (.int 0))) [2]) tNil)))
theorem rd_used (ss : List Sl) (m : Sto) (P : PV) (h : W_used ss m P) : Wp K (t_used K Pg w) (rho ["lines", "leaders", "line", "name"] ss) m { nx := fun _ m' => P (.d .none) m', rt := P } := by
  obtain ⟨b, xs, zs, rfl, g, hz, p⟩ := h
  have gm := g.most
  refine wp_ret <| ev_cb <| ea_cons <| ev_lcF (toD := lnD) List.mem_cons_self <| ei_bx rfl ⟨xs, fun x => inL zs x.2, nmD ∘ mnL ∘ Prod.snd, rfl, trivial, by omega, fun x hx => ⟨?_, fun _ => ev_op <| ev_cb <| ea_cons <| ev_var rfl <| ea_nil <| rc_sortN seq_bx <| ev_int <| rx_lst (srt_at (g.ok x hx).pos) ⟨rfl, rfl⟩⟩, ea_nil ?_⟩
  · have gx := g.ok x hx
    have gl := gx.most
    refine et_test <| ev_op <| ev_lcF (toD := nmD) List.mem_cons_self <| ei_bx rfl ⟨x.2, fun l => decide (l ∈ zs), nmD, rfl, trivial, by omega, fun l hl => ⟨et_test <| ev_op <| ev_var rfl <| ev_var rfl <| ri_lst (shaped_str (gx.ok l hl).2) (shaped_names hz).2 ⟨_, rfl, anyEq_names _ _, rfl⟩, fun _ => ev_var rfl ⟨rfl, rfl⟩⟩, ev_lst <| ea_nil ⟨[], rfl, by simp, re_ne (shaped_names fun l hl => (gx.ok l (List.mem_filter.mp hl).1).2).2 rfl ⟨_, rfl, ?_, rfl⟩⟩⟩
    rw [eqv_nil, List.isEmpty_map]
    rfl
  · have e : (xs.filter fun x => inL zs x.2).map (nmD ∘ mnL ∘ Prod.snd) = (((xs.map Prod.snd).filter (inL zs)).map mnL).map nmD := by
      rw [List.filter_map, List.map_map, List.map_map]
      rfl
    rw [e]
    exact rc_sortN seq_lst p
def oneI (zs : List (List Nat)) (r : List (List Nat)) : Bool := decide ((r.filter fun l => decide (l ∈ zs)).length ≤ 1)
def W_matched : WT := fun ss m P => ∃ fl, ss = [.d (flD fl)] ∧ VF fl ∧ P (.d (.bool (mtch fl))) m
def t_matched (K : PySem.W.Frag) (Pg : Program) (w : World) : TS :=
  (tSeq (tAsg (tCall (SpD K W_leaders) [] E0 (tCons (tVar 0) tNil)) (gName 1))
    (tSeq (tAsg (tLc (iSeqU K (tOp (rAddU K) (tCB (rListC K) (tCons (tVar 0) tNil)) (tCall (SpD K W_columns) [] E0 (tCons (tVar 0) tNil)))) (gName 3) tYes (tCB (rLenC K) (tCons (tLc (iSeqU K (tVar 3)) (gName 4) (tTest (tOp (rInU K Pg w) (tVar 4) (tVar 1))) (tVar 4) [4]) tNil)) [3]) (gName 2))
    (tRet (tOp (rI0 fun i j => .bl (decide (i < j))) (tCB (rMaxA K) (tCons (tVar 2) tNil)) (tC (.int 2))))))
theorem VF.cells {fl : List (List (List Nat))} (v : VF fl) : ∀ r ∈ fl ++ colsL fl, ∀ l ∈ r, l ∈ fl.flatten := fun r hr l hl => (List.mem_append.mp hr).elim (fun h => List.mem_flatten.mpr ⟨r, h, hl⟩) (fun h => (v.colm h).2 l hl)
theorem filt_up {fl zs r : List (List Nat)} (h : ∀ l, l ∈ zs ↔ (l ∈ fl ∧ upN l = true)) (hr : ∀ l ∈ r, l ∈ fl) : r.filter (fun l => decide (l ∈ zs)) = r.filter upN := List.filter_congr fun l hl => by
  cases hu : upN l with
  | true => exact decide_eq_true ((h l).mpr ⟨hr l hl, hu⟩)
  | false => exact decide_eq_false fun q => by have := ((h l).mp q).2; rw [hu] at this; cases this
theorem rd_matched (ss : List Sl) (m : Sto) (P : PV) (h : W_matched ss m P) : Wp K (t_matched K Pg w) (rho ["floor", "leaders", "counts", "line", "name"] ss) m { nx := fun _ m' => P (.d .none) m', rt := P } := by
  obtain ⟨fl, rfl, v, p⟩ := h
  have hS := v.short
  have hN := v.named
  refine wp_seq <| wp_set <| ev_call0 <| ea_cons <| ev_var rfl <| ea_nil ⟨fl, rfl, hN, hS, fun ys hys _ => ?_⟩
  obtain ⟨zs, hzs, rfl⟩ := perm_map (f := Sx) hys rfl
  rw [← nms_str]
  have hzm : ∀ l, l ∈ zs ↔ (l ∈ fl.flatten ∧ upN l = true) := fun l => by rw [hzs.mem_iff, List.mem_filter]
  have hzT : ∀ l ∈ zs, Tx l := fun l hl => by
    obtain ⟨r, hr, h2⟩ := List.mem_flatten.mp ((hzm l).mp hl).1
    exact (hN r hr l h2).2
  have m1 := v.rows.most
  have m2 := v.colk.most
  have hg : ∀ x ∈ tagF true fl ++ tagF false (colsL fl), GL x.2 ∧ ∀ l ∈ x.2, l ∈ fl.flatten := fun x hx => by
    rcases List.mem_append.mp hx with h | h
    · obtain ⟨r, hr, rfl⟩ := List.mem_map.mp h
      exact ⟨v.rows.ok r hr, v.cells r (List.mem_append.mpr (.inl hr))⟩
    · obtain ⟨r, hr, rfl⟩ := List.mem_map.mp h
      exact ⟨v.colk.ok r hr, v.cells r (List.mem_append.mpr (.inr hr))⟩
  have l1 : (tagF true fl ++ tagF false (colsL fl)).length = fl.length + (colsL fl).length := by
    rw [List.length_append]; unfold tagF; rw [List.length_map, List.length_map]
  have er : fl.map rwD = (tagF true fl).map lnD := by
    unfold tagF
    rw [List.map_map]
    rfl
  have ec : (colsL fl).map (fun r => PyData.list (r.map nmD)) = (tagF false (colsL fl)).map lnD := by
    unfold tagF
    rw [List.map_map]
    rfl
  refine wp_seq <| wp_set <| ev_lcF (toD := lnD) List.mem_cons_self <| ei_lst <| ev_op <| ev_cb <| ea_cons <| ev_var rfl <| ea_nil <| rc_list seq_tup <| ev_call0 <| ea_cons <| ev_var rfl <| ea_nil ⟨fl, rfl, v, ra_lst (by rw [List.length_map, List.length_map]; omega) ⟨_, rfl, tagF true fl ++ tagF false (colsL fl), fun _ => true, fun x => .int ((x.2.filter upN).length), by rw [er, ec, ← List.map_append], trivial, by omega, fun x hx => ⟨et_yes ⟨rfl, rfl⟩, fun _ => ?_⟩, ?_⟩⟩
  · have gx := (hg x hx).1
    have gl := gx.most
    refine ev_cb <| ea_cons <| ev_lcF (toD := nmD) List.mem_cons_self <| ei_bx rfl ⟨x.2, fun l => decide (l ∈ zs), nmD, rfl, trivial, by omega, fun l hl => ⟨et_test <| ev_op <| ev_var rfl <| ev_var rfl <| ri_lst (shaped_str (gx.ok l hl).2) (shaped_names hzT).2 ⟨_, rfl, anyEq_names _ _, rfl⟩, fun _ => ev_var rfl ⟨rfl, rfl⟩⟩, ea_nil <| rc_lenL ⟨?_, rfl⟩⟩
    rw [List.length_map, filt_up hzm (hg x hx).2]
  have e : ((tagF true fl ++ tagF false (colsL fl)).filter fun _ => true).map (fun x => PyData.int ((x.2.filter upN).length)) = ((fl ++ colsL fl).map fun r => ((r.filter upN).length : Int)).map .int := by
    rw [ftrue, List.map_append, List.map_append, List.map_append]
    unfold tagF
    rw [List.map_map, List.map_map, List.map_map, List.map_map]
    rfl
  rw [e]
  refine wp_ret <| ev_op <| ev_cb <| ea_cons <| ev_var rfl <| ea_nil <| rc_maxL (fun q => ?_) fun k hk hle => ev_int <| rl_lt ?_
  · have : fl ++ colsL fl = [] := List.map_eq_nil_iff.mp q
    exact v.pos (List.append_eq_nil_iff.mp this).1
  have ek : decide (k < 2) = mtch fl := by
    unfold mtch
    obtain ⟨r, hr, rfl⟩ := List.mem_map.mp hk
    cases hm : (fl ++ colsL fl).all oneL with
    | true =>
      have := of_decide_eq_true (List.all_eq_true.mp hm r hr)
      exact decide_eq_true (by omega)
    | false =>
      refine decide_eq_false fun q => ?_
      have : (fl ++ colsL fl).all oneL = true := List.all_eq_true.mpr fun y hy => by
        have := hle _ (List.mem_map_of_mem hy)
        exact decide_eq_true (by omega)
      rw [hm] at this
      cases this
  rw [ek]
  exact p
end
end Dv

namespace Dv
open PySem L2 PyProof.Rows
theorem nx_em {k : Nat} : Nx k 2000 (.str "") := by
  have : (PyData.str "") = nmD [] := congrArg PyData.str (by decide +kernel)
  rw [this]
  exact nx_str ⟨by simp, by simp⟩
theorem nx_nms {r : List (List Nat)} (h : ∀ l ∈ r, Tx l) (hl : r.length ≤ 200) : NxA 0 (200 * 2001) (r.map nmD) := (nxa_map (k := 0) fun l q => nx_str (h l q)).mono (Nat.le_refl _) (Nat.mul_le_mul_right _ hl)
theorem nx_ring {r : List (List Nat)} (h : ∀ l ∈ r, Tx l) (hl : r.length ≤ 200) : Nx 1 500000 (.tuple (.str "" :: r.map nmD)) := (nx_tup (nxa_cons nx_em (nx_nms h hl))).mono (Nat.le_refl _) (by decide)
theorem nx_used {r : List (List Nat)} (h : ∀ l ∈ r, Tx l) (hl : r.length ≤ 200) : Nx 1 500000 (.tuple (r.map nmD)) := (nx_tup (nx_nms h hl)).mono (Nat.le_refl _) (by decide)
theorem Good.mins {ls : List (List (List Nat))} (g : Good ls) : ∀ l ∈ ls.map mnL, Tx l := fun l hl => by
  obtain ⟨r, hr, rfl⟩ := List.mem_map.mp hl
  exact ((g.ok r hr).ok _ (mnL_mem (g.ok r hr).pos)).2
theorem Good.used {ls : List (List (List Nat))} (g : Good ls) : (∀ l ∈ usedL ls, Tx l) ∧ (usedL ls).length ≤ 200 := by
  have gm := g.most
  refine ⟨fun l hl => ?_, ?_⟩
  · have := (srt_perm _).mem_iff.mp hl
    obtain ⟨r, hr, rfl⟩ := List.mem_map.mp this
    have hr := (List.mem_filter.mp hr).1
    exact ((g.ok r hr).ok _ (mnL_mem (g.ok r hr).pos)).2
  · unfold usedL
    rw [(srt_perm _).length_eq, List.length_map]
    have := List.length_filter_le hasL ls
    omega
theorem all_len {α : Type} {p : α → Bool} (xs : List α) : decide ((xs.filter p).length = xs.length) = xs.all p := by
  induction xs with
  | nil => rfl
  | cons a t ih =>
    have := List.length_filter_le p t
    cases h : p a with
    | true =>
      rw [List.filter_cons_of_pos h, List.all_cons, h, Bool.true_and, ← ih]
      simp
    | false =>
      rw [List.filter_cons_of_neg (by rw [h]; exact Bool.false_ne_true), List.all_cons, h, Bool.false_and]
      exact decide_eq_false (by simp; omega)
theorem flat_mul {α : Type} {c : Nat} : ∀ {fl : List (List α)}, (∀ r ∈ fl, r.length = c) → fl.flatten.length = fl.length * c
  | [], _ => by simp
  | r :: fl, h => by
    have ih := flat_mul fun q hq => h q (List.mem_cons_of_mem r hq)
    have hr := h r List.mem_cons_self
    rw [List.flatten_cons, List.length_append, ih, hr, List.length_cons, Nat.succ_mul, Nat.add_comm]
section
variable {K : PySem.W.Frag} {Pg : Program} {w : World} {m : Sto}
def t_law8 (K : PySem.W.Frag) (Pg : Program) (w : World) : TS :=
  (tSeq (tFor (iRng1 (tCons (tCB (rMaxC) (tCons (tC (.int 1)) (tCons (tCB (rMinC) (tCons (tC (.int 4)) (tCons (tCB (rLenC K) (tCons (tVar 0) tNil)) tNil))) tNil))) tNil)) (gName 1)
    (tSeq (tAsg (tCall (SpD K W_source) [] E0 (tCons (tVar 0) (tCons (tVar 1) tNil))) (gName 2))
    (tSeq (tAsg (tCall (SpD K W_twinned) [] E0 (tCons (tVar 2) (tCons (tCall (SpD K W_floor) [] E0 (tCons (tVar 2) (tCons (tC (.int 144)) tNil))) tNil))) (gName 3))
    (tSeq (tAsg (tCall (SpD K W_leaders) [] E0 (tCons (tVar 3) tNil)) (gName 4))
    (tSeq (tAsg (tCB (rTupleC K) (tCons (tOp (rAddU K) (tLst (tCons (tC (.str "")) tNil)) (tCall (SpD K W_labels) [] E0 (tCons (tVar 3) tNil))) tNil)) (gName 5))
    (tSeq (tAsg (tCB (rTupleC K) (tCons (tOp (rAddU K) (tLst (tCons (tC (.str "")) tNil)) (tCall (SpD K W_labels) [] E0 (tCons (tCall (SpD K W_columns) [] E0 (tCons (tVar 3) tNil)) tNil))) tNil)) (gName 6))
    (tSeq (tAsg (tCall (SpD K W_matched) [] E0 (tCons (tVar 3) tNil)) (gName 7))
    (tSeq (tAsg (tOrV (tVar 7) (tOp (rEqU K) (tCB (rLenC K) (tCons (tVar 4) tNil)) (tOp (rMulU) (tCB (rLenC K) (tCons (tVar 3) tNil)) (tCB (rLenC K) (tCons (tOp (rIx K) (tVar 3) (tC (.int 0))) tNil))))) (gName 8))
    (tFor (iRng1 (tCons (tC (.int 2)) tNil)) (gName 9)
    (tSeq (tIfS (tOr (tTest (tOp (rNeU K) (tCB (rRepr K) (tCons (tCall (SpD K W_row_ring) [] E0 (tCons (tVar 3) tNil)) tNil)) (tCB (rRepr K) (tCons (tVar 5) tNil)))) (tTest (tOp (rNeU K) (tCB (rRepr K) (tCons (tCall (SpD K W_column_ring) [] E0 (tCons (tVar 3) tNil)) tNil)) (tCB (rRepr K) (tCons (tVar 6) tNil)))))
    (tRet (tC (.bl false)))
    tNext)
    (tSeq (tIfS (tTest (tOp (rNeU K) (tCB (rRepr K) (tCons (tCall (SpD K W_used_rows) [] E0 (tCons (tVar 3) tNil)) tNil)) (tCB (rRepr K) (tCons (tCB (rTupleC K) (tCons (tCall (SpD K W_used) [] E0 (tCons (tVar 3) (tCons (tVar 4) tNil))) tNil)) tNil))))
    (tRet (tC (.bl false)))
    tNext)
    (tSeq (tIfS (tTest (tOp (rNeU K) (tCB (rRepr K) (tCons (tCall (SpD K W_used_columns) [] E0 (tCons (tVar 3) tNil)) tNil)) (tCB (rRepr K) (tCons (tCB (rTupleC K) (tCons (tCall (SpD K W_used) [] E0 (tCons (tCall (SpD K W_columns) [] E0 (tCons (tVar 3) tNil)) (tCons (tVar 4) tNil))) tNil)) tNil))))
    (tRet (tC (.bl false)))
    tNext)
    (tIfS (tOr (tTest (tOp (rNeU K) (tCB (rRepr K) (tCons (tCall (SpD K W_is_matched) [] E0 (tCons (tVar 3) tNil)) tNil)) (tCB (rRepr K) (tCons (tVar 7) tNil)))) (tTest (tOp (rNeU K) (tCB (rRepr K) (tCons (tCall (SpD K W_is_clear) [] E0 (tCons (tVar 3) tNil)) tNil)) (tCB (rRepr K) (tCons (tVar 8) tNil)))))
    (tRet (tC (.bl false)))
    tNext)))))))))))))
    (tRet (tOp (rEqU K) (tC (.str "")) (tC (.str "")))))
theorem rd_law8 (ss : List Sl) (m : Sto) (P : PV) (h : WLaw ss m P) : Wp K (t_law8 K Pg w) (rho ["script", "index", "source", "floor", "leaders", "rows", "columns", "matched", "clear", "turn"] ss) m { nx := fun _ m' => P (.d .none) m', rt := P } := by
  obtain ⟨ns, rfl, hl, _, p⟩ := h
  obtain ⟨t, ht, et⟩ := turns_ok (k := 4) hl (by decide)
  refine wp_seq <| wp_rng <| ea_cons <| ev_cb <| ea_cons <| ev_int <| ea_cons <| ev_cb <| ea_cons <| ev_int <| ea_cons <| ev_cb <| ea_cons <| ev_var rfl <| ea_nil <| rc_lenF <| ea_nil <| rc_min2 <| ea_nil <| rc_max2 <| ea_nil ⟨t, fun i ρ' m' => ∃ s1 s2 s3 s4 s5 s6 s7 s8 s9, ρ' = [some (.f (ns.map .int)), s1, s2, s3, s4, s5, s6, s7, s8, s9], ?_, by omega, ⟨_, _, _, _, _, _, _, _, _, rfl⟩, ?_, ?_⟩
  · rw [List.length_map]
    exact congrArg (fun z => [Sl.d (.int z)]) et
  · rintro i ρ' m' hi ⟨s1, s2, s3, s4, s5, s6, s7, s8, s9, rfl⟩
    refine wp_seq <| wp_set <| ev_call0 <| ea_cons <| ev_var rfl <| ea_cons <| ev_var rfl <| ea_nil ⟨ns, i, rfl, hl, by omega, fun a u ha hu => ?_⟩
    refine wp_seq <| wp_set <| ev_call0 <| ea_cons <| ev_var rfl <| ea_cons <| ev_call0 <| ea_cons <| ev_var rfl <| ea_cons <| ev_int <| ea_nil ⟨a, 144, u, 0, rfl, by decide, by decide, put_same, hu, by decide, fun R C fl0 u1 hG _ hu1 => ?_⟩
    rw [put_put]
    refine ea_nil ⟨a, R, C, fl0, u1, _, rfl, hG, put_same, hu1, by omega, fun fl u2 v _ => ?_⟩
    rw [put_put]
    generalize put m' a (.lst u2) = m1
    have hS := v.short
    have hN := v.named
    obtain ⟨r0, h0, e0, h1, h2, h3⟩ := v.head
    have hm := v.most
    have gr := v.rows
    have gc := v.colk
    have hf := flat144' v
    have gr1 := gr.most
    have gc1 := gc.most
    refine wp_seq <| wp_set <| ev_call0 <| ea_cons <| ev_var rfl <| ea_nil ⟨fl, rfl, hN, hS, fun ys hys _ => ?_⟩
    obtain ⟨zs, hzs, rfl⟩ := perm_map (f := Sx) hys rfl
    rw [← nms_str]
    have hzm : ∀ l, l ∈ zs ↔ (l ∈ fl.flatten ∧ upN l = true) := fun l => by rw [hzs.mem_iff, List.mem_filter]
    have hzT : ∀ l ∈ zs, Tx l := fun l hl => by
      obtain ⟨r, hr, h2⟩ := List.mem_flatten.mp ((hzm l).mp hl).1
      exact (hN r hr l h2).2
    have hzl : zs.length = (fl.flatten.filter upN).length := hzs.length_eq
    have uR : srt ((fl.filter (inL zs)).map mnL) = usedL fl := by
      unfold usedL
      refine congrArg (fun x => srt (List.map mnL x)) (List.filter_congr fun r hr => ?_)
      unfold inL hasL
      rw [filt_up hzm (v.cells r (List.mem_append.mpr (.inl hr)))]
    have uC : srt (((colsL fl).filter (inL zs)).map mnL) = usedL (colsL fl) := by
      unfold usedL
      refine congrArg (fun x => srt (List.map mnL x)) (List.filter_congr fun r hr => ?_)
      unfold inL hasL
      rw [filt_up hzm (v.cells r (List.mem_append.mpr (.inr hr)))]
    have ringE : ∀ ls : List (List (List Nat)), PyData.tuple ([.str ""] ++ ((ls.map mnL).map nmD)) = ringD ls := fun ls => rfl
    refine wp_seq <| wp_set <| ev_cb <| ea_cons <| ev_op <| ev_lst <| ea_cons <| ev_str <| ea_nil ⟨[_], rfl, by simp, ev_call0 <| ea_cons <| ev_var rfl <| ea_nil ⟨true, tagF true fl, by rw [bx_floor], gr.tag _, ?_⟩⟩
    rw [tagF_snd]
    refine ra_lst (by simp; omega) <| ea_nil <| rc_tupleL ?_
    rw [ringE]
    refine wp_seq <| wp_set <| ev_cb <| ea_cons <| ev_op <| ev_lst <| ea_cons <| ev_str <| ea_nil ⟨[_], rfl, by simp, ev_call0 <| ea_cons <| ev_call0 <| ea_cons <| ev_var rfl <| ea_nil ⟨fl, rfl, v, ea_nil ⟨false, tagF false (colsL fl), by rw [bx_cols], gc.tag _, ?_⟩⟩⟩
    rw [tagF_snd]
    refine ra_lst (by simp; omega) <| ea_nil <| rc_tupleL ?_
    rw [ringE]
    refine wp_seq <| wp_set <| ev_call0 <| ea_cons <| ev_var rfl <| ea_nil ⟨fl, rfl, v, ?_⟩
    have clear : Ev K (tOrV (tVar 7) (tOp (rEqU K) (tCB (rLenC K) (tCons (tVar 4) tNil)) (tOp (rMulU) (tCB (rLenC K) (tCons (tVar 3) tNil)) (tCB (rLenC K) (tCons (tOp (rIx K) (tVar 3) (tC (.int 0))) tNil))))) [some (.f (ns.map .int)), some (.d (.int (i : Nat))), some (.m a), some (.d (flD fl)), some (.d (.list (zs.map nmD))), some (.d (ringD fl)), some (.d (ringD (colsL fl))), some (.d (.bool (mtch fl))), s8, s9] m1 fun s m2 => s = .d (.bool (mtch fl || fl.flatten.all upN)) ∧ m2 = m1 := by
      refine ev_orV <| ev_var rfl ⟨_, rfl, ite_b (fun h => ⟨by rw [h]; rfl, rfl⟩) (fun h => ?_)⟩
      refine ev_op <| ev_cb <| ea_cons <| ev_var rfl <| ea_nil <| rc_lenL <| ev_op <| ev_cb <| ea_cons <| ev_var rfl <| ea_nil <| rc_lenT <| ev_cb <| ea_cons <| ev_op <| ev_var rfl <| ev_int <| rx_tup (atI_map (k := 0) rfl h0) <| ea_nil <| rc_lenT <| rm_int (wide_mul (a := 30) (b := 30) (by rw [List.length_map]; omega) (by rw [List.length_map]; omega) (by decide) (by decide) (by decide)) <| re_eq (shaped_int _) (shaped_int _) ⟨?_, rfl⟩
      rw [h, Bool.false_or, ← all_len, flat_mul h3]
      refine congrArg (fun b => Sl.d (.bool b)) ?_
      show decide _ = _
      rw [List.length_map, List.length_map, List.length_map, hzl]
      by_cases q : (fl.flatten.filter upN).length = fl.length * r0.length
      · rw [decide_eq_true q]
        exact decide_eq_true (by rw [q]; simp)
      · rw [decide_eq_false q]
        refine decide_eq_false fun e => q ?_
        have : (((fl.flatten.filter upN).length : Nat) : Int) = ((fl.length * r0.length : Nat) : Int) := by simpa using e
        exact Int.ofNat_inj.mp this
    refine wp_seq <| wp_set <| clear.mono fun s m2 ⟨es, em⟩ => ?_
    subst es em
    have nR := nx_ring (gr.mins) (by rw [List.length_map]; omega)
    have nC := nx_ring (gc.mins) (by rw [List.length_map]; omega)
    have nUR := nx_used gr.used.1 gr.used.2
    have nUC := nx_used gc.used.1 gc.used.2
    have nB : ∀ b, Nx 1 500000 (.bool b) := fun b => nx_bool.mono (Nat.le_refl _) (by decide)
    refine wp_rng <| ea_cons <| ev_int <| ea_nil ⟨2, fun _ ρ' m' => ∃ s9, ρ' = [some (.f (ns.map .int)), some (.d (.int (i : Nat))), some (.m a), some (.d (flD fl)), some (.d (.list (zs.map nmD))), some (.d (ringD fl)), some (.d (ringD (colsL fl))), some (.d (.bool (mtch fl))), some (.d (.bool (mtch fl || fl.flatten.all upN))), s9] ∧ m' = m2, rfl, by decide, ⟨_, rfl, rfl⟩, ?_, ?_⟩
    · rintro j ρ' m' hj ⟨s9, rfl, rfl⟩
      refine wp_seq <| wp_if <| et_or <| et_test <| ev_op <| ev_cb <| ea_cons <| ev_call0 <| ea_cons <| ev_var rfl <| ea_nil ⟨fl, rfl, v, ea_nil <| rc_repr nR.sh nR.hd (nR.shaped (by decide)) (nR.len (by decide)) <| ev_cb <| ea_cons <| ev_var rfl <| ea_nil <| rc_repr nR.sh nR.hd (nR.shaped (by decide)) (nR.len (by decide)) <| re_neS ⟨_, rfl, ite_b (fun q => by simp at q) (fun _ => ?_)⟩⟩
      refine et_test <| ev_op <| ev_cb <| ea_cons <| ev_call0 <| ea_cons <| ev_var rfl <| ea_nil ⟨fl, rfl, v, ea_nil <| rc_repr nC.sh nC.hd (nC.shaped (by decide)) (nC.len (by decide)) <| ev_cb <| ea_cons <| ev_var rfl <| ea_nil <| rc_repr nC.sh nC.hd (nC.shaped (by decide)) (nC.len (by decide)) <| re_neS ⟨_, rfl, ite_b (fun q => by simp at q) (fun _ => wp_next ?_)⟩⟩
      refine wp_seq <| wp_if <| et_test <| ev_op <| ev_cb <| ea_cons <| ev_call0 <| ea_cons <| ev_var rfl <| ea_nil ⟨fl, rfl, v, ea_nil <| rc_repr nUR.sh nUR.hd (nUR.shaped (by decide)) (nUR.len (by decide)) <| ev_cb <| ea_cons <| ev_cb <| ea_cons <| ev_call0 <| ea_cons <| ev_var rfl <| ea_cons <| ev_var rfl <| ea_nil ⟨true, tagF true fl, zs, by rw [bx_floor], gr.tag _, hzT, ?_⟩⟩
      rw [tagF_snd, uR]
      refine ea_nil <| rc_tupleL <| ea_nil <| rc_repr nUR.sh nUR.hd (nUR.shaped (by decide)) (nUR.len (by decide)) <| re_neS ⟨_, rfl, ite_b (fun q => by simp at q) (fun _ => wp_next ?_)⟩
      refine wp_seq <| wp_if <| et_test <| ev_op <| ev_cb <| ea_cons <| ev_call0 <| ea_cons <| ev_var rfl <| ea_nil ⟨fl, rfl, v, ea_nil <| rc_repr nUC.sh nUC.hd (nUC.shaped (by decide)) (nUC.len (by decide)) <| ev_cb <| ea_cons <| ev_cb <| ea_cons <| ev_call0 <| ea_cons <| ev_call0 <| ea_cons <| ev_var rfl <| ea_nil ⟨fl, rfl, v, ea_cons <| ev_var rfl <| ea_nil ⟨false, tagF false (colsL fl), zs, by rw [bx_cols], gc.tag _, hzT, ?_⟩⟩⟩
      rw [tagF_snd, uC]
      refine ea_nil <| rc_tupleL <| ea_nil <| rc_repr nUC.sh nUC.hd (nUC.shaped (by decide)) (nUC.len (by decide)) <| re_neS ⟨_, rfl, ite_b (fun q => by simp at q) (fun _ => wp_next ?_)⟩
      refine wp_if <| et_or <| et_test <| ev_op <| ev_cb <| ea_cons <| ev_call0 <| ea_cons <| ev_var rfl <| ea_nil ⟨fl, rfl, v, ea_nil <| rc_repr (nB _).sh (nB _).hd ((nB _).shaped (by decide)) ((nB _).len (by decide)) <| ev_cb <| ea_cons <| ev_var rfl <| ea_nil <| rc_repr (nB _).sh (nB _).hd ((nB _).shaped (by decide)) ((nB _).len (by decide)) <| re_neS ⟨_, rfl, ite_b (fun q => by simp at q) (fun _ => ?_)⟩⟩
      exact et_test <| ev_op <| ev_cb <| ea_cons <| ev_call0 <| ea_cons <| ev_var rfl <| ea_nil ⟨fl, rfl, v, ea_nil <| rc_repr (nB _).sh (nB _).hd ((nB _).shaped (by decide)) ((nB _).len (by decide)) <| ev_cb <| ea_cons <| ev_var rfl <| ea_nil <| rc_repr (nB _).sh (nB _).hd ((nB _).shaped (by decide)) ((nB _).len (by decide)) <| re_neS ⟨_, rfl, ite_b (fun q => by simp at q) (fun _ => wp_next ⟨_, rfl, rfl⟩)⟩⟩
    · rintro ρ' m' ⟨s9, rfl, rfl⟩
      exact ⟨_, _, _, _, _, _, _, _, _, rfl⟩
  · rintro ρ' m' ⟨s1, s2, s3, s4, s5, s6, s7, s8, s9, rfl⟩
    refine wp_ret <| ev_op <| ev_str <| ev_str <| re_eqS ?_
    exact p _
end
end Dv

namespace Dv
open PySem L2 PyProof.Rows
/-! ### an error without fields -/
abbrev XvN := Rho → Addr → Sto → Prop
section
variable {K : PySem.W.Frag}
def ThenN (K : PySem.W.Frag) (m : Sto) (F : Reg) (H : Hp) (X : XvN) (W : WX) : Prop := ∀ ρ' C m' σ' F' H', X ρ' C m' → Step m F H m' F' H' → StoOk K m' F' H' → EnvOk K F' H' ρ' σ' → W (.ref C) none σ' H'
def ThenM (K : PySem.W.Frag) (m : Sto) (F : Reg) (H : Hp) (X : Addr → Sto → Prop) (E : XK) : Prop := ∀ C m' F' H', X C m' → Step m F H m' F' H' → StoOk K m' F' H' → E (.ref C) none H'
theorem ThenN.step {m m1 : Sto} {F F1 : Reg} {H H1 : Hp} {X : XvN} {W : WX} (t : ThenN K m F H X W) (s : Step m F H m1 F1 H1) : ThenN K m1 F1 H1 X W := fun ρ' C m' σ' F' H' x s2 S2 E2 => t ρ' C m' σ' F' H' x (s.trans s2) S2 E2
def WpN (K : PySem.W.Frag) (tb : WX → TS) (ρ : Rho) (m : Sto) (k : Ko) (X : XvN) : Prop :=
  ∀ (D : Ends) (W : WX) (σ : L2.St) (F : Reg) (H : Hp), EnvOk K F H ρ σ → StoOk K m F H →
    (∀ ρ' m' σ' F' H', k.nx ρ' m' → Step m F H m' F' H' → StoOk K m' F' H' → EnvOk K F' H' ρ' σ' → D.nx σ' H') →
    (∀ s m' v F' H', k.rt s m' → Step m F H m' F' H' → StoOk K m' F' H' → SlOk K F' H' s v → D.rt v H') →
    (∀ ρ' m' σ' F' H', k.bk ρ' m' → Step m F H m' F' H' → StoOk K m' F' H' → EnvOk K F' H' ρ' σ' → D.bk σ' H') →
    (∀ ρ' m' σ' F' H', k.ct ρ' m' → Step m F H m' F' H' → StoOk K m' F' H' → EnvOk K F' H' ρ' σ' → D.ct σ' H') → ThenN K m F H X W → tb W D σ H
def EvN (K : PySem.W.Frag) (te : WX → TE) (ρ : Rho) (m : Sto) (P : PV) (X : XvN) : Prop :=
  ∀ (W : WX) (σ : L2.St) (F : Reg) (H : Hp) (Q : VK), EnvOk K F H ρ σ → StoOk K m F H → Then K m F H P Q → ThenN K m F H X W → te W σ H Q
def EvAN (K : PySem.W.Frag) (ta : WX → TA) (ρ : Rho) (m : Sto) (P : List Sl → Sto → Prop) (X : XvN) : Prop :=
  ∀ (W : WX) (σ : L2.St) (F : Reg) (H : Hp) (Q : List V → Hp → Prop), EnvOk K F H ρ σ → StoOk K m F H → (∀ ss m' vs F' H', P ss m' → Step m F H m' F' H' → StoOk K m' F' H' → SlsOk K F' H' ss vs → Q vs H') → ThenN K m F H X W → ta W σ H Q
variable {ρ : Rho} {m : Sto} {k : Ko} {X : XvN} {P : PV} {ts : TS} {t1 t2 tb : WX → TS} {te : WX → TE} {tt : TT} {ta : TA}
theorem wpn_of (h : Wp K ts ρ m k) : WpN K (fun _ => ts) ρ m k X := fun D W σ F H E S q1 q2 q3 q4 _ => h D σ F H E S q1 q2 q3 q4
theorem wpn_at {D : Ends} {W : WX} {m0 m1 : Sto} {F0 F1 : Reg} {H0 H1 : Hp} {σ : L2.St} {ρ1 : Rho} (s1 : Step m0 F0 H0 m1 F1 H1) (E : EnvOk K F1 H1 ρ1 σ) (S1 : StoOk K m1 F1 H1) (w : WpN K tb ρ1 m1 k X)
    (q1 : ∀ ρ' m' σ' F' H', k.nx ρ' m' → Step m0 F0 H0 m' F' H' → StoOk K m' F' H' → EnvOk K F' H' ρ' σ' → D.nx σ' H')
    (q2 : ∀ s m' v F' H', k.rt s m' → Step m0 F0 H0 m' F' H' → StoOk K m' F' H' → SlOk K F' H' s v → D.rt v H')
    (q3 : ∀ ρ' m' σ' F' H', k.bk ρ' m' → Step m0 F0 H0 m' F' H' → StoOk K m' F' H' → EnvOk K F' H' ρ' σ' → D.bk σ' H')
    (q4 : ∀ ρ' m' σ' F' H', k.ct ρ' m' → Step m0 F0 H0 m' F' H' → StoOk K m' F' H' → EnvOk K F' H' ρ' σ' → D.ct σ' H') (q5 : ThenN K m0 F0 H0 X W) : tb W D σ H1 :=
  w D W σ F1 H1 E S1 (fun a b c d f e s2 S2 => q1 a b c d f e (s1.trans s2) S2) (fun a b c d f e s2 S2 => q2 a b c d f e (s1.trans s2) S2) (fun a b c d f e s2 S2 => q3 a b c d f e (s1.trans s2) S2) (fun a b c d f e s2 S2 => q4 a b c d f e (s1.trans s2) S2) (q5.step s1)
theorem wpn_seq (h : WpN K t1 ρ m { k with nx := fun ρ' m' => WpN K t2 ρ' m' k X } X) : WpN K (fun W => tSeq (t1 W) (t2 W)) ρ m k X := fun D W σ F H E S q1 q2 q3 q4 q5 =>
  h { D with nx := t2 W D } W σ F H E S (fun ρ' m' σ' F' H' w s1 S1 E1 => wpn_at (D := D) s1 E1 S1 w q1 q2 q3 q4 q5) q2 q3 q4 q5
theorem wpn_if (h : EvT K tt ρ m fun b m1 => if b = true then WpN K t1 ρ m1 k X else WpN K t2 ρ m1 k X) : WpN K (fun W => tIfS tt (t1 W) (t2 W)) ρ m k X := fun D W σ F H E S q1 q2 q3 q4 q5 =>
  h σ F H _ E S fun b m1 F1 H1 w s1 S1 => by
    cases b with
    | true => exact wpn_at (D := D) s1 (envOk_step s1 E) S1 w q1 q2 q3 q4 q5
    | false => exact wpn_at (D := D) s1 (envOk_step s1 E) S1 w q1 q2 q3 q4 q5
theorem evn_of {t : TE} (h : Ev K t ρ m P) : EvN K (fun _ => t) ρ m P X := fun W σ F H Q E S q _ => h σ F H Q E S q
theorem wpn_set {i : Nat} (h : EvN K te ρ m (fun s m1 => k.nx (ρ.set i (some s)) m1) X) : WpN K (fun W => tAsg (te W) (gName i)) ρ m k X := fun D W σ F H E S q1 _ _ _ q5 =>
  h W σ F H _ E S (fun s m1 v F1 H1 p s1 S1 o1 => q1 _ m1 _ F1 H1 p s1 S1 (envOk_set (envOk_step s1 E) i o1)) q5
theorem wpn_drop (h : EvN K te ρ m (fun _ m1 => k.nx ρ m1) X) : WpN K (fun W => tDrop (te W)) ρ m k X := fun D W σ F H E S q1 _ _ _ q5 =>
  h W σ F H _ E S (fun s m1 v F1 H1 p s1 S1 o1 => q1 _ m1 _ F1 H1 p s1 S1 (envOk_step s1 E)) q5
theorem wpn_ret (h : EvN K te ρ m k.rt X) : WpN K (fun W => tRet (te W)) ρ m k X := fun D W σ F H E S _ q2 _ _ q5 => h W σ F H _ E S q2 q5
theorem wpn_raise {C : Addr} (x : X ρ C m) : WpN K (fun W _ σ H => W (.ref C) none σ H) ρ m k X := fun D W σ F H E S _ _ _ _ q5 => q5 ρ C m σ F H x Step.refl S E
theorem ean_nil {P : List Sl → Sto → Prop} (p : P [] m) : EvAN K (fun _ => tNil) ρ m P X := fun W σ F H Q E S q _ => q [] m [] F H p Step.refl S .nil
theorem ean_cons {tr : WX → TA} {P : List Sl → Sto → Prop} (h : EvN K te ρ m (fun s m1 => EvAN K tr ρ m1 (fun ss m2 => P (s :: ss) m2) X) X) : EvAN K (fun W => tCons (te W) (tr W)) ρ m P X := fun W σ F H Q E S q q5 =>
  h W σ F H _ E S (fun s m1 x F1 H1 h1 s1 S1 o1 => h1 W σ F1 H1 _ (envOk_step s1 E) S1 (fun ss m2 vs F2 H2 p s2 S2 o2 => q _ m2 _ F2 H2 p (s1.trans s2) S2 (.cons (slOk_step s2 o1) o2)) (q5.step s1)) q5
theorem evn_tup {tr : WX → TA} (h : EvAN K tr ρ m (fun ss m1 => ∃ ds : List PyData, ss = ds.map Sl.d ∧ ds.length ≤ 100000 ∧ P (.d (.tuple ds)) m1) X) : EvN K (fun W => tTupZ (tr W)) ρ m P X := fun W σ F H Q E S q q5 =>
  h W σ F H _ E S (fun ss m1 vs F1 H1 ⟨ds, e, l, p⟩ s1 S1 o1 => by
    subst e
    have z := slsOk_im o1
    refine ⟨by rw [← imAll_len z, sizeLine_eq]; omega, fun a ob ha hd => ?_⟩
    exact q _ m1 _ _ _ p (s1.trans (step_new S1 ha)) (sto_new S1 ha) ⟨a, vs, rfl, .inl ⟨.inl rfl, ob, upd_same, hd⟩, imAll_fix (step_new S1 ha).fix ds vs z⟩) q5
/-! ### the promise of a def that may raise it -/
abbrev WTN := List Sl → Sto → PV → (Addr → Sto → Prop) → Prop
def SpN (K : PySem.W.Frag) (W : WTN) : Sp := fun vs H Q E => ∃ (ss : List Sl) (m : Sto) (F : Reg) (P : PV) (Y : Addr → Sto → Prop), SlsOk K F H ss vs ∧ StoOk K m F H ∧ W ss m P Y ∧ Then K m F H P Q ∧ ThenM K m F H Y E
theorem spN_len {W : WTN} {n : Nat} (h : ∀ ss m P Y, W ss m P Y → ss.length = n) {vs : List V} {H : Hp} {Q : VK} {E : XK} (w : SpN K W vs H Q E) : vs.length = n := by
  obtain ⟨ss, m, F, P, Y, o, _, w, _⟩ := w
  rw [← paired_len o]
  exact h ss m P Y w
theorem bodyN {W : WTN} {N : List Str} {tb : WX → TS} (h : ∀ ss m P Y, W ss m P Y → WpN K tb (rho N ss) m { nx := fun _ m' => P (.d .none) m', rt := P } (fun _ => Y)) {vs : List V} {H : Hp} {Q : VK} {E : XK} (w : SpN K W vs H Q E) :
    tb (fun cls d _ H' => E cls d H') { nx := fun _ H' => Q .non H', rt := Q } (L2.start N vs) H := by
  obtain ⟨ss, m, F, P, Y, o, S, w, q, qx⟩ := w
  exact h ss m P Y w _ _ _ F _ (envOk_start o) S (fun ρ' m' σ' F' H' p s1 S1 _ => q _ m' _ F' H' p s1 S1 rfl) q (fun _ _ _ _ _ p => p.elim) (fun _ _ _ _ _ p => p.elim) fun ρ' C m' σ' F' H' y s1 S1 _ => qx C m' F' H' y s1 S1
theorem evn_call {W0 : WTN} (h : EvA K ta ρ m fun ss m1 => W0 ss m1 P (fun C m' => X ρ C m')) : EvN K (fun W => tCallS (SpN K W0) (WE W) ta) ρ m P X := fun W σ F H Q E S q q5 =>
  h σ F H _ E S fun ss m1 vs F1 H1 w s1 S1 o1 => ⟨ss, m1, F1, P, _, o1, S1, w, fun s m' v F' H' p s2 S2 o2 => q s m' v F' H' p (s1.trans s2) S2 o2, fun C m' F' H' y s2 S2 => q5 ρ C m' σ F' H' y (s1.trans s2) S2 (envOk_step (s1.trans s2) E)⟩
/-! ### try -/
theorem wp_tryN {tb : WX → TS} {ts : Addr → Value → Option Addr → TS} {c : Value} {i : Nat} {XS : XvN} (h : WpN K tb ρ m k XS)
    (hx : ∀ ρ' C m', XS ρ' C m' → PySem.W.exmOne K (.ref C) c = some true ∧ ∀ a, Wp K (ts a (.ref C) none) (ρ'.set i (some (.v (.ref a)))) m' { nx := fun ρ2 m2 => k.nx (ρ2.set i none) m2, rt := k.rt, bk := fun ρ2 m2 => k.bk (ρ2.set i none) m2, ct := fun ρ2 m2 => k.ct (ρ2.set i none) m2 }) :
    Wp K (tTry K c i ts tb) ρ m k := fun D σ F H E S q1 q2 q3 q4 =>
  h D _ σ F H E S q1 q2 q3 q4 fun ρ' C m' σ' F' H' x s1 S1 E1 => by
    obtain ⟨e, g⟩ := hx ρ' C m' x
    refine ⟨true, e, fun _ a ha => ?_, fun z => nomatch z⟩
    have un : ∀ {F H} {ρ2 : Rho} {σ2 : L2.St}, EnvOk K F H ρ2 σ2 → EnvOk K F H (ρ2.set i none) (σ2.set i none) := fun E => paired_set (F := SlO K _ _) (x := none) (y := none) (fun _ e => nomatch e) i E
    refine g a _ (σ'.set i (some (.ref a))) F' H' (envOk_set (s := .v (.ref a)) E1 i rfl) S1 (fun ρ2 m2 σ2 F2 H2 p s2 S2 E2 => q1 _ m2 _ F2 H2 p (s1.trans s2) S2 (un E2)) (fun s m2 v F2 H2 p s2 S2 o2 => q2 s m2 v F2 H2 p (s1.trans s2) S2 o2)
      (fun ρ2 m2 σ2 F2 H2 p s2 S2 E2 => q3 _ m2 _ F2 H2 p (s1.trans s2) S2 (un E2)) (fun ρ2 m2 σ2 F2 H2 p s2 S2 E2 => q4 _ m2 _ F2 H2 p (s1.trans s2) S2 (un E2))
def tTryO (K : PySem.W.Frag) (c : Value) (ts : Addr → Value → Option Addr → TS) (tb : WX → TS) : TS := fun D σ H => tb (wOnly K c ts (fun _ _ _ _ => False) D) D σ H
theorem wp_tryO {tb : WX → TS} {ts : Addr → Value → Option Addr → TS} {c : Value} {XS : XvN} (h : WpN K tb ρ m k XS)
    (hx : ∀ ρ' C m', XS ρ' C m' → PySem.W.exmOne K (.ref C) c = some true ∧ ∀ a, Wp K (ts a (.ref C) none) ρ' m' k) :
    Wp K (tTryO K c ts tb) ρ m k := fun D σ F H E S q1 q2 q3 q4 =>
  h D _ σ F H E S q1 q2 q3 q4 fun ρ' C m' σ' F' H' x s1 S1 E1 => by
    obtain ⟨e, g⟩ := hx ρ' C m' x
    refine ⟨true, e, fun _ a ha => ?_, fun z => nomatch z⟩
    exact g a _ σ' F' H' E1 S1 (fun ρ2 m2 σ2 F2 H2 p s2 S2 E2 => q1 _ m2 _ F2 H2 p (s1.trans s2) S2 E2) (fun s m2 v F2 H2 p s2 S2 o2 => q2 s m2 v F2 H2 p (s1.trans s2) S2 o2)
      (fun ρ2 m2 σ2 F2 H2 p s2 S2 E2 => q3 _ m2 _ F2 H2 p (s1.trans s2) S2 E2) (fun ρ2 m2 σ2 F2 H2 p s2 S2 E2 => q4 _ m2 _ F2 H2 p (s1.trans s2) S2 E2)
end
theorem ps_tryO {X : Cx} {x : Str} {c : Value} {body suite : List Stmt} {b₀ : Stmt} {np pos pos' : Pos} {tb : WX → TS} {ts : Addr → Value → Option Addr → TS} (hs : X.stack = X.env :: X.outer) (hf : X.env.frame = some X.env.locals) (hc : Names X x c)
    (hb : ∀ (W : WX) (pn : List (Addr × Obj)) (xe : Value → Shared → Prop), Takes (X.tr pn xe) W → PassesOwn (model X.prog X.w) X.A X.env xe → PSs (X.tr pn xe) body (tb W))
    (hsu : ∀ (a : Addr) (oe : Obj) (cls : Value) (d : Option Addr) (pn : List (Addr × Obj)), Zc cls d oe → (∃ vs, oe.data = .fields vs) → PSs (X.suite a ((a, oe) :: pn)) (b₀ :: suite) (ts a cls d)) :
    PS X (.Try body [.ExceptHandler (some (.Name x np)) none (b₀ :: suite) pos'] [] [] pos) (tTryO X.K c ts tb) := ps_try_only hs hf hc takes0 hb hsu
/-! ### defs -/
section
variable {Pg : Program} {w : World} {K : PySem.W.Frag} {mg : Str → Option Value} {base : Heap}
structure DfnN (Pg : Program) (w : World) (K : PySem.W.Frag) (mg : Str → Option Value) (base : Heap) (k : Nat) (name : Str) (ps : List Str) (W : WTN) : Prop where
  ex : ∃ f fd, mg name = some (.ref f) ∧ PySem.W.keepIn K (.ref f) = true ∧ Binds K fd ps [] ∧ DF Pg w K mg base (CX Pg w) k f fd ps (SpN K W)
theorem dfnN_mk {k : Nat} {name : Str} {st : Stmt} {N ps : List Str} {W : WTN} {tb : WX → TS} (A : FunAt K mg name st ps) (S : FnScope N ps (defScope st)) (len : ∀ ss m P Y, W ss m P Y → ss.length = ps.length)
    (der : ∀ (f : Addr) (cdv : Value) (A : Around) (outer : List Env) (s : Shared) (H : Hp) (E : XK), (A.deeper (envOfC name (defScope st) s.heap.objs.size f cdv)).guards = some [] → Room k (A.deeper (envOfC name (defScope st) s.heap.objs.size f cdv)) →
      PSs (cxOf (CX Pg w) Pg w K mg base N name (defScope st) f cdv A outer s H E) (defBody st) (tb fun cls d _ H' => E cls d H'))
    (rd : ∀ ss m P Y, W ss m P Y → WpN K tb (rho N ss) m { nx := fun _ m' => P (.d .none) m', rt := P } (fun _ => Y)) : DfnN Pg w K mg base (k + 1) name ps W := by
  obtain ⟨f, fd, hm, hF, hb⟩ := A.ex
  refine ⟨f, fd, hm, hF.kp, hb, ?_⟩
  obtain ⟨oc, od, kV, doc, pm, an, cdv, ct, osl, rfl, lk, hcd⟩ := hF.ex
  exact df_of lk hcd S (fun vs H Q E h => spN_len len h) fun A outer s H vs Q E hg hr h => ⟨_, der f cdv A outer s H E hg hr, bodyN rd h⟩
end
section
variable {X : Cx} {W : WX}
theorem pe_fnN {j k : Nat} {x : Str} {ps : List Str} {W0 : WTN} {p pos : Pos} {e : Expr} {es : List Expr} {t : TA} (D : DfnN X.prog X.w X.K X.mg X.base j x ps W0) (tk : Takes X W) (hgd : X.A.guards = some []) (hr : Room k X.A) (h : j ≤ k) (hg : Gl X x) (ha : PA X (e :: es) t)
    (hdb : (x == ("__debug__" : Str)) = false := by decide) (he : starEach (e :: es) X.env = (false, eval e X.env) :: starEach es X.env := by rfl) (hpl : (backTo pos (starEach es X.env)).any (·.1) = false := by rfl) :
    PE X (.Call (.Name x p) (e :: es) [] pos) (tCallS (SpN X.K W0) (WE W) t) := by
  obtain ⟨f, fd, hm, hk, hb, F⟩ := D.ex
  constructor
  intro pins s σ H Q I h2
  refine wpAny_Call_Name_kw (ld_glob I hg hm ?_ hdb)
  refine PySem.W.callWith_K (h₀ := X.base) I.ok.mod.kin hk (thn (ha.run pos pins s σ H _ I h2) ?_) he hpl
  rintro us s1 ⟨vs, H1, I1, r, q⟩
  exact ⟨I1.kIn, run_dfS F hgd (hr.mono h) hb (passAt tk σ) I1 r q⟩
/-- what a class of errors without fields is -/
structure ErrN (K : PySem.W.Frag) (mg : Str → Option Value) (name : Str) (C : Addr) : Prop where
  q : PySem.W.excIn K C [.type "ValueError", .type "Exception", .type "BaseException", .type "object"] "ValueError.__new__" = true
  mgC : mg name = some (.ref C)
  kC : PySem.W.keepIn K (.ref C) = true
  eb : PySem.W.subIn K (.ref C) (.type "BaseException") = some true
  ty : PySem.W.typeIn K (.ref C) = some (.type "type")
  exm : PySem.W.exmOne K (.ref C) (.ref C) = some true
theorem pmk_own0 {C : Addr} {x : Str} {p pos : Pos} (R : ErrN X.K X.mg x C) (hg : Gl X x) (hdb : (x == ("__debug__" : Str)) = false := by decide) :
    PMk X (.Call (.Name x p) [] [] pos) (fun σ H Q => Q (.ref C) none H) := by
  intro pins s σ H Q I h
  refine wpAny_Call_Name_kw (ld_glob I hg R.mgC ?_ hdb)
  refine PySem.W.callWith_K0 I.kIn R.kC ?_
  show wpAny _ _ (call (.ref C) []) _ _ _
  obtain ⟨bm, N, nm, qn, bs, hdct, sn, sub, ab, col, dd, k0, k1, k2, k3, k5, mN, hC, hN, hni, T⟩ := exc_obj I.kIn R.q
  refine wpAny_call_exc_subT PySem.F.excBase_ValueError T hC hN hni (fun h' e hm => ?_) (Nat.zero_le _)
  exact mk_of I hm (raises_own R.eb R.ty) h (I.hok.gone hm.new)
theorem ps_raiseN {C : Addr} {x : Str} {p pos pos2 : Pos} (R : ErrN X.K X.mg x C) (hc : X.calm = true) (tk : Takes X W) (hg : Gl X x) (hdb : (x == ("__debug__" : Str)) = false := by decide) :
    PS X (.Raise (some (.Call (.Name x p) [] [] pos)) none pos2) (fun _ σ H => W (.ref C) none σ H) := ps_raise hc tk (pmk_own0 R hg hdb)
end
/-! ### isinstance of it -/
theorem inst_ofN {X : Cx} {a D : Addr} {oe : Obj} {pn pins : List (Addr × Obj)} {σ : L2.St} {H : Hp} {s : Shared} (I : Inv (X.suite a ((a, oe) :: pn)) pins σ H s) (hz : Zc (.ref D) none oe) (hf : ∃ vs, oe.data = .fields vs) : PySem.W.InstAt s.heap a oe D none := by
  obtain ⟨hget, _⟩ := I.pin (a, oe) (List.mem_append.mpr (.inl List.mem_cons_self))
  obtain ⟨vs, hv⟩ := hf
  obtain ⟨oc, od, oda, osl⟩ := oe
  obtain ⟨h1, h2⟩ := hz
  dsimp only at h1 h2 hv
  subst h1 h2 hv
  exact ⟨hget, rfl, rfl, trivial⟩
def rIsN (K : PySem.W.Frag) (D a : Addr) (cls : Value) (d : Option Addr) : List V → Hp → VK → Prop := fun xs H Q => ∃ (c : V) (cv : Value) (b : Bool), cls = .ref D ∧ d = none ∧ xs = [.ref a, c] ∧ (∀ u, L2.RelV c u → u = cv) ∧ PySem.W.kitOne K (.ref D) cv = some b ∧ Q (.bl b) H
theorem call_isN {X : Cx} {a D : Addr} {oe : Obj} {pn : List (Addr × Obj)} {cls : Value} {d : Option Addr} (C : ErrI X.K D) (hz : Zc cls d oe) (hf : ∃ vs, oe.data = .fields vs) : CallR (X.suite a ((a, oe) :: pn)) (.builtin "isinstance") (rIsN X.K D a cls d) := by
  rintro pins s σ H xs us Q I r ⟨c, cv, b, rfl, rfl, rfl, hc, hk, q⟩
  cases r with
  | cons r1 r =>
    cases r with
    | cons r2 r =>
      cases r
      cases r1
      rw [hc _ r2]
      exact PySem.W.kia_one (PySem.W.handS_kitx_exc C.xc.hg C.xc.hk C.xc.hs C.xc.hd C.xc.ha C.xc.hn C.xc.ht C.xc.hm) I.kIn (inst_ofN I hz hf) hk (fun e => by cases e) (fun tk => ⟨.bl b, H, I.tok _, rfl, q⟩)
def rIsNT (K : PySem.W.Frag) (D a : Addr) (cls : Value) (d : Option Addr) : List V → Hp → VK → Prop := fun xs H Q => ∃ (tp : Addr) (cs : List Addr) (b : Bool), cls = .ref D ∧ d = none ∧ xs = [.ref a, .ref tp] ∧ SqT K H tp (cs.map V.ref) ∧ PySem.W.kitAny K (.ref D) (cs.map Value.ref) = some b ∧ Q (.bl b) H
theorem call_isNT {X : Cx} {a D : Addr} {oe : Obj} {pn : List (Addr × Obj)} {cls : Value} {d : Option Addr} (C : ErrI X.K D) (hz : Zc cls d oe) (hf : ∃ vs, oe.data = .fields vs) : CallR (X.suite a ((a, oe) :: pn)) (.builtin "isinstance") (rIsNT X.K D a cls d) := by
  rintro pins s σ H xs us Q I r ⟨tp, cs, b, rfl, rfl, rfl, hs, hk, q⟩
  cases r with
  | cons r1 r =>
    cases r with
    | cons r2 r =>
      cases r
      cases r1
      cases r2
      obtain ⟨its, rv, ht, hz2⟩ := I.tuple hs
      obtain ⟨o, ho, hc, n, hdt⟩ := ht
      have e := vals_refs rv
      subst e
      obtain ⟨oc, odct, odata, osl⟩ := o
      cases hc
      cases hdt
      exact PySem.W.kia_tup (PySem.W.handS_kitx_exc C.xc.hg C.xc.hk C.xc.hs C.xc.hd C.xc.ha C.xc.hn C.xc.ht C.xc.hm) I.kIn (inst_ofN I hz hf) ho hk (fun e => by cases e) (fun tk => ⟨.bl b, H, I.tok _, rfl, q⟩)
section
variable {K : PySem.W.Frag} {m : Sto} {P : PV}
theorem rc_isN {a D c : Addr} {b : Bool} (hk : PySem.W.kitOne K (.ref D) (.ref c) = some b) (p : P (.d (.bool b)) m) : RC K (rIsN K D a (.ref D) none) [.v (.ref a), .v (.ref c)] m P := fun xs F H Q o S q => by
  obtain ⟨x, y, e, o1, o2⟩ := sls2 o
  cases (show x = .ref a from o1)
  cases (show y = .ref c from o2)
  exact ⟨.ref c, .ref c, b, rfl, rfl, e, fun u hu => hu, hk, q _ m _ F H p Step.refl S rfl⟩
theorem ev_clsN {ρ : Rho} {tr : TA} {te : TE} {cs : List Addr} (h : EvA K tr ρ m fun ss m1 => ss = cs.map (fun c => Sl.v (.ref c)) ∧ cs.length ≤ 100 ∧ m1 = m) {a D : Addr} {b : Bool} (he : Ev K te ρ m fun s m1 => s = .v (.ref a) ∧ m1 = m) (hk : PySem.W.kitAny K (.ref D) (cs.map Value.ref) = some b) (p : P (.d (.bool b)) m) :
    Ev K (tCB (rIsNT K D a (.ref D) none) (tCons te (tCons (tTupZ tr) tNil))) ρ m P := fun σ F H Q E S q =>
  he σ F H _ E S fun s m1 x F1 H1 ⟨e, em⟩ s1 S1 o1 => by
    subst e em
    cases (show x = .ref a from o1)
    refine h σ F1 H1 _ (envOk_step s1 E) S1 fun ss m2 vs F2 H2 ⟨e, hl, em⟩ s2 S2 o2 => ?_
    subst em
    have hvs : vs = cs.map V.ref := sls_refs (e ▸ o2)
    subst hvs
    refine ⟨by rw [List.length_map, sizeLine_eq]; omega, fun tp ob ht hdct => ?_⟩
    have st : Step m2 F2 H2 m2 (add F2 tp) (upd H2 tp (.frz ob (.tup (cs.map V.ref)))) := step_new S2 ht
    have so := sto_new (o := .frz ob (.tup (cs.map V.ref))) S2 ht
    exact ⟨tp, cs, b, rfl, rfl, rfl, ZT.sq ⟨ob, upd_same, hdct⟩, hk, q _ m2 _ _ _ p ((s1.trans s2).trans st) so rfl⟩
end
end Dv

namespace Dv
open PySem L2 PyProof.Rows
open PySem.Calls
open PySem.W (EachIs AllAlike Sortable dataLe dataKind SortsAt sortingHeap)
/-! ### sorted(zip(a, b)) of two tuples of texts -/
section
variable {prog : Program} {w : World} {A : Around} {E : Value → Shared → Prop} {s : Shared}
theorem sorted_colP {v : Value} {Q : Value → Shared → Prop} (Ok : List Value → Shared → Prop) (hcol : ∀ (Q' : List Value → Shared → Prop) (E' : Value → Shared → Prop), (∀ vs s1, Ok vs s1 → Q' vs s1) → wpAny (model prog w) A.in1 (collect v) Q' E' s)
    (hQ : ∀ vs s1, Ok vs s1 → vs.length ≤ sizeLine ∧ ∃ bs : List (V × PyData), EachIs (fun v b => L2.RelV b.1 v) vs bs ∧ EachIs (fun v b => ∃ as, Reads s1.heap v b.2 as) vs bs ∧ AllAlike (bs.map Prod.snd) ∧ Sortable (bs.map Prod.snd) ∧ (∀ b, b ∈ bs → A.units + 2 + b.2.depth < cLine) ∧
      ∀ (out : List Value) (h' : Heap), (∀ b o, s1.heap.get? b = some o → h'.get? b = some o) → out.length = bs.length → EachIs (fun v b => L2.RelV b.1 v) out (bs.mergeSort (dataLe false Prod.snd)) → (∃ c, h'.get? s1.heap.objs.size = some (seqObj "list" out.toArray c)) → Q (.ref s1.heap.objs.size) { s1 with heap := h' }) :
    wpAny (model prog w) A (call (.builtin "sorted") [v]) Q E s := by
  refine call_function_entry_kw kind_sorted plain_sorted entry_sorted (args_sorted1 _) ?_
  unfold Builtin.«sorted»
  refine wpAny_bind (m := checkCount "sorted" 1 1 _) (wpAny_pure ?_)
  refine wpAny_bind (hcol _ _ fun vs s1 ok => ?_)
  obtain ⟨hL, bs, e, er, hal, hk, hu, hQ⟩ := hQ vs s1 ok
  refine wpAny_bind (wpAny_newList ?_ hL)
  have hD : (s1.heap.push (seqObj "list" vs.toArray 0)).get? s1.heap.objs.size = some (seqObj "list" vs.toArray 0) := Heap.get?_push_size _ rfl
  have er' : EachIs (fun v b => ∃ as, Reads (sortingHeap (s1.heap.push (seqObj "list" vs.toArray 0)) s1.heap.objs.size vs) v b.2 as) vs bs := er.mono fun _ _ ⟨as, r⟩ => ⟨as, PyProof.Rows.Reads.keeps (fun _ _ q => sortingHeap_new q) r⟩
  have S : SortsAt prog w A.in1.in1 { s1 with heap := sortingHeap (s1.heap.push (seqObj "list" vs.toArray 0)) s1.heap.objs.size vs } (dataKind (sortingHeap (s1.heap.push (seqObj "list" vs.toArray 0)) s1.heap.objs.size vs) (bs.map Prod.snd)) vs :=
    SortsAt.data (s := { s1 with heap := sortingHeap (s1.heap.push (seqObj "list" vs.toArray 0)) s1.heap.objs.size vs }) (PySem.W.each_map (R := fun v d => ∃ as, Reads (sortingHeap (s1.heap.push (seqObj "list" vs.toArray 0)) s1.heap.objs.size vs) v d as) Prod.snd er') hal hk (PySem.W.bound_map hu)
  refine wpAny_bind (wpAny_holding (wpAny_call_entry_kw slot_list_sort ⟨_, hD, rfl⟩ entry_list_sort ?_ (args_list_sort _)))
  show wpAny (model prog w) A.in1.in1 (Builtin.«list.sort» ⟨[.ref s1.heap.objs.size], []⟩) _ _ _
  refine PySem.W.list_sort_vals (s := { s1 with heap := s1.heap.push (seqObj "list" vs.toArray 0) }) hD S hL ⟨_, rfl, ?_⟩
  refine wpAny_pure ⟨_, rfl, ?_⟩
  have hlen : vs.length = bs.length := e.length
  refine hQ _ _ (fun b o q => ?_) (by rw [PySem.W.sortVals_length false rfl]; exact hlen) (PySem.W.sortVals_data false e er' hal) (sortedHeap_at hD)
  have hlt := Heap.lt_size q
  rw [sortedHeap_old (Nat.ne_of_lt hlt) (by rw [size_push']; exact Nat.lt_succ_of_lt hlt)]
  exact Heap.get?_push_of_some _ q
end
abbrev Pr := Str × Str
def prS (q : Pr) : PyData := .tuple [.str q.1, .str q.2]
def cellV (q : Pr) : List V := [.str q.1, .str q.2]
def srtP (ps : List Pr) : List Pr := ps.mergeSort (dataLe false prS)
def tSortZ (K : PySem.W.Frag) (ta : TA) : TE := fun σ H Q => ta σ H fun xs H1 => ∃ (p1 p2 : Addr) (us ws : List Str), xs = [.ref p1, .ref p2] ∧ SqT K H1 p1 (us.map V.str) ∧ SqT K H1 p2 (ws.map V.str) ∧ us.length = ws.length ∧ 0 < us.length ∧ us.length ≤ 1000 ∧
  ∀ (H2 : Hp) (p : Addr) (bs : List (Addr × Pr)), (∀ b o, H1 b = some o → H2 b = some o) → (∀ b, H1 b = none → H2 b ≠ none → b ∈ bs.map Prod.fst) → (∀ t, t ∈ bs → H1 t.1 = none ∧ ZT H2 t.1 (cellV t.2)) → bs.map Prod.snd = srtP (us.zip ws) → H2 p = none → Q (.ref p) (upd H2 p (.lst (bs.map fun t => V.ref t.1)))
theorem prs_alike (ps : List Pr) : AllAlike (ps.map prS) := fun d hd e he => by
  obtain ⟨a, _, rfl⟩ := List.mem_map.mp hd
  obtain ⟨b, _, rfl⟩ := List.mem_map.mp he
  simp [prS, PySem.W.alike, PySem.W.alikeAll]
theorem prs_sortable (ps : List Pr) : Sortable (ps.map prS) := .inl fun d hd => by
  obtain ⟨a, _, rfl⟩ := List.mem_map.mp hd
  exact ⟨_, _, rfl⟩
theorem prs_depth (q : Pr) : (prS q).depth = 1 := by
  simp [prS, PyData.depth, PyData.depthAll]
theorem pe_sortZ {X : Cx} {e1 e2 : Expr} {ta : TA} {p p2 p4 pos : Pos} (hc : X.calm = true) (hu : X.A.units + 30 < cLine) (hg : Gl X "sorted") (hm : X.mg "sorted" = none) (hg2 : Gl X "zip") (hm2 : X.mg "zip" = none) (ha : PA X [e1, e2] ta)
    (hs1 : starEach [.Call (.Name "zip" p2) [e1, e2] [] p4] X.env = (false, eval (.Call (.Name "zip" p2) [e1, e2] [] p4) X.env) :: starEach [] X.env := by rfl)
    (hs2 : starEach [e1, e2] X.env = (false, eval e1 X.env) :: starEach [e2] X.env := by rfl) (hpl : (backTo p4 (starEach [e2] X.env)).any (·.1) = false := by rfl) :
    PE X (.Call (.Name "sorted" p) [.Call (.Name "zip" p2) [e1, e2] [] p4] [] pos) (tSortZ X.K ta) := by
  refine ⟨fun pins s σ H Q I hq => ?_⟩
  refine wpAny_Call_Name_kw (ld_blt I hg hm (show bootBuiltins "sorted" = some (.builtin "sorted") by decide +kernel) ?_)
  refine PyProof.Rows.callWith_builtin1 ?_ hs1 rfl
  rw [hs1]
  show wpAny _ _ (spliced ((false, eval (.Call (.Name "zip" p2) [e1, e2] [] p4) X.env) :: backTo pos (starEach [] X.env))) _ _ s
  refine Calls.spliced_cons ?_
  refine wpAny_Call_Name_kw (ld_blt I hg2 hm2 PyProof.Rows.boot_zip ?_)
  refine PyProof.Rows.callWith_type1 (thn (ha.run p4 pins s σ H _ I hq) fun vs s1 ⟨xs, H1, I1, rv, p1, q2, us, ws, ex, t1, t2, hl, h0, h1000, q⟩ => ?_) hs2 hpl
  subst ex
  cases rv with
  | cons r1 rv =>
  cases rv with
  | cons r2 rv =>
  cases rv
  cases r1
  cases r2
  obtain ⟨its1, v1, pt1, _⟩ := I1.tuple t1
  obtain ⟨its2, v2, pt2, _⟩ := I1.tuple t2
  let l : Nat → Addr := fun k => if k = 0 then p1 else q2
  let row : Nat → Array Value := fun k => if k = 0 then its1.toArray else its2.toArray
  have hrow : ∀ k, k < 2 → s1.heap.IsTuple (l k) (row k) := fun k hk => by
    match k, hk with
    | 0, _ => exact pt1
    | 1, _ => exact pt2
  have n1 : its1.length = us.length := by have := v1.length; rw [List.length_map] at this; omega
  have n2 : its2.length = us.length := by have := v2.length; rw [List.length_map] at this; omega
  have hsz : ∀ k, k < 2 → (row k).size = us.length := fun k hk => by
    match k, hk with
    | 0, _ => simpa [row] using n1
    | 1, _ => simpa [row] using n2
  show wpAny _ _ (call (.type "zip") [.ref p1, .ref q2]) _ _ _
  refine zip_made (R := 2) (l := l) (row := row) (by decide) (by decide) hrow fun z TI TO it h' W hlt hz hO hi hs K => ?_
  refine Calls.spliced_nil ?_
  show wpAny _ _ (call (.builtin "sorted") [.ref z]) _ _ _
  let Ok : List Value → Shared → Prop := fun vs s2 => ∃ (h2 : Heap) (tk : Nat) (Ts : List Addr), s2 = { s1 with heap := h2, toks := tk } ∧ vs = Ts.map Value.ref ∧ Ts.length = us.length ∧ (∀ (j : Nat) (T : Addr), Ts[j]? = some T → h2.get? T = some (tupO (colT row j 2))) ∧ Ts.Nodup ∧ (∀ c o, s1.heap.get? c = some o → h2.get? c = some o) ∧ (∀ T, T ∈ Ts → s1.heap.objs.size ≤ T)
  refine sorted_colP Ok (fun Q' E' hq' => ?_) fun vs s2 ok => ?_
  · refine zip_collect (A := X.A.in1) (s := { s1 with heap := h' }) (I1.ok.hd hc) (by decide) (by rw [sizeLine_eq]; decide) h0 (by rw [sizeLine_eq]; omega) hsz W hlt fun h2 tk Ts b0 b1 bn b2 b3 b4 => hq' _ _ ⟨h2, tk, Ts, rfl, rfl, b0, b1, bn, fun c o e => ?_, fun T hT => Nat.le_of_lt (Nat.lt_of_le_of_lt hs (b3 T hT))⟩
    exact b2 c o (Nat.ne_of_lt (Nat.lt_of_lt_of_le (Heap.lt_size e) hz)) (Nat.ne_of_lt (Nat.lt_of_lt_of_le (Heap.lt_size e) hO)) (fun k hk => Nat.ne_of_lt (Nat.lt_of_lt_of_le (Heap.lt_size e) (hi k hk))) (K c o e)
  obtain ⟨h2, tk, Ts, rfl, rfl, b0, b1, bn, b2, b3⟩ := ok
  have nT : ∀ T, T ∈ Ts → H1 T = none := fun T hT => I1.hok.fresh (b3 T hT)
  let prs := us.zip ws
  have hpl : prs.length = us.length := by simp [prs, hl]
  let H2 : Hp := fun b => if b ∈ Ts then some (.frz (tupO (colT row (Ts.idxOf b) 2)) (.tup (cellV (prs.getD (Ts.idxOf b) ("", ""))))) else H1 b
  have atT : ∀ T, T ∈ Ts → H2 T = some (.frz (tupO (colT row (Ts.idxOf T) 2)) (.tup (cellV (prs.getD (Ts.idxOf T) ("", ""))))) := fun T hT => if_pos hT
  have off : ∀ b, b ∉ Ts → H2 b = H1 b := fun b e => if_neg e
  have hsub : ∀ b o, H1 b = some o → H2 b = some o := fun b o eb => by
    rw [off b (fun z => by rw [nT b z] at eb; cases eb)]
    exact eb
  have idx : ∀ T, T ∈ Ts → Ts[Ts.idxOf T]? = some T ∧ Ts.idxOf T < us.length := fun T hT => by
    have h1 := List.idxOf_lt_length_of_mem hT
    exact ⟨by rw [List.getElem?_eq_getElem h1, List.getElem_idxOf], by rw [← b0]; exact h1⟩
  have idx2 : ∀ (j : Nat) (T : Addr), Ts[j]? = some T → Ts.idxOf T = j := fun j T hj => by
    obtain ⟨i1, i2⟩ := idx T (List.mem_of_getElem? hj)
    have a1 := (List.getElem?_eq_some_iff.mp hj)
    have a2 := (List.getElem?_eq_some_iff.mp i1)
    exact nodup_at bn a2.1 a1.1 (a2.2.trans a1.2.symm)
  have vcol : ∀ j, j < us.length → Vals (cellV (prs.getD j ("", ""))) (colT row j 2).toList := fun j hj => by
    have hw : j < ws.length := by omega
    have e : prs.getD j ("", "") = (us[j], ws[j]) := by
      rw [List.getD_eq_getElem?_getD, List.getElem?_eq_getElem (by rw [hpl]; exact hj)]
      simp [prs]
    have c1 := vals_at v1 (j := j) (by rw [List.length_map]; exact hj)
    have c2 := vals_at v2 (j := j) (by rw [List.length_map]; exact hw)
    have d1 : (us.map V.str).getD j .non = V.str us[j] := by
      rw [List.getD_eq_getElem?_getD, List.getElem?_map, List.getElem?_eq_getElem hj]; rfl
    have d2 : (ws.map V.str).getD j .non = V.str ws[j] := by
      rw [List.getD_eq_getElem?_getD, List.getElem?_map, List.getElem?_eq_getElem hw]; rfl
    rw [d1] at c1
    rw [d2] at c2
    rw [e]
    have g1 : its1.toArray.getD j .none = its1.getD j .none := by
      rw [Array.getD_eq_getD_getElem?, List.getD_eq_getElem?_getD]; simp
    have g2 : its2.toArray.getD j .none = its2.getD j .none := by
      rw [Array.getD_eq_getD_getElem?, List.getD_eq_getElem?_getD]; simp
    have ec : (colT row j 2).toList = [its1.getD j .none, its2.getD j .none] := by
      rw [← g1, ← g2]
      have e2 : List.range 2 = [0, 1] := rfl
      simp [colT, row, e2]
    rw [ec]
    exact .cons c1 (.cons c2 .nil)
  have J : Inv X pins σ H2 { s1 with heap := h2, toks := tk } := by
    refine inv_many I1 b2 hsub (fun b hb hb' => ?_) (fun b o hb ho => ?_) rfl I1.bare
    · by_cases e2 : b ∈ Ts
      · exact Heap.get?_none_of_le (b3 b e2)
      · rw [off b e2] at hb'
        exact absurd hb hb'
    · by_cases e2 : b ∈ Ts
      · rw [atT b e2] at ho
        cases ho
        obtain ⟨i1, i2⟩ := idx b e2
        exact objOk_tup (b1 _ b i1) (by rw [sizeLine_eq]; show (2 : Nat) ≤ _; decide) (vcol _ i2)
      · rw [off b e2, hb] at ho
        cases ho
  have zT : ∀ (j : Nat) (T : Addr) (q : Pr), Ts[j]? = some T → prs[j]? = some q → ZT H2 T (cellV q) := fun j T q hj hq => by
    refine ⟨tupO (colT row j 2), ?_, rfl⟩
    rw [atT T (List.mem_of_getElem? hj), idx2 j T hj, List.getD_eq_getElem?_getD, hq]
    rfl
  let b00 : List (Addr × Pr) := Ts.zip prs
  have hb00 : ∀ t, t ∈ b00 → t.1 ∈ Ts ∧ ZT H2 t.1 (cellV t.2) := fun t ht => by
    obtain ⟨j, hj⟩ := List.mem_iff_getElem?.mp ht
    rw [List.getElem?_zip_eq_some] at hj
    exact ⟨List.mem_of_getElem? hj.1, zT j _ _ hj.1 hj.2⟩
  let f : Addr × Pr → V × PyData := fun t => (V.ref t.1, prS t.2)
  have m1 : b00.map Prod.fst = Ts := List.map_fst_zip (by omega)
  have m2 : b00.map Prod.snd = prs := List.map_snd_zip (by omega)
  have ev : Ts.map Value.ref = b00.map fun t => Value.ref t.1 := by
    rw [← m1, List.map_map]
    rfl
  have eR : ∀ bs : List (Addr × Pr), EachIs (fun v (b : V × PyData) => L2.RelV b.1 v) (bs.map fun t => Value.ref t.1) (bs.map f) := by
    intro bs
    induction bs with
    | nil => exact .nil
    | cons t bs ih => exact .cons rfl ih
  have dR : ∀ bs : List (Addr × Pr), (∀ t, t ∈ bs → ZT H2 t.1 (cellV t.2)) → EachIs (fun v (b : V × PyData) => ∃ as, Reads h2 v b.2 as) (bs.map fun t => Value.ref t.1) (bs.map f) := by
    intro bs
    induction bs with
    | nil => intro _; exact .nil
    | cons t bs ih =>
      intro hb
      refine .cons ?_ (ih fun t ht => hb t (List.mem_cons_of_mem _ ht))
      exact Dp.reads J (prS t.2) (.ref t.1) _ (Dp.tup (hb t List.mem_cons_self).sq (.cons (.str _) (.cons (.str _) .nil))) rfl
  refine ⟨by rw [List.length_map, b0, sizeLine_eq]; omega, b00.map f, ?_, ?_, ?_, ?_, ?_, fun out h3 k3 ho eo hc3 => ?_⟩
  · rw [ev]; exact eR _
  · rw [ev]; exact dR _ fun t ht => (hb00 t ht).2
  · rw [List.map_map]
    have : b00.map (Prod.snd ∘ f) = prs.map prS := by rw [← m2, List.map_map]; rfl
    rw [this]; exact prs_alike _
  · rw [List.map_map]
    have : b00.map (Prod.snd ∘ f) = prs.map prS := by rw [← m2, List.map_map]; rfl
    rw [this]; exact prs_sortable _
  · intro b hb
    obtain ⟨t, _, rfl⟩ := List.mem_map.mp hb
    show X.A.units + 2 + (prS t.2).depth < cLine
    rw [prs_depth]; omega
  obtain ⟨c, hc3⟩ := hc3
  have es : (b00.map f).mergeSort (dataLe false Prod.snd) = (b00.mergeSort (dataLe false fun t => prS t.2)).map f := (PySem.W.sort_maps (r := dataLe false fun t : Addr × Pr => prS t.2) (s := dataLe false Prod.snd) (l := b00) f (fun _ _ _ _ => rfl)).symm
  rw [es] at eo
  have hv := each_vals eo
  rw [List.map_map] at hv
  have hperm := List.mergeSort_perm b00 (dataLe false fun t => prS t.2)
  have hn : h2.get? h2.objs.size = none := Heap.get?_none_of_le (Nat.le_refl _)
  have hH : H2 h2.objs.size = none := J.hok.fresh (Nat.le_refl _)
  refine ⟨.ref h2.objs.size, _, inv_more (s' := { s1 with heap := h3, toks := tk }) J (fun b o q => k3 b o q) hn hH (show ObjOk X.prog X.w _ h3 _ (.lst ((b00.mergeSort (dataLe false fun t => prS t.2)).map fun t => V.ref t.1)) from ⟨?_, out, c, hv, hc3⟩) rfl J.bare, rfl, ?_⟩
  · rw [List.length_map, hperm.length_eq, sizeLine_eq]
    have := congrArg List.length m1
    rw [List.length_map] at this
    omega
  · refine q H2 _ _ hsub (fun b hb hb' => ?_) (fun t ht => ?_) ?_ hH
    · by_cases e2 : b ∈ Ts
      · rw [← m1] at e2
        exact ((hperm.map Prod.fst).mem_iff).mpr e2
      · rw [off b e2] at hb'
        exact absurd hb hb'
    · obtain ⟨a1, a2⟩ := hb00 t (hperm.mem_iff.mp ht)
      exact ⟨nT _ a1, a2⟩
    · unfold srtP
      rw [show us.zip ws = b00.map Prod.snd from m2.symm]
      exact PySem.W.sort_maps (r := dataLe false fun t : Addr × Pr => prS t.2) (s := dataLe false prS) (l := b00) Prod.snd (fun _ _ _ _ => rfl)
section
variable {K : PySem.W.Frag} {ρ : Rho} {m : Sto} {P : PV} {ta : TA}
theorem imAll_texts {F : Reg} {H : Hp} : ∀ {us : List Str} {vs : List V}, ImAll K F H (us.map .str) vs → vs = us.map V.str := fun h => imAll_strs.mp h
theorem ev_sortZ (h : EvA K ta ρ m fun ss m1 => ∃ us ws : List Str, ss = [.d (.tuple (us.map .str)), .d (.tuple (ws.map .str))] ∧ us.length = ws.length ∧ 0 < us.length ∧ us.length ≤ 1000 ∧ P (.d (.list ((srtP (us.zip ws)).map prS))) m1) : Ev K (tSortZ K ta) ρ m P := fun σ F H Q E S q =>
  h σ F H _ E S fun ss m1 xs F1 H1 ⟨us, ws, e, hl, h0, h1, p⟩ s1 S1 o1 => by
    subst e
    obtain ⟨x, y, rfl, o2, o3⟩ := sls2 o1
    obtain ⟨a, vs, rfl, sq1, i1⟩ := im_tup o2
    obtain ⟨b, vs2, rfl, sq2, i2⟩ := im_tup o3
    have := imAll_strs.mp i1
    subst this
    have := imAll_strs.mp i2
    subst this
    refine ⟨a, b, us, ws, rfl, sq1, sq2, hl, h0, h1, fun H2 pp bs hsub honly hb hs hp => ?_⟩
    have st : Step m1 F1 H1 m1 (fun b => b ∈ bs.map Prod.fst ∨ F1 b) H2 := ⟨fun b o hb' n => ⟨hsub b o hb', .inr n⟩, fun b o hb' n k => ⟨hsub b o hb', fun z => z.elim (fun z => by
      obtain ⟨t, ht, rfl⟩ := List.mem_map.mp z
      rw [(hb t ht).1] at hb'; cases hb') n, k⟩⟩
    have so : StoOk K m1 (fun b => b ∈ bs.map Prod.fst ∨ F1 b) H2 := by
      refine ⟨fun b u e => ⟨muOk_fix st.fix (fun o hb' => hsub b o hb') (S1.mu b u e).1, fun z => z.elim (fun z => ?_) (S1.mu b u e).2⟩, fun b z => ?_⟩
      · obtain ⟨o, ho⟩ := muOk_some (S1.mu b u e).1
        obtain ⟨t, ht, rfl⟩ := List.mem_map.mp z
        rw [(hb t ht).1] at ho; cases ho
      · rcases z with z | z
        · obtain ⟨t, ht, rfl⟩ := List.mem_map.mp z
          obtain ⟨ob, ho, _⟩ := (hb t ht).2; rw [ho]; simp
        · cases q1 : H1 b with
          | none => exact absurd q1 (S1.reg b z)
          | some o => rw [hsub b o q1]; simp
    have st2 : Step m1 (fun b => b ∈ bs.map Prod.fst ∨ F1 b) H2 m1 (add (fun b => b ∈ bs.map Prod.fst ∨ F1 b) pp) (upd H2 pp (.lst (bs.map fun t => V.ref t.1))) := step_new so hp
    refine q _ m1 _ _ _ p (s1.trans (st.trans st2)) (sto_new so hp) ⟨pp, _, rfl, .inl rfl, upd_same, ?_⟩
    have key : ∀ cs : List (Addr × Pr), (∀ t, t ∈ cs → t ∈ bs) → ImAll K (fun b => b ∈ bs.map Prod.fst ∨ F1 b) H2 ((cs.map Prod.snd).map prS) (cs.map fun t => V.ref t.1) := by
      intro cs
      induction cs with
      | nil => intro _; rfl
      | cons t cs ih =>
        intro hc
        have ht := hc t List.mem_cons_self
        exact ⟨_, _, rfl, ⟨t.1, cellV t.2, rfl, .inl ⟨.inl (List.mem_map_of_mem ht), (hb t ht).2⟩, _, _, rfl, rfl, _, _, rfl, rfl, rfl⟩, ih fun x hx => hc x (List.mem_cons_of_mem _ hx)⟩
    rw [← hs]
    exact imAll_fix st2.fix _ _ (key bs fun _ h => h)
end
end Dv

namespace Dv
open PySem L2 PyProof.Rows
open PySem.W (AllAlike Sortable dataLe)
/-! ### law 12: what the program does -/
/-- floors of any names -/
structure RF (fl : List (List (List Nat))) : Prop where
  pos : fl ≠ []
  most : fl.length ≤ 12
  cols : ∃ c, 0 < c ∧ c ≤ 12 ∧ ∀ r ∈ fl, r.length = c
  ok : ∀ r ∈ fl, ∀ l ∈ r, l ≠ [] ∧ Tx l
  sm : ∀ r ∈ fl, ∀ l ∈ r, l.length ≤ 20
theorem okL_sm {l : List Nat} (h : okL l = true) : l.length ≤ 20 := by
  cases l with
  | nil => cases h
  | cons c r =>
    simp [okL] at h
    simp
    omega
theorem VF.rf {fl : List (List (List Nat))} (v : VF fl) : RF fl := ⟨v.pos, v.most, v.cols, fun r hr l hl => ⟨okL_ne (v.ok r hr l hl), okL_tx (v.ok r hr l hl)⟩, fun r hr l hl => okL_sm (v.ok r hr l hl)⟩
theorem RF.head {fl : List (List (List Nat))} (v : RF fl) : ∃ r0, fl[0]? = some r0 ∧ (fl.getD 0 []) = r0 ∧ 0 < r0.length ∧ r0.length ≤ 12 ∧ ∀ r ∈ fl, r.length = r0.length := by
  obtain ⟨c, c0, c1, hc⟩ := v.cols
  cases fl with
  | nil => exact absurd rfl v.pos
  | cons a b =>
    have := hc a List.mem_cons_self
    exact ⟨a, rfl, rfl, by omega, by omega, fun r hr => by rw [hc r hr]; omega⟩
theorem RF.rows {fl : List (List (List Nat))} (v : RF fl) : Good fl where
  most := by have := v.most; omega
  ok r hr := by
    obtain ⟨r0, _, _, h1, h2, h3⟩ := v.head
    have := h3 r hr
    exact ⟨fun e => by subst e; simp at this; omega, by omega, v.ok r hr⟩
theorem RF.colm {fl : List (List (List Nat))} (v : RF fl) {r : List (List Nat)} (h : r ∈ colsL fl) : r.length = fl.length ∧ (∀ l ∈ r, l ≠ [] ∧ Tx l) ∧ ∀ l ∈ r, l.length ≤ 20 := by
  obtain ⟨r0, h0, e0, h1, h2, h3⟩ := v.head
  unfold colsL colsN at h
  rw [e0] at h
  obtain ⟨j, hj, rfl⟩ := List.mem_map.mp h
  have hj := List.mem_range.mp hj
  refine ⟨List.length_map .., fun l hl => ?_, fun l hl => ?_⟩
  · obtain ⟨r, hr, rfl⟩ := List.mem_map.mp hl
    have hjr : j < r.length := by rw [h3 r hr]; exact hj
    rw [List.getD_eq_getElem?_getD, List.getElem?_eq_getElem hjr]
    exact v.ok r hr _ (List.getElem_mem _)
  · obtain ⟨r, hr, rfl⟩ := List.mem_map.mp hl
    have hjr : j < r.length := by rw [h3 r hr]; exact hj
    rw [List.getD_eq_getElem?_getD, List.getElem?_eq_getElem hjr]
    exact v.sm r hr _ (List.getElem_mem _)
theorem RF.coln {fl : List (List (List Nat))} (v : RF fl) : 0 < (colsL fl).length ∧ (colsL fl).length ≤ 12 := by
  obtain ⟨r0, h0, e0, h1, h2, h3⟩ := v.head
  unfold colsL colsN
  rw [e0, List.length_map, List.length_range]
  omega
theorem RF.colk {fl : List (List (List Nat))} (v : RF fl) : Good (colsL fl) where
  most := by have := v.coln.2; omega
  ok r hr := by
    obtain ⟨h1, h2, _⟩ := v.colm hr
    have h3 := v.most
    have h4 : fl.length ≠ 0 := fun e => v.pos (List.length_eq_zero_iff.mp e)
    exact ⟨fun e => by subst e; simp at h1; omega, by omega, h2⟩
theorem RF.turn {fl : List (List (List Nat))} (v : RF fl) : RF (colsL fl) where
  pos := fun e => by have := v.coln.1; rw [e] at this; simp at this
  most := v.coln.2
  cols := ⟨fl.length, List.length_pos_iff.mpr v.pos, v.most, fun r hr => (v.colm hr).1⟩
  ok r hr := (v.colm hr).2.1
  sm r hr := (v.colm hr).2.2
/-! groups -/
theorem alike_nm (xs ys : List (List Nat)) : PySem.W.alikeAll (xs.map nmD) (ys.map nmD) = true := by
  induction xs generalizing ys with
  | nil => rfl
  | cons x xs ih =>
    cases ys with
    | nil => rfl
    | cons y ys =>
      have := ih ys
      simp [PySem.W.alikeAll, PySem.W.alike, this]
theorem depth_nm (r : List (List Nat)) : PyData.depthAll (r.map nmD) = 0 := by
  induction r with
  | nil => rfl
  | cons z zs ih => rw [List.map_cons, PyData.depthAll, ih]; rfl
def grD (r : List (List Nat)) : PyData := .list ((srt r).map nmD)
def grp (ls : List (List (List Nat))) : List PyData := (ls.map grD).mergeSort (dataLe false id)
theorem gr_alike (ls : List (List (List Nat))) : AllAlike (ls.map grD) := fun d hd e he => by
  obtain ⟨a, _, rfl⟩ := List.mem_map.mp hd
  obtain ⟨b, _, rfl⟩ := List.mem_map.mp he
  show PySem.W.alike (.list _) (.list _) = true
  simp [PySem.W.alike, alike_nm]
theorem gr_sortable (ls : List (List (List Nat))) : Sortable (ls.map grD) := .inr fun d hd => by
  obtain ⟨a, _, rfl⟩ := List.mem_map.mp hd
  exact ⟨fun e => (nomatch e), fun xs e => (nomatch e)⟩
theorem gr_depth (ls : List (List (List Nat))) : ∀ d, d ∈ ls.map grD → d.depth ≤ 20 := fun d hd => by
  obtain ⟨a, _, rfl⟩ := List.mem_map.mp hd
  show PyData.depth (.list _) ≤ 20
  rw [PyData.depth, depth_nm]
  decide
theorem grp_len (ls : List (List (List Nat))) : (grp ls).length = ls.length := by
  unfold grp
  rw [(List.mergeSort_perm _ _).length_eq, List.length_map]
theorem nxa_all {k n : Nat} {ds : List PyData} (h : ∀ d, d ∈ ds → Nx k n d) : NxA k (ds.length * (n + 1)) ds := by
  have := nxa_map (f := id) h
  rwa [List.map_id] at this
theorem nx_grp {ls : List (List (List Nat))} (g : Good ls) : Nx 2 (24 * (12 * 2001 + 1)) (.list (grp ls)) := by
  refine (nx_lst (nxa_all (k := 1) (n := 12 * 2001) fun d hd => ?_)).mono (Nat.le_refl _) (Nat.mul_le_mul_right _ (by rw [grp_len]; exact g.most))
  have := (List.mergeSort_perm _ _).mem_iff.mp hd
  obtain ⟨r, hr, rfl⟩ := List.mem_map.mp this
  have gr := g.ok r hr
  have hp := srt_perm r
  refine (nx_lst (nxa_map (k := 0) (n := 2000) fun l hl => nx_str (gr.ok l (hp.mem_iff.mp hl)).2)).mono (Nat.le_refl _) (Nat.mul_le_mul_right _ (by rw [hp.length_eq]; exact gr.most))
def sameG (a b : List (List (List Nat))) : Bool := PyData.eqv (.list (grp a)) (.list (grp b))
def isRe (s g : List (List (List Nat))) : Bool := sameG s g && sameG (colsL s) (colsL g)
theorem eqvAll_len : ∀ xs ys : List PyData, PyData.eqvAll xs ys = true → xs.length = ys.length
  | [], [], _ => rfl
  | [], _ :: _, h => by simp [PyData.eqvAll] at h
  | _ :: _, [], h => by simp [PyData.eqvAll] at h
  | x :: xs, y :: ys, h => by
    rw [PySem.W.eqv_all_cons] at h
    have := eqvAll_len xs ys (Bool.and_eq_true_iff.mp h).2
    simp [this]
theorem sameG_len {a b : List (List (List Nat))} (h : sameG a b = true) : a.length = b.length := by
  have : PyData.eqvAll (grp a) (grp b) = true := by
    unfold sameG at h
    simpa [PyData.eqv] using h
  have := eqvAll_len _ _ this
  rwa [grp_len, grp_len] at this
/-! alignments -/
def ringS (ls : List (List (List Nat))) : List Str := "" :: (ls.map mnL).map Sx
theorem ringS_eq (ls : List (List (List Nat))) : ringD ls = .tuple ((ringS ls).map .str) := congrArg (fun x => PyData.tuple (.str "" :: x)) (nms_str (ls.map mnL))
theorem ringS_len (ls : List (List (List Nat))) : (ringS ls).length = ls.length + 1 := by simp [ringS]
def alD (us ws : List Str) (k : Nat) : PyData := .tuple ((srtP (us.zip (ws.drop k ++ ws.take k))).map prS)
def alsD (us ws : List Str) : PyData := .tuple ((List.range us.length).map (alD us ws))
section
variable {K : PySem.W.Frag} {Pg : Program} {w : World} {m : Sto}
def W_columns_ofR : WT := fun ss m P => ∃ fl, ss = [.d (flD fl)] ∧ RF fl ∧ P (.d (flD (colsL fl))) m
theorem rd_columns_ofR (ss : List Sl) (m : Sto) (P : PV) (h : W_columns_ofR ss m P) : Wp K (t_columns_of K Pg w) (rho ["floor"] ss) m { nx := fun _ m' => P (.d .none) m', rt := P } := by
  obtain ⟨fl, rfl, v, p⟩ := h
  obtain ⟨r0, h0, e0, h1, h2, h3⟩ := v.head
  refine wp_ret <| ev_zipT <| ev_var rfl ⟨fl.map fun r => r.map nmD, r0.length, by rw [List.map_map]; rfl, ?_, ?_, h1, by omega, ?_, ?_⟩
  · rw [List.length_map]; exact List.length_pos_iff.mpr v.pos
  · rw [List.length_map]; exact v.most
  · intro ds hds
    obtain ⟨r, hr, rfl⟩ := List.mem_map.mp hds
    rw [List.length_map]; exact h3 r hr
  · rw [colsD_eq h3, ← e0]
    exact p
def W_row_ringR : WT := fun ss m P => ∃ fl, ss = [.d (flD fl)] ∧ RF fl ∧ P (.d (ringD fl)) m
theorem rd_row_ringR (ss : List Sl) (m : Sto) (P : PV) (h : W_row_ringR ss m P) : Wp K (t_row_ring K Pg w) (rho ["floor"] ss) m { nx := fun _ m' => P (.d .none) m', rt := P } := by
  obtain ⟨fl, rfl, v, p⟩ := h
  exact wp_ret <| ev_call0 <| ea_cons <| ev_var rfl <| ea_nil ⟨fl, rfl, v.rows, p⟩
def W_column_ringR : WT := fun ss m P => ∃ fl, ss = [.d (flD fl)] ∧ RF fl ∧ P (.d (ringD (colsL fl))) m
def t_column_ringR (K : PySem.W.Frag) (Pg : Program) (w : World) : TS :=
  (tRet (tCall (SpD K W_ring_of) [] E0 (tCons (tCall (SpD K W_columns_ofR) [] E0 (tCons (tVar 0) tNil)) tNil)))
theorem rd_column_ringR (ss : List Sl) (m : Sto) (P : PV) (h : W_column_ringR ss m P) : Wp K (t_column_ringR K Pg w) (rho ["floor"] ss) m { nx := fun _ m' => P (.d .none) m', rt := P } := by
  obtain ⟨fl, rfl, v, p⟩ := h
  exact wp_ret <| ev_call0 <| ea_cons <| ev_call0 <| ea_cons <| ev_var rfl <| ea_nil ⟨fl, rfl, v, ea_nil ⟨_, rfl, v.colk, p⟩⟩
def W_groups_of : WT := fun ss m P => ∃ ls, ss = [.d (flD ls)] ∧ Good ls ∧ P (.d (.list (grp ls))) m
def t_groups_of (K : PySem.W.Frag) (Pg : Program) (w : World) : TS :=
  (tRet (tCB (rSortD K) (tCons (tLc (iSeqU K (tVar 0)) (gName 1) tYes (tCB (rSortD K) (tCons (tVar 1) tNil)) [1]) tNil)))
theorem rd_groups_of (ss : List Sl) (m : Sto) (P : PV) (h : W_groups_of ss m P) : Wp K (t_groups_of K Pg w) (rho ["lines", "line"] ss) m { nx := fun _ m' => P (.d .none) m', rt := P } := by
  obtain ⟨ls, rfl, g, p⟩ := h
  have gm := g.most
  refine wp_ret <| ev_cb <| ea_cons <| ev_lcF (toD := rwD) List.mem_cons_self <| ei_tup <| ev_var rfl ⟨_, rfl, ls, fun _ => true, grD, rfl, trivial, by omega, fun r hr => ⟨et_yes ⟨rfl, rfl⟩, fun _ => ev_cb <| ea_cons <| ev_var rfl <| ea_nil <| rc_sortN seq_tup ⟨rfl, rfl⟩⟩, ea_nil ?_⟩
  rw [ftrue]
  exact rc_sortD seq_lst (gr_alike ls) (gr_sortable ls) (gr_depth ls) p
def W_is_rearrangement : WT := fun ss m P => ∃ s g, ss = [.d (flD s), .d (flD g)] ∧ RF s ∧ RF g ∧ P (.d (.bool (isRe s g))) m
def t_is_rearrangement (K : PySem.W.Frag) (Pg : Program) (w : World) : TS :=
  (tRet (tAndV (tOp (rEqU K) (tCall (SpD K W_groups_of) [] E0 (tCons (tVar 0) tNil)) (tCall (SpD K W_groups_of) [] E0 (tCons (tVar 1) tNil))) (tOp (rEqU K) (tCall (SpD K W_groups_of) [] E0 (tCons (tCall (SpD K W_columns_ofR) [] E0 (tCons (tVar 0) tNil)) tNil)) (tCall (SpD K W_groups_of) [] E0 (tCons (tCall (SpD K W_columns_ofR) [] E0 (tCons (tVar 1) tNil)) tNil)))))
theorem grp_shaped {ls : List (List (List Nat))} (g : Good ls) : SeqAt.shaped (.list (grp ls)) = true := (nx_grp g).shaped (by decide)
theorem rd_is_rearrangement (ss : List Sl) (m : Sto) (P : PV) (h : W_is_rearrangement ss m P) : Wp K (t_is_rearrangement K Pg w) (rho ["start", "goal"] ss) m { nx := fun _ m' => P (.d .none) m', rt := P } := by
  obtain ⟨s, g, rfl, vs, vg, p⟩ := h
  refine wp_ret <| ev_andV <| ev_op <| ev_call0 <| ea_cons <| ev_var rfl <| ea_nil ⟨s, rfl, vs.rows, ev_call0 <| ea_cons <| ev_var rfl <| ea_nil ⟨g, rfl, vg.rows, re_eq (grp_shaped vs.rows) (grp_shaped vg.rows) ⟨sameG s g, rfl, ite_b (fun h => ?_) (fun h => ?_)⟩⟩⟩
  · have e : isRe s g = sameG (colsL s) (colsL g) := by unfold isRe; rw [h]; rfl
    rw [e] at p
    exact ev_op <| ev_call0 <| ea_cons <| ev_call0 <| ea_cons <| ev_var rfl <| ea_nil ⟨s, rfl, vs, ea_nil ⟨_, rfl, vs.colk, ev_call0 <| ea_cons <| ev_call0 <| ea_cons <| ev_var rfl <| ea_nil ⟨g, rfl, vg, ea_nil ⟨_, rfl, vg.colk, re_eq (grp_shaped vs.colk) (grp_shaped vg.colk) p⟩⟩⟩⟩
  · have e : isRe s g = false := by unfold isRe; rw [h]; rfl
    rw [e] at p
    exact p
def WN_check_rearrangement (CR : Addr) : WTN := fun ss m P Y => ∃ s g, ss = [.d (flD s), .d (flD g)] ∧ RF s ∧ RF g ∧ (isRe s g = true → P (.d .none) m) ∧ (isRe s g = false → Y CR m)
def t_check_rearrangement (K : PySem.W.Frag) (Pg : Program) (w : World) (CR : Addr) (W : WX) : TS :=
  (tIfS (tNot (tTr K (tCall (SpD K W_is_rearrangement) [] E0 (tCons (tVar 0) (tCons (tVar 1) tNil)))))
    (fun _ σ H => W (.ref CR) none σ H)
    tNext)
theorem rd_check_rearrangement (CR : Addr) (ss : List Sl) (m : Sto) (P : PV) (Y : Addr → Sto → Prop) (h : WN_check_rearrangement CR ss m P Y) : WpN K (t_check_rearrangement K Pg w CR) (rho ["start", "goal"] ss) m { nx := fun _ m' => P (.d .none) m', rt := P } (fun _ => Y) := by
  obtain ⟨s, g, rfl, vs, vg, p, y⟩ := h
  refine wpn_if <| et_not <| et_tr <| ev_call0 <| ea_cons <| ev_var rfl <| ea_cons <| ev_var rfl <| ea_nil ⟨s, g, rfl, vs, vg, _, tr_bool, ite_b (fun h => wpn_raise (y ?_)) (fun h => wpn_of <| wp_next (p ?_))⟩
  · simpa using h
  · simpa using h
def W_align : WT := fun ss m P => ∃ (us ws : List Str) (k : Nat), ss = [.d (.tuple (us.map .str)), .d (.tuple (ws.map .str)), .d (.int (k : Nat))] ∧ us.length = ws.length ∧ k < us.length ∧ us.length ≤ 1000 ∧ P (.d (alD us ws k)) m
def t_align (K : PySem.W.Frag) (Pg : Program) (w : World) : TS :=
  (tSeq (tAsg (tOp (rAddU K) (tSl (rSlU K) (tVar 1) (tPart (tVar 2)) tNoPart) (tSl (rSlU K) (tVar 1) tNoPart (tPart (tVar 2)))) (gName 3))
    (tRet (tCB (rTupleC K) (tCons (tSortZ K (tCons (tVar 0) (tCons (tVar 3) tNil))) tNil))))
theorem rd_align (ss : List Sl) (m : Sto) (P : PV) (h : W_align ss m P) : Wp K (t_align K Pg w) (rho ["source", "target", "offset", "turned"] ss) m { nx := fun _ m' => P (.d .none) m', rt := P } := by
  obtain ⟨us, ws, k, rfl, hl, hk, h1, p⟩ := h
  refine wp_seq <| wp_set <| ev_op <| ev_sl <| ev_var rfl <| eo_some <| ev_var rfl ⟨_, rfl, eo_no <| rz_tup ?_⟩
  rw [cut_from]
  refine ev_sl <| ev_var rfl <| eo_no <| eo_some <| ev_var rfl ⟨_, rfl, rz_tup ?_⟩
  rw [cut_to]
  refine ra_tup (by simp; omega) ?_
  rw [← List.map_drop, ← List.map_take, ← List.map_append]
  exact wp_ret <| ev_cb <| ea_cons <| ev_sortZ <| ea_cons <| ev_var rfl <| ea_cons <| ev_var rfl <| ea_nil ⟨us, ws.drop k ++ ws.take k, rfl, by simp; omega, by omega, h1, ea_nil <| rc_tupleL p⟩
def W_alignments_of : WT := fun ss m P => ∃ (us ws : List Str), ss = [.d (.tuple (us.map .str)), .d (.tuple (ws.map .str))] ∧ us.length = ws.length ∧ us.length ≤ 1000 ∧ P (.d (alsD us ws)) m
def t_alignments_of (K : PySem.W.Frag) (Pg : Program) (w : World) : TS :=
  (tRet (tCB (rTupleC K) (tCons (tLc (iRng1 (tCons (tCB (rLenC K) (tCons (tVar 0) tNil)) tNil)) (gName 2) tYes (tCall (SpD K W_align) [] E0 (tCons (tVar 0) (tCons (tVar 1) (tCons (tVar 2) tNil)))) [2]) tNil)))
theorem rd_alignments_of (ss : List Sl) (m : Sto) (P : PV) (h : W_alignments_of ss m P) : Wp K (t_alignments_of K Pg w) (rho ["source", "target", "offset"] ss) m { nx := fun _ m' => P (.d .none) m', rt := P } := by
  obtain ⟨us, ws, rfl, hl, h1, p⟩ := h
  exact wp_ret <| ev_cb <| ea_cons <| ev_lcR List.mem_cons_self <| ea_cons <| ev_cb <| ea_cons <| ev_var rfl <| ea_nil <| rc_lenT <| ea_nil ⟨us.length, alD us ws, by rw [List.length_map], by omega, fun k hk => ev_call0 <| ea_cons <| ev_var rfl <| ea_cons <| ev_var rfl <| ea_cons <| ev_var rfl <| ea_nil ⟨us, ws, k, rfl, hl, hk, h1, rfl, rfl⟩, ea_nil <| rc_tupleL p⟩
theorem isRe_rows {s g : List (List (List Nat))} (h : isRe s g = true) : s.length = g.length := sameG_len (Bool.and_eq_true_iff.mp h).1
theorem isRe_cols {s g : List (List (List Nat))} (h : isRe s g = true) : (colsL s).length = (colsL g).length := sameG_len (Bool.and_eq_true_iff.mp h).2
def WN_row_alignments (CR : Addr) : WTN := fun ss m P Y => ∃ s g, ss = [.d (flD s), .d (flD g)] ∧ RF s ∧ RF g ∧ (isRe s g = true → P (.d (alsD (ringS s) (ringS g))) m) ∧ (isRe s g = false → Y CR m)
def t_row_alignments (K : PySem.W.Frag) (Pg : Program) (w : World) (CR : Addr) (W : WX) : TS :=
  (tSeq (tDrop (tCallS (SpN K (WN_check_rearrangement CR)) (WE W) (tCons (tVar 0) (tCons (tVar 1) tNil))))
    (tRet (tCall (SpD K W_alignments_of) [] E0 (tCons (tCall (SpD K W_row_ringR) [] E0 (tCons (tVar 0) tNil)) (tCons (tCall (SpD K W_row_ringR) [] E0 (tCons (tVar 1) tNil)) tNil)))))
theorem rd_row_alignments (CR : Addr) (ss : List Sl) (m : Sto) (P : PV) (Y : Addr → Sto → Prop) (h : WN_row_alignments CR ss m P Y) : WpN K (t_row_alignments K Pg w CR) (rho ["start", "goal"] ss) m { nx := fun _ m' => P (.d .none) m', rt := P } (fun _ => Y) := by
  obtain ⟨s, g, rfl, vs, vg, p, y⟩ := h
  refine wpn_seq <| wpn_drop <| evn_call <| ea_cons <| ev_var rfl <| ea_cons <| ev_var rfl <| ea_nil ⟨s, g, rfl, vs, vg, fun h => ?_, y⟩
  have e := isRe_rows h
  have l1 := vs.most
  refine wpn_ret <| evn_of <| ev_call0 <| ea_cons <| ev_call0 <| ea_cons <| ev_var rfl <| ea_nil ⟨s, rfl, vs, ea_cons <| ev_call0 <| ea_cons <| ev_var rfl <| ea_nil ⟨g, rfl, vg, ea_nil ⟨ringS s, ringS g, by rw [ringS_eq, ringS_eq], by rw [ringS_len, ringS_len, e], by rw [ringS_len]; omega, p h⟩⟩⟩
def WN_column_alignments (CR : Addr) : WTN := fun ss m P Y => ∃ s g, ss = [.d (flD s), .d (flD g)] ∧ RF s ∧ RF g ∧ (isRe s g = true → P (.d (alsD (ringS (colsL s)) (ringS (colsL g)))) m) ∧ (isRe s g = false → Y CR m)
def t_column_alignments (K : PySem.W.Frag) (Pg : Program) (w : World) (CR : Addr) (W : WX) : TS :=
  (tSeq (tDrop (tCallS (SpN K (WN_check_rearrangement CR)) (WE W) (tCons (tVar 0) (tCons (tVar 1) tNil))))
    (tRet (tCall (SpD K W_alignments_of) [] E0 (tCons (tCall (SpD K W_column_ringR) [] E0 (tCons (tVar 0) tNil)) (tCons (tCall (SpD K W_column_ringR) [] E0 (tCons (tVar 1) tNil)) tNil)))))
theorem rd_column_alignments (CR : Addr) (ss : List Sl) (m : Sto) (P : PV) (Y : Addr → Sto → Prop) (h : WN_column_alignments CR ss m P Y) : WpN K (t_column_alignments K Pg w CR) (rho ["start", "goal"] ss) m { nx := fun _ m' => P (.d .none) m', rt := P } (fun _ => Y) := by
  obtain ⟨s, g, rfl, vs, vg, p, y⟩ := h
  refine wpn_seq <| wpn_drop <| evn_call <| ea_cons <| ev_var rfl <| ea_cons <| ev_var rfl <| ea_nil ⟨s, g, rfl, vs, vg, fun h => ?_, y⟩
  have e := isRe_cols h
  have l1 := vs.coln.2
  refine wpn_ret <| evn_of <| ev_call0 <| ea_cons <| ev_call0 <| ea_cons <| ev_var rfl <| ea_nil ⟨s, rfl, vs, ea_cons <| ev_call0 <| ea_cons <| ev_var rfl <| ea_nil ⟨g, rfl, vg, ea_nil ⟨ringS (colsL s), ringS (colsL g), by rw [ringS_eq, ringS_eq], by rw [ringS_len, ringS_len, e], by rw [ringS_len]; omega, p h⟩⟩⟩
end
end Dv

namespace Dv
open PySem L2 PyProof.Rows
open PySem.W (AllAlike Sortable dataLe)
/-! ### law 12: what the law computes itself -/
section
variable {K : PySem.W.Frag} {ρ : Rho} {m : Sto}
theorem gt_tup2 {g1 g2 : TG} {x y : PyData} {Pr : Rho → Sto → Prop} (h : Gt K g1 [] (.d x) ρ m fun ρ1 m1 => Gt K g2 [] (.d y) ρ1 m1 Pr) : Gt K (gTup K 2 (gCons g1 (gCons g2 gNil))) [] (.d (.tuple [x, y])) ρ m Pr := fun σ F H v Q E S o q => by
  obtain ⟨a, vs, rfl, sq, i⟩ := im_tup o
  obtain ⟨v1, r, rfl, i1, v2, r2, rfl, i2, rfl⟩ := i
  refine ⟨a, _, rfl, sq, rfl, v1, [v2], rfl, ?_⟩
  refine h σ F H v1 _ E S i1 fun ρ1 m1 σ1 F1 H1 gt s1 S1 E1 w1 => ⟨v2, [], rfl, ?_⟩
  exact gt σ1 F1 H1 v2 _ E1 S1 (im_fix s1.fix _ _ i2) fun ρ2 m2 σ2 F2 H2 p s2 S2 E2 w2 => ⟨rfl, q ρ2 m2 σ2 F2 H2 p (s1.trans s2) S2 E2 fun vs hv => (w2 vs hv).trans (w1 vs hv)⟩
theorem ixN_natE {n j : Nat} (h : j < n) : ixN n (j : Int) = some j := by
  unfold ixN
  rw [if_pos (by omega), if_pos (by omega)]
  simp
theorem gt_subN {l : Addr} {ds : List PyData} {k i j : Nat} {d : PyData} {Pr : Rho → Sto → Prop} (hi : ρ[i]? = some (some (.m l))) (hj : ρ[j]? = some (some (.d (.int (k : Nat))))) (hm : m l = some (.lst ds)) (hk : k < ds.length) (p : Pr ρ (put m l (.lst (ds.set k d)))) :
    Gt K (gSub (tVar i) (tVar j) rSetL) [] (.d d) ρ m Pr := gt_sub <| ev_var hi ⟨rfl, ev_var hj ⟨rfl, hm, ixN_natE hk, p⟩⟩
theorem gt_sub0 {l : Addr} {ds : List PyData} {i : Nat} {d : PyData} {Pr : Rho → Sto → Prop} (hi : ρ[i]? = some (some (.m l))) (hm : m l = some (.lst ds)) (hk : 0 < ds.length) (p : Pr ρ (put m l (.lst (ds.set 0 d)))) :
    Gt K (gSub (tVar i) (tC (.int 0)) rSetL) [] (.d d) ρ m Pr := gt_sub <| ev_var hi ⟨rfl, ev_int ⟨rfl, hm, ixN_natE (j := 0) hk, p⟩⟩
end
theorem rot_at {α : Type} {ws : List α} {k i : Nat} (hk : k < ws.length) (hi : i < ws.length) : (ws.drop k ++ ws.take k)[i]? = ws[(i + k) % ws.length]? := by
  by_cases h : i < ws.length - k
  · rw [List.getElem?_append_left (by simpa using h), List.getElem?_drop, Nat.mod_eq_of_lt (by omega), Nat.add_comm]
  · rw [List.getElem?_append_right (by simp; omega), List.length_drop, List.getElem?_take, if_pos (by omega)]
    congr 1
    rw [Nat.mod_eq_sub_mod (by omega), Nat.mod_eq_of_lt (by omega)]
    omega
theorem zip_rot {us ws : List Str} {k : Nat} (hl : us.length = ws.length) (hk : k < us.length) : (List.range us.length).map (fun i => (us.getD i "", ws.getD ((i + k) % us.length) "")) = us.zip (ws.drop k ++ ws.take k) := by
  apply List.ext_getElem?
  intro i
  by_cases hi : i < us.length
  · have hw : (i + k) % us.length < ws.length := by rw [← hl]; exact Nat.mod_lt _ (by omega)
    have e := rot_at (ws := ws) (k := k) (i := i) (by omega) (by omega)
    rw [← hl] at e
    rw [List.getElem?_map, List.getElem?_range hi]
    symm
    refine List.getElem?_zip_eq_some.mpr ⟨?_, ?_⟩
    · show us[i]? = some (us.getD i "")
      rw [List.getD_eq_getElem?_getD, List.getElem?_eq_getElem hi]; rfl
    · show _ = some (ws.getD ((i + k) % us.length) "")
      rw [e, List.getD_eq_getElem?_getD, List.getElem?_eq_getElem hw]; rfl
  · rw [List.getElem?_eq_none (by simpa using hi), List.getElem?_eq_none (by simp; omega)]
section
variable {K : PySem.W.Frag} {Pg : Program} {w : World} {m : Sto}
def W_alignments : WT := fun ss m P => ∃ us ws : List Str, ss = [.d (.list (us.map .str)), .d (.list (ws.map .str))] ∧ us.length = ws.length ∧ us.length ≤ 1000 ∧ P (.d (.list ((List.range us.length).map (alD us ws)))) m
def t_alignments (K : PySem.W.Frag) (Pg : Program) (w : World) : TS :=
  (tSeq (tAsg (tCB (rLenC K) (tCons (tVar 0) tNil)) (gName 2))
    (tSeq (tAsg (tLst tNil) (gName 3))
    (tSeq (tFor (iRng1 (tCons (tVar 2) tNil)) (gName 4)
    (tSeq (tAsg (tLc (iRng1 (tCons (tVar 2) tNil)) (gName 6) tYes (tTupZ (tCons (tOp (rIx K) (tVar 0) (tVar 6)) (tCons (tOp (rIx K) (tVar 1) (tOp (rI (fun _ j => 0 < j) fun i j => .int (i % j)) (tOp (rAddU K) (tVar 6) (tVar 4)) (tVar 2))) tNil))) [6]) (gName 5))
    (tDrop (tBM K "list" rAppend (tVar 3) (tCons (tCB (rTupleC K) (tCons (tCB (rSortD K) (tCons (tVar 5) tNil)) tNil)) tNil)))))
    (tRet (tVar 3)))))
theorem srtP_map (ps : List Pr) : (ps.map prS).mergeSort (dataLe false id) = (srtP ps).map prS := by
  unfold srtP
  exact (PySem.W.sort_maps (r := dataLe false prS) (s := dataLe false id) (l := ps) prS (fun _ _ _ _ => rfl)).symm
theorem rd_alignments (ss : List Sl) (m : Sto) (P : PV) (h : W_alignments ss m P) : Wp K (t_alignments K Pg w) (rho ["start", "goal", "size", "found", "offset", "pairs", "index"] ss) m { nx := fun _ m' => P (.d .none) m', rt := P } := by
  obtain ⟨us, ws, rfl, hl, h1, p⟩ := h
  refine wp_seq <| wp_set <| ev_cb <| ea_cons <| ev_var rfl <| ea_nil <| rc_lenL ?_
  rw [List.length_map]
  refine wp_seq <| wp_set <| ev_lstM <| ea_nil ⟨[], rfl, by simp, fun l hm => ?_⟩
  refine wp_seq <| wp_rng <| ea_cons <| ev_var rfl <| ea_nil ⟨us.length, fun i ρ' m' => ∃ s4 s5, ρ' = [some (.d (.list (us.map .str))), some (.d (.list (ws.map .str))), some (.d (.int us.length)), some (.m l), s4, s5, none] ∧ m' = put m l (.lst ((List.range i).map (alD us ws))), rfl, by omega, ⟨_, _, rfl, rfl⟩, ?_, ?_⟩
  · rintro k ρ' m' hk ⟨s4, s5, rfl, rfl⟩
    refine wp_seq <| wp_set <| ev_lcR List.mem_cons_self <| ea_cons <| ev_var rfl <| ea_nil ⟨us.length, fun i => prS (us.getD i "", ws.getD ((i + k) % us.length) ""), rfl, by omega, fun i hi => ?_, ?_⟩
    · have hw : (i + k) % us.length < ws.length := by rw [← hl]; exact Nat.mod_lt _ (by omega)
      have e1 : (us.map PyData.str)[i]? = some (.str (us.getD i "")) := by
        rw [List.getElem?_map, List.getD_eq_getElem?_getD, List.getElem?_eq_getElem hi]; rfl
      have e2 : (ws.map PyData.str)[(i + k) % us.length]? = some (.str (ws.getD ((i + k) % us.length) "")) := by
        rw [List.getElem?_map, List.getD_eq_getElem?_getD, List.getElem?_eq_getElem hw]; rfl
      exact ev_tup <| ea_cons <| ev_op <| ev_var rfl <| ev_var rfl <| rx_lst (atI_nat' rfl e1) <| ea_cons <| ev_op <| ev_var rfl <| ev_op <| ev_op <| ev_var rfl <| ev_var rfl <| ra_int <| ev_var rfl <| rp_mod (by omega) <| rx_lst (atI_nat' (k := (i + k) % us.length) (by simp) e2) <| ea_nil ⟨[_, _], rfl, by simp, rfl, rfl⟩
    · have ez : (List.range us.length).map (fun i => prS (us.getD i "", ws.getD ((i + k) % us.length) "")) = (us.zip (ws.drop k ++ ws.take k)).map prS := by
        rw [← zip_rot hl hk, List.map_map]
        rfl
      rw [ez]
      refine wp_drop <| ev_bm <| ev_var rfl ⟨ty_listM put_same, ea_cons <| ev_cb <| ea_cons <| ev_cb <| ea_cons <| ev_var rfl <| ea_nil <| rc_sortD seq_lst (prs_alike _) (prs_sortable _) (fun d hd => ?_) <| ea_nil <| rc_tupleL <| ea_nil <| rm_append put_same (by simp; omega) ⟨_, _, rfl, ?_⟩⟩
      · obtain ⟨q, _, rfl⟩ := List.mem_map.mp hd
        rw [prs_depth]; decide
      · rw [put_put, srtP_map, List.range_succ, List.map_append]
        rfl
  · rintro ρ' m' ⟨s4, s5, rfl, rfl⟩
    refine wp_ret <| ev_varF rfl put_same ?_
    rw [del_put hm]
    exact p
def ringL (ls : List (List (List Nat))) : PyData := .list ((ringS ls).map .str)
def W_rings : WT := fun ss m P => ∃ fl, ss = [.d (flD fl)] ∧ RF fl ∧ P (.d (.tuple [ringL fl, ringL (colsL fl)])) m
def W_columnsR : WT := fun ss m P => ∃ fl, ss = [.d (flD fl)] ∧ RF fl ∧ P (.d (clD (colsL fl))) m
def t_rings (K : PySem.W.Frag) (Pg : Program) (w : World) : TS :=
  (tRet (tTupZ (tCons (tOp (rAddU K) (tLst (tCons (tC (.str "")) tNil)) (tCall (SpD K W_labels) [] E0 (tCons (tVar 0) tNil))) (tCons (tOp (rAddU K) (tLst (tCons (tC (.str "")) tNil)) (tCall (SpD K W_labels) [] E0 (tCons (tCall (SpD K W_columnsR) [] E0 (tCons (tVar 0) tNil)) tNil))) tNil))))
theorem ringL_eq (ls : List (List (List Nat))) : PyData.list ([.str ""] ++ ((ls.map mnL).map nmD)) = ringL ls := congrArg (fun x => PyData.list (.str "" :: x)) (nms_str (ls.map mnL))
theorem rd_rings (ss : List Sl) (m : Sto) (P : PV) (h : W_rings ss m P) : Wp K (t_rings K Pg w) (rho ["floor"] ss) m { nx := fun _ m' => P (.d .none) m', rt := P } := by
  obtain ⟨fl, rfl, v, p⟩ := h
  have g1 := v.most
  have g2 := v.coln.2
  refine wp_ret <| ev_tup <| ea_cons <| ev_op <| ev_lst <| ea_cons <| ev_str <| ea_nil ⟨[_], rfl, by simp, ev_call0 <| ea_cons <| ev_var rfl <| ea_nil ⟨true, tagF true fl, by rw [bx_floor], v.rows.tag _, ?_⟩⟩
  rw [tagF_snd]
  refine ra_lst (by simp; omega) <| ea_cons <| ev_op <| ev_lst <| ea_cons <| ev_str <| ea_nil ⟨[_], rfl, by simp, ev_call0 <| ea_cons <| ev_call0 <| ea_cons <| ev_var rfl <| ea_nil ⟨fl, rfl, v, ea_nil ⟨false, tagF false (colsL fl), by rw [bx_cols], v.colk.tag _, ?_⟩⟩⟩
  rw [tagF_snd]
  refine ra_lst (by simp; omega) <| ea_nil ⟨[_, _], rfl, by simp, ?_⟩
  rw [ringL_eq, ringL_eq]
  exact p
theorem rd_columnsR (ss : List Sl) (m : Sto) (P : PV) (h : W_columnsR ss m P) : Wp K (t_columns K Pg w) (rho ["floor", "column", "cells"] ss) m { nx := fun _ m' => P (.d .none) m', rt := P } := by
  obtain ⟨fl, rfl, v, p⟩ := h
  obtain ⟨r0, h0, e0, h1, h2, h3⟩ := v.head
  have hm := v.most
  refine wp_ret <| ev_lcR List.mem_cons_self <| ea_cons <| ev_cb <| ea_cons <| ev_op <| ev_var rfl <| ev_int <| rx_tup (atI_map (k := 0) rfl h0) <| ea_nil <| rc_lenT <| ea_nil ⟨r0.length, fun j => .list ((fl.map fun r => r.getD j []).map nmD), by rw [List.length_map], by omega, fun j hj => ev_lcF (toD := rwD) List.mem_cons_self <| ei_tup <| ev_var rfl ⟨_, rfl, fl, fun _ => true, nmD ∘ fun r => r.getD j [], rfl, trivial, by omega, fun r hr => ⟨et_yes ⟨rfl, rfl⟩, fun _ => ev_op <| ev_var rfl <| ev_var rfl <| rx_tup (d := nmD (r.getD j [])) ?_ ⟨rfl, rfl⟩⟩, by rw [ftrue, ← List.map_map], rfl⟩, ?_⟩
  · have hjr : j < r.length := by rw [h3 r hr]; exact hj
    exact atI_map rfl (by rw [List.getD_eq_getElem?_getD, List.getElem?_eq_getElem hjr]; rfl)
  · have e : (List.range r0.length).map (fun j => PyData.list ((fl.map fun r => r.getD j []).map nmD)) = (colsL fl).map fun r => .list (r.map nmD) := by
      unfold colsL colsN
      rw [e0, List.map_map]
      rfl
    rw [e]
    exact p
def W_same_lines : WT := fun ss m P => ∃ s g, ss = [.d (flD s), .d (flD g)] ∧ RF s ∧ RF g ∧ P (.d (.bool (isRe s g))) m
def t_same_lines (K : PySem.W.Frag) (Pg : Program) (w : World) : TS :=
  (tSeq (tIfS (tTest (tOp (rNeU K) (tCB (rSortD K) (tCons (tLc (iSeqU K (tVar 0)) (gName 3) tYes (tCB (rSortD K) (tCons (tVar 3) tNil)) [3]) tNil)) (tCB (rSortD K) (tCons (tLc (iSeqU K (tVar 1)) (gName 3) tYes (tCB (rSortD K) (tCons (tVar 3) tNil)) [3]) tNil))))
    (tRet (tC (.bl false)))
    tNext)
    (tSeq (tAsg (tCB (rSortD K) (tCons (tLc (iSeqU K (tCall (SpD K W_columnsR) [] E0 (tCons (tVar 0) tNil))) (gName 3) tYes (tCB (rSortD K) (tCons (tVar 3) tNil)) [3]) tNil)) (gName 2))
    (tRet (tOp (rEqU K) (tVar 2) (tCB (rSortD K) (tCons (tLc (iSeqU K (tCall (SpD K W_columnsR) [] E0 (tCons (tVar 1) tNil))) (gName 3) tYes (tCB (rSortD K) (tCons (tVar 3) tNil)) [3]) tNil))))))
theorem grp_rc {ls : List (List (List Nat))} {P : PV} (p : P (.d (.list (grp ls))) m) : RC K (rSortD K) [.d (.list ((ls.filter fun _ => true).map grD))] m P := by
  rw [ftrue]
  exact rc_sortD seq_lst (gr_alike ls) (gr_sortable ls) (gr_depth ls) p
theorem rd_same_lines (ss : List Sl) (m : Sto) (P : PV) (h : W_same_lines ss m P) : Wp K (t_same_lines K Pg w) (rho ["start", "goal", "here", "line"] ss) m { nx := fun _ m' => P (.d .none) m', rt := P } := by
  obtain ⟨s, g, rfl, vs, vg, p⟩ := h
  have s1 := vs.most
  have g1 := vg.most
  have s2 := vs.coln.2
  have g2 := vg.coln.2
  refine wp_seq <| wp_if <| et_test <| ev_op <| ev_cb <| ea_cons <| ev_lcF (toD := rwD) List.mem_cons_self <| ei_tup <| ev_var rfl ⟨_, rfl, s, fun _ => true, grD, rfl, trivial, by omega, fun r hr => ⟨et_yes ⟨rfl, rfl⟩, fun _ => ev_cb <| ea_cons <| ev_var rfl <| ea_nil <| rc_sortN seq_tup ⟨rfl, rfl⟩⟩, ea_nil <| grp_rc <| ev_cb <| ea_cons <| ev_lcF (toD := rwD) List.mem_cons_self <| ei_tup <| ev_var rfl ⟨_, rfl, g, fun _ => true, grD, rfl, trivial, by omega, fun r hr => ⟨et_yes ⟨rfl, rfl⟩, fun _ => ev_cb <| ea_cons <| ev_var rfl <| ea_nil <| rc_sortN seq_tup ⟨rfl, rfl⟩⟩, ea_nil <| grp_rc <| re_ne (grp_shaped vs.rows) (grp_shaped vg.rows) ⟨_, rfl, ite_b (fun h => ?_) (fun h => wp_next ?_)⟩⟩⟩
  · have e : isRe s g = false := by
      have : sameG s g = false := by unfold sameG; simpa using h
      unfold isRe; rw [this]; rfl
    rw [e] at p
    exact wp_ret <| ev_bl p
  · have e : isRe s g = sameG (colsL s) (colsL g) := by
      have : sameG s g = true := by unfold sameG; simpa using h
      unfold isRe; rw [this]; rfl
    rw [e] at p
    refine wp_seq <| wp_set <| ev_cb <| ea_cons <| ev_lcF (toD := fun r : List (List Nat) => .list (r.map nmD)) List.mem_cons_self <| ei_lst <| ev_call0 <| ea_cons <| ev_var rfl <| ea_nil ⟨s, rfl, vs, _, rfl, colsL s, fun _ => true, grD, rfl, trivial, by omega, fun r hr => ⟨et_yes ⟨rfl, rfl⟩, fun _ => ev_cb <| ea_cons <| ev_var rfl <| ea_nil <| rc_sortN seq_lst ⟨rfl, rfl⟩⟩, ea_nil <| grp_rc ?_⟩
    exact wp_ret <| ev_op <| ev_var rfl <| ev_cb <| ea_cons <| ev_lcF (toD := fun r : List (List Nat) => .list (r.map nmD)) List.mem_cons_self <| ei_lst <| ev_call0 <| ea_cons <| ev_var rfl <| ea_nil ⟨g, rfl, vg, _, rfl, colsL g, fun _ => true, grD, rfl, trivial, by omega, fun r hr => ⟨et_yes ⟨rfl, rfl⟩, fun _ => ev_cb <| ea_cons <| ev_var rfl <| ea_nil <| rc_sortN seq_lst ⟨rfl, rfl⟩⟩, ea_nil <| grp_rc <| re_eq (grp_shaped vs.colk) (grp_shaped vg.colk) p⟩
end
end Dv

namespace Dv
open PySem L2 PyProof.Rows
abbrev ixD (is : List Nat) : List PyData := is.map fun i => .int (i : Nat)
def pk (fl : List (List (List Nat))) (is js : List Nat) : List (List (List Nat)) := is.map fun i => js.map fun j => (fl.getD i []).getD j []
theorem cell_at {fl : List (List (List Nat))} {c i j : Nat} (hc : ∀ r ∈ fl, r.length = c) (hi : i < fl.length) (hj : j < c) : fl[i]? = some (fl.getD i []) ∧ (fl.getD i [])[j]? = some ((fl.getD i []).getD j []) ∧ fl.getD i [] ∈ fl ∧ (fl.getD i []).getD j [] ∈ fl.getD i [] := by
  have e1 : fl.getD i [] = fl[i] := by rw [List.getD_eq_getElem?_getD, List.getElem?_eq_getElem hi]; rfl
  have hm : fl[i] ∈ fl := List.getElem_mem _
  have hj' : j < fl[i].length := by rw [hc _ hm]; exact hj
  have e2 : fl[i].getD j [] = fl[i][j] := by rw [List.getD_eq_getElem?_getD, List.getElem?_eq_getElem hj']; rfl
  rw [e1, e2]
  exact ⟨List.getElem?_eq_getElem hi, List.getElem?_eq_getElem hj', hm, List.getElem_mem _⟩
theorem pk_rf {fl : List (List (List Nat))} {is js : List Nat} {c : Nat} (v : VF fl) (hc : ∀ r ∈ fl, r.length = c) (h1 : is.length = fl.length) (h2 : js.length = c) (hi : ∀ i ∈ is, i < fl.length) (hj : ∀ j ∈ js, j < c) : RF (pk fl is js) := by
  have vp := v.pos
  have hl : 0 < fl.length := List.length_pos_iff.mpr vp
  have f := v.rf
  refine ⟨fun e => ?_, ?_, ⟨c, ?_, ?_, fun r hr => ?_⟩, fun r hr l hl => ?_, fun r hr l hl => ?_⟩
  · have := congrArg List.length e
    simp [pk] at this
    subst this
    simp at h1
    omega
  · simp [pk]; have := v.most; omega
  · obtain ⟨c', c0, c1, hc'⟩ := v.cols
    have hm : fl[0] ∈ fl := List.getElem_mem _
    rw [← hc _ hm, hc' _ hm]; exact c0
  · obtain ⟨c', c0, c1, hc'⟩ := v.cols
    have hm : fl[0] ∈ fl := List.getElem_mem _
    rw [← hc _ hm, hc' _ hm]; exact c1
  · obtain ⟨i, _, rfl⟩ := List.mem_map.mp hr
    rw [List.length_map]; exact h2
  · obtain ⟨i, hi', rfl⟩ := List.mem_map.mp hr
    obtain ⟨j, hj', rfl⟩ := List.mem_map.mp hl
    obtain ⟨_, _, a, b⟩ := cell_at hc (hi i hi') (hj j hj')
    exact f.ok _ a _ b
  · obtain ⟨i, hi', rfl⟩ := List.mem_map.mp hr
    obtain ⟨j, hj', rfl⟩ := List.mem_map.mp hl
    obtain ⟨_, _, a, b⟩ := cell_at hc (hi i hi') (hj j hj')
    exact f.sm _ a _ b
section
variable {K : PySem.W.Frag} {Pg : Program} {w : World} {m : Sto}
def t_pick (K : PySem.W.Frag) : TE := (tCB (rTupleC K) (tCons (tLc (iSeqU K (tVar 3)) (gName 7) tYes (tCB (rTupleC K) (tCons (tLc (iSeqU K (tVar 4)) (gName 8) tYes (tOp (rIx K) (tOp (rIx K) (tVar 1) (tVar 7)) (tVar 8)) [8]) tNil)) [7]) tNil))
theorem ev_pickD {fl : List (List (List Nat))} {is js : List Nat} {c : Nat} {P : PV} {s0 s2 s5 s6 : Option Sl} (hc : ∀ r ∈ fl, r.length = c) (h1 : is.length ≤ 1000) (h2 : js.length ≤ 1000) (hi : ∀ i ∈ is, i < fl.length) (hj : ∀ j ∈ js, j < c) (p : P (.d (flD (pk fl is js))) m) :
    Ev K (t_pick K) [s0, some (.d (flD fl)), s2, some (.d (.list (ixD is))), some (.d (.list (ixD js))), s5, s6, none, none] m P := by
  unfold t_pick
  refine ev_cb <| ea_cons <| ev_lcF (toD := fun i : Nat => .int (i : Nat)) List.mem_cons_self <| ei_lst <| ev_var rfl ⟨_, rfl, is, fun _ => true, fun i => rwD (js.map fun j => (fl.getD i []).getD j []), rfl, trivial, by omega, fun i hi' => ⟨et_yes ⟨rfl, rfl⟩, fun _ => ?_⟩, ea_nil <| rc_tupleL ?_⟩
  · refine ev_cb <| ea_cons <| ev_lcF (toD := fun i : Nat => .int (i : Nat)) List.mem_cons_self <| ei_lst <| ev_var rfl ⟨_, rfl, js, fun _ => true, nmD ∘ fun j => (fl.getD i []).getD j [], rfl, trivial, by omega, fun j hj' => ⟨et_yes ⟨rfl, rfl⟩, fun _ => ?_⟩, ea_nil <| rc_tupleL ⟨by rw [ftrue, ← List.map_map], rfl⟩⟩
    obtain ⟨a1, a2, _, _⟩ := cell_at hc (hi i hi') (hj j hj')
    exact ev_op <| ev_op <| ev_var rfl <| ev_var rfl <| rx_tup (atI_map rfl a1) <| ev_var rfl <| rx_tup (atI_map rfl a2) ⟨rfl, rfl⟩
  · have e : (is.filter fun _ => true).map (fun i => rwD (js.map fun j => (fl.getD i []).getD j [])) = (pk fl is js).map rwD := by
      rw [ftrue]
      unfold pk
      rw [List.map_map]
      rfl
    rw [e]
    exact p
theorem ev_pickM {fl : List (List (List Nat))} {is js : List Nat} {c : Nat} {P : PV} {l3 l4 : Addr} {s0 s2 s5 s6 : Option Sl} (m3 : m l3 = some (.lst (ixD is))) (m4 : m l4 = some (.lst (ixD js))) (hc : ∀ r ∈ fl, r.length = c) (h1 : is.length ≤ 1000) (h2 : js.length ≤ 1000) (hi : ∀ i ∈ is, i < fl.length) (hj : ∀ j ∈ js, j < c) (p : P (.d (flD (pk fl is js))) m) :
    Ev K (t_pick K) [s0, some (.d (flD fl)), s2, some (.m l3), some (.m l4), s5, s6, none, none] m P := by
  unfold t_pick
  refine ev_cb <| ea_cons <| ev_lcF (toD := fun i : Nat => .int (i : Nat)) List.mem_cons_self <| ei_lstM <| ev_var rfl ⟨l3, ixD is, rfl, m3, is, fun _ => true, fun i => rwD (js.map fun j => (fl.getD i []).getD j []), rfl, m3, by omega, fun i hi' => ⟨et_yes ⟨rfl, rfl⟩, fun _ => ?_⟩, ea_nil <| rc_tupleL ?_⟩
  · refine ev_cb <| ea_cons <| ev_lcF (toD := fun i : Nat => .int (i : Nat)) List.mem_cons_self <| ei_lstM <| ev_var rfl ⟨l4, ixD js, rfl, m4, js, fun _ => true, nmD ∘ fun j => (fl.getD i []).getD j [], rfl, m4, by omega, fun j hj' => ⟨et_yes ⟨rfl, rfl⟩, fun _ => ?_⟩, ea_nil <| rc_tupleL ⟨by rw [ftrue, ← List.map_map], rfl⟩⟩
    obtain ⟨a1, a2, _, _⟩ := cell_at hc (hi i hi') (hj j hj')
    exact ev_op <| ev_op <| ev_var rfl <| ev_var rfl <| rx_tup (atI_map rfl a1) <| ev_var rfl <| rx_tup (atI_map rfl a2) ⟨rfl, rfl⟩
  · have e : (is.filter fun _ => true).map (fun i => rwD (js.map fun j => (fl.getD i []).getD j [])) = (pk fl is js).map rwD := by
      rw [ftrue]
      unfold pk
      rw [List.map_map]
      rfl
    rw [e]
    exact p
def W_rearranged : WT := fun ss m P => ∃ (a : Addr) (fl : List (List (List Nat))) (u : List PyData) (n : Nat), ss = [.m a, .d (flD fl)] ∧ VF fl ∧ m a = some (.lst u) ∧ SrcL u n ∧ n ≤ 400000 ∧
  ∀ fl' u', RF fl' → SrcL u' (n + 100) → P (.d (flD fl')) (put m a (.lst u'))
def t_rearranged (K : PySem.W.Frag) (Pg : Program) (w : World) : TS :=
  (tSeq (tAsg (tCall (SpD K W_draw) [] E0 (tCons (tVar 0) (tCons (tC (.int 5)) tNil))) (gName 2))
    (tSeq (tAsg (tLstRg (tRg1 (tCB (rLenC K) (tCons (tVar 1) tNil)))) (gName 3))
    (tSeq (tAsg (tLstRg (tRg1 (tCB (rLenC K) (tCons (tOp (rIx K) (tVar 1) (tC (.int 0))) tNil)))) (gName 4))
    (tSeq (tIfS (tTest (tOp (rI0 fun i j => .bl (decide (i < j))) (tVar 2) (tC (.int 2))))
    (tSeq (tAsg (tCall (SpD K W_shuffled) [] E0 (tCons (tVar 0) (tCons (tVar 3) tNil))) (gName 3))
    (tAsg (tCall (SpD K W_shuffled) [] E0 (tCons (tVar 0) (tCons (tVar 4) tNil))) (gName 4)))
    tNext)
    (tSeq (tIfS (tTest (tOp (rEqU K) (tVar 2) (tC (.int 2))))
    (tAsg (tCall (SpD K W_shuffled) [] E0 (tCons (tVar 0) (tCons (tVar 3) tNil))) (gName 3))
    tNext)
    (tSeq (tIfS (tTest (tOp (rEqU K) (tVar 2) (tC (.int 3))))
    (tSeq (tAsg (tCall (SpD K W_draw) [] E0 (tCons (tVar 0) (tCons (tCB (rLenC K) (tCons (tVar 3) tNil)) tNil))) (gName 5))
    (tSeq (tAsg (tCall (SpD K W_draw) [] E0 (tCons (tVar 0) (tCons (tCB (rLenC K) (tCons (tVar 4) tNil)) tNil))) (gName 6))
    (tSeq (tAsg (tTupZ (tCons (tOp (rIx K) (tVar 3) (tVar 5)) (tCons (tOp (rIx K) (tVar 3) (tC (.int 0))) tNil))) (gTup K 2 (gCons (gSub (tVar 3) (tC (.int 0)) rSetL) (gCons (gSub (tVar 3) (tVar 5) rSetL) gNil))))
    (tAsg (tTupZ (tCons (tOp (rIx K) (tVar 4) (tVar 6)) (tCons (tOp (rIx K) (tVar 4) (tC (.int 0))) tNil))) (gTup K 2 (gCons (gSub (tVar 4) (tC (.int 0)) rSetL) (gCons (gSub (tVar 4) (tVar 6) rSetL) gNil)))))))
    tNext)
    (tRet (tCB (rTupleC K) (tCons (tLc (iSeqU K (tVar 3)) (gName 7) tYes (tCB (rTupleC K) (tCons (tLc (iSeqU K (tVar 4)) (gName 8) tYes (tOp (rIx K) (tOp (rIx K) (tVar 1) (tVar 7)) (tVar 8)) [8]) tNil)) [7]) tNil)))))))))
theorem ixD_up (n : Nat) : upTo n = ixD (List.range n) := rfl
theorem shuf_ix {es : List PyData} {is : List Nat} (h : es.Perm (ixD is)) : ∃ ks : List Nat, ks.Perm is ∧ es = ixD ks := perm_map (f := fun i : Nat => PyData.int (i : Nat)) h rfl
/-- two places of a list of places exchanged -/
theorem swap_ix {is : List Nat} {k n : Nat} (hk : k < is.length) (h : ∀ i ∈ is, i < n) (h0 : 0 < is.length) : ∃ ks : List Nat, ((ixD is).set 0 (.int (is[k] : Nat))).set k (.int (is[0] : Nat)) = ixD ks ∧ ks.length = is.length ∧ ∀ i ∈ ks, i < n := by
  refine ⟨(is.set 0 is[k]).set k is[0], ?_, by simp, fun i hi => ?_⟩
  · unfold ixD
    rw [List.map_set, List.map_set]
  · rcases List.mem_or_eq_of_mem_set hi with q | q
    · rcases List.mem_or_eq_of_mem_set q with q | q
      · exact h i q
      · rw [q]; exact h _ (List.getElem_mem _)
    · rw [q]; exact h _ (List.getElem_mem _)
theorem ixAt {is : List Nat} {k : Nat} (h : k < is.length) : atI (ixD is) (k : Int) = some (.int (is[k] : Nat)) := atI_map rfl (List.getElem?_eq_getElem h)
theorem rd_rearranged (ss : List Sl) (m : Sto) (P : PV) (h : W_rearranged ss m P) : Wp K (t_rearranged K Pg w) (rho ["source", "floor", "way", "rows", "columns", "first", "second", "row", "column"] ss) m { nx := fun _ m' => P (.d .none) m', rt := P } := by
  obtain ⟨a, fl, u, n, rfl, v, hm, hu, hn, p⟩ := h
  obtain ⟨r0, h0, e0, h1, h2, h3⟩ := v.head
  have hR := v.most
  have hR0 : 0 < fl.length := List.length_pos_iff.mpr v.pos
  have rg : ∀ n, ∀ i ∈ List.range n, i < n := fun n i hi => List.mem_range.mp hi
  refine wp_seq <| wp_set <| ev_call0 <| ea_cons <| ev_var rfl <| ea_cons <| ev_int <| ea_nil ⟨a, 5, u, n, rfl, by decide, by decide, hm, hu, by omega, fun way u1 hw hu1 => ?_⟩
  by_cases w3 : way = 3
  · subst w3
    refine wp_seq <| wp_set <| ev_listRgM <| ev_cb <| ea_cons <| ev_var rfl <| ea_nil <| rc_lenT ⟨fl.length, by rw [List.length_map], by omega, by omega, fun l3 hl3 => ?_⟩
    refine wp_seq <| wp_set <| ev_listRgM <| ev_cb <| ea_cons <| ev_op <| ev_var rfl <| ev_int <| rx_tup (atI_map (k := 0) rfl h0) <| ea_nil <| rc_lenT ⟨r0.length, by rw [List.length_map], by omega, by omega, fun l4 hl4 => ?_⟩
    have a3 : a ≠ l3 := fun e => by rw [← e, put_same] at hl3; cases hl3
    have a4 : a ≠ l4 := fun e => by rw [← e, put_ne a3, put_same] at hl4; cases hl4
    have l34 : l3 ≠ l4 := fun e => by rw [← e, put_same] at hl4; cases hl4
    have n3 : m l3 = none := by rwa [put_ne (Ne.symm a3)] at hl3
    have n4 : m l4 = none := by rwa [put_ne (Ne.symm l34), put_ne (Ne.symm a4)] at hl4
    let M : List PyData → List PyData → List PyData → Sto := fun u x y => put (put (put m a (.lst u)) l3 (.lst x)) l4 (.lst y)
    have Ma : ∀ u x y, M u x y a = some (.lst u) := fun u x y => by show put (put (put m a _) l3 _) l4 _ a = _; rw [put_ne a4, put_ne a3, put_same]
    have M3 : ∀ u x y, M u x y l3 = some (.lst x) := fun u x y => by show put (put (put m a _) l3 _) l4 _ l3 = _; rw [put_ne l34, put_same]
    have M4 : ∀ u x y, M u x y l4 = some (.lst y) := fun u x y => put_same
    have Pa : ∀ u x y u', put (M u x y) a (.lst u') = M u' x y := fun u x y u' => by
      show put (put (put (put m a _) l3 _) l4 _) a _ = _
      rw [put_comm (Ne.symm a4), put_comm (Ne.symm a3), put_put]
    have P3 : ∀ u x y x', put (M u x y) l3 (.lst x') = M u x' y := fun u x y x' => by
      show put (put (put (put m a _) l3 _) l4 _) l3 _ = _
      rw [put_comm (Ne.symm l34), put_put]
    have P4 : ∀ u x y y', put (M u x y) l4 (.lst y') = M u x y' := fun u x y y' => put_put
    have D : ∀ u x y, del (del (M u x y) l4) l3 = put m a (.lst u) := fun u x y => by
      show del (del (put (put (put m a _) l3 _) l4 _) l4) l3 = _
      rw [del_put (by rw [put_ne (Ne.symm l34), put_ne (Ne.symm a4)]; exact n4), del_put (by rw [put_ne (Ne.symm a3)]; exact n3)]
    have e1 : (fl.length : Int).toNat = fl.length := Int.toNat_natCast _
    have e2 : (r0.length : Int).toNat = r0.length := Int.toNat_natCast _
    rw [e1, e2, ixD_up, ixD_up]
    show Wp K _ _ (M u1 (ixD (List.range fl.length)) (ixD (List.range r0.length))) _
    have L1 : (List.range fl.length).length = fl.length := List.length_range
    have L2 : (List.range r0.length).length = r0.length := List.length_range
    refine wp_seq <| wp_if <| et_test <| ev_op <| ev_var rfl <| ev_int <| rl_lt ⟨_, rfl, ite_b (fun q => by simp at q) (fun _ => wp_next ?_)⟩
    refine wp_seq <| wp_if <| et_test <| ev_op <| ev_var rfl <| ev_int <| re_eq (shaped_int _) (shaped_int _) ⟨_, rfl, ite_b (fun q => by simp [PyData.eqv] at q) (fun _ => wp_next ?_)⟩
    refine wp_seq <| wp_if <| et_test <| ev_op <| ev_var rfl <| ev_int <| re_eq (shaped_int _) (shaped_int _) ⟨_, rfl, ite_b (fun _ => ?_) (fun q => by simp [PyData.eqv] at q)⟩
    refine wp_seq <| wp_set <| ev_call0 <| ea_cons <| ev_var rfl <| ea_cons <| ev_cb <| ea_cons <| ev_var rfl <| ea_nil <| rc_lenM (M3 _ _ _) <| ea_nil ⟨a, _, u1, n + 1, rfl, by rw [List.length_map]; omega, by rw [List.length_map]; omega, Ma _ _ _, hu1, by omega, fun f1 u2 hf hu2 => ?_⟩
    rw [Pa]
    rw [List.length_map, L1] at hf
    refine wp_seq <| wp_set <| ev_call0 <| ea_cons <| ev_var rfl <| ea_cons <| ev_cb <| ea_cons <| ev_var rfl <| ea_nil <| rc_lenM (M4 _ _ _) <| ea_nil ⟨a, _, u2, n + 2, rfl, by rw [List.length_map]; omega, by rw [List.length_map]; omega, Ma _ _ _, hu2, by omega, fun f2 u3 hf2 hu3 => ?_⟩
    rw [Pa]
    rw [List.length_map, L2] at hf2
    have k1 : f1 < (List.range fl.length).length := by omega
    have k2 : f2 < (List.range r0.length).length := by omega
    obtain ⟨is, i1, i2, i3⟩ := swap_ix k1 (rg _) (by omega)
    obtain ⟨js, j1, j2, j3⟩ := swap_ix k2 (rg _) (by omega)
    refine wp_seq <| wp_asg <| ev_tup <| ea_cons <| ev_op <| ev_var rfl <| ev_var rfl <| rx_lstM (M3 _ _ _) (ixAt k1) <| ea_cons <| ev_op <| ev_var rfl <| ev_int <| rx_lstM (M3 _ _ _) (ixAt (k := 0) (by omega)) <| ea_nil ⟨[_, _], rfl, by simp, [], gt_tup2 <| gt_sub0 rfl (M3 _ _ _) (by rw [List.length_map]; omega) ?_⟩
    rw [P3]
    refine gt_subN (k := f1) rfl rfl (M3 _ _ _) (by rw [List.length_set, List.length_map]; exact k1) ?_
    rw [P3, i1]
    refine wp_asg <| ev_tup <| ea_cons <| ev_op <| ev_var rfl <| ev_var rfl <| rx_lstM (M4 _ _ _) (ixAt k2) <| ea_cons <| ev_op <| ev_var rfl <| ev_int <| rx_lstM (M4 _ _ _) (ixAt (k := 0) (by omega)) <| ea_nil ⟨[_, _], rfl, by simp, [], gt_tup2 <| gt_sub0 rfl (M4 _ _ _) (by rw [List.length_map]; omega) ?_⟩
    rw [P4]
    refine gt_subN (k := f2) rfl rfl (M4 _ _ _) (by rw [List.length_set, List.length_map]; exact k2) ?_
    rw [P4, j1]
    refine wp_ret <| ev_del <| ev_del <| ev_pickM (M3 _ _ _) (M4 _ _ _) h3 (by omega) (by omega) i3 j3 ⟨l4, _, M4 _ _ _, l3, .lst (ixD is), ?_, ?_⟩
    · rw [del_ne l34]; exact M3 _ _ _
    · rw [D]
      exact p _ u3 (pk_rf v h3 (by omega) (by omega) i3 j3) (hu3.mono (by omega))
  · refine wp_seq <| wp_set <| ev_listRg <| ev_cb <| ea_cons <| ev_var rfl <| ea_nil <| rc_lenT ⟨fl.length, by rw [List.length_map], by omega, by omega, ?_⟩
    refine wp_seq <| wp_set <| ev_listRg <| ev_cb <| ea_cons <| ev_op <| ev_var rfl <| ev_int <| rx_tup (atI_map (k := 0) rfl h0) <| ea_nil <| rc_lenT ⟨r0.length, by rw [List.length_map], by omega, by omega, ?_⟩
    have e1 : (fl.length : Int).toNat = fl.length := Int.toNat_natCast _
    have e2 : (r0.length : Int).toNat = r0.length := Int.toNat_natCast _
    rw [e1, e2, ixD_up, ixD_up]
    have L : ∀ n, (ixD (List.range n)).length = n := fun n => by simp
    have fin : ∀ (is js : List Nat) (u' : List PyData) (k : Nat), is.Perm (List.range fl.length) → js.Perm (List.range r0.length) → SrcL u' k → k ≤ n + 100 → Wp K (tSeq (tIfS (tTest (tOp (rEqU K) (tVar 2) (tC (.int 3))))
        (tSeq (tAsg (tCall (SpD K W_draw) [] E0 (tCons (tVar 0) (tCons (tCB (rLenC K) (tCons (tVar 3) tNil)) tNil))) (gName 5))
        (tSeq (tAsg (tCall (SpD K W_draw) [] E0 (tCons (tVar 0) (tCons (tCB (rLenC K) (tCons (tVar 4) tNil)) tNil))) (gName 6))
        (tSeq (tAsg (tTupZ (tCons (tOp (rIx K) (tVar 3) (tVar 5)) (tCons (tOp (rIx K) (tVar 3) (tC (.int 0))) tNil))) (gTup K 2 (gCons (gSub (tVar 3) (tC (.int 0)) rSetL) (gCons (gSub (tVar 3) (tVar 5) rSetL) gNil))))
        (tAsg (tTupZ (tCons (tOp (rIx K) (tVar 4) (tVar 6)) (tCons (tOp (rIx K) (tVar 4) (tC (.int 0))) tNil))) (gTup K 2 (gCons (gSub (tVar 4) (tC (.int 0)) rSetL) (gCons (gSub (tVar 4) (tVar 6) rSetL) gNil)))))))
        tNext)
        (tRet (t_pick K))) [some (.m a), some (.d (flD fl)), some (.d (.int (way : Nat))), some (.d (.list (ixD is))), some (.d (.list (ixD js))), none, none, none, none] (put m a (.lst u')) { nx := fun _ m' => P (.d .none) m', rt := P } := by
      intro is js u' k p1 p2 hu' hk
      refine wp_seq <| wp_if <| et_test <| ev_op <| ev_var rfl <| ev_int <| re_eq (shaped_int _) (shaped_int _) ⟨_, rfl, ite_b (fun q => ?_) (fun _ => wp_next ?_)⟩
      · simp [PyData.eqv] at q
        omega
      have l1 := p1.length_eq
      have l2 := p2.length_eq
      rw [List.length_range] at l1 l2
      have b1 : ∀ i ∈ is, i < fl.length := fun i hi => List.mem_range.mp (p1.mem_iff.mp hi)
      have b2 : ∀ i ∈ js, i < r0.length := fun i hi => List.mem_range.mp (p2.mem_iff.mp hi)
      exact wp_ret <| ev_pickD h3 (by omega) (by omega) b1 b2 (p _ u' (pk_rf v h3 l1 l2 b1 b2) (hu'.mono hk))
    refine wp_seq <| wp_if <| et_test <| ev_op <| ev_var rfl <| ev_int <| rl_lt ⟨_, rfl, ite_b (fun q => ?_) (fun q => wp_next ?_)⟩
    · have q := of_decide_eq_true q
      refine wp_seq <| wp_set <| ev_call0 <| ea_cons <| ev_var rfl <| ea_cons <| ev_var rfl <| ea_nil ⟨a, _, u1, n + 1, rfl, put_same, hu1, by rw [L]; omega, by rw [L]; omega, fun es u2 he hu2 => ?_⟩
      obtain ⟨is, pi, rfl⟩ := shuf_ix he
      rw [put_put]
      rw [L] at hu2
      refine wp_set <| ev_call0 <| ea_cons <| ev_var rfl <| ea_cons <| ev_var rfl <| ea_nil ⟨a, _, u2, _, rfl, put_same, hu2, by rw [L]; omega, by rw [L]; omega, fun es u3 he hu3 => ?_⟩
      obtain ⟨js, pj, rfl⟩ := shuf_ix he
      rw [put_put]
      rw [L] at hu3
      refine wp_seq <| wp_if <| et_test <| ev_op <| ev_var rfl <| ev_int <| re_eq (shaped_int _) (shaped_int _) ⟨_, rfl, ite_b (fun q2 => ?_) (fun _ => wp_next ?_)⟩
      · simp [PyData.eqv] at q2
        omega
      exact fin is js u3 _ pi pj hu3 (by omega)
    · refine wp_seq <| wp_if <| et_test <| ev_op <| ev_var rfl <| ev_int <| re_eq (shaped_int _) (shaped_int _) ⟨_, rfl, ite_b (fun q2 => ?_) (fun _ => wp_next ?_)⟩
      · refine wp_set <| ev_call0 <| ea_cons <| ev_var rfl <| ea_cons <| ev_var rfl <| ea_nil ⟨a, _, u1, n + 1, rfl, put_same, hu1, by rw [L]; omega, by rw [L]; omega, fun es u2 he hu2 => ?_⟩
        obtain ⟨is, pi, rfl⟩ := shuf_ix he
        rw [put_put]
        rw [L] at hu2
        exact fin is _ u2 _ pi (.refl _) hu2 (by omega)
      · exact fin _ _ u1 _ (.refl _) (.refl _) hu1 (by omega)
end
end Dv

namespace Dv
open PySem L2 PyProof.Rows
/-! ### told -/
def toldD (s g : List (List (List Nat))) : PyData := if isRe s g = true then .tuple [alsD (ringS s) (ringS g), alsD (ringS (colsL s)) (ringS (colsL g))] else .str "not rearranged"
section
variable {K : PySem.W.Frag} {Pg : Program} {w : World} {m : Sto}
def W_told12 : WT := fun ss m P => ∃ s g, ss = [.d (flD s), .d (flD g)] ∧ RF s ∧ RF g ∧ P (.d (toldD s g)) m
def t_told12 (K : PySem.W.Frag) (Pg : Program) (w : World) (CB : Addr) (CE : Addr) (CL : Addr) (CR : Addr) (CW : Addr) : TS :=
  (tSeq (tTry K (.ref CE) 3 (fun a cls d =>
    (tSeq (tAsg (tC (.str "other")) (gName 2))
    (tIfS (tAnd (tTr K (tCB (rIsN K CR a cls d) (tCons (tVar 3) (tCons (tC (.ref CR)) tNil)))) (tNot (tTr K (tCB (rIsNT K CR a cls d) (tCons (tVar 3) (tCons (tTupZ (tCons (tC (.ref CB)) (tCons (tC (.ref CL)) (tCons (tC (.ref CW)) tNil)))) tNil))))))
    (tAsg (tC (.str "not rearranged")) (gName 2))
    tNext))) (fun W =>
    (tAsg (tTupZ (tCons (tCallS (SpN K (WN_row_alignments CR)) (WE W) (tCons (tVar 0) (tCons (tVar 1) tNil))) (tCons (tCallS (SpN K (WN_column_alignments CR)) (WE W) (tCons (tVar 0) (tCons (tVar 1) tNil))) tNil))) (gName 2))))
    (tRet (tVar 2)))
theorem rd_told12 (CB CE CL CR CW : Addr) (xRE : PySem.W.exmOne K (.ref CR) (.ref CE) = some true) (tRB : PySem.W.kitOne K (.ref CR) (.ref CB) = some false) (tRL : PySem.W.kitOne K (.ref CR) (.ref CL) = some false) (tRW : PySem.W.kitOne K (.ref CR) (.ref CW) = some false)
    (ss : List Sl) (m : Sto) (P : PV) (h : W_told12 ss m P) : Wp K (t_told12 K Pg w CB CE CL CR CW) (rho ["start", "goal", "found", "e"] ss) m { nx := fun _ m' => P (.d .none) m', rt := P } := by
  obtain ⟨s, g, rfl, vs, vg, p⟩ := h
  unfold t_told12
  refine wp_seq <| wp_tryN (XS := fun ρ' C m' => ρ' = [some (.d (flD s)), some (.d (flD g)), none, none] ∧ m' = m ∧ C = CR ∧ isRe s g = false) ?_ ?_
  · refine wpn_set <| evn_tup <| ean_cons <| evn_call <| ea_cons <| ev_var rfl <| ea_cons <| ev_var rfl <| ea_nil ⟨s, g, rfl, vs, vg, fun h => ?_, fun h => ⟨rfl, rfl, rfl, h⟩⟩
    refine ean_cons <| evn_call <| ea_cons <| ev_var rfl <| ea_cons <| ev_var rfl <| ea_nil ⟨s, g, rfl, vs, vg, fun _ => ?_, fun h => ⟨rfl, rfl, rfl, h⟩⟩
    refine ean_nil ⟨[_, _], rfl, by simp, ?_⟩
    refine wp_ret <| ev_var rfl ?_
    unfold toldD at p
    rw [if_pos h] at p
    exact p
  · rintro ρ' C m' ⟨rfl, rfl, rfl, h⟩
    refine ⟨xRE, fun a => ?_⟩
    refine wp_seq <| wp_set <| ev_str <| wp_if <| et_and <| et_tr <| ev_cb <| ea_cons <| ev_var rfl <| ea_cons <| ev_raw <| ea_nil <| rc_isN kit_self ⟨_, tr_bool, ?_⟩
    rw [if_pos rfl]
    refine et_not <| et_tr <| ev_clsN (cs := [CB, CL, CW]) (ea_cons <| ev_raw <| ea_cons <| ev_raw <| ea_cons <| ev_raw <| ea_nil ⟨rfl, by simp, rfl⟩) (ev_var rfl ⟨rfl, rfl⟩) (ka_no tRB <| ka_no tRL <| ka_no tRW ka_nil) ⟨_, tr_bool, ?_⟩
    rw [if_pos (show (!false) = true from rfl)]
    refine wp_set <| ev_str ?_
    refine wp_ret <| ev_var rfl ?_
    unfold toldD at p
    rw [if_neg (by rw [h]; exact Bool.false_ne_true)] at p
    exact p
def W_columns_told : WT := fun ss m P => ∃ s g, ss = [.d (flD s), .d (flD g)] ∧ RF s ∧ RF g ∧ P (.d (.bool (!isRe s g))) m
def t_columns_told (K : PySem.W.Frag) (Pg : Program) (w : World) (CR : Addr) : TS :=
  (tSeq (tAsg (tC (.bl false)) (gName 2))
    (tSeq (tTryO K (.ref CR) (fun a cls d =>
    (tAsg (tC (.bl true)) (gName 2))) (fun W =>
    (tDrop (tCallS (SpN K (WN_column_alignments CR)) (WE W) (tCons (tVar 0) (tCons (tVar 1) tNil))))))
    (tRet (tVar 2))))
theorem rd_columns_told (CR : Addr) (xRR : PySem.W.exmOne K (.ref CR) (.ref CR) = some true) (ss : List Sl) (m : Sto) (P : PV) (h : W_columns_told ss m P) : Wp K (t_columns_told K Pg w CR) (rho ["start", "goal", "found"] ss) m { nx := fun _ m' => P (.d .none) m', rt := P } := by
  obtain ⟨s, g, rfl, vs, vg, p⟩ := h
  unfold t_columns_told
  refine wp_seq <| wp_set <| ev_bl <| wp_seq <| wp_tryO (XS := fun ρ' C m' => ρ' = [some (.d (flD s)), some (.d (flD g)), some (.d (.bool false))] ∧ m' = m ∧ C = CR ∧ isRe s g = false) ?_ ?_
  · refine wpn_drop <| evn_call <| ea_cons <| ev_var rfl <| ea_cons <| ev_var rfl <| ea_nil ⟨s, g, rfl, vs, vg, fun h => ?_, fun h => ⟨rfl, rfl, rfl, h⟩⟩
    rw [h] at p
    exact wp_ret <| ev_var rfl p
  · rintro ρ' C m' ⟨rfl, rfl, rfl, h⟩
    refine ⟨xRR, fun a => ?_⟩
    rw [h] at p
    exact wp_set <| ev_bl <| wp_ret <| ev_var rfl p
end
/-! ### other floors -/
theorem z6E : ("zzzzzz" : Str) = Sx [122, 122, 122, 122, 122, 122] := by decide +kernel
def gd (l : List Nat) : Prop := (l ≠ [] ∧ Tx l) ∧ l.length ≤ 20
def ch (C R : Nat) (ns : List (List Nat)) : List (List (List Nat)) := (List.range R).map fun i => (ns.drop (i * C)).take C
theorem ch_rf {C R : Nat} {ns : List (List Nat)} (hl : ns.length = R * C) (hC : 0 < C) (hC2 : C ≤ 12) (hR : 0 < R) (hR2 : R ≤ 12) (h : ∀ l ∈ ns, gd l) : RF (ch C R ns) where
  pos := fun e => by have := congrArg List.length e; simp [ch] at this; omega
  most := by simp [ch]; exact hR2
  cols := ⟨C, hC, hC2, fun r hr => by
    obtain ⟨i, hi, rfl⟩ := List.mem_map.mp hr
    have hi := List.mem_range.mp hi
    rw [List.length_take, List.length_drop, hl]
    have := Nat.mul_le_mul_right C (show i + 1 ≤ R from hi)
    rw [Nat.succ_mul] at this
    omega⟩
  ok r hr l hl2 := by
    obtain ⟨i, hi, rfl⟩ := List.mem_map.mp hr
    exact (h l (List.mem_of_mem_drop (List.mem_of_mem_take hl2))).1
  sm r hr l hl2 := by
    obtain ⟨i, hi, rfl⟩ := List.mem_map.mp hr
    exact (h l (List.mem_of_mem_drop (List.mem_of_mem_take hl2))).2
theorem one_rf {ns : List (List Nat)} (h0 : 0 < ns.length) (h1 : ns.length ≤ 12) (h : ∀ l ∈ ns, gd l) : RF [ns] where
  pos := fun e => by cases e
  most := by simp
  cols := ⟨ns.length, h0, h1, fun r hr => by rw [List.mem_singleton.mp hr]⟩
  ok r hr l hl := by rw [List.mem_singleton.mp hr] at hl; exact (h l hl).1
  sm r hr l hl := by rw [List.mem_singleton.mp hr] at hl; exact (h l hl).2
theorem each_rf {ns : List (List Nat)} (h0 : 0 < ns.length) (h1 : ns.length ≤ 12) (h : ∀ l ∈ ns, gd l) : RF (ns.map fun l => [l]) where
  pos := fun e => by have := congrArg List.length e; simp at this; subst this; simp at h0
  most := by rw [List.length_map]; exact h1
  cols := ⟨1, by decide, by decide, fun r hr => by obtain ⟨l, _, rfl⟩ := List.mem_map.mp hr; rfl⟩
  ok r hr l hl := by
    obtain ⟨x, hx, rfl⟩ := List.mem_map.mp hr
    rw [List.mem_singleton.mp hl]; exact (h x hx).1
  sm r hr l hl := by
    obtain ⟨x, hx, rfl⟩ := List.mem_map.mp hr
    rw [List.mem_singleton.mp hl]; exact (h x hx).2
theorem set_nm {ns : List (List Nat)} {k : Nat} {l : List Nat} : (ns.map nmD).set k (nmD l) = (ns.set k l).map nmD := List.map_set.symm
theorem set_gd {ns : List (List Nat)} {k : Nat} {l : List Nat} (h : ∀ x ∈ ns, gd x) (hl : gd l) : ∀ x ∈ ns.set k l, gd x := fun x hx => by
  rcases List.mem_or_eq_of_mem_set hx with q | q
  · exact h x q
  · rw [q]; exact hl
section
variable {K : PySem.W.Frag} {Pg : Program} {w : World} {m : Sto}
def W_others : WT := fun ss m P => ∃ (a : Addr) (fl : List (List (List Nat))) (u : List PyData) (n : Nat), ss = [.m a, .d (flD fl)] ∧ VF fl ∧ m a = some (.lst u) ∧ SrcL u n ∧ n ≤ 400000 ∧
  ∀ (gs : List (List (List (List Nat)))) (u' : List PyData), gs.length = 5 → (∀ g ∈ gs, RF g) → SrcL u' (n + 10) → P (.d (.list (gs.map flD))) (put m a (.lst u'))
def t_others (K : PySem.W.Frag) (Pg : Program) (w : World) : TS :=
  (tSeq (tAsg (tLst tNil) (gName 2))
    (tSeq (tFor (iSeqU K (tVar 1)) (gName 3)
    (tAsg (tOp (rAddU K) (tVar 2) (tCB (rListC K) (tCons (tVar 3) tNil))) (gName 2)))
    (tSeq (tAsg (tCall (SpD K W_draw) [] E0 (tCons (tVar 0) (tCons (tCB (rLenC K) (tCons (tVar 2) tNil)) tNil))) (gName 4))
    (tSeq (tAsg (tCall (SpD K W_draw) [] E0 (tCons (tVar 0) (tCons (tCB (rLenC K) (tCons (tVar 2) tNil)) tNil))) (gName 5))
    (tSeq (tAsg (tCB (rListC K) (tCons (tVar 2) tNil)) (gName 6))
    (tSeq (tAsg (tTupZ (tCons (tOp (rIx K) (tVar 6) (tVar 5)) (tCons (tOp (rIx K) (tVar 6) (tVar 4)) tNil))) (gTup K 2 (gCons (gSub (tVar 6) (tVar 4) rSetL) (gCons (gSub (tVar 6) (tVar 5) rSetL) gNil))))
    (tSeq (tAsg (tCB (rListC K) (tCons (tVar 2) tNil)) (gName 7))
    (tSeq (tAsg (tC (.str "zzzzzz")) (gSub (tVar 7) (tVar 4) rSetL))
    (tSeq (tAsg (tCB (rLenC K) (tCons (tOp (rIx K) (tVar 1) (tC (.int 0))) tNil)) (gName 8))
    (tSeq (tAsg (tLst tNil) (gName 9))
    (tSeq (tFor (iSeqU K (tTupZ (tCons (tVar 6) (tCons (tVar 7) tNil)))) (gName 10)
    (tDrop (tBM K "list" rAppend (tVar 9) (tCons (tCB (rTupleC K) (tCons (tLc (iRng1 (tCons (tCB (rLenC K) (tCons (tVar 1) tNil)) tNil)) (gName 11) tYes (tCB (rTupleC K) (tCons (tSl (rSlU K) (tVar 10) (tPart (tOp (rMulU) (tVar 11) (tVar 8))) (tPart (tOp (rAddU K) (tOp (rMulU) (tVar 11) (tVar 8)) (tVar 8)))) tNil)) [11]) tNil)) tNil))))
    (tSeq (tDrop (tBM K "list" rAppend (tVar 9) (tCons (tCB (rTupleC K) (tCons (tLc (iSeqU K (tCall (SpD K W_columnsR) [] E0 (tCons (tVar 1) tNil))) (gName 3) tYes (tCB (rTupleC K) (tCons (tVar 3) tNil)) [3]) tNil)) tNil)))
    (tRet (tOp (rAddU K) (tVar 9) (tLst (tCons (tTupZ (tCons (tCB (rTupleC K) (tCons (tSl (rSlU K) (tVar 2) tNoPart (tPart (tC (.int 12)))) tNil)) tNil)) (tCons (tCB (rTupleC K) (tCons (tLc (iSeqU K (tSl (rSlU K) (tVar 2) tNoPart (tPart (tC (.int 12))))) (gName 12) tYes (tTupZ (tCons (tVar 12) tNil)) [12]) tNil)) tNil)))))))))))))))))
theorem rd_others (ss : List Sl) (m : Sto) (P : PV) (h : W_others ss m P) : Wp K (t_others K Pg w) (rho ["source", "floor", "cells", "line", "first", "second", "changed", "renamed", "width", "found", "names", "row", "name"] ss) m { nx := fun _ m' => P (.d .none) m', rt := P } := by
  obtain ⟨a, fl, u, n, rfl, v, hm, hu, hn, p⟩ := h
  obtain ⟨r0, h0, e0, h1, h2, h3⟩ := v.head
  have hR := v.most
  have hR0 : 0 < fl.length := List.length_pos_iff.mpr v.pos
  have hN : fl.flatten.length = fl.length * r0.length := flat_mul h3
  have hN1 := flat144' v
  have hN0 : 0 < fl.flatten.length := by rw [hN]; exact Nat.mul_pos hR0 h1
  have f := v.rf
  have hG : ∀ l ∈ fl.flatten, gd l := fun l hl => by
    obtain ⟨r, hr, hl2⟩ := List.mem_flatten.mp hl
    exact ⟨f.ok r hr l hl2, f.sm r hr l hl2⟩
  refine wp_seq <| wp_set <| ev_lst <| ea_nil ⟨[], rfl, by simp, ?_⟩
  refine wp_seq <| wp_forL (toD := rwD) <| ei_tup <| ev_var rfl ⟨_, rfl, fl, fun i ρ' m' => ∃ s3, ρ' = [some (.m a), some (.d (flD fl)), some (.d (.list ((fl.take i).flatten.map nmD))), s3, none, none, none, none, none, none, none, none, none] ∧ m' = m, rfl, ⟨_, rfl, rfl⟩, fun _ _ _ _ => trivial, ?_, ?_⟩
  · rintro i r ρ' m' hr ⟨s3, rfl, rfl⟩
    refine wp_set <| ev_op <| ev_var rfl <| ev_cb <| ea_cons <| ev_var rfl <| ea_nil <| rc_list seq_tup <| ra_lst ?_ ⟨some (.d (rwD r)), ?_, rfl⟩
    · have a1 := flat144 v i
      have a2 := (vf_small v r (List.mem_of_getElem? hr)).1
      rw [List.length_map, List.length_map]
      omega
    · rw [take_flat hr, List.map_append]
      rfl
  rintro ρ' m' ⟨s3, rfl, rfl⟩
  rw [List.take_of_length_le (Nat.le_refl _)]
  generalize hcells : fl.flatten = cells at *
  have lc : (cells.map nmD).length = cells.length := List.length_map ..
  refine wp_seq <| wp_set <| ev_call0 <| ea_cons <| ev_var rfl <| ea_cons <| ev_cb <| ea_cons <| ev_var rfl <| ea_nil <| rc_lenL <| ea_nil ⟨a, _, u, n, rfl, by rw [lc]; omega, by rw [lc]; omega, hm, hu, by omega, fun f1 u1 hf1 hu1 => ?_⟩
  rw [lc] at hf1
  refine wp_seq <| wp_set <| ev_call0 <| ea_cons <| ev_var rfl <| ea_cons <| ev_cb <| ea_cons <| ev_var rfl <| ea_nil <| rc_lenL <| ea_nil ⟨a, _, u1, n + 1, rfl, by rw [lc]; omega, by rw [lc]; omega, put_same, hu1, by omega, fun f2 u2 hf2 hu2 => ?_⟩
  rw [lc] at hf2
  rw [put_put]
  have p' : ∀ gs : List (List (List (List Nat))), gs.length = 5 → (∀ g ∈ gs, RF g) → P (.d (.list (gs.map flD))) (put m' a (.lst u2)) := fun gs q1 q2 => p gs u2 q1 q2 (hu2.mono (by omega))
  generalize put m' a (.lst u2) = m1 at p'
  have k1 : f1 < cells.length := by omega
  have k2 : f2 < cells.length := by omega
  refine wp_seq <| wp_set <| ev_cb <| ea_cons <| ev_var rfl <| ea_nil <| rc_listM seq_lst fun l6 n6 => ?_
  have at1 : atI (cells.map nmD) (f1 : Int) = some (nmD cells[f1]) := atI_map rfl (List.getElem?_eq_getElem k1)
  have at2 : atI (cells.map nmD) (f2 : Int) = some (nmD cells[f2]) := atI_map rfl (List.getElem?_eq_getElem k2)
  refine wp_seq <| wp_asg <| ev_tup <| ea_cons <| ev_op <| ev_var rfl <| ev_var rfl <| rx_lstM put_same at2 <| ea_cons <| ev_op <| ev_var rfl <| ev_var rfl <| rx_lstM put_same at1 <| ea_nil ⟨[_, _], rfl, by simp, [], gt_tup2 <| gt_subN (k := f1) rfl rfl put_same (by rw [lc]; exact k1) ?_⟩
  rw [put_put]
  refine gt_subN (k := f2) rfl rfl put_same (by rw [List.length_set, lc]; exact k2) ?_
  rw [put_put, set_nm, set_nm]
  generalize hc1 : (cells.set f1 cells[f2]).set f2 cells[f1] = c1
  have c1l : c1.length = cells.length := by rw [← hc1]; simp
  have c1g : ∀ l ∈ c1, gd l := by rw [← hc1]; exact set_gd (set_gd hG (hG _ (List.getElem_mem _))) (hG _ (List.getElem_mem _))
  refine wp_seq <| wp_set <| ev_cb <| ea_cons <| ev_var rfl <| ea_nil <| rc_listM seq_lst fun l7 n7 => ?_
  have d67 : l6 ≠ l7 := fun e => by rw [← e, put_same] at n7; cases n7
  have n7' : m1 l7 = none := by rwa [put_ne (Ne.symm d67)] at n7
  refine wp_seq <| wp_asg <| ev_str ⟨[], gt_subN (k := f1) rfl rfl put_same (by rw [lc]; exact k1) ?_⟩
  rw [put_put, z6E, set_nm]
  generalize hc2 : cells.set f1 [122, 122, 122, 122, 122, 122] = c2
  have c2l : c2.length = cells.length := by rw [← hc2]; simp
  have c2g : ∀ l ∈ c2, gd l := by
    rw [← hc2]
    refine set_gd hG ⟨⟨by simp, by simp, fun c hc => ?_⟩, by simp⟩
    simp at hc
    omega
  refine wp_seq <| wp_set <| ev_cb <| ea_cons <| ev_op <| ev_var rfl <| ev_int <| rx_tup (atI_map (k := 0) rfl h0) <| ea_nil <| rc_lenT ?_
  rw [List.length_map]
  refine wp_seq <| wp_set <| ev_lstM <| ea_nil ⟨[], rfl, by simp, fun l9 n9 => ?_⟩
  have d79 : l7 ≠ l9 := fun e => by rw [← e, put_same] at n9; cases n9
  have d69 : l6 ≠ l9 := fun e => by rw [← e, put_ne d67, put_same] at n9; cases n9
  have n9' : m1 l9 = none := by rwa [put_ne (Ne.symm d79), put_ne (Ne.symm d69)] at n9
  have g6 : put (put (put m1 l6 (.lst (c1.map nmD))) l7 (.lst (c2.map nmD))) l9 (.lst []) l6 = some (.lst (c1.map nmD)) := by rw [put_ne d69, put_ne d67, put_same]
  have e6 : del (put (put (put m1 l6 (.lst (c1.map nmD))) l7 (.lst (c2.map nmD))) l9 (.lst [])) l6 = put (put m1 l7 (.lst (c2.map nmD))) l9 (.lst []) := by
    rw [del_put_ne (Ne.symm d69), del_put_ne (Ne.symm d67), del_put n6]
  have g7 : put (put m1 l7 (.lst (c2.map nmD))) l9 (.lst []) l7 = some (.lst (c2.map nmD)) := by rw [put_ne d79, put_same]
  have e7 : del (put (put m1 l7 (.lst (c2.map nmD))) l9 (.lst [])) l7 = put m1 l9 (.lst []) := by
    rw [del_put_ne (Ne.symm d79), del_put n7']
  refine wp_seq <| wp_forL (toD := fun ns : List (List Nat) => .list (ns.map nmD)) <| ei_tup <| ev_tup <| ea_cons <| ev_varF rfl g6 ?_
  rw [e6]
  refine ea_cons <| ev_varF rfl g7 ?_
  rw [e7]
  refine ea_nil ⟨[.list (c1.map nmD), .list (c2.map nmD)], rfl, by simp, _, rfl, [c1, c2], fun i ρ' m' => ∃ s10, ρ' = [some (.m a), some (.d (flD fl)), some (.d (.list (cells.map nmD))), s3, some (.d (.int (f1 : Nat))), some (.d (.int (f2 : Nat))), some (.m l6), some (.m l7), some (.d (.int r0.length)), some (.m l9), s10, none, none] ∧ m' = put m1 l9 (.lst ((([c1, c2].take i).map (ch r0.length fl.length)).map flD)), rfl, ⟨_, rfl, rfl⟩, fun _ _ _ _ => trivial, ?_, ?_⟩
  · rintro i ns ρ' m' hns ⟨s10, rfl, rfl⟩
    have hmem : ns ∈ [c1, c2] := List.mem_of_getElem? hns
    have nl : ns.length = fl.length * r0.length := by
      rw [← hN]
      simp at hmem
      rcases hmem with rfl | rfl
      · exact c1l
      · exact c2l
    refine wp_drop <| ev_bm <| ev_var rfl ⟨ty_listM put_same, ea_cons <| ev_cb <| ea_cons <| ev_lcR List.mem_cons_self <| ea_cons <| ev_cb <| ea_cons <| ev_var rfl <| ea_nil <| rc_lenT <| ea_nil ⟨fl.length, fun i => rwD ((ns.drop (i * r0.length)).take r0.length), by rw [List.length_map], by omega, fun i hi => ?_, ea_nil <| rc_tupleL <| ea_nil <| rm_append put_same ?_ ⟨_, rfl, ?_⟩⟩⟩
    · have eM : ((i : Nat) : Int) * (r0.length : Int) = ((i * r0.length : Nat) : Int) := by simp
      have eA : ((i : Nat) : Int) * (r0.length : Int) + (r0.length : Int) = ((i * r0.length + r0.length : Nat) : Int) := by simp
      have hle : i * r0.length + r0.length ≤ ns.length := by
        rw [nl, ← Nat.succ_mul]
        exact Nat.mul_le_mul_right _ hi
      refine ev_cb <| ea_cons <| ev_sl <| ev_var rfl <| eo_some <| ev_op <| ev_var rfl <| ev_var rfl <| rm_int (wide_mul (a := 30) (b := 30) (by omega) (by omega) (by decide) (by decide) (by decide)) ⟨_, rfl, eo_some <| ev_op <| ev_op <| ev_var rfl <| ev_var rfl <| rm_int (wide_mul (a := 30) (b := 30) (by omega) (by omega) (by decide) (by decide) (by decide)) <| ev_var rfl <| ra_int ⟨_, rfl, rz_lst <| ea_nil <| rc_tupleL ⟨?_, rfl⟩⟩⟩
      rw [eA, eM, cut_mid (by omega) (by rw [List.length_map]; exact hle), show i * r0.length + r0.length - i * r0.length = r0.length from by omega, ← List.map_drop, ← List.map_take]
    · rw [List.length_map, List.length_map, List.length_take]
      simp
      omega
    · have e : (List.range fl.length).map (fun i => rwD ((ns.drop (i * r0.length)).take r0.length)) = (ch r0.length fl.length ns).map rwD := by
        unfold ch
        rw [List.map_map]
        rfl
      rw [put_put, e, List.take_add_one, hns]
      simp
  rintro ρ' m' ⟨s10, rfl, rfl⟩
  have gc := v.rf.coln
  refine wp_seq <| wp_drop <| ev_bm <| ev_var rfl ⟨ty_listM put_same, ea_cons <| ev_cb <| ea_cons <| ev_lcF (toD := fun r : List (List Nat) => .list (r.map nmD)) List.mem_cons_self <| ei_lst <| ev_call0 <| ea_cons <| ev_var rfl <| ea_nil ⟨fl, rfl, f, _, rfl, colsL fl, fun _ => true, rwD, rfl, trivial, by omega, fun r hr => ⟨et_yes ⟨rfl, rfl⟩, fun _ => ev_cb <| ea_cons <| ev_var rfl <| ea_nil <| rc_tupleL ⟨rfl, rfl⟩⟩, ea_nil <| rc_tupleL <| ea_nil <| rm_append put_same (by simp) ?_⟩⟩
  rw [ftrue, put_put]
  have c12 : cutD (cells.map nmD) none (some 12) = (cells.take 12).map nmD := by
    rw [List.map_take]
    exact cut_to (k := 12)
  refine wp_ret <| ev_op <| ev_varF rfl put_same ?_
  rw [del_put n9']
  have tk : (cells.take 12).length = min 12 cells.length := List.length_take
  have tg : ∀ l ∈ cells.take 12, gd l := fun l hl => hG l (List.mem_of_mem_take hl)
  refine ev_lst <| ea_cons <| ev_tup <| ea_cons <| ev_cb <| ea_cons <| ev_sl <| ev_var rfl <| eo_no <| eo_some <| ev_int ⟨_, rfl, rz_lst <| ea_nil <| rc_tupleL <| ea_nil ⟨[_], rfl, by simp, ?_⟩⟩
  rw [c12]
  refine ea_cons <| ev_cb <| ea_cons <| ev_lcF (toD := nmD) List.mem_cons_self <| ei_lst <| ev_sl <| ev_var rfl <| eo_no <| eo_some <| ev_int ⟨_, rfl, rz_lst ?_⟩
  rw [c12]
  refine ⟨_, rfl, cells.take 12, fun _ => true, fun l => rwD [l], rfl, trivial, by omega, fun l hl => ⟨et_yes ⟨rfl, rfl⟩, fun _ => ev_tup <| ea_cons <| ev_var rfl <| ea_nil ⟨[_], rfl, by simp, rfl, rfl⟩⟩, ea_nil <| rc_tupleL <| ea_nil ⟨[_, _], rfl, by simp, ra_lst (by simp) ?_⟩⟩
  rw [ftrue]
  have e : ([c1, c2].take [c1, c2].length).map (ch r0.length fl.length) = [ch r0.length fl.length c1, ch r0.length fl.length c2] := rfl
  have := p' [ch r0.length fl.length c1, ch r0.length fl.length c2, colsL fl, [cells.take 12], (cells.take 12).map fun l => [l]] rfl fun g hg => by
    have l1 : c1.length = fl.length * r0.length := by rw [c1l, ← hN]
    have l2 : c2.length = fl.length * r0.length := by rw [c2l, ← hN]
    simp only [List.mem_cons, List.not_mem_nil, or_false] at hg
    rcases hg with rfl | rfl | rfl | rfl | rfl
    · exact ch_rf l1 h1 h2 hR0 hR c1g
    · exact ch_rf l2 h1 h2 hR0 hR c2g
    · exact f.turn
    · exact one_rf (by omega) (by omega) tg
    · exact each_rf (by omega) (by omega) tg
  have e5 : ((cells.take 12).map fun l => [l]).map rwD = (cells.take 12).map fun l => rwD [l] := by rw [List.map_map]; rfl
  have e6' : flD ((cells.take 12).map fun l => [l]) = .tuple ((cells.take 12).map fun l => rwD [l]) := congrArg PyData.tuple e5
  simp only [List.map_cons, List.map_nil] at this
  rw [e6'] at this
  exact this
end
end Dv

namespace Dv
open PySem L2 PyProof.Rows
open PySem.W (dataLe)
theorem nx_s {k : Nat} {l : List Nat} (h : Tx l) (h2 : l.length ≤ 20) : Nx k 20 (nmD l) := by
  have q := nx_str (k := k) h
  refine ⟨q.sh, q.hd, q.cl, q.dp, q.ls, ?_⟩
  have : PyData.weight (nmD l) = l.length := by show (Sx l).cps.size = _; simp
  rw [this]
  exact h2
def sg (z : Str) : Prop := ∃ l, z = Sx l ∧ Tx l ∧ l.length ≤ 20
theorem RF.ring {fl : List (List (List Nat))} (f : RF fl) : ∀ z ∈ ringS fl, sg z := fun z hz => by
  rcases List.mem_cons.mp hz with e | h
  · exact ⟨[], by rw [e]; decide +kernel, ⟨by simp, by simp⟩, by simp⟩
  · obtain ⟨l, hl, rfl⟩ := List.mem_map.mp h
    obtain ⟨r, hr, rfl⟩ := List.mem_map.mp hl
    have hm := mnL_mem (f.rows.ok r hr).pos
    exact ⟨_, rfl, (f.ok r hr _ hm).2, f.sm r hr _ hm⟩
theorem nx_sg {k : Nat} {z : Str} (h : sg z) : Nx k 20 (.str z) := by
  obtain ⟨l, rfl, h1, h2⟩ := h
  exact nx_s h1 h2
theorem nx_als {us ws : List Str} (hu : ∀ z ∈ us, sg z) (hw : ∀ z ∈ ws, sg z) (hl : us.length ≤ 13) : Nx 3 7280 (alsD us ws) := by
  refine (nx_tup (nxa_map (k := 2) (n := 559) fun k _ => ?_)).mono (Nat.le_refl _) (Nat.mul_le_mul_right (560) (show (List.range us.length).length ≤ 13 by rw [List.length_range]; exact hl))
  have hp : (srtP (us.zip (ws.drop k ++ ws.take k))).Perm (us.zip (ws.drop k ++ ws.take k)) := List.mergeSort_perm _ _
  refine (nx_tup (nxa_map (k := 1) (n := 42) fun q hq => ?_)).mono (Nat.le_refl _) (Nat.mul_le_mul_right 43 (show _ ≤ 13 by rw [hp.length_eq, List.length_zip]; omega))
  have hz := List.of_mem_zip (hp.mem_iff.mp hq)
  refine nx_tup (nxa_cons (nx_sg (hu _ hz.1)) (nxa_cons (nx_sg (hw _ ?_)) nxa_nil))
  rcases List.mem_append.mp hz.2 with h | h
  · exact List.mem_of_mem_drop h
  · exact List.mem_of_mem_take h
theorem nx_nr {k : Nat} : Nx k 20 (.str "not rearranged") := by
  have e : ("not rearranged" : Str) = Sx ("not rearranged" : Str).cps.toList := (sx_of _).symm
  have h1 : ("not rearranged" : Str).cps.toList = [110, 111, 116, 32, 114, 101, 97, 114, 114, 97, 110, 103, 101, 100] := by decide +kernel
  rw [e, h1]
  refine nx_s ⟨by simp, fun c hc => ?_⟩ (by simp)
  simp at hc
  omega
theorem nx_told {s g : List (List (List Nat))} (vs : RF s) (vg : RF g) : Nx 4 20000 (toldD s g) := by
  unfold toldD
  by_cases h : isRe s g = true
  · rw [if_pos h]
    have l1 := vs.most
    have l2 := vs.coln.2
    exact (nx_tup (nxa_cons (nx_als vs.ring vg.ring (by rw [ringS_len]; omega)) (nxa_cons (nx_als vs.turn.ring vg.turn.ring (by rw [ringS_len]; omega)) nxa_nil))).mono (Nat.le_refl _) (by decide)
  · rw [if_neg h]
    exact (nx_nr (k := 4)).mono (Nat.le_refl _) (by decide)
theorem told_nr (s g : List (List (List Nat))) : PyData.eqv (toldD s g) (.str "not rearranged") = !isRe s g := by
  unfold toldD
  cases h : isRe s g with
  | true => simp [PyData.eqv]
  | false => simp [PyData.eqv]
section
variable {K : PySem.W.Frag} {Pg : Program} {w : World} {m : Sto}
theorem wp_seqJ {ρ : Rho} {k : Ko} {t1 t2 : TS} (I : Rho → Sto → Prop) (h1 : Wp K t1 ρ m { k with nx := I }) (h2 : ∀ ρ' m', I ρ' m' → Wp K t2 ρ' m' k) : Wp K (tSeq t1 t2) ρ m k :=
  wp_seq <| h1.mono (fun ρ' m' i => h2 ρ' m' i) (fun _ _ p => p) (fun _ _ p => p) (fun _ _ p => p)
def t_law12 (K : PySem.W.Frag) (Pg : Program) (w : World) : TS :=
  (tSeq (tFor (iRng1 (tCons (tCB (rMaxC) (tCons (tC (.int 1)) (tCons (tCB (rMinC) (tCons (tC (.int 3)) (tCons (tCB (rLenC K) (tCons (tVar 0) tNil)) tNil))) tNil))) tNil)) (gName 1)
    (tSeq (tAsg (tCall (SpD K W_source) [] E0 (tCons (tVar 0) (tCons (tVar 1) tNil))) (gName 2))
    (tSeq (tAsg (tCall (SpD K W_floor) [] E0 (tCons (tVar 2) (tCons (tC (.int 100)) tNil))) (gName 3))
    (tSeq (tAsg (tOp (rAddU K) (tLst (tCons (tCall (SpD K W_rearranged) [] E0 (tCons (tVar 2) (tCons (tVar 3) tNil))) (tCons (tVar 3) tNil))) (tCall (SpD K W_others) [] E0 (tCons (tVar 2) (tCons (tVar 3) tNil)))) (gName 4))
    (tFor (iSeqU K (tVar 4)) (gName 5)
    (tSeq (tAsg (tC (.str "not rearranged")) (gName 6))
    (tSeq (tIfS (tTr K (tCall (SpD K W_same_lines) [] E0 (tCons (tVar 3) (tCons (tVar 5) tNil))))
    (tSeq (tAsg (tCall (SpD K W_rings) [] E0 (tCons (tVar 3) tNil)) (gName 7))
    (tSeq (tAsg (tCall (SpD K W_rings) [] E0 (tCons (tVar 5) tNil)) (gName 8))
    (tAsg (tTupZ (tCons (tCB (rTupleC K) (tCons (tCall (SpD K W_alignments) [] E0 (tCons (tOp (rIx K) (tVar 7) (tC (.int 0))) (tCons (tOp (rIx K) (tVar 8) (tC (.int 0))) tNil))) tNil)) (tCons (tCB (rTupleC K) (tCons (tCall (SpD K W_alignments) [] E0 (tCons (tOp (rIx K) (tVar 7) (tC (.int 1))) (tCons (tOp (rIx K) (tVar 8) (tC (.int 1))) tNil))) tNil)) tNil))) (gName 6))))
    tNext)
    (tSeq (tIfS (tOr (tTest (tOp (rNeU K) (tCB (rRepr K) (tCons (tCall (SpD K W_told12) [] E0 (tCons (tVar 3) (tCons (tVar 5) tNil))) tNil)) (tCB (rRepr K) (tCons (tVar 6) tNil)))) (tTest (tOp (rNeU K) (tCB (rRepr K) (tCons (tCall (SpD K W_told12) [] E0 (tCons (tVar 3) (tCons (tVar 5) tNil))) tNil)) (tCB (rRepr K) (tCons (tVar 6) tNil)))))
    (tRet (tC (.bl false)))
    tNext)
    (tIfS (tTest (tOp (rNeU K) (tCall (SpD K W_columns_told) [] E0 (tCons (tVar 3) (tCons (tVar 5) tNil))) (tOp (rEqU K) (tVar 6) (tC (.str "not rearranged")))))
    (tRet (tC (.bl false)))
    tNext)))))))))
    (tRet (tC (.bl true))))
theorem rd_law12 (ss : List Sl) (m : Sto) (P : PV) (h : WLaw ss m P) : Wp K (t_law12 K Pg w) (rho ["script", "index", "source", "start", "goals", "goal", "due", "rings", "others"] ss) m { nx := fun _ m' => P (.d .none) m', rt := P } := by
  obtain ⟨ns, rfl, hl, _, p⟩ := h
  obtain ⟨t, ht, et⟩ := turns_ok (k := 3) hl (by decide)
  refine wp_seq <| wp_rng <| ea_cons <| ev_cb <| ea_cons <| ev_int <| ea_cons <| ev_cb <| ea_cons <| ev_int <| ea_cons <| ev_cb <| ea_cons <| ev_var rfl <| ea_nil <| rc_lenF <| ea_nil <| rc_min2 <| ea_nil <| rc_max2 <| ea_nil ⟨t, fun i ρ' m' => ∃ s1 s2 s3 s4 s5 s6 s7 s8, ρ' = [some (.f (ns.map .int)), s1, s2, s3, s4, s5, s6, s7, s8], ?_, by omega, ⟨_, _, _, _, _, _, _, _, rfl⟩, ?_, ?_⟩
  · rw [List.length_map]
    exact congrArg (fun z => [Sl.d (.int z)]) et
  · rintro i ρ' m' hi ⟨s1, s2, s3, s4, s5, s6, s7, s8, rfl⟩
    refine wp_seq <| wp_set <| ev_call0 <| ea_cons <| ev_var rfl <| ea_cons <| ev_var rfl <| ea_nil ⟨ns, i, rfl, hl, by omega, fun a u ha hu => ?_⟩
    refine wp_seq <| wp_set <| ev_call0 <| ea_cons <| ev_var rfl <| ea_cons <| ev_int <| ea_nil ⟨a, 100, u, 0, rfl, by decide, by decide, put_same, hu, by decide, fun R C fl u1 hG _ hu1 => ?_⟩
    rw [put_put]
    have v := hG.vf
    have vs := v.rf
    refine wp_seq <| wp_set <| ev_op <| ev_lst <| ea_cons <| ev_call0 <| ea_cons <| ev_var rfl <| ea_cons <| ev_var rfl <| ea_nil ⟨a, fl, u1, _, rfl, v, put_same, hu1, by omega, fun g1 u2 hg1 hu2 => ?_⟩
    rw [put_put]
    refine ea_cons <| ev_var rfl <| ea_nil ⟨[_, _], rfl, by simp, ev_call0 <| ea_cons <| ev_var rfl <| ea_cons <| ev_var rfl <| ea_nil ⟨a, fl, u2, _, rfl, v, put_same, hu2, by omega, fun gs u3 hgl hgs _ => ?_⟩⟩
    rw [put_put]
    refine ra_lst (by simp [hgl]) ?_
    have eg : [flD g1, flD fl] ++ gs.map flD = (g1 :: fl :: gs).map flD := rfl
    have hall : ∀ g ∈ g1 :: fl :: gs, RF g := fun g hg => by
      rcases List.mem_cons.mp hg with e | hg
      · rw [e]; exact hg1
      · rcases List.mem_cons.mp hg with e | hg
        · rw [e]; exact vs
        · exact hgs g hg
    rw [eg]
    generalize g1 :: fl :: gs = all at hall
    generalize put m' a (.lst u3) = m1
    refine wp_forL (toD := flD) <| ei_lst <| ev_var rfl ⟨_, rfl, all, fun _ ρ' m' => ∃ s5 s6 s7 s8, ρ' = [some (.f (ns.map .int)), some (.d (.int (i : Nat))), some (.m a), some (.d (flD fl)), some (.d (.list (all.map flD))), s5, s6, s7, s8] ∧ m' = m1, rfl, ⟨_, _, _, _, rfl, rfl⟩, fun _ _ _ _ => trivial, ?_, ?_⟩
    · rintro j g ρ' m' hg ⟨s5, s6, s7, s8, rfl, rfl⟩
      have vg := hall g (List.mem_of_getElem? hg)
      have nT := nx_told vs vg
      refine wp_seq <| wp_set <| ev_str <| wp_seqJ (fun ρ' m2 => ∃ s7 s8, ρ' = [some (.f (ns.map .int)), some (.d (.int (i : Nat))), some (.m a), some (.d (flD fl)), some (.d (.list (all.map flD))), some (.d (flD g)), some (.d (toldD fl g)), s7, s8] ∧ m2 = m') ?_ ?_
      · refine wp_if <| et_tr <| ev_call0 <| ea_cons <| ev_var rfl <| ea_cons <| ev_var rfl <| ea_nil ⟨fl, g, rfl, vs, vg, _, tr_bool, ite_b (fun h => ?_) (fun h => wp_next ?_)⟩
        · have l1 := vs.most
          have l2 := vs.coln.2
          have x1 := isRe_rows h
          have x2 := isRe_cols h
          refine wp_seq <| wp_set <| ev_call0 <| ea_cons <| ev_var rfl <| ea_nil ⟨fl, rfl, vs, ?_⟩
          refine wp_seq <| wp_set <| ev_call0 <| ea_cons <| ev_var rfl <| ea_nil ⟨g, rfl, vg, ?_⟩
          refine wp_set <| ev_tup <| ea_cons <| ev_cb <| ea_cons <| ev_call0 <| ea_cons <| ev_op <| ev_var rfl <| ev_int <| rx_tup atI_zero <| ea_cons <| ev_op <| ev_var rfl <| ev_int <| rx_tup atI_zero <| ea_nil ⟨ringS fl, ringS g, rfl, by rw [ringS_len, ringS_len, x1], by rw [ringS_len]; omega, ea_nil <| rc_tupleL ?_⟩
          refine ea_cons <| ev_cb <| ea_cons <| ev_call0 <| ea_cons <| ev_op <| ev_var rfl <| ev_int <| rx_tup (atI_nat' (k := 1) rfl rfl) <| ea_cons <| ev_op <| ev_var rfl <| ev_int <| rx_tup (atI_nat' (k := 1) rfl rfl) <| ea_nil ⟨ringS (colsL fl), ringS (colsL g), rfl, by rw [ringS_len, ringS_len, x2], by rw [ringS_len]; omega, ea_nil <| rc_tupleL <| ea_nil ⟨[_, _], rfl, by simp, some (.d (.tuple [ringL fl, ringL (colsL fl)])), some (.d (.tuple [ringL g, ringL (colsL g)])), ?_, rfl⟩⟩
          have e : toldD fl g = .tuple [alsD (ringS fl) (ringS g), alsD (ringS (colsL fl)) (ringS (colsL g))] := if_pos h
          rw [e]
          rfl
        · have e : toldD fl g = .str "not rearranged" := if_neg (by rw [h]; exact Bool.false_ne_true)
          exact ⟨s7, s8, by rw [e]; rfl, rfl⟩
      · rintro ρ' m2 ⟨s7, s8, rfl, rfl⟩
        refine wp_seq <| wp_if <| et_or <| et_test <| ev_op <| ev_cb <| ea_cons <| ev_call0 <| ea_cons <| ev_var rfl <| ea_cons <| ev_var rfl <| ea_nil ⟨fl, g, rfl, vs, vg, ea_nil <| rc_repr nT.sh nT.hd (nT.shaped (by decide)) (nT.len (by decide)) <| ev_cb <| ea_cons <| ev_var rfl <| ea_nil <| rc_repr nT.sh nT.hd (nT.shaped (by decide)) (nT.len (by decide)) <| re_neS ⟨_, rfl, ite_b (fun q => by simp at q) (fun _ => ?_)⟩⟩
        refine et_test <| ev_op <| ev_cb <| ea_cons <| ev_call0 <| ea_cons <| ev_var rfl <| ea_cons <| ev_var rfl <| ea_nil ⟨fl, g, rfl, vs, vg, ea_nil <| rc_repr nT.sh nT.hd (nT.shaped (by decide)) (nT.len (by decide)) <| ev_cb <| ea_cons <| ev_var rfl <| ea_nil <| rc_repr nT.sh nT.hd (nT.shaped (by decide)) (nT.len (by decide)) <| re_neS ⟨_, rfl, ite_b (fun q => by simp at q) (fun _ => wp_next ?_)⟩⟩
        refine wp_if <| et_test <| ev_op <| ev_call0 <| ea_cons <| ev_var rfl <| ea_cons <| ev_var rfl <| ea_nil ⟨fl, g, rfl, vs, vg, ev_op <| ev_var rfl <| ev_str <| re_eq (nT.shaped (by decide)) (nx_nr (k := 0) |>.shaped (by decide)) <| re_ne rfl rfl ⟨_, rfl, ite_b (fun q => ?_) (fun _ => wp_next ⟨_, _, _, _, rfl, rfl⟩)⟩⟩
        rw [told_nr] at q
        simp [PyData.eqv] at q
    · rintro ρ' m' ⟨s5, s6, s7, s8, rfl, rfl⟩
      exact ⟨_, _, _, _, _, _, _, _, rfl⟩
  · rintro ρ' m' ⟨s1, s2, s3, s4, s5, s6, s7, s8, rfl⟩
    exact wp_ret <| ev_bl <| p _
end
end Dv

namespace Dv
open PySem L2 PyProof.Rows
/-! ### the text by places -/
def topS (i : Nat) : Stmt := PySem.Challenge.pw_crossfloor_k12_alignments.main.body.getD i (.Pass ⟨0, 0, 0, 0⟩)
structure Bi (mg : Str → Option Value) : Prop where
  len : mg "len" = none
  min : mg "min" = none
  max : mg "max" = none
  sorted : mg "sorted" = none
  repr : mg "repr" = none
  int : mg "int" = none
  list : mg "list" = none
  tuple : mg "tuple" = none
  range : mg "range" = none
  isinstance : mg "isinstance" = none
  zip : mg "zip" = none
structure Cn (mg : Str → Option Value) : Prop where
  GAP : ∃ u, mg "GAP" = some u ∧ L2.RelV (.str "") u
section
variable {Pg : Program} {w : World} {K : PySem.W.Frag} {mg : Str → Option Value} {base : Heap}
abbrev s_columns_of : Stmt := topS 8
theorem sc_columns_of : FnScope ["floor"] ["floor"] (defScope s_columns_of) := ⟨rfl, rfl, rfl, by decide +kernel, rfl, by decide +kernel, by decide +kernel⟩
theorem d_columns_of (A : FunAt K mg "columns_of" s_columns_of ["floor"]) (B : Bi mg) (C : Cn mg) : Dfn Pg w K mg base 1 "columns_of" ["floor"] W_columns_ofR := by
  refine dfn_mk (k := 0) A sc_columns_of (fun ss m P h => by obtain ⟨_, e, _⟩ := h; rw [e]; rfl) (fun f cdv A outer s H E hg hr => ?_) (rd_columns_ofR (Pg := Pg) (w := w))
  have nd := sc_columns_of.nd
  unfold t_columns_of
  exact (pss_one (ps_ret (pe_zipT rfl (by rfl) B.tuple (by rfl) B.zip (pv 0))))
abbrev s_ring_of : Stmt := topS 9
theorem sc_ring_of : FnScope ["lines", "line"] ["lines"] (defScope s_ring_of) := ⟨rfl, rfl, rfl, by decide +kernel, rfl, by decide +kernel, by decide +kernel⟩
theorem d_ring_of (A : FunAt K mg "ring_of" s_ring_of ["lines"]) (B : Bi mg) (C : Cn mg) : Dfn Pg w K mg base 1 "ring_of" ["lines"] W_ring_of := by
  refine dfn_mk (k := 0) A sc_ring_of (fun ss m P h => by obtain ⟨_, e, _⟩ := h; rw [e]; rfl) (fun f cdv A outer s H E hg hr => ?_) (rd_ring_of (Pg := Pg) (w := w))
  have nd := sc_ring_of.nd
  unfold t_ring_of
  exact (pss_one (ps_ret (pe_op op_addU (pe_tupZ (pa_cons (pe_cn C.GAP) pa_nil)) (pe_callTy call_tupleZ (by rfl) B.tuple (by decide +kernel) (pa_cons (pe_lc (own := [("line", 1)]) (g := (gName 1)) (tt := tYes) rfl nd (pi_seqU (pv 0)) (blkOk_by (N := ["lines", "line"]) (sc := defScope s_ring_of) (by decide +kernel)) (fun _ _ _ _ _ => (pg_nameA 1 nd)) (fun _ _ _ _ _ => pts_nil) (fun _ _ _ _ _ => (pe_callB (call_minA rfl (hu30 hr)) (by rfl) B.min (by decide +kernel) (pa_cons (pv 1) pa_nil)))) pa_nil)))))
abbrev s_groups_of : Stmt := topS 13
theorem sc_groups_of : FnScope ["lines", "line"] ["lines"] (defScope s_groups_of) := ⟨rfl, rfl, rfl, by decide +kernel, rfl, by decide +kernel, by decide +kernel⟩
theorem d_groups_of (A : FunAt K mg "groups_of" s_groups_of ["lines"]) (B : Bi mg) (C : Cn mg) : Dfn Pg w K mg base 1 "groups_of" ["lines"] W_groups_of := by
  refine dfn_mk (k := 0) A sc_groups_of (fun ss m P h => by obtain ⟨_, e, _⟩ := h; rw [e]; rfl) (fun f cdv A outer s H E hg hr => ?_) (rd_groups_of (Pg := Pg) (w := w))
  have nd := sc_groups_of.nd
  unfold t_groups_of
  exact (pss_one (ps_ret (pe_callB (cr_sortD (hu30 hr)) (by rfl) B.sorted (by decide +kernel) (pa_cons (pe_lc (own := [("line", 1)]) (g := (gName 1)) (tt := tYes) rfl nd (pi_seqU (pv 0)) (blkOk_by (N := ["lines", "line"]) (sc := defScope s_groups_of) (by decide +kernel)) (fun _ _ _ _ _ => (pg_nameA 1 nd)) (fun _ _ _ _ _ => pts_nil) (fun _ _ _ _ _ => (pe_callB (cr_sortD (hu30 hr)) (by rfl) B.sorted (by decide +kernel) (pa_cons (pv 1) pa_nil)))) pa_nil))))
abbrev s_align : Stmt := topS 16
theorem sc_align : FnScope ["source", "target", "offset", "turned"] ["source", "target", "offset"] (defScope s_align) := ⟨rfl, rfl, rfl, by decide +kernel, rfl, by decide +kernel, by decide +kernel⟩
theorem d_align (A : FunAt K mg "align" s_align ["source", "target", "offset"]) (B : Bi mg) (C : Cn mg) : Dfn Pg w K mg base 1 "align" ["source", "target", "offset"] W_align := by
  refine dfn_mk (k := 0) A sc_align (fun ss m P h => by obtain ⟨_, _, _, e, _⟩ := h; rw [e]; rfl) (fun f cdv A outer s H E hg hr => ?_) (rd_align (Pg := Pg) (w := w))
  have nd := sc_align.nd
  unfold t_align
  exact (pss_cons (ps_setA 3 nd (pe_op op_addU (pe_slice sl_U (pv 1) (po_some (pv 2)) po_none) (pe_slice sl_U (pv 1) po_none (po_some (pv 2)))))
      (pss_one (ps_ret (pe_callTy call_tupleZ (by rfl) B.tuple (by decide +kernel) (pa_cons (pe_sortZ rfl (hu30 hr) (by rfl) B.sorted (by rfl) B.zip (pa_cons (pv 0) (pa_cons (pv 3) pa_nil))) pa_nil)))))
abbrev s_source : Stmt := topS 21
theorem sc_source : FnScope ["script", "index", "cell"] ["script", "index"] (defScope s_source) := ⟨rfl, rfl, rfl, by decide +kernel, rfl, by decide +kernel, by decide +kernel⟩
theorem d_source (A : FunAt K mg "_law_source" s_source ["script", "index"]) (B : Bi mg) (C : Cn mg) : Dfn Pg w K mg base 1 "_law_source" ["script", "index"] W_source := by
  refine dfn_mk (k := 0) A sc_source (fun ss m P h => by obtain ⟨_, _, e, _⟩ := h; rw [e]; rfl) (fun f cdv A outer s H E hg hr => ?_) (rd_source (Pg := Pg) (w := w))
  have nd := sc_source.nd
  unfold t_source
  exact (pss_cons (ps_setA 2 nd pe_int)
      (pss_cons (ps_if (pt_cmpR op_lt (pv 1) (pe_callB call_len (by rfl) B.len PySem.boot_len (pa_cons (pv 0) pa_nil)) (nomark _))
      (pss_one (ps_setA 2 nd (pe_ix ix_seq (pv 0) (pv 1) (fun _ _ => rfl))))
      pss_nil)
      (pss_one (ps_ret (pe_lst (pa_cons (pe_callB (call_max2 rfl) (by rfl) B.max (by decide +kernel) (pa_cons pe_int (pa_cons (pe_op op_sub (pv 2) (pe_op op_powW pe_int pe_int)) pa_nil))) (pa_cons (pe_op op_addU (pe_op op_mod (pv 2) (pe_op op_addU (pe_op op_powW pe_int pe_int) pe_int)) (pe_op op_mulU pe_int (pv 1))) (pa_cons pe_int pa_nil))))))))
abbrev s_draw : Stmt := topS 22
theorem sc_draw : FnScope ["source", "bound", "digit", "mixed"] ["source", "bound"] (defScope s_draw) := ⟨rfl, rfl, rfl, by decide +kernel, rfl, by decide +kernel, by decide +kernel⟩
theorem d_draw (A : FunAt K mg "_law_draw" s_draw ["source", "bound"]) (B : Bi mg) (C : Cn mg) : Dfn Pg w K mg base 1 "_law_draw" ["source", "bound"] W_draw := by
  refine dfn_mk (k := 0) A sc_draw (fun ss m P h => by obtain ⟨_, _, _, _, e, _⟩ := h; rw [e]; rfl) (fun f cdv A outer s H E hg hr => ?_) (rd_draw (Pg := Pg) (w := w))
  have nd := sc_draw.nd
  unfold t_draw
  exact (pss_cons (ps_if (pt_cmpR op_gt (pe_ix ix_seq (pv 0) pe_int (fun _ _ => rfl)) pe_int (nomark _))
      (pss_cons (ps_setA 2 nd (pe_op op_mod (pe_ix ix_seq (pv 0) pe_int (fun _ _ => rfl)) (pv 1)))
      (pss_cons (ps_asg (pe_op op_fdivW (pe_ix ix_seq (pv 0) pe_int (fun _ _ => rfl)) (pv 1)) (pg_sub (pv 0) pe_int set_list))
      (pss_one (ps_ret (pv 2)))))
      pss_nil)
      (pss_cons (ps_asg (pe_op op_addU (pe_ix ix_seq (pv 0) pe_int (fun _ _ => rfl)) pe_int) (pg_sub (pv 0) pe_int set_list))
      (pss_cons (ps_setA 3 nd (pe_op op_mod (pe_op op_powW (pe_op op_addU (pe_ix ix_seq (pv 0) pe_int (fun _ _ => rfl)) (pe_op op_mulU pe_int (pe_ix ix_seq (pv 0) pe_int (fun _ _ => rfl)))) pe_int) (pe_op op_addU (pe_op op_powW pe_int pe_int) pe_int)))
      (pss_cons (ps_setA 3 nd (pe_op op_mod (pe_op op_powW (pe_op op_addU (pv 3) (pe_op op_mulU pe_int (pe_ix ix_seq (pv 0) pe_int (fun _ _ => rfl)))) pe_int) (pe_op op_addU (pe_op op_powW pe_int pe_int) pe_int)))
      (pss_one (ps_ret (pe_op op_mod (pe_op op_fdivW (pv 3) pe_int) (pv 1))))))))
abbrev s_name : Stmt := topS 24
theorem sc_name : FnScope ["style", "shift", "number", "letters", "first", "second", "names"] ["style", "shift", "number"] (defScope s_name) := ⟨rfl, rfl, rfl, by decide +kernel, rfl, by decide +kernel, by decide +kernel⟩
theorem d_name (A : FunAt K mg "_law_name" s_name ["style", "shift", "number"]) (B : Bi mg) (C : Cn mg) : Dfn Pg w K mg base 1 "_law_name" ["style", "shift", "number"] W_name := by
  refine dfn_mk (k := 0) A sc_name (fun ss m P h => by obtain ⟨_, _, _, e, _⟩ := h; rw [e]; rfl) (fun f cdv A outer s H E hg hr => ?_) (rd_name (Pg := Pg) (w := w))
  have nd := sc_name.nd
  unfold t_name
  exact (pss_cons (ps_setA 3 nd pe_str)
      (pss_cons (ps_setA 4 nd (pe_ix ix_seq (pv 3) (pe_op op_mod (pe_op op_addU (pv 2) (pv 1)) pe_int) (fun _ _ => rfl)))
      (pss_cons (ps_setA 5 nd (pe_ix ix_seq (pv 3) (pe_op op_mod (pe_op op_addU (pe_op op_fdivW (pv 2) pe_int) (pe_op op_mulU pe_int (pv 1))) pe_int) (fun _ _ => rfl)))
      (pss_cons (ps_setA 6 nd (pe_lst (pa_cons (pe_op op_addU (pv 4) (pe_op op_mulU (pv 5) (pe_callTy call_int1 (by rfl) B.int (by decide +kernel) (pa_cons (pe_cmpR op_gt (pv 2) pe_int (nomark _)) pa_nil)))) (pa_cons (pe_op op_addU (pv 5) (pv 4)) (pa_cons (pe_op op_addU (pe_op op_addU pe_str (pv 5)) (pv 4)) (pa_cons (pe_op op_addU (pe_op op_addU (pv 4) (pv 5)) pe_str) pa_nil))))))
      (pss_cons (ps_setA 6 nd (pe_op op_addU (pv 6) (pe_lst (pa_cons (pe_op op_addU (pe_op op_addU (pv 4) (pv 5)) (pe_op op_mulU (pv 5) (pe_op op_mod (pv 2) pe_int))) (pa_cons (pe_op op_addU (pe_op op_addU (pv 5) (pv 4)) pe_str) pa_nil)))))
      (pss_one (ps_ret (pe_ix ix_seq (pv 6) (pv 0) (fun _ _ => rfl)))))))))
abbrev s_columns : Stmt := topS 28
theorem sc_columns : FnScope ["floor", "column", "cells"] ["floor"] (defScope s_columns) := ⟨rfl, rfl, rfl, by decide +kernel, rfl, by decide +kernel, by decide +kernel⟩
theorem d_columns (A : FunAt K mg "_law_columns" s_columns ["floor"]) (B : Bi mg) (C : Cn mg) : Dfn Pg w K mg base 1 "_law_columns" ["floor"] W_columnsR := by
  refine dfn_mk (k := 0) A sc_columns (fun ss m P h => by obtain ⟨_, e, _⟩ := h; rw [e]; rfl) (fun f cdv A outer s H E hg hr => ?_) (rd_columnsR (Pg := Pg) (w := w))
  have nd := sc_columns.nd
  unfold t_columns
  exact (pss_one (ps_ret (pe_lc (own := [("column", 1)]) (g := (gName 1)) (tt := tYes) rfl nd (pi_range1 (by rfl) B.range (pa_cons (pe_callB call_len (by rfl) B.len PySem.boot_len (pa_cons (pe_ix ix_seq (pv 0) pe_int (fun _ _ => rfl)) pa_nil)) pa_nil)) (blkOk_by (N := ["floor", "column", "cells"]) (sc := defScope s_columns) (by decide +kernel)) (fun _ _ _ _ _ => (pg_nameA 1 nd)) (fun _ _ _ _ _ => pts_nil) (fun _ _ _ _ _ => (pe_lc (own := [("cells", 2)]) (g := (gName 2)) (tt := tYes) rfl nd (pi_seqU (pv 0)) (blkOk_by (by rfl)) (fun _ _ _ _ _ => (pg_nameA 2 nd)) (fun _ _ _ _ _ => pts_nil) (fun _ _ _ _ _ => (pe_ix ix_seq (pv 2) (pv 1) (fun _ _ => rfl))))))))
abbrev s_labels : Stmt := topS 29
theorem sc_labels : FnScope ["lines", "line"] ["lines"] (defScope s_labels) := ⟨rfl, rfl, rfl, by decide +kernel, rfl, by decide +kernel, by decide +kernel⟩
theorem d_labels (A : FunAt K mg "_law_labels" s_labels ["lines"]) (B : Bi mg) (C : Cn mg) : Dfn Pg w K mg base 1 "_law_labels" ["lines"] W_labels := by
  refine dfn_mk (k := 0) A sc_labels (fun ss m P h => by obtain ⟨_, _, e, _⟩ := h; rw [e]; rfl) (fun f cdv A outer s H E hg hr => ?_) (rd_labels (Pg := Pg) (w := w))
  have nd := sc_labels.nd
  unfold t_labels
  exact (pss_one (ps_ret (pe_lc (own := [("line", 1)]) (g := (gName 1)) (tt := tYes) rfl nd (pi_seqU (pv 0)) (blkOk_by (N := ["lines", "line"]) (sc := defScope s_labels) (by decide +kernel)) (fun _ _ _ _ _ => (pg_nameA 1 nd)) (fun _ _ _ _ _ => pts_nil) (fun _ _ _ _ _ => (pe_ix ix_seq (pe_callB (cr_sortD (hu30 hr)) (by rfl) B.sorted (by decide +kernel) (pa_cons (pv 1) pa_nil)) pe_int (fun _ _ => rfl))))))
abbrev s_alignments : Stmt := topS 30
theorem sc_alignments : FnScope ["start", "goal", "size", "found", "offset", "pairs", "index"] ["start", "goal"] (defScope s_alignments) := ⟨rfl, rfl, rfl, by decide +kernel, rfl, by decide +kernel, by decide +kernel⟩
theorem d_alignments (A : FunAt K mg "_law_alignments" s_alignments ["start", "goal"]) (B : Bi mg) (C : Cn mg) : Dfn Pg w K mg base 1 "_law_alignments" ["start", "goal"] W_alignments := by
  refine dfn_mk (k := 0) A sc_alignments (fun ss m P h => by obtain ⟨_, _, e, _⟩ := h; rw [e]; rfl) (fun f cdv A outer s H E hg hr => ?_) (rd_alignments (Pg := Pg) (w := w))
  have nd := sc_alignments.nd
  unfold t_alignments
  exact (pss_cons (ps_setA 2 nd (pe_callB call_len (by rfl) B.len PySem.boot_len (pa_cons (pv 0) pa_nil)))
      (pss_cons (ps_setA 3 nd (pe_lst pa_nil))
      (pss_cons (ps_for PassesOwn.never rfl (pi_range1 (by rfl) B.range (pa_cons (pv 2) pa_nil)) (pg_nameA 4 nd)
      (pss_cons (ps_setLc (i := 5) (own := [("index", 6)]) (g := (gName 6)) (tt := tYes) rfl nd rfl rfl (sw_true rfl rfl rfl (by decide +kernel)) (pi_range1 (by rfl) B.range (pa_cons (pv 2) pa_nil)) (blkOk_by (N := ["start", "goal", "size", "found", "offset", "pairs", "index"]) (sc := defScope s_alignments) (by decide +kernel)) (fun _ _ _ _ _ => (pg_nameA 6 nd)) (fun _ _ _ _ _ => pts_nil) (fun _ _ _ _ _ => (pe_tupZ (pa_cons (pe_ix ix_seq (pv 0) (pv 6) (fun _ _ => rfl)) (pa_cons (pe_ix ix_seq (pv 1) (pe_op op_mod (pe_op op_addU (pv 6) (pv 4)) (pv 2)) (fun _ _ => rfl)) pa_nil)))))
      (pss_one (ps_expr (pe_bm PySem.F.plainAttrs_list PySem.F.slot_list_append PySem.F.type_list_append mt_append (pv 3) (pa_cons (pe_callTy call_tupleZ (by rfl) B.tuple (by decide +kernel) (pa_cons (pe_callB (cr_sortD (hu30 hr)) (by rfl) B.sorted (by decide +kernel) (pa_cons (pv 5) pa_nil)) pa_nil)) pa_nil))))))
      (pss_one (ps_ret (pv 3))))))
abbrev s_row_ring : Stmt := topS 10
theorem sc_row_ring : FnScope ["floor"] ["floor"] (defScope s_row_ring) := ⟨rfl, rfl, rfl, by decide +kernel, rfl, by decide +kernel, by decide +kernel⟩
theorem d_row_ring (A : FunAt K mg "row_ring" s_row_ring ["floor"]) (B : Bi mg) (C : Cn mg) (D_ring_of : Dfn Pg w K mg base 1 "ring_of" ["lines"] W_ring_of) : Dfn Pg w K mg base 2 "row_ring" ["floor"] W_row_ringR := by
  refine dfn_mk (k := 1) A sc_row_ring (fun ss m P h => by obtain ⟨_, e, _⟩ := h; rw [e]; rfl) (fun f cdv A outer s H E hg hr => ?_) (rd_row_ringR (Pg := Pg) (w := w))
  have nd := sc_row_ring.nd
  unfold t_row_ring
  exact (pss_one (ps_ret (pe_fn D_ring_of hg hr (by decide) rfl (pa_cons (pv 0) pa_nil))))
abbrev s_column_ring : Stmt := topS 11
theorem sc_column_ring : FnScope ["floor"] ["floor"] (defScope s_column_ring) := ⟨rfl, rfl, rfl, by decide +kernel, rfl, by decide +kernel, by decide +kernel⟩
theorem d_column_ring (A : FunAt K mg "column_ring" s_column_ring ["floor"]) (B : Bi mg) (C : Cn mg) (D_ring_of : Dfn Pg w K mg base 1 "ring_of" ["lines"] W_ring_of) (D_columns_of : Dfn Pg w K mg base 1 "columns_of" ["floor"] W_columns_ofR) : Dfn Pg w K mg base 2 "column_ring" ["floor"] W_column_ringR := by
  refine dfn_mk (k := 1) A sc_column_ring (fun ss m P h => by obtain ⟨_, e, _⟩ := h; rw [e]; rfl) (fun f cdv A outer s H E hg hr => ?_) (rd_column_ringR (Pg := Pg) (w := w))
  have nd := sc_column_ring.nd
  unfold t_column_ringR
  exact (pss_one (ps_ret (pe_fn D_ring_of hg hr (by decide) rfl (pa_cons (pe_fn D_columns_of hg hr (by decide) rfl (pa_cons (pv 0) pa_nil)) pa_nil))))
abbrev s_is_rearrangement : Stmt := topS 14
theorem sc_is_rearrangement : FnScope ["start", "goal"] ["start", "goal"] (defScope s_is_rearrangement) := ⟨rfl, rfl, rfl, by decide +kernel, rfl, by decide +kernel, by decide +kernel⟩
theorem d_is_rearrangement (A : FunAt K mg "is_rearrangement" s_is_rearrangement ["start", "goal"]) (B : Bi mg) (C : Cn mg) (D_groups_of : Dfn Pg w K mg base 1 "groups_of" ["lines"] W_groups_of) (D_columns_of : Dfn Pg w K mg base 1 "columns_of" ["floor"] W_columns_ofR) : Dfn Pg w K mg base 2 "is_rearrangement" ["start", "goal"] W_is_rearrangement := by
  refine dfn_mk (k := 1) A sc_is_rearrangement (fun ss m P h => by obtain ⟨_, _, e, _⟩ := h; rw [e]; rfl) (fun f cdv A outer s H E hg hr => ?_) (rd_is_rearrangement (Pg := Pg) (w := w))
  have nd := sc_is_rearrangement.nd
  unfold t_is_rearrangement
  exact (pss_one (ps_ret (L2.pe_and (pe_cmpR (op_eqU (hu64 hr)) (pe_fn D_groups_of hg hr (by decide) rfl (pa_cons (pv 0) pa_nil)) (pe_fn D_groups_of hg hr (by decide) rfl (pa_cons (pv 1) pa_nil)) (nomark _)) (L2.pe_one (pe_cmpR (op_eqU (hu64 hr)) (pe_fn D_groups_of hg hr (by decide) rfl (pa_cons (pe_fn D_columns_of hg hr (by decide) rfl (pa_cons (pv 0) pa_nil)) pa_nil)) (pe_fn D_groups_of hg hr (by decide) rfl (pa_cons (pe_fn D_columns_of hg hr (by decide) rfl (pa_cons (pv 1) pa_nil)) pa_nil)) (nomark _))))))
abbrev s_alignments_of : Stmt := topS 17
theorem sc_alignments_of : FnScope ["source", "target", "offset"] ["source", "target"] (defScope s_alignments_of) := ⟨rfl, rfl, rfl, by decide +kernel, rfl, by decide +kernel, by decide +kernel⟩
theorem d_alignments_of (A : FunAt K mg "alignments_of" s_alignments_of ["source", "target"]) (B : Bi mg) (C : Cn mg) (D_align : Dfn Pg w K mg base 1 "align" ["source", "target", "offset"] W_align) : Dfn Pg w K mg base 2 "alignments_of" ["source", "target"] W_alignments_of := by
  refine dfn_mk (k := 1) A sc_alignments_of (fun ss m P h => by obtain ⟨_, _, e, _⟩ := h; rw [e]; rfl) (fun f cdv A outer s H E hg hr => ?_) (rd_alignments_of (Pg := Pg) (w := w))
  have nd := sc_alignments_of.nd
  unfold t_alignments_of
  exact (pss_one (ps_ret (pe_callTy call_tupleZ (by rfl) B.tuple (by decide +kernel) (pa_cons (pe_lc (own := [("offset", 2)]) (g := (gName 2)) (tt := tYes) rfl nd (pi_range1 (by rfl) B.range (pa_cons (pe_callB call_len (by rfl) B.len PySem.boot_len (pa_cons (pv 0) pa_nil)) pa_nil)) (blkOk_by (N := ["source", "target", "offset"]) (sc := defScope s_alignments_of) (by decide +kernel)) (fun _ _ _ _ _ => (pg_nameA 2 nd)) (fun _ _ _ _ _ => pts_nil) (fun _ _ _ _ _ => (pe_fn D_align hg hr (by decide) rfl (pa_cons (pv 0) (pa_cons (pv 1) (pa_cons (pv 2) pa_nil)))))) pa_nil))))
abbrev s_shuffled : Stmt := topS 23
theorem sc_shuffled : FnScope ["source", "things", "left", "step"] ["source", "things"] (defScope s_shuffled) := ⟨rfl, rfl, rfl, by decide +kernel, rfl, by decide +kernel, by decide +kernel⟩
theorem d_shuffled (A : FunAt K mg "_law_shuffled" s_shuffled ["source", "things"]) (B : Bi mg) (C : Cn mg) (D_draw : Dfn Pg w K mg base 1 "_law_draw" ["source", "bound"] W_draw) : Dfn Pg w K mg base 2 "_law_shuffled" ["source", "things"] W_shuffled := by
  refine dfn_mk (k := 1) A sc_shuffled (fun ss m P h => by obtain ⟨_, _, _, _, e, _⟩ := h; rw [e]; rfl) (fun f cdv A outer s H E hg hr => ?_) (rd_shuffled (Pg := Pg) (w := w))
  have nd := sc_shuffled.nd
  unfold t_shuffled
  exact (pss_cons (ps_setA 2 nd (pe_callTy call_list_of (by rfl) B.list (by decide +kernel) (pa_cons (pv 1) pa_nil)))
      (pss_one (ps_ret (pe_lc (own := [("step", 3)]) (g := (gName 3)) (tt := tYes) rfl nd (pi_range1 (by rfl) B.range (pa_cons (pe_callB call_len (by rfl) B.len PySem.boot_len (pa_cons (pv 2) pa_nil)) pa_nil)) (blkOk_by (N := ["source", "things", "left", "step"]) (sc := defScope s_shuffled) (by decide +kernel)) (fun _ _ _ _ _ => (pg_nameA 3 nd)) (fun _ _ _ _ _ => pts_nil) (fun _ _ _ _ _ => (pe_bm PySem.F.plainAttrs_list PySem.F.slot_list_pop PySem.F.type_list_pop mt_popAt (pv 2) (pa_cons (pe_fn D_draw hg hr (by decide) rfl (pa_cons (pv 0) (pa_cons (pe_callB call_len (by rfl) B.len PySem.boot_len (pa_cons (pv 2) pa_nil)) pa_nil))) pa_nil)))))))
abbrev s_rings : Stmt := topS 31
theorem sc_rings : FnScope ["floor"] ["floor"] (defScope s_rings) := ⟨rfl, rfl, rfl, by decide +kernel, rfl, by decide +kernel, by decide +kernel⟩
theorem d_rings (A : FunAt K mg "_law_rings" s_rings ["floor"]) (B : Bi mg) (C : Cn mg) (D_labels : Dfn Pg w K mg base 1 "_law_labels" ["lines"] W_labels) (D_columns : Dfn Pg w K mg base 1 "_law_columns" ["floor"] W_columnsR) : Dfn Pg w K mg base 2 "_law_rings" ["floor"] W_rings := by
  refine dfn_mk (k := 1) A sc_rings (fun ss m P h => by obtain ⟨_, e, _⟩ := h; rw [e]; rfl) (fun f cdv A outer s H E hg hr => ?_) (rd_rings (Pg := Pg) (w := w))
  have nd := sc_rings.nd
  unfold t_rings
  exact (pss_one (ps_ret (pe_tupZ (pa_cons (pe_op op_addU (pe_lst (pa_cons pe_str pa_nil)) (pe_fn D_labels hg hr (by decide) rfl (pa_cons (pv 0) pa_nil))) (pa_cons (pe_op op_addU (pe_lst (pa_cons pe_str pa_nil)) (pe_fn D_labels hg hr (by decide) rfl (pa_cons (pe_fn D_columns hg hr (by decide) rfl (pa_cons (pv 0) pa_nil)) pa_nil))) pa_nil)))))
abbrev s_same_lines : Stmt := topS 33
theorem sc_same_lines : FnScope ["start", "goal", "here", "line"] ["start", "goal"] (defScope s_same_lines) := ⟨rfl, rfl, rfl, by decide +kernel, rfl, by decide +kernel, by decide +kernel⟩
theorem d_same_lines (A : FunAt K mg "_law_same_lines" s_same_lines ["start", "goal"]) (B : Bi mg) (C : Cn mg) (D_columns : Dfn Pg w K mg base 1 "_law_columns" ["floor"] W_columnsR) : Dfn Pg w K mg base 2 "_law_same_lines" ["start", "goal"] W_same_lines := by
  refine dfn_mk (k := 1) A sc_same_lines (fun ss m P h => by obtain ⟨_, _, e, _⟩ := h; rw [e]; rfl) (fun f cdv A outer s H E hg hr => ?_) (rd_same_lines (Pg := Pg) (w := w))
  have nd := sc_same_lines.nd
  unfold t_same_lines
  exact (pss_cons (ps_if (pt_cmpR (op_neU (hu64 hr)) (pe_callB (cr_sortD (hu30 hr)) (by rfl) B.sorted (by decide +kernel) (pa_cons (pe_lc (own := [("line", 3)]) (g := (gName 3)) (tt := tYes) rfl nd (pi_seqU (pv 0)) (blkOk_by (N := ["start", "goal", "here", "line"]) (sc := defScope s_same_lines) (by decide +kernel)) (fun _ _ _ _ _ => (pg_nameA 3 nd)) (fun _ _ _ _ _ => pts_nil) (fun _ _ _ _ _ => (pe_callB (cr_sortD (hu30 hr)) (by rfl) B.sorted (by decide +kernel) (pa_cons (pv 3) pa_nil)))) pa_nil)) (pe_callB (cr_sortD (hu30 hr)) (by rfl) B.sorted (by decide +kernel) (pa_cons (pe_lc (own := [("line", 3)]) (g := (gName 3)) (tt := tYes) rfl nd (pi_seqU (pv 1)) (blkOk_by (N := ["start", "goal", "here", "line"]) (sc := defScope s_same_lines) (by decide +kernel)) (fun _ _ _ _ _ => (pg_nameA 3 nd)) (fun _ _ _ _ _ => pts_nil) (fun _ _ _ _ _ => (pe_callB (cr_sortD (hu30 hr)) (by rfl) B.sorted (by decide +kernel) (pa_cons (pv 3) pa_nil)))) pa_nil)) (nomark _))
      (pss_one (ps_ret pe_bl))
      pss_nil)
      (pss_cons (ps_setA 2 nd (pe_callB (cr_sortD (hu30 hr)) (by rfl) B.sorted (by decide +kernel) (pa_cons (pe_lc (own := [("line", 3)]) (g := (gName 3)) (tt := tYes) rfl nd (pi_seqU (pe_fn D_columns hg hr (by decide) rfl (pa_cons (pv 0) pa_nil))) (blkOk_by (N := ["start", "goal", "here", "line"]) (sc := defScope s_same_lines) (by decide +kernel)) (fun _ _ _ _ _ => (pg_nameA 3 nd)) (fun _ _ _ _ _ => pts_nil) (fun _ _ _ _ _ => (pe_callB (cr_sortD (hu30 hr)) (by rfl) B.sorted (by decide +kernel) (pa_cons (pv 3) pa_nil)))) pa_nil)))
      (pss_one (ps_ret (pe_cmpR (op_eqU (hu64 hr)) (pv 2) (pe_callB (cr_sortD (hu30 hr)) (by rfl) B.sorted (by decide +kernel) (pa_cons (pe_lc (own := [("line", 3)]) (g := (gName 3)) (tt := tYes) rfl nd (pi_seqU (pe_fn D_columns hg hr (by decide) rfl (pa_cons (pv 1) pa_nil))) (blkOk_by (N := ["start", "goal", "here", "line"]) (sc := defScope s_same_lines) (by decide +kernel)) (fun _ _ _ _ _ => (pg_nameA 3 nd)) (fun _ _ _ _ _ => pts_nil) (fun _ _ _ _ _ => (pe_callB (cr_sortD (hu30 hr)) (by rfl) B.sorted (by decide +kernel) (pa_cons (pv 3) pa_nil)))) pa_nil)) (nomark _))))))
abbrev s_others : Stmt := topS 36
theorem sc_others : FnScope ["source", "floor", "cells", "line", "first", "second", "changed", "renamed", "width", "found", "names", "row", "name"] ["source", "floor"] (defScope s_others) := ⟨rfl, rfl, rfl, by decide +kernel, rfl, by decide +kernel, by decide +kernel⟩
theorem d_others (A : FunAt K mg "_law_others" s_others ["source", "floor"]) (B : Bi mg) (C : Cn mg) (D_columns : Dfn Pg w K mg base 1 "_law_columns" ["floor"] W_columnsR) (D_draw : Dfn Pg w K mg base 1 "_law_draw" ["source", "bound"] W_draw) : Dfn Pg w K mg base 2 "_law_others" ["source", "floor"] W_others := by
  refine dfn_mk (k := 1) A sc_others (fun ss m P h => by obtain ⟨_, _, _, _, e, _⟩ := h; rw [e]; rfl) (fun f cdv A outer s H E hg hr => ?_) (rd_others (Pg := Pg) (w := w))
  have nd := sc_others.nd
  unfold t_others
  exact (pss_cons (ps_setA 2 nd (pe_lst pa_nil))
      (pss_cons (ps_for PassesOwn.never rfl (pi_seqU (pv 1)) (pg_nameA 3 nd)
      (pss_one (ps_setA 2 nd (pe_op op_addU (pv 2) (pe_callTy call_list_of (by rfl) B.list (by decide +kernel) (pa_cons (pv 3) pa_nil))))))
      (pss_cons (ps_setA 4 nd (pe_fn D_draw hg hr (by decide) rfl (pa_cons (pv 0) (pa_cons (pe_callB call_len (by rfl) B.len PySem.boot_len (pa_cons (pv 2) pa_nil)) pa_nil))))
      (pss_cons (ps_setA 5 nd (pe_fn D_draw hg hr (by decide) rfl (pa_cons (pv 0) (pa_cons (pe_callB call_len (by rfl) B.len PySem.boot_len (pa_cons (pv 2) pa_nil)) pa_nil))))
      (pss_cons (ps_setA 6 nd (pe_callTy call_list_of (by rfl) B.list (by decide +kernel) (pa_cons (pv 2) pa_nil)))
      (pss_cons (ps_asg (pe_tupZ (pa_cons (pe_ix ix_seq (pv 6) (pv 5) (fun _ _ => rfl)) (pa_cons (pe_ix ix_seq (pv 6) (pv 4) (fun _ _ => rfl)) pa_nil))) (pg_tup rfl (pgs_cons (pg_sub (pv 6) (pv 4) set_list) (pgs_cons (pg_sub (pv 6) (pv 5) set_list) pgs_nil))))
      (pss_cons (ps_setA 7 nd (pe_callTy call_list_of (by rfl) B.list (by decide +kernel) (pa_cons (pv 2) pa_nil)))
      (pss_cons (ps_asg pe_str (pg_sub (pv 7) (pv 4) set_list))
      (pss_cons (ps_setA 8 nd (pe_callB call_len (by rfl) B.len PySem.boot_len (pa_cons (pe_ix ix_seq (pv 1) pe_int (fun _ _ => rfl)) pa_nil)))
      (pss_cons (ps_setA 9 nd (pe_lst pa_nil))
      (pss_cons (ps_for PassesOwn.never rfl (pi_seqU (pe_tupZ (pa_cons (pv 6) (pa_cons (pv 7) pa_nil)))) (pg_nameA 10 nd)
      (pss_one (ps_expr (pe_bm PySem.F.plainAttrs_list PySem.F.slot_list_append PySem.F.type_list_append mt_append (pv 9) (pa_cons (pe_callTy call_tupleZ (by rfl) B.tuple (by decide +kernel) (pa_cons (pe_lc (own := [("row", 11)]) (g := (gName 11)) (tt := tYes) rfl nd (pi_range1 (by rfl) B.range (pa_cons (pe_callB call_len (by rfl) B.len PySem.boot_len (pa_cons (pv 1) pa_nil)) pa_nil)) (blkOk_by (N := ["source", "floor", "cells", "line", "first", "second", "changed", "renamed", "width", "found", "names", "row", "name"]) (sc := defScope s_others) (by decide +kernel)) (fun _ _ _ _ _ => (pg_nameA 11 nd)) (fun _ _ _ _ _ => pts_nil) (fun _ _ _ _ _ => (pe_callTy call_tupleZ (by rfl) B.tuple (by decide +kernel) (pa_cons (pe_slice sl_U (pv 10) (po_some (pe_op op_mulU (pv 11) (pv 8))) (po_some (pe_op op_addU (pe_op op_mulU (pv 11) (pv 8)) (pv 8)))) pa_nil)))) pa_nil)) pa_nil)))))
      (pss_cons (ps_expr (pe_bm PySem.F.plainAttrs_list PySem.F.slot_list_append PySem.F.type_list_append mt_append (pv 9) (pa_cons (pe_callTy call_tupleZ (by rfl) B.tuple (by decide +kernel) (pa_cons (pe_lc (own := [("line", 3)]) (g := (gName 3)) (tt := tYes) rfl nd (pi_seqU (pe_fn D_columns hg hr (by decide) rfl (pa_cons (pv 1) pa_nil))) (blkOk_by (N := ["source", "floor", "cells", "line", "first", "second", "changed", "renamed", "width", "found", "names", "row", "name"]) (sc := defScope s_others) (by decide +kernel)) (fun _ _ _ _ _ => (pg_nameA 3 nd)) (fun _ _ _ _ _ => pts_nil) (fun _ _ _ _ _ => (pe_callTy call_tupleZ (by rfl) B.tuple (by decide +kernel) (pa_cons (pv 3) pa_nil)))) pa_nil)) pa_nil)))
      (pss_one (ps_ret (pe_op op_addU (pv 9) (pe_lst (pa_cons (pe_tupZ (pa_cons (pe_callTy call_tupleZ (by rfl) B.tuple (by decide +kernel) (pa_cons (pe_slice sl_U (pv 2) po_none (po_some pe_int)) pa_nil)) pa_nil)) (pa_cons (pe_callTy call_tupleZ (by rfl) B.tuple (by decide +kernel) (pa_cons (pe_lc (own := [("name", 12)]) (g := (gName 12)) (tt := tYes) rfl nd (pi_seqU (pe_slice sl_U (pv 2) po_none (po_some pe_int))) (blkOk_by (N := ["source", "floor", "cells", "line", "first", "second", "changed", "renamed", "width", "found", "names", "row", "name"]) (sc := defScope s_others) (by decide +kernel)) (fun _ _ _ _ _ => (pg_nameA 12 nd)) (fun _ _ _ _ _ => pts_nil) (fun _ _ _ _ _ => (pe_tupZ (pa_cons (pv 12) pa_nil)))) pa_nil)) pa_nil))))))))))))))))))
abbrev s_check_rearrangement : Stmt := topS 15
theorem sc_check_rearrangement : FnScope ["start", "goal"] ["start", "goal"] (defScope s_check_rearrangement) := ⟨rfl, rfl, rfl, by decide +kernel, rfl, by decide +kernel, by decide +kernel⟩
theorem d_check_rearrangement (A : FunAt K mg "check_rearrangement" s_check_rearrangement ["start", "goal"]) (B : Bi mg) (C : Cn mg) {CR : Addr} (R_NotRearranged : ErrN K mg "NotRearranged" CR) (D_is_rearrangement : Dfn Pg w K mg base 2 "is_rearrangement" ["start", "goal"] W_is_rearrangement) : DfnN Pg w K mg base 3 "check_rearrangement" ["start", "goal"] (WN_check_rearrangement CR) := by
  refine dfnN_mk (k := 2) A sc_check_rearrangement (fun ss m P Y h => by obtain ⟨_, _, e, _⟩ := h; rw [e]; rfl) (fun f cdv A outer s H E hg hr => ?_) (rd_check_rearrangement (Pg := Pg) (w := w) CR)
  have nd := sc_check_rearrangement.nd
  have tk : Takes (cxOf (CX Pg w) Pg w K mg base ["start", "goal"] "check_rearrangement" (defScope s_check_rearrangement) f cdv A outer s H E) (fun cls d _ H' => E cls d H') := takes_of rfl rfl rfl rfl
  unfold t_check_rearrangement
  exact (pss_one (ps_if (pt_not (pt_tr (pe_fn D_is_rearrangement hg hr (by decide) rfl (pa_cons (pv 0) (pa_cons (pv 1) pa_nil)))))
      (pss_one (ps_raiseN R_NotRearranged rfl tk (by rfl)))
      pss_nil))
abbrev s_pattern : Stmt := topS 25
theorem sc_pattern : FnScope ["source", "rows", "columns", "way", "cells", "row", "lines", "others", "many", "line", "cell", "index", "column"] ["source", "rows", "columns"] (defScope s_pattern) := ⟨rfl, rfl, rfl, by decide +kernel, rfl, by decide +kernel, by decide +kernel⟩
theorem d_pattern (A : FunAt K mg "_law_pattern" s_pattern ["source", "rows", "columns"]) (B : Bi mg) (C : Cn mg) (D_draw : Dfn Pg w K mg base 1 "_law_draw" ["source", "bound"] W_draw) (D_shuffled : Dfn Pg w K mg base 2 "_law_shuffled" ["source", "things"] W_shuffled) : Dfn Pg w K mg base 3 "_law_pattern" ["source", "rows", "columns"] W_pattern := by
  refine dfn_mk (k := 2) A sc_pattern (fun ss m P h => by obtain ⟨_, _, _, _, _, e, _⟩ := h; rw [e]; rfl) (fun f cdv A outer s H E hg hr => ?_) (rd_pattern (Pg := Pg) (w := w))
  have nd := sc_pattern.nd
  unfold t_pattern
  exact (pss_cons (ps_setA 3 nd (pe_fn D_draw hg hr (by decide) rfl (pa_cons (pv 0) (pa_cons pe_int pa_nil))))
      (pss_cons (ps_setA 4 nd (pe_lst pa_nil))
      (pss_cons (ps_for PassesOwn.never rfl (pi_range1 (by rfl) B.range (pa_cons (pv 1) pa_nil)) (pg_nameA 5 nd)
      (pss_one (ps_setA 4 nd (pe_op op_addU (pv 4) (pe_lc (own := [("column", 12)]) (g := (gName 12)) (tt := tYes) rfl nd (pi_range1 (by rfl) B.range (pa_cons (pv 2) pa_nil)) (blkOk_by (N := ["source", "rows", "columns", "way", "cells", "row", "lines", "others", "many", "line", "cell", "index", "column"]) (sc := defScope s_pattern) (by decide +kernel)) (fun _ _ _ _ _ => (pg_nameA 12 nd)) (fun _ _ _ _ _ => pts_nil) (fun _ _ _ _ _ => (pe_tupZ (pa_cons (pv 5) (pa_cons (pv 12) pa_nil)))))))))
      (pss_cons (ps_if (pt_cmpR op_lt (pv 3) pe_int (nomark _))
      (pss_one (ps_ret (pv 4)))
      pss_nil)
      (pss_cons (ps_if (pt_cmpR (op_eqU (hu64 hr)) (pv 3) pe_int (nomark _))
      (pss_one (ps_ret (pe_lst pa_nil)))
      pss_nil)
      (pss_cons (ps_if (pt_cmpR (op_eqU (hu64 hr)) (pv 3) pe_int (nomark _))
      (pss_one (ps_ret (pe_lst (pa_cons (pe_ix ix_seq (pv 4) (pe_fn D_draw hg hr (by decide) rfl (pa_cons (pv 0) (pa_cons (pe_callB call_len (by rfl) B.len PySem.boot_len (pa_cons (pv 4) pa_nil)) pa_nil))) (fun _ _ => rfl)) pa_nil))))
      pss_nil)
      (pss_cons (ps_if (pt_cmpR (op_eqU (hu64 hr)) (pv 3) pe_int (nomark _))
      (pss_cons (ps_setA 6 nd (pe_fn D_shuffled hg hr (by decide) rfl (pa_cons (pv 0) (pa_cons (pe_listRg rfl (by rfl) B.list (prg_1 (by rfl) B.range (pv 1))) pa_nil))))
      (pss_cons (ps_setA 7 nd (pe_fn D_shuffled hg hr (by decide) rfl (pa_cons (pv 0) (pa_cons (pe_listRg rfl (by rfl) B.list (prg_1 (by rfl) B.range (pv 2))) pa_nil))))
      (pss_cons (ps_setA 8 nd (pe_op op_addU pe_int (pe_fn D_draw hg hr (by decide) rfl (pa_cons (pv 0) (pa_cons (pe_callB (call_minU rfl) (by rfl) B.min (by decide +kernel) (pa_cons (pv 1) (pa_cons (pv 2) pa_nil))) pa_nil)))))
      (pss_one (ps_ret (pe_lc (own := [("index", 11)]) (g := (gName 11)) (tt := tYes) rfl nd (pi_range1 (by rfl) B.range (pa_cons (pv 8) pa_nil)) (blkOk_by (N := ["source", "rows", "columns", "way", "cells", "row", "lines", "others", "many", "line", "cell", "index", "column"]) (sc := defScope s_pattern) (by decide +kernel)) (fun _ _ _ _ _ => (pg_nameA 11 nd)) (fun _ _ _ _ _ => pts_nil) (fun _ _ _ _ _ => (pe_tupZ (pa_cons (pe_ix ix_seq (pv 6) (pv 11) (fun _ _ => rfl)) (pa_cons (pe_ix ix_seq (pv 7) (pv 11) (fun _ _ => rfl)) pa_nil))))))))))
      pss_nil)
      (pss_cons (ps_if (pt_cmpR (op_eqU (hu64 hr)) (pv 3) pe_int (nomark _))
      (pss_cons (ps_setA 9 nd (pe_fn D_draw hg hr (by decide) rfl (pa_cons (pv 0) (pa_cons (pv 1) pa_nil))))
      (pss_one (ps_ret (pe_lc (own := [("cell", 10)]) (g := (gName 10)) (tt := (tTest (tOp (rEqU K) (tOp (rIx K) (tVar 10) (tC (.int 0))) (tVar 9)))) rfl nd (pi_seqU (pv 4)) (blkOk_by (N := ["source", "rows", "columns", "way", "cells", "row", "lines", "others", "many", "line", "cell", "index", "column"]) (sc := defScope s_pattern) (by decide +kernel)) (fun _ _ _ _ _ => (pg_nameA 10 nd)) (fun _ _ _ _ _ => pts_one (pt_cmpR (op_eqU (hu64 hr)) (pe_ix ix_seq (pv 10) pe_int (fun _ _ => rfl)) (pv 9) (nomark _))) (fun _ _ _ _ _ => (pv 10))))))
      pss_nil)
      (pss_cons (ps_if (pt_cmpR (op_eqU (hu64 hr)) (pv 3) pe_int (nomark _))
      (pss_cons (ps_setA 9 nd (pe_fn D_draw hg hr (by decide) rfl (pa_cons (pv 0) (pa_cons (pv 2) pa_nil))))
      (pss_one (ps_ret (pe_lc (own := [("cell", 10)]) (g := (gName 10)) (tt := (tTest (tOp (rEqU K) (tOp (rIx K) (tVar 10) (tC (.int 1))) (tVar 9)))) rfl nd (pi_seqU (pv 4)) (blkOk_by (N := ["source", "rows", "columns", "way", "cells", "row", "lines", "others", "many", "line", "cell", "index", "column"]) (sc := defScope s_pattern) (by decide +kernel)) (fun _ _ _ _ _ => (pg_nameA 10 nd)) (fun _ _ _ _ _ => pts_one (pt_cmpR (op_eqU (hu64 hr)) (pe_ix ix_seq (pv 10) pe_int (fun _ _ => rfl)) (pv 9) (nomark _))) (fun _ _ _ _ _ => (pv 10))))))
      pss_nil)
      (pss_cons (ps_if (pt_cmpR (op_eqU (hu64 hr)) (pv 3) pe_int (nomark _))
      (pss_cons (ps_expr (pe_bm PySem.F.plainAttrs_list PySem.F.slot_list_pop PySem.F.type_list_pop mt_popAt (pv 4) (pa_cons (pe_fn D_draw hg hr (by decide) rfl (pa_cons (pv 0) (pa_cons (pe_callB call_len (by rfl) B.len PySem.boot_len (pa_cons (pv 4) pa_nil)) pa_nil))) pa_nil)))
      (pss_one (ps_ret (pv 4))))
      pss_nil)
      (pss_one (ps_ret (pe_lc (own := [("cell", 10)]) (g := (gName 10)) (tt := (tTest (tOp (rEqU K) (tCall (SpD K W_draw) [] E0 (tCons (tVar 0) (tCons (tC (.int 3)) tNil))) (tC (.int 0))))) rfl nd (pi_seqU (pv 4)) (blkOk_by (N := ["source", "rows", "columns", "way", "cells", "row", "lines", "others", "many", "line", "cell", "index", "column"]) (sc := defScope s_pattern) (by decide +kernel)) (fun _ _ _ _ _ => (pg_nameA 10 nd)) (fun _ _ _ _ _ => pts_one (pt_cmpR (op_eqU (hu64 hr)) (pe_fn D_draw hg hr (by decide) rfl (pa_cons (pv 0) (pa_cons pe_int pa_nil))) pe_int (nomark _))) (fun _ _ _ _ _ => (pv 10)))))))))))))))
abbrev s_rearranged : Stmt := topS 32
theorem sc_rearranged : FnScope ["source", "floor", "way", "rows", "columns", "first", "second", "row", "column"] ["source", "floor"] (defScope s_rearranged) := ⟨rfl, rfl, rfl, by decide +kernel, rfl, by decide +kernel, by decide +kernel⟩
theorem d_rearranged (A : FunAt K mg "_law_rearranged" s_rearranged ["source", "floor"]) (B : Bi mg) (C : Cn mg) (D_draw : Dfn Pg w K mg base 1 "_law_draw" ["source", "bound"] W_draw) (D_shuffled : Dfn Pg w K mg base 2 "_law_shuffled" ["source", "things"] W_shuffled) : Dfn Pg w K mg base 3 "_law_rearranged" ["source", "floor"] W_rearranged := by
  refine dfn_mk (k := 2) A sc_rearranged (fun ss m P h => by obtain ⟨_, _, _, _, e, _⟩ := h; rw [e]; rfl) (fun f cdv A outer s H E hg hr => ?_) (rd_rearranged (Pg := Pg) (w := w))
  have nd := sc_rearranged.nd
  unfold t_rearranged
  exact (pss_cons (ps_setA 2 nd (pe_fn D_draw hg hr (by decide) rfl (pa_cons (pv 0) (pa_cons pe_int pa_nil))))
      (pss_cons (ps_setA 3 nd (pe_listRg rfl (by rfl) B.list (prg_1 (by rfl) B.range (pe_callB call_len (by rfl) B.len PySem.boot_len (pa_cons (pv 1) pa_nil)))))
      (pss_cons (ps_setA 4 nd (pe_listRg rfl (by rfl) B.list (prg_1 (by rfl) B.range (pe_callB call_len (by rfl) B.len PySem.boot_len (pa_cons (pe_ix ix_seq (pv 1) pe_int (fun _ _ => rfl)) pa_nil)))))
      (pss_cons (ps_if (pt_cmpR op_lt (pv 2) pe_int (nomark _))
      (pss_cons (ps_setA 3 nd (pe_fn D_shuffled hg hr (by decide) rfl (pa_cons (pv 0) (pa_cons (pv 3) pa_nil))))
      (pss_one (ps_setA 4 nd (pe_fn D_shuffled hg hr (by decide) rfl (pa_cons (pv 0) (pa_cons (pv 4) pa_nil))))))
      pss_nil)
      (pss_cons (ps_if (pt_cmpR (op_eqU (hu64 hr)) (pv 2) pe_int (nomark _))
      (pss_one (ps_setA 3 nd (pe_fn D_shuffled hg hr (by decide) rfl (pa_cons (pv 0) (pa_cons (pv 3) pa_nil)))))
      pss_nil)
      (pss_cons (ps_if (pt_cmpR (op_eqU (hu64 hr)) (pv 2) pe_int (nomark _))
      (pss_cons (ps_setA 5 nd (pe_fn D_draw hg hr (by decide) rfl (pa_cons (pv 0) (pa_cons (pe_callB call_len (by rfl) B.len PySem.boot_len (pa_cons (pv 3) pa_nil)) pa_nil))))
      (pss_cons (ps_setA 6 nd (pe_fn D_draw hg hr (by decide) rfl (pa_cons (pv 0) (pa_cons (pe_callB call_len (by rfl) B.len PySem.boot_len (pa_cons (pv 4) pa_nil)) pa_nil))))
      (pss_cons (ps_asg (pe_tupZ (pa_cons (pe_ix ix_seq (pv 3) (pv 5) (fun _ _ => rfl)) (pa_cons (pe_ix ix_seq (pv 3) pe_int (fun _ _ => rfl)) pa_nil))) (pg_tup rfl (pgs_cons (pg_sub (pv 3) pe_int set_list) (pgs_cons (pg_sub (pv 3) (pv 5) set_list) pgs_nil))))
      (pss_one (ps_asg (pe_tupZ (pa_cons (pe_ix ix_seq (pv 4) (pv 6) (fun _ _ => rfl)) (pa_cons (pe_ix ix_seq (pv 4) pe_int (fun _ _ => rfl)) pa_nil))) (pg_tup rfl (pgs_cons (pg_sub (pv 4) pe_int set_list) (pgs_cons (pg_sub (pv 4) (pv 6) set_list) pgs_nil))))))))
      pss_nil)
      (pss_one (ps_ret (pe_callTy call_tupleZ (by rfl) B.tuple (by decide +kernel) (pa_cons (pe_lc (own := [("row", 7)]) (g := (gName 7)) (tt := tYes) rfl nd (pi_seqU (pv 3)) (blkOk_by (N := ["source", "floor", "way", "rows", "columns", "first", "second", "row", "column"]) (sc := defScope s_rearranged) (by decide +kernel)) (fun _ _ _ _ _ => (pg_nameA 7 nd)) (fun _ _ _ _ _ => pts_nil) (fun _ _ _ _ _ => (pe_callTy call_tupleZ (by rfl) B.tuple (by decide +kernel) (pa_cons (pe_lc (own := [("column", 8)]) (g := (gName 8)) (tt := tYes) rfl nd (pi_seqU (pv 4)) (blkOk_by (by rfl)) (fun _ _ _ _ _ => (pg_nameA 8 nd)) (fun _ _ _ _ _ => pts_nil) (fun _ _ _ _ _ => (pe_ix ix_seq (pe_ix ix_seq (pv 1) (pv 7) (fun _ _ => rfl)) (pv 8) (fun _ _ => rfl)))) pa_nil)))) pa_nil))))))))))
abbrev s_row_alignments : Stmt := topS 18
theorem sc_row_alignments : FnScope ["start", "goal"] ["start", "goal"] (defScope s_row_alignments) := ⟨rfl, rfl, rfl, by decide +kernel, rfl, by decide +kernel, by decide +kernel⟩
theorem d_row_alignments (A : FunAt K mg "row_alignments" s_row_alignments ["start", "goal"]) (B : Bi mg) (C : Cn mg) {CR : Addr} (R_NotRearranged : ErrN K mg "NotRearranged" CR) (D_alignments_of : Dfn Pg w K mg base 2 "alignments_of" ["source", "target"] W_alignments_of) (D_row_ring : Dfn Pg w K mg base 2 "row_ring" ["floor"] W_row_ringR) (D_check_rearrangement : DfnN Pg w K mg base 3 "check_rearrangement" ["start", "goal"] (WN_check_rearrangement CR)) : DfnN Pg w K mg base 4 "row_alignments" ["start", "goal"] (WN_row_alignments CR) := by
  refine dfnN_mk (k := 3) A sc_row_alignments (fun ss m P Y h => by obtain ⟨_, _, e, _⟩ := h; rw [e]; rfl) (fun f cdv A outer s H E hg hr => ?_) (rd_row_alignments (Pg := Pg) (w := w) CR)
  have nd := sc_row_alignments.nd
  have tk : Takes (cxOf (CX Pg w) Pg w K mg base ["start", "goal"] "row_alignments" (defScope s_row_alignments) f cdv A outer s H E) (fun cls d _ H' => E cls d H') := takes_of rfl rfl rfl rfl
  unfold t_row_alignments
  exact (pss_cons (ps_expr (pe_fnN D_check_rearrangement tk hg hr (by decide) rfl (pa_cons (pv 0) (pa_cons (pv 1) pa_nil))))
      (pss_one (ps_ret (pe_fn D_alignments_of hg hr (by decide) rfl (pa_cons (pe_fn D_row_ring hg hr (by decide) rfl (pa_cons (pv 0) pa_nil)) (pa_cons (pe_fn D_row_ring hg hr (by decide) rfl (pa_cons (pv 1) pa_nil)) pa_nil))))))
abbrev s_column_alignments : Stmt := topS 19
theorem sc_column_alignments : FnScope ["start", "goal"] ["start", "goal"] (defScope s_column_alignments) := ⟨rfl, rfl, rfl, by decide +kernel, rfl, by decide +kernel, by decide +kernel⟩
theorem d_column_alignments (A : FunAt K mg "column_alignments" s_column_alignments ["start", "goal"]) (B : Bi mg) (C : Cn mg) {CR : Addr} (R_NotRearranged : ErrN K mg "NotRearranged" CR) (D_alignments_of : Dfn Pg w K mg base 2 "alignments_of" ["source", "target"] W_alignments_of) (D_column_ring : Dfn Pg w K mg base 2 "column_ring" ["floor"] W_column_ringR) (D_check_rearrangement : DfnN Pg w K mg base 3 "check_rearrangement" ["start", "goal"] (WN_check_rearrangement CR)) : DfnN Pg w K mg base 4 "column_alignments" ["start", "goal"] (WN_column_alignments CR) := by
  refine dfnN_mk (k := 3) A sc_column_alignments (fun ss m P Y h => by obtain ⟨_, _, e, _⟩ := h; rw [e]; rfl) (fun f cdv A outer s H E hg hr => ?_) (rd_column_alignments (Pg := Pg) (w := w) CR)
  have nd := sc_column_alignments.nd
  have tk : Takes (cxOf (CX Pg w) Pg w K mg base ["start", "goal"] "column_alignments" (defScope s_column_alignments) f cdv A outer s H E) (fun cls d _ H' => E cls d H') := takes_of rfl rfl rfl rfl
  unfold t_column_alignments
  exact (pss_cons (ps_expr (pe_fnN D_check_rearrangement tk hg hr (by decide) rfl (pa_cons (pv 0) (pa_cons (pv 1) pa_nil))))
      (pss_one (ps_ret (pe_fn D_alignments_of hg hr (by decide) rfl (pa_cons (pe_fn D_column_ring hg hr (by decide) rfl (pa_cons (pv 0) pa_nil)) (pa_cons (pe_fn D_column_ring hg hr (by decide) rfl (pa_cons (pv 1) pa_nil)) pa_nil))))))
abbrev s_named : Stmt := topS 26
theorem sc_named : FnScope ["source", "rows", "columns", "pattern", "style", "shift", "numbers", "floor", "row", "cells", "column", "name"] ["source", "rows", "columns"] (defScope s_named) := ⟨rfl, rfl, rfl, by decide +kernel, rfl, by decide +kernel, by decide +kernel⟩
theorem d_named (A : FunAt K mg "_law_named" s_named ["source", "rows", "columns"]) (B : Bi mg) (C : Cn mg) (D_name : Dfn Pg w K mg base 1 "_law_name" ["style", "shift", "number"] W_name) (D_shuffled : Dfn Pg w K mg base 2 "_law_shuffled" ["source", "things"] W_shuffled) (D_draw : Dfn Pg w K mg base 1 "_law_draw" ["source", "bound"] W_draw) (D_pattern : Dfn Pg w K mg base 3 "_law_pattern" ["source", "rows", "columns"] W_pattern) : Dfn Pg w K mg base 4 "_law_named" ["source", "rows", "columns"] W_named := by
  refine dfn_mk (k := 3) A sc_named (fun ss m P h => by obtain ⟨_, _, _, _, _, e, _⟩ := h; rw [e]; rfl) (fun f cdv A outer s H E hg hr => ?_) (rd_named (Pg := Pg) (w := w))
  have nd := sc_named.nd
  unfold t_named
  exact (pss_cons (ps_setA 3 nd (pe_fn D_pattern hg hr (by decide) rfl (pa_cons (pv 0) (pa_cons (pv 1) (pa_cons (pv 2) pa_nil)))))
      (pss_cons (ps_setA 4 nd (pe_fn D_draw hg hr (by decide) rfl (pa_cons (pv 0) (pa_cons pe_int pa_nil))))
      (pss_cons (ps_setA 5 nd (pe_fn D_draw hg hr (by decide) rfl (pa_cons (pv 0) (pa_cons pe_int pa_nil))))
      (pss_cons (ps_setA 6 nd (pe_fn D_shuffled hg hr (by decide) rfl (pa_cons (pv 0) (pa_cons (pe_listRg rfl (by rfl) B.list (prg_1 (by rfl) B.range (pe_op op_mulU (pv 1) (pv 2)))) pa_nil))))
      (pss_cons (ps_setA 7 nd (pe_lst pa_nil))
      (pss_cons (ps_for PassesOwn.never rfl (pi_range1 (by rfl) B.range (pa_cons (pv 1) pa_nil)) (pg_nameA 8 nd)
      (pss_cons (ps_setA 9 nd (pe_lst pa_nil))
      (pss_cons (ps_for PassesOwn.never rfl (pi_range1 (by rfl) B.range (pa_cons (pv 2) pa_nil)) (pg_nameA 10 nd)
      (pss_cons (ps_setA 11 nd (pe_fn D_name hg hr (by decide) rfl (pa_cons (pv 4) (pa_cons (pv 5) (pa_cons (pe_ix ix_seq (pv 6) (pe_op op_addU (pe_op op_mulU (pv 8) (pv 2)) (pv 10)) (fun _ _ => rfl)) pa_nil)))))
      (pss_cons (ps_if (pt_cmpR (op_inU (hu65 hr)) (pe_tupZ (pa_cons (pv 8) (pa_cons (pv 10) pa_nil))) (pv 3) (by rfl))
      (pss_one (ps_setA 11 nd (pe_op op_addU (pe_upper (pe_ix ix_seq (pv 11) pe_int (fun _ _ => rfl))) (pe_slice sl_U (pv 11) (po_some pe_int) po_none))))
      pss_nil)
      (pss_one (ps_expr (pe_bm PySem.F.plainAttrs_list PySem.F.slot_list_append PySem.F.type_list_append mt_append (pv 9) (pa_cons (pv 11) pa_nil)))))))
      (pss_one (ps_expr (pe_bm PySem.F.plainAttrs_list PySem.F.slot_list_append PySem.F.type_list_append mt_append (pv 7) (pa_cons (pe_callTy call_tupleZ (by rfl) B.tuple (by decide +kernel) (pa_cons (pv 9) pa_nil)) pa_nil)))))))
      (pss_one (ps_ret (pe_callTy call_tupleZ (by rfl) B.tuple (by decide +kernel) (pa_cons (pv 7) pa_nil))))))))))
abbrev s_floor : Stmt := topS 27
theorem sc_floor : FnScope ["source", "most", "rows", "columns"] ["source", "most"] (defScope s_floor) := ⟨rfl, rfl, rfl, by decide +kernel, rfl, by decide +kernel, by decide +kernel⟩
theorem d_floor (A : FunAt K mg "_law_floor" s_floor ["source", "most"]) (B : Bi mg) (C : Cn mg) (D_named : Dfn Pg w K mg base 4 "_law_named" ["source", "rows", "columns"] W_named) (D_draw : Dfn Pg w K mg base 1 "_law_draw" ["source", "bound"] W_draw) : Dfn Pg w K mg base 5 "_law_floor" ["source", "most"] W_floor := by
  refine dfn_mk (k := 4) A sc_floor (fun ss m P h => by obtain ⟨_, _, _, _, e, _⟩ := h; rw [e]; rfl) (fun f cdv A outer s H E hg hr => ?_) (rd_floor (Pg := Pg) (w := w))
  have nd := sc_floor.nd
  unfold t_floor
  exact (pss_cons (ps_setA 2 nd (pe_op op_addU pe_int (pe_fn D_draw hg hr (by decide) rfl (pa_cons (pv 0) (pa_cons (pe_callB (call_minU rfl) (by rfl) B.min (by decide +kernel) (pa_cons pe_int (pa_cons (pv 1) pa_nil))) pa_nil)))))
      (pss_cons (ps_setA 3 nd (pe_op op_addU pe_int (pe_fn D_draw hg hr (by decide) rfl (pa_cons (pv 0) (pa_cons (pe_callB (call_minU rfl) (by rfl) B.min (by decide +kernel) (pa_cons pe_int (pa_cons (pe_op op_fdivW (pv 1) (pv 2)) pa_nil))) pa_nil)))))
      (pss_one (ps_ret (pe_fn D_named hg hr (by decide) rfl (pa_cons (pv 0) (pa_cons (pv 2) (pa_cons (pv 3) pa_nil))))))))
abbrev s_told : Stmt := topS 34
theorem sc_told : FnScope ["start", "goal", "found", "e"] ["start", "goal"] (defScope s_told) := ⟨rfl, rfl, rfl, by decide +kernel, rfl, by decide +kernel, by decide +kernel⟩
theorem d_told (A : FunAt K mg "_law_told" s_told ["start", "goal"]) (B : Bi mg) (C : Cn mg) {CR : Addr} (R_NotRearranged : ErrN K mg "NotRearranged" CR) (D_column_alignments : DfnN Pg w K mg base 4 "column_alignments" ["start", "goal"] (WN_column_alignments CR)) (D_row_alignments : DfnN Pg w K mg base 4 "row_alignments" ["start", "goal"] (WN_row_alignments CR)) {CB : Addr} {CE : Addr} {CL : Addr} {CW : Addr} (J_NotRearranged : ErrI K CR) (G_BadFloor : mg "BadFloor" = some (.ref CB)) (G_CrossError : mg "CrossError" = some (.ref CE)) (G_NotClear : mg "NotClear" = some (.ref CL)) (G_NotRearranged : mg "NotRearranged" = some (.ref CR)) (G_Unreachable : mg "Unreachable" = some (.ref CW)) (X_NotRearranged_CrossError : PySem.W.exmOne K (.ref CR) (.ref CE) = some true) (T_NotRearranged_BadFloor : PySem.W.kitOne K (.ref CR) (.ref CB) = some false) (T_NotRearranged_NotClear : PySem.W.kitOne K (.ref CR) (.ref CL) = some false) (T_NotRearranged_Unreachable : PySem.W.kitOne K (.ref CR) (.ref CW) = some false) : Dfn Pg w K mg base 5 "_law_told" ["start", "goal"] W_told12 := by
  refine dfn_mk (k := 4) A sc_told (fun ss m P h => by obtain ⟨_, _, e, _⟩ := h; rw [e]; rfl) (fun f cdv A outer s H E hg hr => ?_) (rd_told12 (Pg := Pg) (w := w) CB CE CL CR CW X_NotRearranged_CrossError T_NotRearranged_BadFloor T_NotRearranged_NotClear T_NotRearranged_Unreachable)
  have nd := sc_told.nd
  unfold t_told12
  exact (pss_cons (ps_tryA rfl rfl nd (i := 3) rfl rfl ⟨by rfl, by decide, .inl G_CrossError⟩ (fun W pn xe tk po =>
      (pss_one (ps_setA 2 nd (pe_tupZ (pa_cons (pe_fnN D_row_alignments tk hg hr (by decide) rfl (pa_cons (pv 0) (pa_cons (pv 1) pa_nil))) (pa_cons (pe_fnN D_column_alignments tk hg hr (by decide) rfl (pa_cons (pv 0) (pa_cons (pv 1) pa_nil))) pa_nil)))))) (fun a oe cls d pn hz hf =>
      (pss_cons (ps_setA 2 nd pe_str)
      (pss_one (ps_if (PW.pt (pw_and (pt_tr (pe_callB (call_isN J_NotRearranged hz hf) (by rfl) B.isinstance (by decide +kernel) (pa_cons (pv 3) (pa_cons (pe_cl G_NotRearranged) pa_nil)))) (pw_and1 (pt_not (pt_tr (pe_callB (call_isNT J_NotRearranged hz hf) (by rfl) B.isinstance (by decide +kernel) (pa_cons (pv 3) (pa_cons (pe_tupZ (pa_cons (pe_cl G_BadFloor) (pa_cons (pe_cl G_NotClear) (pa_cons (pe_cl G_Unreachable) pa_nil)))) pa_nil))))))))
      (pss_one (ps_setA 2 nd pe_str))
      pss_nil)))))
      (pss_one (ps_ret (pv 2))))
abbrev s_columns_told : Stmt := topS 35
theorem sc_columns_told : FnScope ["start", "goal", "found"] ["start", "goal"] (defScope s_columns_told) := ⟨rfl, rfl, rfl, by decide +kernel, rfl, by decide +kernel, by decide +kernel⟩
theorem d_columns_told (A : FunAt K mg "_law_columns_told" s_columns_told ["start", "goal"]) (B : Bi mg) (C : Cn mg) {CR : Addr} (R_NotRearranged : ErrN K mg "NotRearranged" CR) (D_column_alignments : DfnN Pg w K mg base 4 "column_alignments" ["start", "goal"] (WN_column_alignments CR)) (G_NotRearranged : mg "NotRearranged" = some (.ref CR)) : Dfn Pg w K mg base 5 "_law_columns_told" ["start", "goal"] W_columns_told := by
  refine dfn_mk (k := 4) A sc_columns_told (fun ss m P h => by obtain ⟨_, _, e, _⟩ := h; rw [e]; rfl) (fun f cdv A outer s H E hg hr => ?_) (rd_columns_told (Pg := Pg) (w := w) CR R_NotRearranged.exm)
  have nd := sc_columns_told.nd
  unfold t_columns_told
  exact (pss_cons (ps_setA 2 nd pe_bl)
      (pss_cons (ps_tryO rfl rfl ⟨by rfl, by decide, .inl G_NotRearranged⟩ (fun W pn xe tk po =>
      (pss_one (ps_expr (pe_fnN D_column_alignments tk hg hr (by decide) rfl (pa_cons (pv 0) (pa_cons (pv 1) pa_nil)))))) (fun a oe cls d pn hz hf =>
      (pss_one (ps_setA 2 nd pe_bl))))
      (pss_one (ps_ret (pv 2)))))
abbrev s_law : Stmt := topS 37
theorem sc_law : FnScope ["script", "index", "source", "start", "goals", "goal", "due", "rings", "others"] ["script"] (defScope s_law) := ⟨rfl, rfl, rfl, by decide +kernel, rfl, by decide +kernel, by decide +kernel⟩
theorem f_law {f : Addr} {fd : FuncData} (F : Fun K "law" "law" s_law f fd) (B : Bi mg) (C : Cn mg) (D_columns_told : Dfn Pg w K mg base 5 "_law_columns_told" ["start", "goal"] W_columns_told) (D_told : Dfn Pg w K mg base 5 "_law_told" ["start", "goal"] W_told12) (D_same_lines : Dfn Pg w K mg base 2 "_law_same_lines" ["start", "goal"] W_same_lines) (D_alignments : Dfn Pg w K mg base 1 "_law_alignments" ["start", "goal"] W_alignments) (D_rings : Dfn Pg w K mg base 2 "_law_rings" ["floor"] W_rings) (D_rearranged : Dfn Pg w K mg base 3 "_law_rearranged" ["source", "floor"] W_rearranged) (D_others : Dfn Pg w K mg base 2 "_law_others" ["source", "floor"] W_others) (D_floor : Dfn Pg w K mg base 5 "_law_floor" ["source", "most"] W_floor) (D_source : Dfn Pg w K mg base 1 "_law_source" ["script", "index"] W_source) : DF Pg w K mg base CX0 6 f fd ["script"] (SpD K WLaw) := by
  refine df_data (k := 5) F sc_law (fun ss m P h => by obtain ⟨_, e, _⟩ := h; rw [e]; rfl) (fun cdv A outer s H E hg hr => ?_) (rd_law12 (Pg := Pg) (w := w))
  have nd := sc_law.nd
  unfold t_law12
  exact (pss_cons (ps_for PassesOwn.never rfl (pi_range1 (by rfl) B.range (pa_cons (pe_callB (call_max2 rfl) (by rfl) B.max (by decide +kernel) (pa_cons pe_int (pa_cons (pe_callB (call_minU rfl) (by rfl) B.min (by decide +kernel) (pa_cons pe_int (pa_cons (pe_callB call_len (by rfl) B.len PySem.boot_len (pa_cons (pv 0) pa_nil)) pa_nil))) pa_nil))) pa_nil)) (pg_nameA 1 nd)
      (pss_cons (ps_setA 2 nd (pe_fn D_source hg hr (by decide) rfl (pa_cons (pv 0) (pa_cons (pv 1) pa_nil))))
      (pss_cons (ps_setA 3 nd (pe_fn D_floor hg hr (by decide) rfl (pa_cons (pv 2) (pa_cons pe_int pa_nil))))
      (pss_cons (ps_setA 4 nd (pe_op op_addU (pe_lst (pa_cons (pe_fn D_rearranged hg hr (by decide) rfl (pa_cons (pv 2) (pa_cons (pv 3) pa_nil))) (pa_cons (pv 3) pa_nil))) (pe_fn D_others hg hr (by decide) rfl (pa_cons (pv 2) (pa_cons (pv 3) pa_nil)))))
      (pss_one (ps_for PassesOwn.never rfl (pi_seqU (pv 4)) (pg_nameA 5 nd)
      (pss_cons (ps_setA 6 nd pe_str)
      (pss_cons (ps_if (pt_tr (pe_fn D_same_lines hg hr (by decide) rfl (pa_cons (pv 3) (pa_cons (pv 5) pa_nil))))
      (pss_cons (ps_setA 7 nd (pe_fn D_rings hg hr (by decide) rfl (pa_cons (pv 3) pa_nil)))
      (pss_cons (ps_setA 8 nd (pe_fn D_rings hg hr (by decide) rfl (pa_cons (pv 5) pa_nil)))
      (pss_one (ps_setA 6 nd (pe_tupZ (pa_cons (pe_callTy call_tupleZ (by rfl) B.tuple (by decide +kernel) (pa_cons (pe_fn D_alignments hg hr (by decide) rfl (pa_cons (pe_ix ix_seq (pv 7) pe_int (fun _ _ => rfl)) (pa_cons (pe_ix ix_seq (pv 8) pe_int (fun _ _ => rfl)) pa_nil))) pa_nil)) (pa_cons (pe_callTy call_tupleZ (by rfl) B.tuple (by decide +kernel) (pa_cons (pe_fn D_alignments hg hr (by decide) rfl (pa_cons (pe_ix ix_seq (pv 7) pe_int (fun _ _ => rfl)) (pa_cons (pe_ix ix_seq (pv 8) pe_int (fun _ _ => rfl)) pa_nil))) pa_nil)) pa_nil)))))))
      pss_nil)
      (pss_cons (ps_if (PW.pt (pw_or (pt_cmpR (op_neU (hu64 hr)) (pe_callB (cr_repr hg (hu70 hr)) (by rfl) B.repr (by decide +kernel) (pa_cons (pe_fn D_told hg hr (by decide) rfl (pa_cons (pv 3) (pa_cons (pv 5) pa_nil))) pa_nil)) (pe_callB (cr_repr hg (hu70 hr)) (by rfl) B.repr (by decide +kernel) (pa_cons (pv 6) pa_nil)) (nomark _)) (pw_or1 (pt_cmpR (op_neU (hu64 hr)) (pe_callB (cr_repr hg (hu70 hr)) (by rfl) B.repr (by decide +kernel) (pa_cons (pe_fn D_told hg hr (by decide) rfl (pa_cons (pv 3) (pa_cons (pv 5) pa_nil))) pa_nil)) (pe_callB (cr_repr hg (hu70 hr)) (by rfl) B.repr (by decide +kernel) (pa_cons (pv 6) pa_nil)) (nomark _)))))
      (pss_one (ps_ret pe_bl))
      pss_nil)
      (pss_one (ps_if (pt_cmpR (op_neU (hu64 hr)) (pe_fn D_columns_told hg hr (by decide) rfl (pa_cons (pv 3) (pa_cons (pv 5) pa_nil))) (pe_cmpR (op_eqU (hu64 hr)) (pv 6) pe_str (nomark _)) (nomark _))
      (pss_one (ps_ret pe_bl))
      pss_nil)))))))))))
      (pss_one (ps_ret pe_bl)))
end
theorem all_mk {l : PySem.W.OpenLaw} {w : World} {K : PySem.W.Frag} {h : Heap} {mg : Str → Option Value} {fa : Addr} (X : K.In h) (G : h.Ns mainGlobals mg) (hfa : mg "law" = some (.ref fa))
    {f0 : Addr} {od0 an0 : Option Addr} {sl0 : Array (Option Value)} {oc0 kV0 dc0 pm0 cd0 ct0 : Value}
    {f1 : Addr} {od1 an1 : Option Addr} {sl1 : Array (Option Value)} {oc1 kV1 dc1 pm1 cd1 ct1 : Value}
    {f2 : Addr} {od2 an2 : Option Addr} {sl2 : Array (Option Value)} {oc2 kV2 dc2 pm2 cd2 ct2 : Value}
    {f3 : Addr} {od3 an3 : Option Addr} {sl3 : Array (Option Value)} {oc3 kV3 dc3 pm3 cd3 ct3 : Value}
    {f4 : Addr} {od4 an4 : Option Addr} {sl4 : Array (Option Value)} {oc4 kV4 dc4 pm4 cd4 ct4 : Value}
    {f5 : Addr} {od5 an5 : Option Addr} {sl5 : Array (Option Value)} {oc5 kV5 dc5 pm5 cd5 ct5 : Value}
    {f6 : Addr} {od6 an6 : Option Addr} {sl6 : Array (Option Value)} {oc6 kV6 dc6 pm6 cd6 ct6 : Value}
    {f7 : Addr} {od7 an7 : Option Addr} {sl7 : Array (Option Value)} {oc7 kV7 dc7 pm7 cd7 ct7 : Value}
    {f8 : Addr} {od8 an8 : Option Addr} {sl8 : Array (Option Value)} {oc8 kV8 dc8 pm8 cd8 ct8 : Value}
    {f9 : Addr} {od9 an9 : Option Addr} {sl9 : Array (Option Value)} {oc9 kV9 dc9 pm9 cd9 ct9 : Value}
    {f10 : Addr} {od10 an10 : Option Addr} {sl10 : Array (Option Value)} {oc10 kV10 dc10 pm10 cd10 ct10 : Value}
    {f11 : Addr} {od11 an11 : Option Addr} {sl11 : Array (Option Value)} {oc11 kV11 dc11 pm11 cd11 ct11 : Value}
    {f12 : Addr} {od12 an12 : Option Addr} {sl12 : Array (Option Value)} {oc12 kV12 dc12 pm12 cd12 ct12 : Value}
    {f13 : Addr} {od13 an13 : Option Addr} {sl13 : Array (Option Value)} {oc13 kV13 dc13 pm13 cd13 ct13 : Value}
    {f14 : Addr} {od14 an14 : Option Addr} {sl14 : Array (Option Value)} {oc14 kV14 dc14 pm14 cd14 ct14 : Value}
    {f15 : Addr} {od15 an15 : Option Addr} {sl15 : Array (Option Value)} {oc15 kV15 dc15 pm15 cd15 ct15 : Value}
    {f16 : Addr} {od16 an16 : Option Addr} {sl16 : Array (Option Value)} {oc16 kV16 dc16 pm16 cd16 ct16 : Value}
    {f17 : Addr} {od17 an17 : Option Addr} {sl17 : Array (Option Value)} {oc17 kV17 dc17 pm17 cd17 ct17 : Value}
    {f18 : Addr} {od18 an18 : Option Addr} {sl18 : Array (Option Value)} {oc18 kV18 dc18 pm18 cd18 ct18 : Value}
    {f19 : Addr} {od19 an19 : Option Addr} {sl19 : Array (Option Value)} {oc19 kV19 dc19 pm19 cd19 ct19 : Value}
    {f20 : Addr} {od20 an20 : Option Addr} {sl20 : Array (Option Value)} {oc20 kV20 dc20 pm20 cd20 ct20 : Value}
    {f21 : Addr} {od21 an21 : Option Addr} {sl21 : Array (Option Value)} {oc21 kV21 dc21 pm21 cd21 ct21 : Value}
    {f22 : Addr} {od22 an22 : Option Addr} {sl22 : Array (Option Value)} {oc22 kV22 dc22 pm22 cd22 ct22 : Value}
    {f23 : Addr} {od23 an23 : Option Addr} {sl23 : Array (Option Value)} {oc23 kV23 dc23 pm23 cd23 ct23 : Value}
    {f24 : Addr} {od24 an24 : Option Addr} {sl24 : Array (Option Value)} {oc24 kV24 dc24 pm24 cd24 ct24 : Value}
    {f25 : Addr} {od25 an25 : Option Addr} {sl25 : Array (Option Value)} {oc25 kV25 dc25 pm25 cd25 ct25 : Value}
    {f26 : Addr} {od26 an26 : Option Addr} {sl26 : Array (Option Value)} {oc26 kV26 dc26 pm26 cd26 ct26 : Value}
    {f27 : Addr} {od27 an27 : Option Addr} {sl27 : Array (Option Value)} {oc27 kV27 dc27 pm27 cd27 ct27 : Value}
    {CR : Addr}
    {CB CE CL CW : Addr}
    {tk0 : Tok}
    (aa0 : PySem.W.nsIn K mainGlobals "columns_of" = some (some (.ref f0))) (ll0 : K.lookup f0 = some ⟨oc0, od0, .func (PySem.W.fnOf "columns_of" "columns_of" (defArgs s_columns_of) (defBody s_columns_of) (defScope s_columns_of) .none kV0 dc0 pm0 an0 cd0 ct0), sl0⟩) (co0 : PySem.W.codeIn K cd0 "columns_of" = true) (kk0 : PySem.W.keepIn K (.ref f0) = true)
    (aa1 : PySem.W.nsIn K mainGlobals "ring_of" = some (some (.ref f1))) (ll1 : K.lookup f1 = some ⟨oc1, od1, .func (PySem.W.fnOf "ring_of" "ring_of" (defArgs s_ring_of) (defBody s_ring_of) (defScope s_ring_of) .none kV1 dc1 pm1 an1 cd1 ct1), sl1⟩) (co1 : PySem.W.codeIn K cd1 "ring_of" = true) (kk1 : PySem.W.keepIn K (.ref f1) = true)
    (aa2 : PySem.W.nsIn K mainGlobals "groups_of" = some (some (.ref f2))) (ll2 : K.lookup f2 = some ⟨oc2, od2, .func (PySem.W.fnOf "groups_of" "groups_of" (defArgs s_groups_of) (defBody s_groups_of) (defScope s_groups_of) .none kV2 dc2 pm2 an2 cd2 ct2), sl2⟩) (co2 : PySem.W.codeIn K cd2 "groups_of" = true) (kk2 : PySem.W.keepIn K (.ref f2) = true)
    (aa3 : PySem.W.nsIn K mainGlobals "align" = some (some (.ref f3))) (ll3 : K.lookup f3 = some ⟨oc3, od3, .func (PySem.W.fnOf "align" "align" (defArgs s_align) (defBody s_align) (defScope s_align) .none kV3 dc3 pm3 an3 cd3 ct3), sl3⟩) (co3 : PySem.W.codeIn K cd3 "align" = true) (kk3 : PySem.W.keepIn K (.ref f3) = true)
    (aa4 : PySem.W.nsIn K mainGlobals "_law_source" = some (some (.ref f4))) (ll4 : K.lookup f4 = some ⟨oc4, od4, .func (PySem.W.fnOf "_law_source" "_law_source" (defArgs s_source) (defBody s_source) (defScope s_source) .none kV4 dc4 pm4 an4 cd4 ct4), sl4⟩) (co4 : PySem.W.codeIn K cd4 "_law_source" = true) (kk4 : PySem.W.keepIn K (.ref f4) = true)
    (aa5 : PySem.W.nsIn K mainGlobals "_law_draw" = some (some (.ref f5))) (ll5 : K.lookup f5 = some ⟨oc5, od5, .func (PySem.W.fnOf "_law_draw" "_law_draw" (defArgs s_draw) (defBody s_draw) (defScope s_draw) .none kV5 dc5 pm5 an5 cd5 ct5), sl5⟩) (co5 : PySem.W.codeIn K cd5 "_law_draw" = true) (kk5 : PySem.W.keepIn K (.ref f5) = true)
    (aa6 : PySem.W.nsIn K mainGlobals "_law_name" = some (some (.ref f6))) (ll6 : K.lookup f6 = some ⟨oc6, od6, .func (PySem.W.fnOf "_law_name" "_law_name" (defArgs s_name) (defBody s_name) (defScope s_name) .none kV6 dc6 pm6 an6 cd6 ct6), sl6⟩) (co6 : PySem.W.codeIn K cd6 "_law_name" = true) (kk6 : PySem.W.keepIn K (.ref f6) = true)
    (aa7 : PySem.W.nsIn K mainGlobals "_law_columns" = some (some (.ref f7))) (ll7 : K.lookup f7 = some ⟨oc7, od7, .func (PySem.W.fnOf "_law_columns" "_law_columns" (defArgs s_columns) (defBody s_columns) (defScope s_columns) .none kV7 dc7 pm7 an7 cd7 ct7), sl7⟩) (co7 : PySem.W.codeIn K cd7 "_law_columns" = true) (kk7 : PySem.W.keepIn K (.ref f7) = true)
    (aa8 : PySem.W.nsIn K mainGlobals "_law_labels" = some (some (.ref f8))) (ll8 : K.lookup f8 = some ⟨oc8, od8, .func (PySem.W.fnOf "_law_labels" "_law_labels" (defArgs s_labels) (defBody s_labels) (defScope s_labels) .none kV8 dc8 pm8 an8 cd8 ct8), sl8⟩) (co8 : PySem.W.codeIn K cd8 "_law_labels" = true) (kk8 : PySem.W.keepIn K (.ref f8) = true)
    (aa9 : PySem.W.nsIn K mainGlobals "_law_alignments" = some (some (.ref f9))) (ll9 : K.lookup f9 = some ⟨oc9, od9, .func (PySem.W.fnOf "_law_alignments" "_law_alignments" (defArgs s_alignments) (defBody s_alignments) (defScope s_alignments) .none kV9 dc9 pm9 an9 cd9 ct9), sl9⟩) (co9 : PySem.W.codeIn K cd9 "_law_alignments" = true) (kk9 : PySem.W.keepIn K (.ref f9) = true)
    (aa10 : PySem.W.nsIn K mainGlobals "row_ring" = some (some (.ref f10))) (ll10 : K.lookup f10 = some ⟨oc10, od10, .func (PySem.W.fnOf "row_ring" "row_ring" (defArgs s_row_ring) (defBody s_row_ring) (defScope s_row_ring) .none kV10 dc10 pm10 an10 cd10 ct10), sl10⟩) (co10 : PySem.W.codeIn K cd10 "row_ring" = true) (kk10 : PySem.W.keepIn K (.ref f10) = true)
    (aa11 : PySem.W.nsIn K mainGlobals "column_ring" = some (some (.ref f11))) (ll11 : K.lookup f11 = some ⟨oc11, od11, .func (PySem.W.fnOf "column_ring" "column_ring" (defArgs s_column_ring) (defBody s_column_ring) (defScope s_column_ring) .none kV11 dc11 pm11 an11 cd11 ct11), sl11⟩) (co11 : PySem.W.codeIn K cd11 "column_ring" = true) (kk11 : PySem.W.keepIn K (.ref f11) = true)
    (aa12 : PySem.W.nsIn K mainGlobals "is_rearrangement" = some (some (.ref f12))) (ll12 : K.lookup f12 = some ⟨oc12, od12, .func (PySem.W.fnOf "is_rearrangement" "is_rearrangement" (defArgs s_is_rearrangement) (defBody s_is_rearrangement) (defScope s_is_rearrangement) .none kV12 dc12 pm12 an12 cd12 ct12), sl12⟩) (co12 : PySem.W.codeIn K cd12 "is_rearrangement" = true) (kk12 : PySem.W.keepIn K (.ref f12) = true)
    (aa13 : PySem.W.nsIn K mainGlobals "alignments_of" = some (some (.ref f13))) (ll13 : K.lookup f13 = some ⟨oc13, od13, .func (PySem.W.fnOf "alignments_of" "alignments_of" (defArgs s_alignments_of) (defBody s_alignments_of) (defScope s_alignments_of) .none kV13 dc13 pm13 an13 cd13 ct13), sl13⟩) (co13 : PySem.W.codeIn K cd13 "alignments_of" = true) (kk13 : PySem.W.keepIn K (.ref f13) = true)
    (aa14 : PySem.W.nsIn K mainGlobals "_law_shuffled" = some (some (.ref f14))) (ll14 : K.lookup f14 = some ⟨oc14, od14, .func (PySem.W.fnOf "_law_shuffled" "_law_shuffled" (defArgs s_shuffled) (defBody s_shuffled) (defScope s_shuffled) .none kV14 dc14 pm14 an14 cd14 ct14), sl14⟩) (co14 : PySem.W.codeIn K cd14 "_law_shuffled" = true) (kk14 : PySem.W.keepIn K (.ref f14) = true)
    (aa15 : PySem.W.nsIn K mainGlobals "_law_rings" = some (some (.ref f15))) (ll15 : K.lookup f15 = some ⟨oc15, od15, .func (PySem.W.fnOf "_law_rings" "_law_rings" (defArgs s_rings) (defBody s_rings) (defScope s_rings) .none kV15 dc15 pm15 an15 cd15 ct15), sl15⟩) (co15 : PySem.W.codeIn K cd15 "_law_rings" = true) (kk15 : PySem.W.keepIn K (.ref f15) = true)
    (aa16 : PySem.W.nsIn K mainGlobals "_law_same_lines" = some (some (.ref f16))) (ll16 : K.lookup f16 = some ⟨oc16, od16, .func (PySem.W.fnOf "_law_same_lines" "_law_same_lines" (defArgs s_same_lines) (defBody s_same_lines) (defScope s_same_lines) .none kV16 dc16 pm16 an16 cd16 ct16), sl16⟩) (co16 : PySem.W.codeIn K cd16 "_law_same_lines" = true) (kk16 : PySem.W.keepIn K (.ref f16) = true)
    (aa17 : PySem.W.nsIn K mainGlobals "_law_others" = some (some (.ref f17))) (ll17 : K.lookup f17 = some ⟨oc17, od17, .func (PySem.W.fnOf "_law_others" "_law_others" (defArgs s_others) (defBody s_others) (defScope s_others) .none kV17 dc17 pm17 an17 cd17 ct17), sl17⟩) (co17 : PySem.W.codeIn K cd17 "_law_others" = true) (kk17 : PySem.W.keepIn K (.ref f17) = true)
    (aa18 : PySem.W.nsIn K mainGlobals "check_rearrangement" = some (some (.ref f18))) (ll18 : K.lookup f18 = some ⟨oc18, od18, .func (PySem.W.fnOf "check_rearrangement" "check_rearrangement" (defArgs s_check_rearrangement) (defBody s_check_rearrangement) (defScope s_check_rearrangement) .none kV18 dc18 pm18 an18 cd18 ct18), sl18⟩) (co18 : PySem.W.codeIn K cd18 "check_rearrangement" = true) (kk18 : PySem.W.keepIn K (.ref f18) = true)
    (aa19 : PySem.W.nsIn K mainGlobals "_law_pattern" = some (some (.ref f19))) (ll19 : K.lookup f19 = some ⟨oc19, od19, .func (PySem.W.fnOf "_law_pattern" "_law_pattern" (defArgs s_pattern) (defBody s_pattern) (defScope s_pattern) .none kV19 dc19 pm19 an19 cd19 ct19), sl19⟩) (co19 : PySem.W.codeIn K cd19 "_law_pattern" = true) (kk19 : PySem.W.keepIn K (.ref f19) = true)
    (aa20 : PySem.W.nsIn K mainGlobals "_law_rearranged" = some (some (.ref f20))) (ll20 : K.lookup f20 = some ⟨oc20, od20, .func (PySem.W.fnOf "_law_rearranged" "_law_rearranged" (defArgs s_rearranged) (defBody s_rearranged) (defScope s_rearranged) .none kV20 dc20 pm20 an20 cd20 ct20), sl20⟩) (co20 : PySem.W.codeIn K cd20 "_law_rearranged" = true) (kk20 : PySem.W.keepIn K (.ref f20) = true)
    (aa21 : PySem.W.nsIn K mainGlobals "row_alignments" = some (some (.ref f21))) (ll21 : K.lookup f21 = some ⟨oc21, od21, .func (PySem.W.fnOf "row_alignments" "row_alignments" (defArgs s_row_alignments) (defBody s_row_alignments) (defScope s_row_alignments) .none kV21 dc21 pm21 an21 cd21 ct21), sl21⟩) (co21 : PySem.W.codeIn K cd21 "row_alignments" = true) (kk21 : PySem.W.keepIn K (.ref f21) = true)
    (aa22 : PySem.W.nsIn K mainGlobals "column_alignments" = some (some (.ref f22))) (ll22 : K.lookup f22 = some ⟨oc22, od22, .func (PySem.W.fnOf "column_alignments" "column_alignments" (defArgs s_column_alignments) (defBody s_column_alignments) (defScope s_column_alignments) .none kV22 dc22 pm22 an22 cd22 ct22), sl22⟩) (co22 : PySem.W.codeIn K cd22 "column_alignments" = true) (kk22 : PySem.W.keepIn K (.ref f22) = true)
    (aa23 : PySem.W.nsIn K mainGlobals "_law_named" = some (some (.ref f23))) (ll23 : K.lookup f23 = some ⟨oc23, od23, .func (PySem.W.fnOf "_law_named" "_law_named" (defArgs s_named) (defBody s_named) (defScope s_named) .none kV23 dc23 pm23 an23 cd23 ct23), sl23⟩) (co23 : PySem.W.codeIn K cd23 "_law_named" = true) (kk23 : PySem.W.keepIn K (.ref f23) = true)
    (aa24 : PySem.W.nsIn K mainGlobals "_law_floor" = some (some (.ref f24))) (ll24 : K.lookup f24 = some ⟨oc24, od24, .func (PySem.W.fnOf "_law_floor" "_law_floor" (defArgs s_floor) (defBody s_floor) (defScope s_floor) .none kV24 dc24 pm24 an24 cd24 ct24), sl24⟩) (co24 : PySem.W.codeIn K cd24 "_law_floor" = true) (kk24 : PySem.W.keepIn K (.ref f24) = true)
    (aa25 : PySem.W.nsIn K mainGlobals "_law_told" = some (some (.ref f25))) (ll25 : K.lookup f25 = some ⟨oc25, od25, .func (PySem.W.fnOf "_law_told" "_law_told" (defArgs s_told) (defBody s_told) (defScope s_told) .none kV25 dc25 pm25 an25 cd25 ct25), sl25⟩) (co25 : PySem.W.codeIn K cd25 "_law_told" = true) (kk25 : PySem.W.keepIn K (.ref f25) = true)
    (aa26 : PySem.W.nsIn K mainGlobals "_law_columns_told" = some (some (.ref f26))) (ll26 : K.lookup f26 = some ⟨oc26, od26, .func (PySem.W.fnOf "_law_columns_told" "_law_columns_told" (defArgs s_columns_told) (defBody s_columns_told) (defScope s_columns_told) .none kV26 dc26 pm26 an26 cd26 ct26), sl26⟩) (co26 : PySem.W.codeIn K cd26 "_law_columns_told" = true) (kk26 : PySem.W.keepIn K (.ref f26) = true)
    (aa27 : PySem.W.nsIn K mainGlobals "law" = some (some (.ref f27))) (ll27 : K.lookup f27 = some ⟨oc27, od27, .func (PySem.W.fnOf "law" "law" (defArgs s_law) (defBody s_law) (defScope s_law) .none kV27 dc27 pm27 an27 cd27 ct27), sl27⟩) (co27 : PySem.W.codeIn K cd27 "law" = true) (kk27 : PySem.W.keepIn K (.ref f27) = true)
    (aaeCR : PySem.W.nsIn K mainGlobals "NotRearranged" = some (some (.ref CR))) (qqeCR : PySem.W.excIn K CR [.type "ValueError", .type "Exception", .type "BaseException", .type "object"] "ValueError.__new__" = true) (gaeCR : PySem.W.findIn K (.ref CR) "__getattribute__" = some (some (.builtin "BaseException.__getattribute__"))) (ggeCR : PySem.W.findIn K (.ref CR) "__getattr__" = some none) (ebeCR : PySem.W.subIn K (.ref CR) (.type "BaseException") = some true) (tyeCR : PySem.W.typeIn K (.ref CR) = some (.type "type")) (kceCR : PySem.W.keepIn K (.ref CR) = true) (hdeCR : PySem.W.hasDictIn K CR = true) (iceCR : PySem.W.isClsIn K CR = true) (sceCR : PySem.W.subIn K (.ref CR) (.ref CR) = some true)
    (giCB : PySem.W.nsIn K mainGlobals "BadFloor" = some (some (.ref CB))) (jiCB : PySem.W.isClsIn K CB = true) (jtCB : PySem.W.typeIn K (.ref CB) = some (.type "type"))
    (giCE : PySem.W.nsIn K mainGlobals "CrossError" = some (some (.ref CE))) (jiCE : PySem.W.isClsIn K CE = true) (jtCE : PySem.W.typeIn K (.ref CE) = some (.type "type"))
    (giCL : PySem.W.nsIn K mainGlobals "NotClear" = some (some (.ref CL))) (jiCL : PySem.W.isClsIn K CL = true) (jtCL : PySem.W.typeIn K (.ref CL) = some (.type "type"))
    (giCW : PySem.W.nsIn K mainGlobals "Unreachable" = some (some (.ref CW))) (jiCW : PySem.W.isClsIn K CW = true) (jtCW : PySem.W.typeIn K (.ref CW) = some (.type "type"))
    (jeCE : PySem.W.subIn K (.ref CE) (.type "BaseException") = some true)
    (jsCRCB : PySem.W.subIn K (.ref CR) (.ref CB) = some false)
    (jsCRCE : PySem.W.subIn K (.ref CR) (.ref CE) = some true)
    (jsCRCL : PySem.W.subIn K (.ref CR) (.ref CL) = some false)
    (jsCRCW : PySem.W.subIn K (.ref CR) (.ref CW) = some false)
    (scnCRCB : (CR == CB) = false)
    (scnCRCL : (CR == CL) = false)
    (scnCRCW : (CR == CW) = false)
    (jhaCR : PySem.W.findIn K (.ref CR) "__class__" = some (some (.builtin "object.__class__"))) (jhmCR : PySem.W.mroIn K CR (.type "object") = some true)
    (jhn : PySem.W.specialIn K (.builtin "object.__class__") "__get__" = some (some (.builtin "getset_descriptor.__get__"))) (jht : PySem.W.takesIn K (.builtin "object.__class__") = some true)
    (zz0 : PySem.W.nsIn K mainGlobals "len" = some none)
    (zz1 : PySem.W.nsIn K mainGlobals "min" = some none)
    (zz2 : PySem.W.nsIn K mainGlobals "max" = some none)
    (zz3 : PySem.W.nsIn K mainGlobals "sorted" = some none)
    (zz4 : PySem.W.nsIn K mainGlobals "repr" = some none)
    (zz5 : PySem.W.nsIn K mainGlobals "int" = some none)
    (zz6 : PySem.W.nsIn K mainGlobals "list" = some none)
    (zz7 : PySem.W.nsIn K mainGlobals "tuple" = some none)
    (zz8 : PySem.W.nsIn K mainGlobals "range" = some none)
    (zz9 : PySem.W.nsIn K mainGlobals "isinstance" = some none)
    (zz10 : PySem.W.nsIn K mainGlobals "zip" = some none)
    (cc0 : PySem.W.nsIn K mainGlobals "GAP" = some (some (.str "" tk0))) :
    ∃ fd : FuncData, (∀ (s : Shared) (v : Value), BindsTo s fd ⟨[v], []⟩ [("script", v)]) ∧ ∀ base : Heap, K.In base → base.Ns mainGlobals mg → DF l.prog w K mg base CX0 6 fa fd ["script"] (SpD K WLaw) := by
  have e := hfa.symm.trans (PySem.W.mg_of X G aa27)
  cases e
  have B : Bi mg := ⟨PySem.W.mg_none_of X G zz0, PySem.W.mg_none_of X G zz1, PySem.W.mg_none_of X G zz2, PySem.W.mg_none_of X G zz3, PySem.W.mg_none_of X G zz4, PySem.W.mg_none_of X G zz5, PySem.W.mg_none_of X G zz6, PySem.W.mg_none_of X G zz7, PySem.W.mg_none_of X G zz8, PySem.W.mg_none_of X G zz9, PySem.W.mg_none_of X G zz10⟩
  have C : Cn mg := ⟨⟨_, PySem.W.mg_of X G cc0, ⟨_, rfl⟩⟩⟩
  have A_columns_of := funAt_mk (st := s_columns_of) (ps := ["floor"]) X G aa0 ll0 co0 kk0 fun _ _ _ _ _ _ us hl => match us, hl with | [_], _ => rfl
  have A_ring_of := funAt_mk (st := s_ring_of) (ps := ["lines"]) X G aa1 ll1 co1 kk1 fun _ _ _ _ _ _ us hl => match us, hl with | [_], _ => rfl
  have A_groups_of := funAt_mk (st := s_groups_of) (ps := ["lines"]) X G aa2 ll2 co2 kk2 fun _ _ _ _ _ _ us hl => match us, hl with | [_], _ => rfl
  have A_align := funAt_mk (st := s_align) (ps := ["source", "target", "offset"]) X G aa3 ll3 co3 kk3 fun _ _ _ _ _ _ us hl => match us, hl with | [_, _, _], _ => rfl
  have A_source := funAt_mk (st := s_source) (ps := ["script", "index"]) X G aa4 ll4 co4 kk4 fun _ _ _ _ _ _ us hl => match us, hl with | [_, _], _ => rfl
  have A_draw := funAt_mk (st := s_draw) (ps := ["source", "bound"]) X G aa5 ll5 co5 kk5 fun _ _ _ _ _ _ us hl => match us, hl with | [_, _], _ => rfl
  have A_name := funAt_mk (st := s_name) (ps := ["style", "shift", "number"]) X G aa6 ll6 co6 kk6 fun _ _ _ _ _ _ us hl => match us, hl with | [_, _, _], _ => rfl
  have A_columns := funAt_mk (st := s_columns) (ps := ["floor"]) X G aa7 ll7 co7 kk7 fun _ _ _ _ _ _ us hl => match us, hl with | [_], _ => rfl
  have A_labels := funAt_mk (st := s_labels) (ps := ["lines"]) X G aa8 ll8 co8 kk8 fun _ _ _ _ _ _ us hl => match us, hl with | [_], _ => rfl
  have A_alignments := funAt_mk (st := s_alignments) (ps := ["start", "goal"]) X G aa9 ll9 co9 kk9 fun _ _ _ _ _ _ us hl => match us, hl with | [_, _], _ => rfl
  have A_row_ring := funAt_mk (st := s_row_ring) (ps := ["floor"]) X G aa10 ll10 co10 kk10 fun _ _ _ _ _ _ us hl => match us, hl with | [_], _ => rfl
  have A_column_ring := funAt_mk (st := s_column_ring) (ps := ["floor"]) X G aa11 ll11 co11 kk11 fun _ _ _ _ _ _ us hl => match us, hl with | [_], _ => rfl
  have A_is_rearrangement := funAt_mk (st := s_is_rearrangement) (ps := ["start", "goal"]) X G aa12 ll12 co12 kk12 fun _ _ _ _ _ _ us hl => match us, hl with | [_, _], _ => rfl
  have A_alignments_of := funAt_mk (st := s_alignments_of) (ps := ["source", "target"]) X G aa13 ll13 co13 kk13 fun _ _ _ _ _ _ us hl => match us, hl with | [_, _], _ => rfl
  have A_shuffled := funAt_mk (st := s_shuffled) (ps := ["source", "things"]) X G aa14 ll14 co14 kk14 fun _ _ _ _ _ _ us hl => match us, hl with | [_, _], _ => rfl
  have A_rings := funAt_mk (st := s_rings) (ps := ["floor"]) X G aa15 ll15 co15 kk15 fun _ _ _ _ _ _ us hl => match us, hl with | [_], _ => rfl
  have A_same_lines := funAt_mk (st := s_same_lines) (ps := ["start", "goal"]) X G aa16 ll16 co16 kk16 fun _ _ _ _ _ _ us hl => match us, hl with | [_, _], _ => rfl
  have A_others := funAt_mk (st := s_others) (ps := ["source", "floor"]) X G aa17 ll17 co17 kk17 fun _ _ _ _ _ _ us hl => match us, hl with | [_, _], _ => rfl
  have A_check_rearrangement := funAt_mk (st := s_check_rearrangement) (ps := ["start", "goal"]) X G aa18 ll18 co18 kk18 fun _ _ _ _ _ _ us hl => match us, hl with | [_, _], _ => rfl
  have A_pattern := funAt_mk (st := s_pattern) (ps := ["source", "rows", "columns"]) X G aa19 ll19 co19 kk19 fun _ _ _ _ _ _ us hl => match us, hl with | [_, _, _], _ => rfl
  have A_rearranged := funAt_mk (st := s_rearranged) (ps := ["source", "floor"]) X G aa20 ll20 co20 kk20 fun _ _ _ _ _ _ us hl => match us, hl with | [_, _], _ => rfl
  have A_row_alignments := funAt_mk (st := s_row_alignments) (ps := ["start", "goal"]) X G aa21 ll21 co21 kk21 fun _ _ _ _ _ _ us hl => match us, hl with | [_, _], _ => rfl
  have A_column_alignments := funAt_mk (st := s_column_alignments) (ps := ["start", "goal"]) X G aa22 ll22 co22 kk22 fun _ _ _ _ _ _ us hl => match us, hl with | [_, _], _ => rfl
  have A_named := funAt_mk (st := s_named) (ps := ["source", "rows", "columns"]) X G aa23 ll23 co23 kk23 fun _ _ _ _ _ _ us hl => match us, hl with | [_, _, _], _ => rfl
  have A_floor := funAt_mk (st := s_floor) (ps := ["source", "most"]) X G aa24 ll24 co24 kk24 fun _ _ _ _ _ _ us hl => match us, hl with | [_, _], _ => rfl
  have A_told := funAt_mk (st := s_told) (ps := ["start", "goal"]) X G aa25 ll25 co25 kk25 fun _ _ _ _ _ _ us hl => match us, hl with | [_, _], _ => rfl
  have A_columns_told := funAt_mk (st := s_columns_told) (ps := ["start", "goal"]) X G aa26 ll26 co26 kk26 fun _ _ _ _ _ _ us hl => match us, hl with | [_, _], _ => rfl
  refine ⟨PySem.W.fnOf "law" "law" (defArgs s_law) (defBody s_law) (defScope s_law) .none kV27 dc27 pm27 an27 cd27 ct27, fun s v => .of_eq rfl, fun base _ _ => ?_⟩
  have R_NotRearranged : ErrN K mg "NotRearranged" CR := ⟨qqeCR, PySem.W.mg_of X G aaeCR, kceCR, ebeCR, tyeCR, exm_own ebeCR iceCR tyeCR sceCR⟩
  have D_columns_of := d_columns_of (Pg := l.prog) (w := w) (base := base) A_columns_of B C
  have D_ring_of := d_ring_of (Pg := l.prog) (w := w) (base := base) A_ring_of B C
  have D_groups_of := d_groups_of (Pg := l.prog) (w := w) (base := base) A_groups_of B C
  have D_align := d_align (Pg := l.prog) (w := w) (base := base) A_align B C
  have D_source := d_source (Pg := l.prog) (w := w) (base := base) A_source B C
  have D_draw := d_draw (Pg := l.prog) (w := w) (base := base) A_draw B C
  have D_name := d_name (Pg := l.prog) (w := w) (base := base) A_name B C
  have D_columns := d_columns (Pg := l.prog) (w := w) (base := base) A_columns B C
  have D_labels := d_labels (Pg := l.prog) (w := w) (base := base) A_labels B C
  have D_alignments := d_alignments (Pg := l.prog) (w := w) (base := base) A_alignments B C
  have D_row_ring := d_row_ring (Pg := l.prog) (w := w) (base := base) A_row_ring B C D_ring_of
  have D_column_ring := d_column_ring (Pg := l.prog) (w := w) (base := base) A_column_ring B C D_ring_of D_columns_of
  have D_is_rearrangement := d_is_rearrangement (Pg := l.prog) (w := w) (base := base) A_is_rearrangement B C D_groups_of D_columns_of
  have D_alignments_of := d_alignments_of (Pg := l.prog) (w := w) (base := base) A_alignments_of B C D_align
  have D_shuffled := d_shuffled (Pg := l.prog) (w := w) (base := base) A_shuffled B C D_draw
  have D_rings := d_rings (Pg := l.prog) (w := w) (base := base) A_rings B C D_labels D_columns
  have D_same_lines := d_same_lines (Pg := l.prog) (w := w) (base := base) A_same_lines B C D_columns
  have D_others := d_others (Pg := l.prog) (w := w) (base := base) A_others B C D_columns D_draw
  have D_check_rearrangement := d_check_rearrangement (Pg := l.prog) (w := w) (base := base) A_check_rearrangement B C R_NotRearranged D_is_rearrangement
  have D_pattern := d_pattern (Pg := l.prog) (w := w) (base := base) A_pattern B C D_draw D_shuffled
  have D_rearranged := d_rearranged (Pg := l.prog) (w := w) (base := base) A_rearranged B C D_draw D_shuffled
  have D_row_alignments := d_row_alignments (Pg := l.prog) (w := w) (base := base) A_row_alignments B C R_NotRearranged D_alignments_of D_row_ring D_check_rearrangement
  have D_column_alignments := d_column_alignments (Pg := l.prog) (w := w) (base := base) A_column_alignments B C R_NotRearranged D_alignments_of D_column_ring D_check_rearrangement
  have D_named := d_named (Pg := l.prog) (w := w) (base := base) A_named B C D_name D_shuffled D_draw D_pattern
  have D_floor := d_floor (Pg := l.prog) (w := w) (base := base) A_floor B C D_named D_draw
  have D_told := d_told (Pg := l.prog) (w := w) (base := base) A_told B C R_NotRearranged D_column_alignments D_row_alignments ⟨⟨gaeCR, ggeCR, ebeCR, hdeCR, jhaCR, jhn, jht, jhmCR⟩, iceCR⟩ (PySem.W.mg_of X G giCB) (PySem.W.mg_of X G giCE) (PySem.W.mg_of X G giCL) (PySem.W.mg_of X G aaeCR) (PySem.W.mg_of X G giCW) (exm_to jeCE jiCE jtCE jsCRCE) (kit_b scnCRCB jiCB jtCB jsCRCB) (kit_b scnCRCL jiCL jtCL jsCRCL) (kit_b scnCRCW jiCW jtCW jsCRCW)
  have D_columns_told := d_columns_told (Pg := l.prog) (w := w) (base := base) A_columns_told B C R_NotRearranged D_column_alignments (PySem.W.mg_of X G aaeCR)
  exact f_law (fun_mk (st := s_law) ll27 co27 kk27) B C D_columns_told D_told D_same_lines D_alignments D_rings D_rearranged D_others D_floor D_source
end Dv

open PySem PySem.W PyProof.Rows in
set_option maxRecDepth 100000 in
set_option maxHeartbeats 0 in
theorem PySem.Challenge.cw_crossfloor_k12_alignments_holds : PySem.Challenge.rw_crossfloor_k12_alignments.Holds := by
  w_on; o_law; k_head; (case hw => w_witness2)
  k_fill
  refine Dv.dwalk (l := PySem.Challenge.rw_crossfloor_k12_alignments) (k := 6) rfl rfl ⟨rfl, by decide, by decide⟩ (fun w h Y => PySem.W.kIn_of Y) ?F
  case F =>
    intro w mg fa h KX G hmg
    refine' Dv.all_mk KX G hmg ?aa0 ?ll0 ?co0 ?kk0 ?aa1 ?ll1 ?co1 ?kk1 ?aa2 ?ll2 ?co2 ?kk2 ?aa3 ?ll3 ?co3 ?kk3 ?aa4 ?ll4 ?co4 ?kk4 ?aa5 ?ll5 ?co5 ?kk5 ?aa6 ?ll6 ?co6 ?kk6 ?aa7 ?ll7 ?co7 ?kk7 ?aa8 ?ll8 ?co8 ?kk8 ?aa9 ?ll9 ?co9 ?kk9 ?aa10 ?ll10 ?co10 ?kk10 ?aa11 ?ll11 ?co11 ?kk11 ?aa12 ?ll12 ?co12 ?kk12 ?aa13 ?ll13 ?co13 ?kk13 ?aa14 ?ll14 ?co14 ?kk14 ?aa15 ?ll15 ?co15 ?kk15 ?aa16 ?ll16 ?co16 ?kk16 ?aa17 ?ll17 ?co17 ?kk17 ?aa18 ?ll18 ?co18 ?kk18 ?aa19 ?ll19 ?co19 ?kk19 ?aa20 ?ll20 ?co20 ?kk20 ?aa21 ?ll21 ?co21 ?kk21 ?aa22 ?ll22 ?co22 ?kk22 ?aa23 ?ll23 ?co23 ?kk23 ?aa24 ?ll24 ?co24 ?kk24 ?aa25 ?ll25 ?co25 ?kk25 ?aa26 ?ll26 ?co26 ?kk26 ?aa27 ?ll27 ?co27 ?kk27 ?aaeCR ?qqeCR ?gaeCR ?ggeCR ?ebeCR ?tyeCR ?kceCR ?hdeCR ?iceCR ?sceCR ?giCB ?jiCB ?jtCB ?giCE ?jiCE ?jtCE ?giCL ?jiCL ?jtCL ?giCW ?jiCW ?jtCW ?jeCE ?jsCRCB ?jsCRCE ?jsCRCL ?jsCRCW ?scnCRCB ?scnCRCL ?scnCRCW ?jhaCR ?jhmCR ?jhn ?jht ?zz0 ?zz1 ?zz2 ?zz3 ?zz4 ?zz5 ?zz6 ?zz7 ?zz8 ?zz9 ?zz10 ?cc0
    (case aa0 => k_is)
    (case ll0 => k_is)
    (case co0 => k_is)
    (case kk0 => k_is)
    (case aa1 => k_is)
    (case ll1 => k_is)
    (case co1 => k_is)
    (case kk1 => k_is)
    (case aa2 => k_is)
    (case ll2 => k_is)
    (case co2 => k_is)
    (case kk2 => k_is)
    (case aa3 => k_is)
    (case ll3 => k_is)
    (case co3 => k_is)
    (case kk3 => k_is)
    (case aa4 => k_is)
    (case ll4 => k_is)
    (case co4 => k_is)
    (case kk4 => k_is)
    (case aa5 => k_is)
    (case ll5 => k_is)
    (case co5 => k_is)
    (case kk5 => k_is)
    (case aa6 => k_is)
    (case ll6 => k_is)
    (case co6 => k_is)
    (case kk6 => k_is)
    (case aa7 => k_is)
    (case ll7 => k_is)
    (case co7 => k_is)
    (case kk7 => k_is)
    (case aa8 => k_is)
    (case ll8 => k_is)
    (case co8 => k_is)
    (case kk8 => k_is)
    (case aa9 => k_is)
    (case ll9 => k_is)
    (case co9 => k_is)
    (case kk9 => k_is)
    (case aa10 => k_is)
    (case ll10 => k_is)
    (case co10 => k_is)
    (case kk10 => k_is)
    (case aa11 => k_is)
    (case ll11 => k_is)
    (case co11 => k_is)
    (case kk11 => k_is)
    (case aa12 => k_is)
    (case ll12 => k_is)
    (case co12 => k_is)
    (case kk12 => k_is)
    (case aa13 => k_is)
    (case ll13 => k_is)
    (case co13 => k_is)
    (case kk13 => k_is)
    (case aa14 => k_is)
    (case ll14 => k_is)
    (case co14 => k_is)
    (case kk14 => k_is)
    (case aa15 => k_is)
    (case ll15 => k_is)
    (case co15 => k_is)
    (case kk15 => k_is)
    (case aa16 => k_is)
    (case ll16 => k_is)
    (case co16 => k_is)
    (case kk16 => k_is)
    (case aa17 => k_is)
    (case ll17 => k_is)
    (case co17 => k_is)
    (case kk17 => k_is)
    (case aa18 => k_is)
    (case ll18 => k_is)
    (case co18 => k_is)
    (case kk18 => k_is)
    (case aa19 => k_is)
    (case ll19 => k_is)
    (case co19 => k_is)
    (case kk19 => k_is)
    (case aa20 => k_is)
    (case ll20 => k_is)
    (case co20 => k_is)
    (case kk20 => k_is)
    (case aa21 => k_is)
    (case ll21 => k_is)
    (case co21 => k_is)
    (case kk21 => k_is)
    (case aa22 => k_is)
    (case ll22 => k_is)
    (case co22 => k_is)
    (case kk22 => k_is)
    (case aa23 => k_is)
    (case ll23 => k_is)
    (case co23 => k_is)
    (case kk23 => k_is)
    (case aa24 => k_is)
    (case ll24 => k_is)
    (case co24 => k_is)
    (case kk24 => k_is)
    (case aa25 => k_is)
    (case ll25 => k_is)
    (case co25 => k_is)
    (case kk25 => k_is)
    (case aa26 => k_is)
    (case ll26 => k_is)
    (case co26 => k_is)
    (case kk26 => k_is)
    (case aa27 => k_is)
    (case ll27 => k_is)
    (case co27 => k_is)
    (case kk27 => k_is)
    (case aaeCR => k_is)
    (case qqeCR => k_exc)
    (case gaeCR => k_is)
    (case ggeCR => k_is)
    (case ebeCR => k_is)
    (case tyeCR => k_is)
    (case kceCR => k_is)
    (case hdeCR => k_is)
    (case iceCR => k_is)
    (case sceCR => first | rfl | decide | k_is)
    (case giCB => k_is)
    (case jiCB => k_is)
    (case jtCB => k_is)
    (case giCE => k_is)
    (case jiCE => k_is)
    (case jtCE => k_is)
    (case giCL => k_is)
    (case jiCL => k_is)
    (case jtCL => k_is)
    (case giCW => k_is)
    (case jiCW => k_is)
    (case jtCW => k_is)
    (case jeCE => k_is)
    (case jsCRCB => k_is)
    (case jsCRCE => k_is)
    (case jsCRCL => k_is)
    (case jsCRCW => k_is)
    (case scnCRCB => first | rfl | decide | k_is)
    (case scnCRCL => first | rfl | decide | k_is)
    (case scnCRCW => first | rfl | decide | k_is)
    (case jhaCR => k_is)
    (case jhmCR => k_is)
    (case jhn => k_is)
    (case jht => k_is)
    (case zz0 => k_is)
    (case zz1 => k_is)
    (case zz2 => k_is)
    (case zz3 => k_is)
    (case zz4 => k_is)
    (case zz5 => k_is)
    (case zz6 => k_is)
    (case zz7 => k_is)
    (case zz8 => k_is)
    (case zz9 => k_is)
    (case zz10 => k_is)
    (case cc0 => k_is)
