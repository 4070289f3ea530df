import PyProof.Rows.All
import Wide.All
import OpenK.AllK
import Wide.FinOn
import HandS.ForMost
import HandS.Walk
import HandS.Wide
import HandS.Deep
import HandS.SetKeys
import HandS.Codes
import HandS.Strs
import HandS.Flow
import HandS.TupAny
import HandS.Conv
import PyProof.MaxThree
import PyProof.StrBlock2
import PyProof.ReprRoads
import PyProof.Rows.RuleB_pow
import PyProof.P3In
import PyProof.Rows.SortShellAny
import PyProof.Rows.InDataRows
import KE.GoesMore
import PyProof.EnumMake
import HandS.ForExc
import HandS.ExcInit
import HandS.ExcField
import HandS.TryOnly
import KE.KExcIs
import KE.KIsAll
import HandS.ExcIs
import HandS.More
import PyProof.P3Eq
import KE.SortData
import KE.DataMinMax
import HandS.Small
import KE.KDictPairs
import HandS.Defaults
import HandS.Style
import HandS.Iter
import PySem.Challenge.RW_crossfloor_k07_whole_moves_keep_lines
set_option Elab.async false
set_option linter.all false
set_option maxRecDepth 100000
set_option maxHeartbeats 4000000
/-! Data over the hand layer: what a value is as a whole (PyData), a store of the lists that change, and rules that speak of these alone. -/
namespace Dv
open PySem L2

/-- what an object that may change holds -/
inductive Mu where
  | lst (ds : List PyData)
  | raw (o : HO)
  | refs (as : List Addr)
  | obj (ns : List Str) (ds : List PyData)
  | dic (ps : List (Str × PyData))
  | dicF (ob : Obj) (kvs : List (Key × V)) (ps : List (Str × PyData))
abbrev Sto := Addr → Option Mu
/-- the objects that change no more -/
abbrev Reg := Addr → Prop
def put (m : Sto) (a : Addr) (u : Mu) : Sto := fun b => if b = a then some u else m b
def del (m : Sto) (a : Addr) : Sto := fun b => if b = a then none else m b
def add (F : Reg) (a : Addr) : Reg := fun b => b = a ∨ F b
theorem put_same {m : Sto} {a : Addr} {u : Mu} : put m a u a = some u := if_pos rfl
theorem put_ne {m : Sto} {a b : Addr} {u : Mu} (h : b ≠ a) : put m a u b = m b := if_neg h
theorem del_same {m : Sto} {a : Addr} : del m a a = none := if_pos rfl
theorem del_ne {m : Sto} {a b : Addr} (h : b ≠ a) : del m a b = m b := if_neg h
theorem put_put {m : Sto} {a : Addr} {u w : Mu} : put (put m a u) a w = put m a w := by
  funext b; unfold put; split <;> rfl
theorem del_put {m : Sto} {a : Addr} {u : Mu} (h : m a = none) : del (put m a u) a = m := by
  funext b
  by_cases hb : b = a
  · rw [hb, del_same, h]
  · rw [del_ne hb, put_ne hb]
theorem put_self {m : Sto} {a : Addr} {u : Mu} (h : m a = some u) : put m a u = m := by
  funext b
  by_cases hb : b = a
  · rw [hb, put_same, h]
  · rw [put_ne hb]
theorem put_comm {m : Sto} {a b : Addr} {u w : Mu} (h : a ≠ b) : put (put m a u) b w = put (put m b w) a u := by
  funext c
  by_cases hb : c = b
  · rw [hb, put_same, put_ne (Ne.symm h), put_same]
  · rw [put_ne hb]
    by_cases ha : c = a
    · rw [ha, put_same, put_same]
    · rw [put_ne ha, put_ne ha, put_ne hb]
theorem del_put_ne {m : Sto} {a b : Addr} {u : Mu} (h : a ≠ b) : del (put m a u) b = put (del m b) a u := by
  funext c
  by_cases hb : c = b
  · rw [hb, del_same, put_ne (Ne.symm h), del_same]
  · rw [del_ne hb]
    by_cases ha : c = a
    · rw [ha, put_same, put_same]
    · rw [put_ne ha, put_ne ha, del_ne hb]

/-- a written list, a written tuple -/
def WrL (K : PySem.W.Frag) (a : Addr) (xs : List V) : Prop := ∃ (o : Obj) (its : Array Value) (n : Nat), K.lookup a = some o ∧ o.cls = .type "list" ∧ o.dict = none ∧ o.data = .seq its n ∧ its.size ≤ sizeLine ∧ Vals xs its.toList
def WrT (K : PySem.W.Frag) (a : Addr) (xs : List V) : Prop := ∃ (o : Obj) (its : Array Value) (n : Nat), K.lookup a = some o ∧ o.cls = .type "tuple" ∧ o.dict = none ∧ o.data = .seq its n ∧ its.size ≤ sizeLine ∧ Vals xs its.toList

/-- a tuple known to the object, which has no dict of its own -/
def ZT (H : Hp) (a : Addr) (vs : List V) : Prop := ∃ ob : Obj, H a = some (.frz ob (.tup vs)) ∧ ob.dict = none
theorem ZT.sq {K : PySem.W.Frag} {H : Hp} {a : Addr} {vs : List V} (h : ZT H a vs) : SqT K H a vs := let ⟨ob, e, _⟩ := h; .inl (.inr ⟨ob, e⟩)
theorem WrT.sq {K : PySem.W.Frag} {H : Hp} {a : Addr} {vs : List V} (h : WrT K a vs) : SqT K H a vs := let ⟨o, its, n, a1, a2, _, a3, a4, a5⟩ := h; .inr ⟨o, its, n, a1, a2, a3, a4, a5⟩
mutual
/-- v is the datum, by objects that do not change -/
def Im (K : PySem.W.Frag) (F : Reg) (H : Hp) : PyData → V → Prop
  | .none, v => v = .non
  | .bool b, v => v = .bl b
  | .int i, v => v = .int i
  | .str z, v => v = .str z
  | .list ds, v => ∃ a vs, v = .ref a ∧ F a ∧ H a = some (.lst vs) ∧ ImAll K F H ds vs
  | .tuple ds, v => ∃ a vs, v = .ref a ∧ ((F a ∧ ZT H a vs) ∨ WrT K a vs) ∧ ImAll K F H ds vs
  | .dict _, _ => False
def ImAll (K : PySem.W.Frag) (F : Reg) (H : Hp) : List PyData → List V → Prop
  | [], vs => vs = []
  | d :: ds, vs => ∃ v r, vs = v :: r ∧ Im K F H d v ∧ ImAll K F H ds r
end
/-- what stands in a name: a datum; a list that may change; the script; a value as it is -/
inductive Sl where
  | p (x y : PyData)
  | d (x : PyData)
  | m (a : Addr)
  | f (ds : List PyData)
  | v (x : V)
def SlOk (K : PySem.W.Frag) (F : Reg) (H : Hp) : Sl → V → Prop
  | .p x y, v => ∃ a v1 v2, v = .ref a ∧ F a ∧ H a = some (.tup [v1, v2]) ∧ Im K F H x v1 ∧ Im K F H y v2
  | .d x, v => Im K F H x v
  | .m a, v => v = .ref a
  | .f ds, v => ∃ a vs, v = .ref a ∧ ((F a ∧ ∃ o, H a = some (.frz o (.lst vs))) ∨ WrL K a vs) ∧ ImAll K F H ds vs
  | .v x, v => v = x
abbrev Rho := List (Option Sl)
def SlO (K : PySem.W.Frag) (F : Reg) (H : Hp) (s : Option Sl) (v : Option V) : Prop := ∀ sl, s = some sl → ∃ x, v = some x ∧ SlOk K F H sl x
abbrev EnvOk (K : PySem.W.Frag) (F : Reg) (H : Hp) : Rho → L2.St → Prop := Paired (SlO K F H)
abbrev SlsOk (K : PySem.W.Frag) (F : Reg) (H : Hp) : List Sl → List V → Prop := Paired (SlOk K F H)
def MuOk (K : PySem.W.Frag) (F : Reg) (H : Hp) (a : Addr) : Mu → Prop
  | .lst ds => ∃ vs, H a = some (.lst vs) ∧ ImAll K F H ds vs
  | .raw o => H a = some o
  | .refs as => H a = some (.lst (as.map V.ref))
  | .obj ns ds => ∃ vs, H a = some (.xd (ns.zip vs).reverse) ∧ ImAll K F H ds vs
  | .dic ps => ∃ kvs : List (Key × V), H a = some (.dK kvs) ∧ Paired (fun p kv => kv.1 = Sum.inr p.1 ∧ Im K F H p.2 kv.2) ps kvs
  | .dicF ob kvs ps => H a = some (.frz ob (.dK kvs)) ∧ Paired (fun p kv => kv.1 = Sum.inr p.1 ∧ Im K F H p.2 kv.2) ps kvs
structure StoOk (K : PySem.W.Frag) (m : Sto) (F : Reg) (H : Hp) : Prop where
  mu : ∀ a u, m a = some u → MuOk K F H a u ∧ ¬ F a
  reg : ∀ a, F a → H a ≠ none
/-- what does not change stays; what is not known is left alone -/
structure Step (m : Sto) (F : Reg) (H : Hp) (m' : Sto) (F' : Reg) (H' : Hp) : Prop where
  fix : ∀ a o, H a = some o → F a → H' a = some o ∧ F' a
  frm : ∀ a o, H a = some o → ¬ F a → m a = none → H' a = some o ∧ ¬ F' a ∧ m' a = none

section
variable {K : PySem.W.Frag} {m m1 m2 m' : Sto} {F F1 F2 F' : Reg} {H H1 H2 H' : Hp}
theorem Step.refl : Step m F H m F H := ⟨fun _ _ h n => ⟨h, n⟩, fun _ _ h n k => ⟨h, n, k⟩⟩
theorem Step.trans (a : Step m F H m1 F1 H1) (b : Step m1 F1 H1 m2 F2 H2) : Step m F H m2 F2 H2 :=
  ⟨fun x o h n => b.fix x o (a.fix x o h n).1 (a.fix x o h n).2, fun x o h n k => b.frm x o (a.frm x o h n k).1 (a.frm x o h n k).2.1 (a.frm x o h n k).2.2⟩
mutual
theorem im_fix (s : ∀ a o, H a = some o → F a → H' a = some o ∧ F' a) : ∀ (d : PyData) (v : V), Im K F H d v → Im K F' H' d v
  | .none, _, h => h
  | .bool _, _, h => h
  | .int _, _, h => h
  | .str _, _, h => h
  | .list ds, v, h => by
    obtain ⟨a, vs, e, n, ha, q⟩ := h
    exact ⟨a, vs, e, (s a _ ha n).2, (s a _ ha n).1, imAll_fix s ds vs q⟩
  | .tuple ds, v, h => by
    obtain ⟨a, vs, e, n, q⟩ := h
    refine ⟨a, vs, e, ?_, imAll_fix s ds vs q⟩
    rcases n with ⟨n, ob, ha, hd⟩ | w
    · exact .inl ⟨(s a _ ha n).2, ob, (s a _ ha n).1, hd⟩
    · exact .inr w
  | .dict _, _, h => h
theorem imAll_fix (s : ∀ a o, H a = some o → F a → H' a = some o ∧ F' a) : ∀ (ds : List PyData) (vs : List V), ImAll K F H ds vs → ImAll K F' H' ds vs
  | [], _, h => h
  | d :: ds, vs, h => by
    obtain ⟨v, r, e, h1, h2⟩ := h
    exact ⟨v, r, e, im_fix s d v h1, imAll_fix s ds r h2⟩
end
theorem slOk_fix (s : ∀ a o, H a = some o → F a → H' a = some o ∧ F' a) : ∀ {sl : Sl} {v : V}, SlOk K F H sl v → SlOk K F' H' sl v
  | .p x y, v, h => by
    obtain ⟨a, v1, v2, e, n, ha, i1, i2⟩ := h
    exact ⟨a, v1, v2, e, (s a _ ha n).2, (s a _ ha n).1, im_fix s x v1 i1, im_fix s y v2 i2⟩
  | .d x, v, h => im_fix s x v h
  | .m a, v, h => h
  | .f ds, v, h => by
    obtain ⟨a, vs, e, n, q⟩ := h
    refine ⟨a, vs, e, ?_, imAll_fix s ds vs q⟩
    rcases n with ⟨n, o, ha⟩ | w
    · exact .inl ⟨(s a _ ha n).2, o, (s a _ ha n).1⟩
    · exact .inr w
  | .v x, v, h => h
theorem slOk_step (s : Step m F H m' F' H') {sl : Sl} {v : V} (h : SlOk K F H sl v) : SlOk K F' H' sl v := slOk_fix s.fix h
theorem slO_step (s : Step m F H m' F' H') {a : Option Sl} {b : Option V} (h : SlO K F H a b) : SlO K F' H' a b := fun sl e =>
  let ⟨x, e1, q⟩ := h sl e
  ⟨x, e1, slOk_step s q⟩
theorem envOk_step (s : Step m F H m' F' H') {ρ : Rho} {σ : L2.St} (h : EnvOk K F H ρ σ) : EnvOk K F' H' ρ σ := Paired.mapP h fun _ _ => slO_step s
theorem slsOk_step (s : Step m F H m' F' H') {ss : List Sl} {vs : List V} (h : SlsOk K F H ss vs) : SlsOk K F' H' ss vs := Paired.mapP h fun _ _ => slOk_step s
theorem muOk_fix (s : ∀ a o, H a = some o → F a → H' a = some o ∧ F' a) {a : Addr} {u : Mu} (ha : ∀ o, H a = some o → H' a = some o) (h : MuOk K F H a u) : MuOk K F' H' a u := by
  cases u with
  | lst ds =>
    obtain ⟨vs, z, q⟩ := h
    exact ⟨vs, ha _ z, imAll_fix s ds vs q⟩
  | raw o => exact ha o h
  | refs as => exact ha _ h
  | obj ns ds =>
    obtain ⟨vs, z, q⟩ := h
    exact ⟨vs, ha _ z, imAll_fix s ds vs q⟩
  | dic ps =>
    obtain ⟨kvs, z, q⟩ := h
    exact ⟨kvs, ha _ z, Paired.mapP q fun _ _ r => ⟨r.1, im_fix s _ _ r.2⟩⟩
  | dicF ob kvs ps =>
    obtain ⟨z, q⟩ := h
    exact ⟨ha _ z, Paired.mapP q fun _ _ r => ⟨r.1, im_fix s _ _ r.2⟩⟩
theorem muOk_some {a : Addr} {u : Mu} (h : MuOk K F H a u) : ∃ o, H a = some o := by
  cases u with
  | lst ds =>
    obtain ⟨vs, z, q⟩ := h
    exact ⟨_, z⟩
  | raw o => exact ⟨o, h⟩
  | refs as => exact ⟨_, h⟩
  | obj ns ds =>
    obtain ⟨vs, z, q⟩ := h
    exact ⟨_, z⟩
  | dic ps =>
    obtain ⟨kvs, z, q⟩ := h
    exact ⟨_, z⟩
  | dicF ob kvs ps => exact ⟨_, h.1⟩
theorem sto_none (S : StoOk K m F H) {p : Addr} (h : H p = none) : m p = none := by
  cases e : m p with
  | none => rfl
  | some u =>
    obtain ⟨o, q⟩ := muOk_some (S.mu p u e).1
    rw [h] at q
    cases q
theorem fix_upd (S : StoOk K m F H) {p : Addr} {o : HO} (h : ¬ F p) : ∀ a u, H a = some u → F a → upd H p o a = some u ∧ F a := fun a u ha n => by
  have ne : a ≠ p := fun e => h (e ▸ n)
  exact ⟨by rw [upd_ne ne]; exact ha, n⟩
theorem fix_add (S : StoOk K m F H) {p : Addr} {o : HO} (h : ¬ F p) : ∀ a u, H a = some u → F a → upd H p o a = some u ∧ add F p a := fun a u ha n => ⟨(fix_upd S h a u ha n).1, .inr n⟩
theorem not_reg (S : StoOk K m F H) {p : Addr} (h : H p = none) : ¬ F p := fun n => S.reg p n h
/-- a new thing that does not change -/
theorem step_new (S : StoOk K m F H) {p : Addr} {o : HO} (h : H p = none) : Step m F H m (add F p) (upd H p o) :=
  ⟨fix_add S (not_reg S h), fun a u ha n k => by
    have ne := ne_of_none ha h
    exact ⟨by rw [upd_ne ne]; exact ha, fun z => z.elim ne n, k⟩⟩
theorem sto_new (S : StoOk K m F H) {p : Addr} {o : HO} (h : H p = none) : StoOk K m (add F p) (upd H p o) where
  mu := fun a u e => by
    have ne : a ≠ p := fun z => by
      rw [z, sto_none S h] at e
      cases e
    exact ⟨muOk_fix (fix_add S (not_reg S h)) (fun o q => by rw [upd_ne ne]; exact q) (S.mu a u e).1, fun z => z.elim ne (S.mu a u e).2⟩
  reg := fun a z => by
    by_cases e : a = p
    · rw [e, upd_same]; simp
    · rw [upd_ne e]
      exact S.reg a (z.resolve_left e)
/-- a new thing that may change -/
theorem step_newM (S : StoOk K m F H) {p : Addr} {o : HO} {u : Mu} (h : H p = none) : Step m F H (put m p u) F (upd H p o) :=
  ⟨fix_upd S (not_reg S h), fun a w ha n k => by
    have ne := ne_of_none ha h
    exact ⟨by rw [upd_ne ne]; exact ha, n, by rw [put_ne ne]; exact k⟩⟩
theorem sto_put (S : StoOk K m F H) {p : Addr} {o : HO} {u : Mu} (h : ¬ F p) (hu : MuOk K F (upd H p o) p u) : StoOk K (put m p u) F (upd H p o) where
  mu := fun a w e => by
    by_cases ne : a = p
    · subst ne
      rw [put_same] at e
      cases e
      exact ⟨hu, h⟩
    · rw [put_ne ne] at e
      exact ⟨muOk_fix (fix_upd S h) (fun o q => by rw [upd_ne ne]; exact q) (S.mu a w e).1, (S.mu a w e).2⟩
  reg := fun a z => by
    by_cases e : a = p
    · rw [e, upd_same]; simp
    · rw [upd_ne e]
      exact S.reg a z
theorem step_mut (S : StoOk K m F H) {p : Addr} {o : HO} {u w : Mu} (h : m p = some w) : Step m F H (put m p u) F (upd H p o) :=
  ⟨fix_upd S (S.mu p w h).2, fun a z ha n k => by
    have ne : a ≠ p := fun e => by rw [e, h] at k; cases k
    exact ⟨by rw [upd_ne ne]; exact ha, n, by rw [put_ne ne]; exact k⟩⟩
/-- from now on it does not change -/
theorem step_del (S : StoOk K m F H) {p : Addr} {w : Mu} (h : m p = some w) : Step m F H (del m p) (add F p) H :=
  ⟨fun a o ha n => ⟨ha, .inr n⟩, fun a o ha n k => by
    have ne : a ≠ p := fun e => by rw [e, h] at k; cases k
    exact ⟨ha, fun z => z.elim ne n, by rw [del_ne ne]; exact k⟩⟩
theorem sto_del (S : StoOk K m F H) {p : Addr} {w : Mu} (h : m p = some w) : StoOk K (del m p) (add F p) H where
  mu := fun a z e => by
    by_cases ne : a = p
    · subst ne
      rw [del_same] at e
      cases e
    · rw [del_ne ne] at e
      exact ⟨muOk_fix (fun a o ha n => ⟨ha, .inr n⟩) (fun o q => q) (S.mu a z e).1, fun z' => z'.elim ne (S.mu a z e).2⟩
  reg := fun a z => by
    rcases z with z | z
    · obtain ⟨o, q⟩ := muOk_some (S.mu p w h).1
      rw [z, q]; simp
    · exact S.reg a z
theorem im_frozen {p : Addr} {ds : List PyData} (S : StoOk K m F H) (h : m p = some (.lst ds)) : Im K (add F p) H (.list ds) (.ref p) := by
  obtain ⟨vs, z, q⟩ := (S.mu p _ h).1
  exact ⟨p, vs, rfl, .inl rfl, z, imAll_fix (fun a o ha n => ⟨ha, .inr n⟩) ds vs q⟩
theorem paired_get {α β : Type} {F : α → β → Prop} : ∀ {xs : List α} {ys : List β} {i : Nat} {x : α}, Paired F xs ys → xs[i]? = some x → ∃ y, ys[i]? = some y ∧ F x y
  | _, _, _, _, .nil, e => by simp at e
  | _, _, 0, _, .cons r _, e => by simp at e; subst e; exact ⟨_, rfl, r⟩
  | _, _, i + 1, x, .cons _ t, e => by
    obtain ⟨u, h1, h2⟩ := paired_get (i := i) (x := x) t (by simpa using e)
    exact ⟨u, by simpa using h1, h2⟩
theorem paired_set {α β : Type} {F : α → β → Prop} {x : α} {y : β} (r : F x y) : ∀ {xs : List α} {ys : List β} (i : Nat), Paired F xs ys → Paired F (xs.set i x) (ys.set i y)
  | _, _, _, .nil => .nil
  | _, _, 0, .cons _ t => .cons r t
  | _, _, i + 1, .cons q t => .cons q (paired_set r i t)
theorem paired_len {α β : Type} {F : α → β → Prop} {xs : List α} {ys : List β} (h : Paired F xs ys) : xs.length = ys.length := Paired.length h
theorem paired_app {α β : Type} {F : α → β → Prop} : ∀ {xs xs' : List α} {ys ys' : List β}, Paired F xs ys → Paired F xs' ys' → Paired F (xs ++ xs') (ys ++ ys')
  | _, _, _, _, .nil, h => h
  | _, _, _, _, .cons r t, h => .cons r (paired_app t h)
theorem imAll_iff : ∀ {ds : List PyData} {vs : List V}, ImAll K F H ds vs ↔ Paired (Im K F H) ds vs
  | [], vs => ⟨fun h => by cases (show vs = [] from h); exact .nil, fun h => by cases h; rfl⟩
  | d :: ds, vs => ⟨fun h => by
      obtain ⟨v, r, e, h1, h2⟩ := h
      subst e
      exact .cons h1 (imAll_iff.mp h2), fun h => by
      cases h with
      | cons h1 h2 => exact ⟨_, _, rfl, h1, imAll_iff.mpr h2⟩⟩
theorem imAll_len {ds : List PyData} {vs : List V} (h : ImAll K F H ds vs) : ds.length = vs.length := paired_len (imAll_iff.mp h)
theorem imAll_app {ds es : List PyData} {vs us : List V} (h : ImAll K F H ds vs) (g : ImAll K F H es us) : ImAll K F H (ds ++ es) (vs ++ us) := imAll_iff.mpr (paired_app (imAll_iff.mp h) (imAll_iff.mp g))
theorem imAll_one {d : PyData} {v : V} (h : Im K F H d v) : ImAll K F H [d] [v] := ⟨v, [], rfl, h, rfl⟩
theorem imAll_get {ds : List PyData} {vs : List V} (h : ImAll K F H ds vs) {i : Nat} {d : PyData} (e : ds[i]? = some d) : ∃ v, vs[i]? = some v ∧ Im K F H d v := paired_get (imAll_iff.mp h) e
theorem imAll_set {ds : List PyData} {vs : List V} (h : ImAll K F H ds vs) (i : Nat) {d : PyData} {v : V} (q : Im K F H d v) : ImAll K F H (ds.set i d) (vs.set i v) := imAll_iff.mpr (paired_set q i (imAll_iff.mp h))
theorem paired_erase {α β : Type} {F : α → β → Prop} : ∀ {xs : List α} {ys : List β} (i : Nat), Paired F xs ys → Paired F (xs.eraseIdx i) (ys.eraseIdx i)
  | _, _, _, .nil => by simp; exact .nil
  | _, _, 0, .cons _ t => by simpa using t
  | _, _, i + 1, .cons q t => by simpa using Paired.cons q (paired_erase i t)
theorem imAll_erase {ds : List PyData} {vs : List V} (h : ImAll K F H ds vs) (i : Nat) : ImAll K F H (ds.eraseIdx i) (vs.eraseIdx i) := imAll_iff.mpr (paired_erase i (imAll_iff.mp h))
theorem paired_take {α β : Type} {F : α → β → Prop} : ∀ {xs : List α} {ys : List β} (n : Nat), Paired F xs ys → Paired F (xs.take n) (ys.take n)
  | _, _, 0, _ => .nil
  | _, _, _ + 1, .nil => .nil
  | _, _, n + 1, .cons r t => .cons r (paired_take n t)
theorem paired_drop {α β : Type} {F : α → β → Prop} : ∀ {xs : List α} {ys : List β} (n : Nat), Paired F xs ys → Paired F (xs.drop n) (ys.drop n)
  | _, _, 0, r => r
  | _, _, _ + 1, .nil => .nil
  | _, _, n + 1, .cons r t => paired_drop n t
mutual
theorem im_dp : ∀ (d : PyData) (v : V), Im K F H d v → Dp K H v d
  | .none, v, h => by cases (show v = .non from h); exact .non
  | .bool b, v, h => by cases (show v = .bl b from h); exact .bl b
  | .int i, v, h => by cases (show v = .int i from h); exact .int i
  | .str z, v, h => by cases (show v = .str z from h); exact .str z
  | .list ds, v, h => by
    obtain ⟨a, vs, e, n, ha, q⟩ := h
    subst e
    exact .lst (SqL.of ha) (imAll_dp ds vs q)
  | .tuple ds, v, h => by
    obtain ⟨a, vs, e, n, q⟩ := h
    subst e
    refine .tup ?_ (imAll_dp ds vs q)
    rcases n with ⟨n, ha⟩ | w
    · exact ha.sq
    · exact w.sq
  | .dict _, v, h => False.elim h
theorem imAll_dp : ∀ (ds : List PyData) (vs : List V), ImAll K F H ds vs → DpAll K H vs ds
  | [], vs, h => by cases (show vs = [] from h); exact .nil
  | d :: ds, vs, h => by
    obtain ⟨v, r, e, h1, h2⟩ := h
    subst e
    exact .cons (im_dp d v h1) (imAll_dp ds r h2)
end
theorem im_tup {ds : List PyData} {v : V} (h : Im K F H (.tuple ds) v) : ∃ a vs, v = .ref a ∧ SqT K H a vs ∧ ImAll K F H ds vs := by
  obtain ⟨a, vs, e, n, q⟩ := h
  refine ⟨a, vs, e, ?_, q⟩
  rcases n with ⟨_, ha⟩ | w
  · exact ha.sq
  · exact w.sq
theorem im_lst {ds : List PyData} {v : V} (h : Im K F H (.list ds) v) : ∃ a vs, v = .ref a ∧ H a = some (.lst vs) ∧ ImAll K F H ds vs := by
  obtain ⟨a, vs, e, n, ha, q⟩ := h
  exact ⟨a, vs, e, ha, q⟩
theorem sl_f {ds : List PyData} {v : V} (h : SlOk K F H (.f ds) v) : ∃ a vs, v = .ref a ∧ SqL K H a vs ∧ ImAll K F H ds vs := by
  obtain ⟨a, vs, e, n, q⟩ := h
  refine ⟨a, vs, e, ?_, q⟩
  rcases n with ⟨_, o, ha⟩ | w
  · exact .inl (.inr ⟨o, ha⟩)
  · exact .inr w
theorem mu_lst (S : StoOk K m F H) {a : Addr} {ds : List PyData} (h : m a = some (.lst ds)) : ∃ vs, H a = some (.lst vs) ∧ ImAll K F H ds vs := (S.mu a _ h).1
end

/-! ### what is wanted -/
abbrev PV := Sl → Sto → Prop
/-- te gives a slot and a store of which P holds -/
def Ev (K : PySem.W.Frag) (te : TE) (ρ : Rho) (m : Sto) (P : PV) : Prop :=
  ∀ (σ : L2.St) (F : Reg) (H : Hp) (Q : VK), EnvOk K F H ρ σ → StoOk K m F H → (∀ s m' v F' H', P s m' → Step m F H m' F' H' → StoOk K m' F' H' → SlOk K F' H' s v → Q v H') → te σ H Q
def EvA (K : PySem.W.Frag) (ta : TA) (ρ : Rho) (m : Sto) (P : List Sl → Sto → Prop) : Prop :=
  ∀ (σ : L2.St) (F : Reg) (H : Hp) (Q : List V → Hp → Prop), EnvOk K F H ρ σ → StoOk K m F H → (∀ ss m' vs F' H', P ss m' → Step m F H m' F' H' → StoOk K m' F' H' → SlsOk K F' H' ss vs → Q vs H') → ta σ H Q
def EvT (K : PySem.W.Frag) (tt : TT) (ρ : Rho) (m : Sto) (P : Bool → Sto → Prop) : Prop :=
  ∀ (σ : L2.St) (F : Reg) (H : Hp) (Q : Bool → Hp → Prop), EnvOk K F H ρ σ → StoOk K m F H → (∀ b m' F' H', P b m' → Step m F H m' F' H' → StoOk K m' F' H' → Q b H') → tt σ H Q
def EvO (K : PySem.W.Frag) (to : TO) (ρ : Rho) (m : Sto) (P : Option Int → Sto → Prop) : Prop :=
  ∀ (σ : L2.St) (F : Reg) (H : Hp) (Q : Option Int → Hp → Prop), EnvOk K F H ρ σ → StoOk K m F H → (∀ b m' F' H', P b m' → Step m F H m' F' H' → StoOk K m' F' H' → Q b H') → to σ H Q
/-- what follows a value -/
abbrev Then (K : PySem.W.Frag) (m : Sto) (F : Reg) (H : Hp) (P : PV) (Q : VK) : Prop := ∀ s' m' v F' H', P s' m' → Step m F H m' F' H' → StoOk K m' F' H' → SlOk K F' H' s' v → Q v H'
/-- an operation on two, one, several slots; a method -/
def RO (K : PySem.W.Frag) (r : R2) (s t : Sl) (m : Sto) (P : PV) : Prop :=
  ∀ (x y : V) (F : Reg) (H : Hp) (Q : VK), SlOk K F H s x → SlOk K F H t y → StoOk K m F H → Then K m F H P Q → r x y H Q
def RU (K : PySem.W.Frag) (r : V → Hp → VK → Prop) (s : Sl) (m : Sto) (P : PV) : Prop :=
  ∀ (x : V) (F : Reg) (H : Hp) (Q : VK), SlOk K F H s x → StoOk K m F H → Then K m F H P Q → r x H Q
def RC (K : PySem.W.Frag) (r : List V → Hp → VK → Prop) (ss : List Sl) (m : Sto) (P : PV) : Prop :=
  ∀ (xs : List V) (F : Reg) (H : Hp) (Q : VK), SlsOk K F H ss xs → StoOk K m F H → Then K m F H P Q → r xs H Q
def RM (K : PySem.W.Frag) (r : V → List V → Hp → VK → Prop) (s : Sl) (ss : List Sl) (m : Sto) (P : PV) : Prop :=
  ∀ (x : V) (xs : List V) (F : Reg) (H : Hp) (Q : VK), SlOk K F H s x → SlsOk K F H ss xs → StoOk K m F H → Then K m F H P Q → r x xs H Q
def RSl (K : PySem.W.Frag) (r : V → Option Int → Option Int → Hp → VK → Prop) (s : Sl) (lo hi : Option Int) (m : Sto) (P : PV) : Prop :=
  ∀ (x : V) (F : Reg) (H : Hp) (Q : VK), SlOk K F H s x → StoOk K m F H → Then K m F H P Q → r x lo hi H Q
def TyS (K : PySem.W.Frag) (T : String) (s : Sl) (m : Sto) : Prop := ∀ (x : V) (F : Reg) (H : Hp), SlOk K F H s x → StoOk K m F H → tyV K T x H
/-- a slot's truth -/
def TrS (K : PySem.W.Frag) (s : Sl) (m : Sto) (b : Bool) : Prop := ∀ (x : V) (F : Reg) (H : Hp), SlOk K F H s x → StoOk K m F H → TruV K x H b
structure Ko where
  nx : Rho → Sto → Prop
  rt : PV
  bk : Rho → Sto → Prop := fun _ _ => False
  ct : Rho → Sto → Prop := fun _ _ => False
/-- the statement's ends keep k -/
def Wp (K : PySem.W.Frag) (ts : TS) (ρ : Rho) (m : Sto) (k : Ko) : Prop :=
  ∀ (D : Ends) (σ : L2.St) (F : Reg) (H : Hp), EnvOk K F H ρ σ → StoOk K m F H →
    (∀ ρ' m' σ' F' H', k.nx ρ' m' → Step m F H m' F' H' → StoOk K m' F' H' → EnvOk K F' H' ρ' σ' → D.nx σ' H') →
    (∀ s m' v F' H', k.rt s m' → Step m F H m' F' H' → StoOk K m' F' H' → SlOk K F' H' s v → D.rt v H') →
    (∀ ρ' m' σ' F' H', k.bk ρ' m' → Step m F H m' F' H' → StoOk K m' F' H' → EnvOk K F' H' ρ' σ' → D.bk σ' H') →
    (∀ ρ' m' σ' F' H', k.ct ρ' m' → Step m F H m' F' H' → StoOk K m' F' H' → EnvOk K F' H' ρ' σ' → D.ct σ' H') → ts D σ H
def Gt (K : PySem.W.Frag) (g : TG) (js : List Nat) (s : Sl) (ρ : Rho) (m : Sto) (P : Rho → Sto → Prop) : Prop :=
  ∀ (σ : L2.St) (F : Reg) (H : Hp) (v : V) (Q : L2.St → Hp → Prop), EnvOk K F H ρ σ → StoOk K m F H → SlOk K F H s v →
    (∀ ρ' m' σ' F' H', P ρ' m' → Step m F H m' F' H' → StoOk K m' F' H' → EnvOk K F' H' ρ' σ' → (∀ vs, (∀ j ∈ js, j ∈ vs) → wipe σ' vs = wipe σ vs) → Q σ' H') → g v σ H Q
/-- an iterator over the slots xs, while C holds of the store -/
def EvI (K : PySem.W.Frag) (wi : TI) (ρ : Rho) (m : Sto) (P : List Sl → (Sto → Prop) → Sto → Prop) : Prop :=
  ∀ (σ : L2.St) (F : Reg) (H : Hp) (R : It → Hp → Prop), EnvOk K F H ρ σ → StoOk K m F H →
    (∀ (xs : List Sl) (C : Sto → Prop) (m' : Sto) (F' : Reg) (H' : Hp) (J : It), P xs C m' → Step m F H m' F' H' → StoOk K m' F' H' →
      L2.Walk J xs.length (fun H2 => ∃ m2 F2, C m2 ∧ Step m' F' H' m2 F2 H2 ∧ StoOk K m2 F2 H2)
        (fun i H2 x H3 => ∀ m2 F2, C m2 → Step m' F' H' m2 F2 H2 → StoOk K m2 F2 H2 → ∃ F3, Step m2 F2 H2 m2 F3 H3 ∧ StoOk K m2 F3 H3 ∧ ∃ s, xs[i]? = some s ∧ SlOk K F3 H3 s x) → R J H') → wi σ H R

section
variable {K : PySem.W.Frag} {ρ : Rho} {m : Sto} {P P' : PV} {te ta tb : TE} {t u : TT}
theorem Ev.mono (h : Ev K te ρ m P) (hp : ∀ s m', P s m' → P' s m') : Ev K te ρ m P' := fun σ F H Q E S q => h σ F H Q E S fun s m' v F' H' p => q s m' v F' H' (hp s m' p)
theorem EvT.mono {P P' : Bool → Sto → Prop} (h : EvT K t ρ m P) (hp : ∀ s m', P s m' → P' s m') : EvT K t ρ m P' := fun σ F H Q E S q => h σ F H Q E S fun s m' F' H' p => q s m' F' H' (hp s m' p)
theorem Wp.mono {ts : TS} {k k' : Ko} (h : Wp K ts ρ m k) (h1 : ∀ ρ' m', k.nx ρ' m' → k'.nx ρ' m') (h2 : ∀ s m', k.rt s m' → k'.rt s m') (h3 : ∀ ρ' m', k.bk ρ' m' → k'.bk ρ' m') (h4 : ∀ ρ' m', k.ct ρ' m' → k'.ct ρ' m') : Wp K ts ρ m k' :=
  fun D σ F H E S q1 q2 q3 q4 => h D σ F H E S (fun a b c d f e => q1 a b c d f (h1 _ _ e)) (fun a b c d f e => q2 a b c d f (h2 _ _ e)) (fun a b c d f e => q3 a b c d f (h3 _ _ e)) (fun a b c d f e => q4 a b c d f (h4 _ _ e))

/-! ### names, constants, operations -/
theorem ev_var {i : Nat} {s : Sl} (h : ρ[i]? = some (some s)) (p : P s m) : Ev K (tVar i) ρ m P := fun σ F H Q E S q => by
  obtain ⟨y, e, z⟩ := paired_get E h
  obtain ⟨x, e2, z2⟩ := z s rfl
  subst e2
  exact ⟨x, e, q s m x F H p Step.refl S z2⟩
/-- a list that changes no more -/
theorem ev_varF {i : Nat} {a : Addr} {ds : List PyData} (h : ρ[i]? = some (some (.m a))) (hm : m a = some (.lst ds)) (p : P (.d (.list ds)) (del m a)) : Ev K (tVar i) ρ m P := fun σ F H Q E S q => by
  obtain ⟨y, e, z⟩ := paired_get E h
  obtain ⟨x, e2, z2⟩ := z _ rfl
  subst e2
  obtain rfl : x = .ref a := z2
  exact ⟨_, e, q _ _ _ _ H p (step_del S hm) (sto_del S hm) (im_frozen S hm)⟩
theorem ev_int {i : Int} (p : P (.d (.int i)) m) : Ev K (tC (.int i)) ρ m P := fun σ F H Q E S q => q _ m _ F H p Step.refl S rfl
theorem ev_str {z : Str} (p : P (.d (.str z)) m) : Ev K (tC (.str z)) ρ m P := fun σ F H Q E S q => q _ m _ F H p Step.refl S rfl
theorem ev_bl {b : Bool} (p : P (.d (.bool b)) m) : Ev K (tC (.bl b)) ρ m P := fun σ F H Q E S q => q _ m _ F H p Step.refl S rfl
theorem ev_non (p : P (.d .none) m) : Ev K (tC .non) ρ m P := fun σ F H Q E S q => q _ m _ F H p Step.refl S rfl
theorem ev_raw {x : V} (p : P (.v x) m) : Ev K (tC x) ρ m P := fun σ F H Q E S q => q _ m _ F H p Step.refl S rfl
theorem ev_op {r : R2} (h : Ev K ta ρ m fun s m1 => Ev K tb ρ m1 fun s' m2 => RO K r s s' m2 P) : Ev K (tOp r ta tb) ρ m P := fun σ F H Q E S q =>
  h σ F H _ E S fun s m1 x F1 H1 h1 s1 S1 o1 => h1 σ F1 H1 _ (envOk_step s1 E) S1 fun s' m2 y F2 H2 h2 s2 S2 o2 => h2 x y F2 H2 Q (slOk_step s2 o1) o2 S2 fun z m3 v F3 H3 p s3 S3 o3 => q z m3 v F3 H3 p ((s1.trans s2).trans s3) S3 o3
theorem ev_un {r : V → Hp → VK → Prop} (h : Ev K ta ρ m fun s m1 => RU K r s m1 P) : Ev K (tUn r ta) ρ m P := fun σ F H Q E S q =>
  h σ F H _ E S fun s m1 x F1 H1 h1 s1 S1 o1 => h1 x F1 H1 Q o1 S1 fun z m3 v F3 H3 p s3 S3 o3 => q z m3 v F3 H3 p (s1.trans s3) S3 o3
theorem ea_nil {P : List Sl → Sto → Prop} (p : P [] m) : EvA K tNil ρ m P := fun σ F H Q E S q => q [] m [] F H p Step.refl S .nil
theorem ea_cons {tr : TA} {P : List Sl → Sto → Prop} (h : Ev K ta ρ m fun s m1 => EvA K tr ρ m1 fun ss m2 => P (s :: ss) m2) : EvA K (tCons ta tr) ρ m P := fun σ F H Q E S q =>
  h σ F H _ E S fun s m1 x F1 H1 h1 s1 S1 o1 => h1 σ F1 H1 _ (envOk_step s1 E) S1 fun ss m2 vs F2 H2 p s2 S2 o2 => q _ m2 _ F2 H2 p (s1.trans s2) S2 (.cons (slOk_step s2 o1) o2)
theorem slsOk_im : ∀ {ds : List PyData} {vs : List V} {F : Reg} {H : Hp}, SlsOk K F H (ds.map Sl.d) vs → ImAll K F H ds vs
  | [], _, _, _, .nil => rfl
  | _ :: _, _, _, _, .cons r t => ⟨_, _, rfl, r, slsOk_im t⟩
/-- a tuple is made -/
def tTupZ (t : TA) : TE := fun σ H Q => t σ H fun xs H1 => xs.length ≤ sizeLine ∧ ∀ p ob, H1 p = none → ob.dict = none → Q (.ref p) (upd H1 p (.frz ob (.tup xs)))
theorem inv_tupZ {X : Cx} {pins : List (Addr × Obj)} {σ : L2.St} {H : Hp} {s : Shared} {h' : Heap} {xs : List V} {us : List Value} {tk : Nat} (I : Inv X pins σ H s) (k : ∀ b o, s.heap.get? b = some o → h'.get? b = some o) (z : xs.length ≤ sizeLine) (r : Vals xs us) :
    Inv X pins σ (upd H h'.objs.size (.frz { cls := .type "tuple", data := .seq us.toArray } (.tup xs))) { s with heap := h'.push { cls := .type "tuple", data := .seq us.toArray }, toks := tk } := by
  have I1 : Inv X pins σ H { s with heap := h', toks := tk } := I.kept k
  exact I1.laid (t' := tk) (fun b u e => Heap.get?_push_of_some _ e) (Nat.le_refl _) ⟨Heap.get?_push_size _ rfl, z, us, r, ⟨_, Heap.get?_push_size _ rfl, rfl, _, rfl⟩⟩
theorem pe_tupZ {X : Cx} {es : List Expr} {t : TA} {x1} {pos : Pos} (h : PA X es t) : PE X (.Tuple es x1 pos) (tTupZ t) := by
  constructor
  intro pins s σ H Q I hq
  apply wpAny_Tuple_spliced
  apply thn (h.run pos pins s σ H _ I hq)
  rintro us s1 ⟨xs, H1, I1, r, z, q⟩
  have e := r.length
  refine ⟨e ▸ z, .ref s1.heap.objs.size, _, inv_tupZ (tk := s1.toks) I1 (fun _ _ a => a) z r, rfl, ?_⟩
  exact q _ _ (I1.hok.fresh (Nat.le_refl _)) rfl
theorem ev_tup {tr : TA} (h : EvA K tr ρ m fun ss m1 => ∃ ds : List PyData, ss = ds.map Sl.d ∧ ds.length ≤ 100000 ∧ P (.d (.tuple ds)) m1) : Ev K (tTupZ tr) ρ m P := fun σ F H Q E S q =>
  h σ F H _ E S fun ss m1 vs F1 H1 ⟨ds, e, l, p⟩ s1 S1 o1 => by
    subst e
    have z := slsOk_im o1
    refine ⟨by rw [← imAll_len z, sizeLine_eq]; omega, fun a ob ha hd => ?_⟩
    exact q _ m1 _ _ _ p (s1.trans (step_new S1 ha)) (sto_new S1 ha) ⟨a, vs, rfl, .inl ⟨.inl rfl, ob, upd_same, hd⟩, imAll_fix (step_new S1 ha).fix ds vs z⟩
theorem ev_lst {tr : TA} (h : EvA K tr ρ m fun ss m1 => ∃ ds : List PyData, ss = ds.map Sl.d ∧ ds.length ≤ 100000 ∧ P (.d (.list ds)) m1) : Ev K (tLst tr) ρ m P := fun σ F H Q E S q =>
  h σ F H _ E S fun ss m1 vs F1 H1 ⟨ds, e, l, p⟩ s1 S1 o1 => by
    subst e
    have z := slsOk_im o1
    refine ⟨by rw [← imAll_len z, sizeLine_eq]; omega, fun a ha => ?_⟩
    exact q _ m1 _ _ _ p (s1.trans (step_new S1 ha)) (sto_new S1 ha) ⟨a, vs, rfl, .inl rfl, upd_same, imAll_fix (step_new S1 ha).fix ds vs z⟩
/-- a list that will change -/
theorem ev_lstM {tr : TA} (h : EvA K tr ρ m fun ss m1 => ∃ ds : List PyData, ss = ds.map Sl.d ∧ ds.length ≤ 100000 ∧ ∀ a, m1 a = none → P (.m a) (put m1 a (.lst ds))) : Ev K (tLst tr) ρ m P := fun σ F H Q E S q =>
  h σ F H _ E S fun ss m1 vs F1 H1 ⟨ds, e, l, p⟩ s1 S1 o1 => by
    subst e
    have z := slsOk_im o1
    refine ⟨by rw [← imAll_len z, sizeLine_eq]; omega, fun a ha => ?_⟩
    exact q _ _ _ _ _ (p a (sto_none S1 ha)) (s1.trans (step_newM S1 ha)) (sto_put S1 (not_reg S1 ha) ⟨vs, upd_same, imAll_fix (step_newM (u := .lst ds) S1 ha).fix ds vs z⟩) rfl
/-! ### tests -/
theorem et_B {P : Bool → Sto → Prop} (h : Ev K te ρ m fun s m1 => ∃ b, s = .d (.bool b) ∧ P b m1) : EvT K (tB te) ρ m P := fun σ F H Q E S q =>
  h σ F H _ E S fun s m1 x F1 H1 ⟨b, e, p⟩ s1 S1 o1 => by
    subst e
    exact ⟨b, o1, q b m1 F1 H1 p s1 S1⟩
theorem et_test {P : Bool → Sto → Prop} (h : Ev K te ρ m fun s m1 => ∃ b, s = .d (.bool b) ∧ P b m1) : EvT K (tTest te) ρ m P := fun σ F H Q E S q =>
  h σ F H _ E S fun s m1 x F1 H1 ⟨b, e, p⟩ s1 S1 o1 => by
    subst e
    exact ⟨b, o1, q b m1 F1 H1 p s1 S1⟩
theorem et_and {P : Bool → Sto → Prop} (h : EvT K t ρ m fun b m1 => if b = true then EvT K u ρ m1 P else P false m1) : EvT K (tAnd t u) ρ m P := fun σ F H Q E S q =>
  h σ F H _ E S fun b m1 F1 H1 h1 s1 S1 => by
    cases b with
    | true => exact h1 σ F1 H1 Q (envOk_step s1 E) S1 fun b2 m2 F2 H2 p s2 S2 => q b2 m2 F2 H2 p (s1.trans s2) S2
    | false => exact q false m1 F1 H1 h1 s1 S1
theorem et_or {P : Bool → Sto → Prop} (h : EvT K t ρ m fun b m1 => if b = true then P true m1 else EvT K u ρ m1 P) : EvT K (tOr t u) ρ m P := fun σ F H Q E S q =>
  h σ F H _ E S fun b m1 F1 H1 h1 s1 S1 => by
    cases b with
    | false => exact h1 σ F1 H1 Q (envOk_step s1 E) S1 fun b2 m2 F2 H2 p s2 S2 => q b2 m2 F2 H2 p (s1.trans s2) S2
    | true => exact q true m1 F1 H1 h1 s1 S1
theorem et_not {P : Bool → Sto → Prop} (h : EvT K t ρ m fun b m1 => P (!b) m1) : EvT K (tNot t) ρ m P := fun σ F H Q E S q => h σ F H _ E S fun b m1 F1 H1 p s1 S1 => q _ m1 F1 H1 p s1 S1
/-- a value's truth -/
def tTr (K : PySem.W.Frag) (ta : TE) : TT := fun σ H Q => ta σ H fun x H' => ∃ k, TruV K x H' k ∧ Q k H'
theorem pt_tr {X : Cx} {a : Expr} (ha : PE X a ta) (he : ∀ whole, isTrue a X.env whole = (do let v ← whole; standAt a.pos; holding [v] (truthy v)) := by intro _; rfl) : PT X a (tTr X.K ta) := pt_truth ha he
theorem et_tr {P : Bool → Sto → Prop} (h : Ev K te ρ m fun s m1 => ∃ b, TrS K s m1 b ∧ P b m1) : EvT K (tTr K te) ρ m P := fun σ F H Q E S q =>
  h σ F H _ E S fun s m1 x F1 H1 ⟨b, e, p⟩ s1 S1 o1 => ⟨b, e x F1 H1 o1 S1, q b m1 F1 H1 p s1 S1⟩
theorem et_yes {P : Bool → Sto → Prop} (p : P true m) : EvT K tYes ρ m P := fun σ F H Q E S q => q true m F H p Step.refl S
theorem ev_if (h : EvT K t ρ m fun b m1 => if b = true then Ev K ta ρ m1 P else Ev K tb ρ m1 P) : Ev K (tIf t ta tb) ρ m P := fun σ F H Q E S q =>
  h σ F H _ E S fun b m1 F1 H1 h1 s1 S1 => by
    cases b with
    | true => exact h1 σ F1 H1 Q (envOk_step s1 E) S1 fun b2 m2 v F2 H2 p s2 S2 o => q b2 m2 v F2 H2 p (s1.trans s2) S2 o
    | false => exact h1 σ F1 H1 Q (envOk_step s1 E) S1 fun b2 m2 v F2 H2 p s2 S2 o => q b2 m2 v F2 H2 p (s1.trans s2) S2 o
theorem ev_notT {P : PV} (h : EvT K (tTr K te) ρ m fun b m1 => P (.d (.bool (!b))) m1) : Ev K (tNotT K te) ρ m P := fun σ F H Q E S q =>
  h σ F H (fun b H1 => Q (.bl (!b)) H1) E S fun b m1 F1 H1 p s1 S1 => q _ m1 _ F1 H1 p s1 S1 rfl
theorem ev_andV {P : PV} (h : Ev K ta ρ m fun s m1 => ∃ b, s = .d (.bool b) ∧ if b = true then Ev K tb ρ m1 P else P (.d (.bool false)) m1) : Ev K (tAndV ta tb) ρ m P := fun σ F H Q E S q =>
  h σ F H _ E S fun s m1 x F1 H1 ⟨b, e, p⟩ s1 S1 o1 => by
    subst e
    refine ⟨b, o1, ?_⟩
    cases b with
    | true => exact p σ F1 H1 Q (envOk_step s1 E) S1 fun b2 m2 v F2 H2 p s2 S2 o => q b2 m2 v F2 H2 p (s1.trans s2) S2 o
    | false => exact q _ m1 _ F1 H1 p s1 S1 rfl
theorem ev_orV {P : PV} (h : Ev K ta ρ m fun s m1 => ∃ b, s = .d (.bool b) ∧ if b = true then P (.d (.bool true)) m1 else Ev K tb ρ m1 P) : Ev K (tOrV ta tb) ρ m P := fun σ F H Q E S q =>
  h σ F H _ E S fun s m1 x F1 H1 ⟨b, e, p⟩ s1 S1 o1 => by
    subst e
    refine ⟨b, o1, ?_⟩
    cases b with
    | false => exact p σ F1 H1 Q (envOk_step s1 E) S1 fun b2 m2 v F2 H2 p s2 S2 o => q b2 m2 v F2 H2 p (s1.trans s2) S2 o
    | true => exact q _ m1 _ F1 H1 p s1 S1 rfl
theorem ev_notV {P : PV} (h : Ev K ta ρ m fun s m1 => ∃ b, s = .d (.bool b) ∧ P (.d (.bool (!b))) m1) : Ev K (tNotV ta) ρ m P := fun σ F H Q E S q =>
  h σ F H _ E S fun s m1 x F1 H1 ⟨b, e, p⟩ s1 S1 o1 => by
    subst e
    exact ⟨b, o1, q _ m1 _ F1 H1 p s1 S1 rfl⟩
/-- a < b < c -/
theorem ev_chain {r r' : R2} {tc : TE} (h : Ev K ta ρ m fun s m1 => Ev K tb ρ m1 fun s' m2 => RO K r s s' m2 fun z m3 => ∃ b, z = .d (.bool b) ∧ if b = true then Ev K tc ρ m3 fun s2 m4 => RO K r' s' s2 m4 P else P (.d (.bool false)) m3) : Ev K (tChain r r' ta tb tc) ρ m P := fun σ F H Q E S q =>
  h σ F H _ E S fun s m1 x F1 H1 h1 s1 S1 o1 => h1 σ F1 H1 _ (envOk_step s1 E) S1 fun s' m2 y F2 H2 h2 s2 S2 o2 => h2 x y F2 H2 _ (slOk_step s2 o1) o2 S2 fun z m3 v F3 H3 ⟨b, ez, p⟩ s3 S3 o3 => by
    subst ez
    refine ⟨b, o3, ?_⟩
    cases b with
    | true =>
      rw [if_pos rfl] at p
      rw [if_pos rfl]
      exact p σ F3 H3 _ (envOk_step ((s1.trans s2).trans s3) E) S3 fun w m4 u F4 H4 p4 s4 S4 o4 => p4 y u F4 H4 Q (slOk_step (s3.trans s4) o2) o4 S4 fun z m5 v F5 H5 p5 s5 S5 o5 => q z m5 v F5 H5 p5 ((((s1.trans s2).trans s3).trans s4).trans s5) S5 o5
    | false =>
      rw [if_neg Bool.false_ne_true] at p
      rw [if_neg Bool.false_ne_true]
      exact q _ m3 _ F3 H3 p ((s1.trans s2).trans s3) S3 rfl
/-! ### calls, methods, slices -/
theorem ev_cb {r : List V → Hp → VK → Prop} {tr : TA} (h : EvA K tr ρ m fun ss m1 => RC K r ss m1 P) : Ev K (tCB r tr) ρ m P := fun σ F H Q E S q =>
  h σ F H _ E S fun ss m1 vs F1 H1 h1 s1 S1 o1 => h1 vs F1 H1 Q o1 S1 fun z m3 v F3 H3 p s3 S3 o3 => q z m3 v F3 H3 p (s1.trans s3) S3 o3
theorem ev_bm {T : String} {r : V → List V → Hp → VK → Prop} {tr : TA} (h : Ev K te ρ m fun s m1 => TyS K T s m1 ∧ EvA K tr ρ m1 fun ss m2 => RM K r s ss m2 P) : Ev K (tBM K T r te tr) ρ m P := fun σ F H Q E S q =>
  h σ F H _ E S fun s m1 x F1 H1 ⟨ty, h1⟩ s1 S1 o1 => ⟨ty x F1 H1 o1 S1, h1 σ F1 H1 _ (envOk_step s1 E) S1 fun ss m2 vs F2 H2 h2 s2 S2 o2 => h2 x vs F2 H2 Q (slOk_step s2 o1) o2 S2 fun z m3 v F3 H3 p s3 S3 o3 => q z m3 v F3 H3 p ((s1.trans s2).trans s3) S3 o3⟩
theorem ev_bm0 {T : String} {r : V → List V → Hp → VK → Prop} (h : Ev K te ρ m fun s m1 => TyS K T s m1 ∧ RM K r s [] m1 P) : Ev K (tBM0 K T r te) ρ m P := fun σ F H Q E S q =>
  h σ F H _ E S fun s m1 x F1 H1 ⟨ty, h1⟩ s1 S1 o1 => ⟨ty x F1 H1 o1 S1, h1 x [] F1 H1 Q o1 .nil S1 fun z m3 v F3 H3 p s3 S3 o3 => q z m3 v F3 H3 p (s1.trans s3) S3 o3⟩
theorem eo_no {P : Option Int → Sto → Prop} (p : P none m) : EvO K tNoPart ρ m P := fun σ F H Q E S q => q none m F H p Step.refl S
theorem eo_some {P : Option Int → Sto → Prop} (h : Ev K te ρ m fun s m1 => ∃ i, s = .d (.int i) ∧ P (some i) m1) : EvO K (tPart te) ρ m P := fun σ F H Q E S q =>
  h σ F H _ E S fun s m1 x F1 H1 ⟨i, e, p⟩ s1 S1 o1 => by
    subst e
    exact ⟨i, o1, q _ m1 F1 H1 p s1 S1⟩
theorem ev_sl {r : V → Option Int → Option Int → Hp → VK → Prop} {tl th : TO} (h : Ev K te ρ m fun s m1 => EvO K tl ρ m1 fun lo m2 => EvO K th ρ m2 fun hi m3 => RSl K r s lo hi m3 P) : Ev K (tSl r te tl th) ρ m P := fun σ F H Q E S q =>
  h σ F H _ E S fun s m1 x F1 H1 h1 s1 S1 o1 => h1 σ F1 H1 _ (envOk_step s1 E) S1 fun lo m2 F2 H2 h2 s2 S2 => h2 σ F2 H2 _ (envOk_step (s1.trans s2) E) S2 fun hi m3 F3 H3 h3 s3 S3 =>
    h3 x F3 H3 Q (slOk_step (s2.trans s3) o1) S3 fun z m4 v F4 H4 p s4 S4 o4 => q z m4 v F4 H4 p (((s1.trans s2).trans s3).trans s4) S4 o4

/-! ### a def's promise by slots -/
abbrev WT := List Sl → Sto → PV → Prop
def SpD (K : PySem.W.Frag) (W : WT) : Sp := fun vs H Q _ => ∃ (ss : List Sl) (m : Sto) (F : Reg) (P : PV), SlsOk K F H ss vs ∧ StoOk K m F H ∧ W ss m P ∧ Then K m F H P Q
theorem ev_call {W : WT} {dvs : List V} {E0 : XK} {tr : TA} {dss : List Sl} (hd : ∀ F H, SlsOk K F H dss dvs) (h : EvA K tr ρ m fun ss m1 => W (ss ++ dss) m1 P) : Ev K (tCall (SpD K W) dvs E0 tr) ρ m P := fun σ F H Q E S q =>
  h σ F H _ E S fun ss m1 vs F1 H1 w s1 S1 o1 => ⟨ss ++ dss, m1, F1, P, paired_app o1 (hd F1 H1), S1, w, fun s m' v F' H' p s2 S2 o2 => q s m' v F' H' p (s1.trans s2) S2 o2⟩
theorem ev_call0 {W : WT} {E0 : XK} {tr : TA} (h : EvA K tr ρ m fun ss m1 => W ss m1 P) : Ev K (tCall (SpD K W) [] E0 tr) ρ m P := fun σ F H Q E S q =>
  h σ F H _ E S fun ss m1 vs F1 H1 w s1 S1 o1 => ⟨ss, m1, F1, P, by rw [List.append_nil]; exact o1, S1, w, fun s m' v F' H' p s2 S2 o2 => q s m' v F' H' p (s1.trans s2) S2 o2⟩
theorem spD_len {W : WT} {n : Nat} (h : ∀ ss m P, W ss m P → ss.length = n) {vs : List V} {H : Hp} {Q : VK} {E : XK} (w : SpD K W vs H Q E) : vs.length = n := by
  obtain ⟨ss, m, F, P, o, _, w, _⟩ := w
  rw [← paired_len o]
  exact h ss m P w
theorem paired_none {F : Reg} {H : Hp} : ∀ n : Nat, EnvOk K F H (List.replicate n none) (List.replicate n none)
  | 0 => .nil
  | n + 1 => by rw [List.replicate_succ, List.replicate_succ]; exact .cons (fun _ e => nomatch e) (paired_none n)
def rho (N : List Str) (ss : List Sl) : Rho := ss.map some ++ List.replicate (N.length - ss.length) none
theorem envOk_start {F : Reg} {H : Hp} {N : List Str} {ss : List Sl} {vs : List V} (o : SlsOk K F H ss vs) : EnvOk K F H (rho N ss) (L2.start N vs) := by
  unfold rho L2.start
  rw [← paired_len o]
  refine paired_app ?_ (paired_none _)
  induction o with
  | nil => exact .nil
  | cons r t ih => exact .cons (fun sl e => by cases e; exact ⟨_, rfl, r⟩) ih
/-- THE BODY: from the promise to the statement's reading -/
theorem body {W : WT} {N : List Str} {ts : TS} (h : ∀ ss m P, W ss m P → Wp K ts (rho N ss) m { nx := fun _ m' => P (.d .none) m', rt := P }) {vs : List V} {H : Hp} {Q : VK} {E : XK} (w : SpD K W vs H Q E) :
    ts { nx := fun _ H' => Q .non H', rt := Q } (L2.start N vs) H := by
  obtain ⟨ss, m, F, P, o, S, w, q⟩ := w
  exact h ss m P w _ _ F _ (envOk_start o) S (fun ρ' m' σ' F' H' p s1 S1 _ => q _ m' _ F' H' p s1 S1 rfl) q (fun _ _ _ _ _ p => p.elim) (fun _ _ _ _ _ p => p.elim)

/-! ### statements -/
variable {k : Ko} {t1 t2 ts : TS}
theorem wp_at {ts : TS} {D : Ends} {m0 m1 : Sto} {F0 F1 : Reg} {H0 H1 : Hp} {σ : L2.St} {ρ1 : Rho} (s1 : Step m0 F0 H0 m1 F1 H1) (E : EnvOk K F1 H1 ρ1 σ) (S1 : StoOk K m1 F1 H1) (w : Wp K ts ρ1 m1 k)
    (q1 : ∀ ρ' m' σ' F' H', k.nx ρ' m' → Step m0 F0 H0 m' F' H' → StoOk K m' F' H' → EnvOk K F' H' ρ' σ' → D.nx σ' H')
    (q2 : ∀ s m' v F' H', k.rt s m' → Step m0 F0 H0 m' F' H' → StoOk K m' F' H' → SlOk K F' H' s v → D.rt v H')
    (q3 : ∀ ρ' m' σ' F' H', k.bk ρ' m' → Step m0 F0 H0 m' F' H' → StoOk K m' F' H' → EnvOk K F' H' ρ' σ' → D.bk σ' H')
    (q4 : ∀ ρ' m' σ' F' H', k.ct ρ' m' → Step m0 F0 H0 m' F' H' → StoOk K m' F' H' → EnvOk K F' H' ρ' σ' → D.ct σ' H') : ts D σ H1 :=
  w D σ F1 H1 E S1 (fun a b c d f e s2 S2 => q1 a b c d f e (s1.trans s2) S2) (fun a b c d f e s2 S2 => q2 a b c d f e (s1.trans s2) S2) (fun a b c d f e s2 S2 => q3 a b c d f e (s1.trans s2) S2) (fun a b c d f e s2 S2 => q4 a b c d f e (s1.trans s2) S2)
theorem wp_seq (h : Wp K t1 ρ m { k with nx := fun ρ' m' => Wp K t2 ρ' m' k }) : Wp K (tSeq t1 t2) ρ m k := fun D σ F H E S q1 q2 q3 q4 =>
  h { D with nx := t2 D } σ F H E S (fun ρ' m' σ' F' H' w s1 S1 E1 => wp_at (ts := t2) (D := D) s1 E1 S1 w q1 q2 q3 q4) q2 q3 q4
theorem wp_next (h : k.nx ρ m) : Wp K tNext ρ m k := fun D σ F H E S q1 _ _ _ => q1 ρ m σ F H h Step.refl S E
theorem wp_brk (h : k.bk ρ m) : Wp K tBreak ρ m k := fun D σ F H E S _ _ q3 _ => q3 ρ m σ F H h Step.refl S E
theorem wp_cont (h : k.ct ρ m) : Wp K tCont ρ m k := fun D σ F H E S _ _ _ q4 => q4 ρ m σ F H h Step.refl S E
theorem slO_some {F : Reg} {H : Hp} {s : Sl} {v : V} (o : SlOk K F H s v) : SlO K F H (some s) (some v) := fun sl e => by cases e; exact ⟨_, rfl, o⟩
theorem envOk_set {F : Reg} {H : Hp} {σ : L2.St} {s : Sl} {v : V} (E : EnvOk K F H ρ σ) (i : Nat) (o : SlOk K F H s v) : EnvOk K F H (ρ.set i (some s)) (σ.set i (some v)) := paired_set (F := SlO K F H) (slO_some o) i E
theorem wp_set {i : Nat} (h : Ev K te ρ m fun s m1 => k.nx (ρ.set i (some s)) m1) : Wp K (tAsg te (gName i)) ρ m k := fun D σ F H E S q1 _ _ _ =>
  h σ F H _ E S fun s m1 v F1 H1 p s1 S1 o1 => q1 _ m1 _ F1 H1 p s1 S1 (envOk_set (envOk_step s1 E) i o1)
theorem wp_asg {g : TG} (h : Ev K te ρ m fun s m1 => ∃ js, Gt K g js s ρ m1 k.nx) : Wp K (tAsg te g) ρ m k := fun D σ F H E S q1 _ _ _ =>
  h σ F H _ E S fun s m1 v F1 H1 ⟨js, p⟩ s1 S1 o1 => p σ F1 H1 v _ (envOk_step s1 E) S1 o1 fun a b c d f e s2 S2 E2 _ => q1 a b c d f e (s1.trans s2) S2 E2
theorem wp_drop (h : Ev K te ρ m fun _ m1 => k.nx ρ m1) : Wp K (tDrop te) ρ m k := fun D σ F H E S q1 _ _ _ =>
  h σ F H _ E S fun s m1 v F1 H1 p s1 S1 o1 => q1 _ m1 _ F1 H1 p s1 S1 (envOk_step s1 E)
theorem wp_ret (h : Ev K te ρ m k.rt) : Wp K (tRet te) ρ m k := fun D σ F H E S _ q2 _ _ => h σ F H _ E S q2
theorem wp_retN (h : k.rt (.d .none) m) : Wp K tRetN ρ m k := fun D σ F H E S _ q2 _ _ => q2 _ m _ F H h Step.refl S rfl
theorem wp_if (h : EvT K t ρ m fun b m1 => if b = true then Wp K t1 ρ m1 k else Wp K t2 ρ m1 k) : Wp K (tIfS t t1 t2) ρ m k := fun D σ F H E S q1 q2 q3 q4 =>
  h σ F H _ E S fun b m1 F1 H1 w s1 S1 => by
    cases b with
    | true => exact wp_at s1 (envOk_step s1 E) S1 w q1 q2 q3 q4
    | false => exact wp_at s1 (envOk_step s1 E) S1 w q1 q2 q3 q4
theorem wp_never (h : False) : Wp K tNever ρ m k := h.elim
/-! ### targets -/
theorem wipe_set {σ : L2.St} {j : Nat} {v : Option V} : ∀ {vs : List Nat}, j ∈ vs → wipe (σ.set j v) vs = wipe σ vs
  | [], h => by simp at h
  | a :: vs, h => by
    unfold wipe
    by_cases e : j ∈ vs
    · rw [wipe_set e]
    · have ej : j = a := by
        rcases List.mem_cons.mp h with h | h
        · exact h
        · exact absurd h e
      subst ej
      clear h
      have key : ∀ {ws : List Nat}, j ∉ ws → (wipe (σ.set j v) ws).set j none = (wipe σ ws).set j none := by
        intro ws
        induction ws with
        | nil =>
          intro _
          show (σ.set j v).set j none = σ.set j none
          rw [List.set_set]
        | cons b ws ih =>
          intro hn
          have hb : b ≠ j := fun q => hn (by rw [q]; exact List.mem_cons_self)
          have hw : j ∉ ws := fun q => hn (List.mem_cons_of_mem _ q)
          show ((wipe (σ.set j v) ws).set b none).set j none = ((wipe σ ws).set b none).set j none
          rw [List.set_comm _ _ hb, ih hw, List.set_comm _ _ (Ne.symm hb)]
      exact key e
theorem gt_name {i : Nat} {s : Sl} {P : Rho → Sto → Prop} (h : P (ρ.set i (some s)) m) : Gt K (gName i) [i] s ρ m P := fun σ F H v Q E S o q =>
  q _ m _ F H h Step.refl S (envOk_set E i o) fun vs hj => wipe_set (hj i (by simp))
/-- a, b = a pair -/
theorem gt_pair {i j : Nat} {x y : PyData} {P : Rho → Sto → Prop} (h : P ((ρ.set i (some (.d x))).set j (some (.d y))) m) : Gt K (gTup K 2 (gCons (gName i) (gCons (gName j) gNil))) [i, j] (.d (.tuple [x, y])) ρ m P := fun σ F H v Q E S o q => by
  obtain ⟨a, vs, e, sq, z⟩ := im_tup o
  have z2 : ∃ v1 v2, vs = [v1, v2] ∧ Im K F H x v1 ∧ Im K F H y v2 := by
    obtain ⟨v1, r, e1, h1, w, r2, e2, h2, e3⟩ := z
    have e3' : r2 = [] := e3
    subst e1 e2 e3'
    exact ⟨v1, w, rfl, h1, h2⟩
  obtain ⟨v1, v2, ev, i1, i2⟩ := z2
  subst ev e
  refine ⟨a, [v1, v2], rfl, sq, rfl, v1, [v2], rfl, v2, [], rfl, rfl, ?_⟩
  refine q _ m _ F H h Step.refl S (envOk_set (s := .d y) (envOk_set (s := .d x) E i i1) j i2) fun vs hj => ?_
  rw [wipe_set (hj j (by simp)), wipe_set (hj i (by simp))]
theorem gt_pairP {i j : Nat} {x y : PyData} {P : Rho → Sto → Prop} (h : P ((ρ.set i (some (.d x))).set j (some (.d y))) m) : Gt K (gTup K 2 (gCons (gName i) (gCons (gName j) gNil))) [i, j] (.p x y) ρ m P := fun σ F H v Q E S o q => by
  obtain ⟨a, v1, v2, e, _, ha, i1, i2⟩ := o
  subst e
  refine ⟨a, [v1, v2], rfl, SqT.of ha, rfl, v1, [v2], rfl, v2, [], rfl, rfl, ?_⟩
  refine q _ m _ F H h Step.refl S (envOk_set (s := .d y) (envOk_set (s := .d x) E i i1) j i2) fun vs hj => ?_
  rw [wipe_set (hj j (by simp)), wipe_set (hj i (by simp))]
def wipeR (ρ : Rho) : List Nat → Rho
  | [] => ρ
  | v :: vs => (wipeR ρ vs).set v none
theorem envOk_wipe {F : Reg} {H : Hp} {σ : L2.St} (E : EnvOk K F H ρ σ) : ∀ vs : List Nat, EnvOk K F H (wipeR ρ vs) (wipe σ vs)
  | [] => E
  | v :: vs => paired_set (F := SlO K F H) (x := none) (y := none) (fun _ e => nomatch e) v (envOk_wipe E vs)
theorem envOk_unset {F : Reg} {H : Hp} {σ σ' : L2.St} {ρ : Rho} (E : EnvOk K F H ρ σ) (hl : σ'.length = σ.length) (h : ∀ (i : Nat) (v : V), σ[i]? = some (some v) → σ'[i]? = some (some v)) : EnvOk K F H ρ σ' := by
  induction E generalizing σ' with
  | nil =>
    cases σ' with
    | nil => exact .nil
    | cons a b => simp at hl
  | @cons a b l1 l2 r t ih =>
    cases σ' with
    | nil => simp at hl
    | cons c d =>
      refine .cons (fun sl e => ?_) (ih (by simpa using hl) fun i v q => by simpa using h (i + 1) v (by simpa using q))
      obtain ⟨x, e1, q⟩ := r sl e
      subst e1
      have := h 0 x (by simp)
      refine ⟨x, by simpa using this, q⟩
/-! ### loops -/
/-- an invariant by the turn, the names and the store -/
theorem wp_for {wi : TI} {g : TG} (h : EvI K wi ρ m fun xs C m1 => ∃ Iv : Nat → Rho → Sto → Prop, Iv 0 ρ m1 ∧ (∀ i ρ' m', Iv i ρ' m' → C m') ∧
      (∀ i x ρ' m', xs[i]? = some x → Iv i ρ' m' → ∃ js, Gt K g js x ρ' m' fun ρ2 m2 => Wp K ts ρ2 m2 { k with nx := Iv (i + 1), ct := Iv (i + 1), bk := k.nx }) ∧ ∀ ρ' m', Iv xs.length ρ' m' → k.nx ρ' m') :
    Wp K (tFor wi g ts) ρ m k := fun D σ F H E S q1 q2 q3 q4 =>
  h σ F H _ E S fun xs C m1 F1 H1 J ⟨Iv, h0, hC, hs, hd⟩ s1 S1 w => by
    refine for_it w (fun i σ' H' => ∃ ρ' m' F', Iv i ρ' m' ∧ Step m1 F1 H1 m' F' H' ∧ StoOk K m' F' H' ∧ EnvOk K F' H' ρ' σ') ⟨ρ, m1, F1, h0, Step.refl, S1, envOk_step s1 E⟩ (fun i σ' H' _ ⟨ρ', m', F', a, b, c, d⟩ => ⟨m', F', hC i ρ' m' a, b, c⟩) ?_
      (fun σ' H' ⟨ρ', m', F', a, b, c, d⟩ => q1 ρ' m' σ' F' H' (hd ρ' m' a) (s1.trans b) c d)
    rintro i x σ' H' H2 hi ⟨ρ', m', F', a, b, c, d⟩ y
    obtain ⟨F2, s2, S2, sl, hx, o2⟩ := y m' F' (hC i ρ' m' a) b c
    obtain ⟨js, gt⟩ := hs i sl ρ' m' hx a
    refine gt σ' F2 H2 x _ (envOk_step s2 d) S2 o2 fun ρ3 m3 σ3 F3 H3 wp s3 S3 E3 _ => ?_
    have st : Step m1 F1 H1 m3 F3 H3 := (b.trans s2).trans s3
    exact wp _ σ3 F3 H3 E3 S3 (fun a' b' c' f' d' e s4 S4 E4 => ⟨a', b', f', e, st.trans s4, S4, E4⟩) (fun a b c d f e s4 S4 => q2 a b c d f e ((s1.trans st).trans s4) S4) (fun a b c d f e s4 S4 E4 => q1 a b c d f e ((s1.trans st).trans s4) S4 E4) (fun a' b' c' f' d' e s4 S4 E4 => ⟨a', b', f', e, st.trans s4, S4, E4⟩)
/-- the list that a comprehension fills: not known to the block -/
structure Fill (K : PySem.W.Frag) (D : Addr) (m1 : Sto) (F1 : Reg) (H1 : Hp) (acc : List PyData) (m' : Sto) (F' : Reg) (H' : Hp) : Prop where
  st : Step m1 F1 H1 m' F' H'
  so : StoOk K m' F' H'
  at_ : ∃ us, H' D = some (.lst us) ∧ ImAll K F' H' acc us
  nF : ¬ F' D
  nm : m' D = none
theorem Fill.start {D : Addr} {m1 : Sto} {F1 : Reg} {H1 : Hp} (S : StoOk K m1 F1 H1) (hD : H1 D = none) : Fill K D m1 F1 H1 [] m1 F1 (upd H1 D (.lst [])) where
  st := ⟨fix_upd S (not_reg S hD), fun a o ha n k => ⟨by rw [upd_ne (ne_of_none ha hD)]; exact ha, n, k⟩⟩
  so := ⟨fun a u e => ⟨muOk_fix (fix_upd S (not_reg S hD)) (fun o q => by rw [upd_ne (ne_of_none q hD)]; exact q) (S.mu a u e).1, (S.mu a u e).2⟩, fun a z => by
    by_cases e : a = D
    · rw [e, upd_same]; simp
    · rw [upd_ne e]; exact S.reg a z⟩
  at_ := ⟨[], upd_same, rfl⟩
  nF := not_reg S hD
  nm := sto_none S hD
theorem Fill.step {D : Addr} {m1 m2 m3 : Sto} {F1 F2 F3 : Reg} {H1 H2 H3 : Hp} {acc : List PyData} (f : Fill K D m1 F1 H1 acc m2 F2 H2) (s : Step m2 F2 H2 m3 F3 H3) (S : StoOk K m3 F3 H3) : Fill K D m1 F1 H1 acc m3 F3 H3 := by
  obtain ⟨us, e, i⟩ := f.at_
  obtain ⟨a, b, c⟩ := s.frm D _ e f.nF f.nm
  exact ⟨f.st.trans s, S, ⟨us, a, imAll_fix s.fix _ _ i⟩, b, c⟩
theorem Fill.add {D : Addr} {m1 m2 : Sto} {F1 F2 : Reg} {H1 H2 : Hp} {acc : List PyData} {us : List V} {d : PyData} {v : V} (hD : H1 D = none) (f : Fill K D m1 F1 H1 acc m2 F2 H2) (e : H2 D = some (.lst us)) (iu : ImAll K F2 H2 acc us) (i : Im K F2 H2 d v) :
    Fill K D m1 F1 H1 (acc ++ [d]) m2 F2 (upd H2 D (.lst (us ++ [v]))) where
  st := ⟨fun a o ha n => by
      obtain ⟨x, y⟩ := f.st.fix a o ha n
      exact ⟨by rw [upd_ne (ne_of_none ha hD)]; exact x, y⟩, fun a o ha n k => by
      obtain ⟨x, y, z⟩ := f.st.frm a o ha n k
      exact ⟨by rw [upd_ne (ne_of_none ha hD)]; exact x, y, z⟩⟩
  so := ⟨fun a u ea => by
      have ne : a ≠ D := fun q => by rw [q, f.nm] at ea; cases ea
      exact ⟨muOk_fix (fix_upd f.so f.nF) (fun o q => by rw [upd_ne ne]; exact q) (f.so.mu a u ea).1, (f.so.mu a u ea).2⟩, fun a z => by
    by_cases e : a = D
    · rw [e, upd_same]; simp
    · rw [upd_ne e]; exact f.so.reg a z⟩
  at_ := ⟨us ++ [v], upd_same, imAll_fix (fix_upd f.so f.nF) _ _ (imAll_app iu (imAll_one i))⟩
  nF := f.nF
  nm := f.nm
theorem Fill.done {D : Addr} {m1 m2 : Sto} {F1 F2 : Reg} {H1 H2 : Hp} {acc : List PyData} (hD : H1 D = none) (f : Fill K D m1 F1 H1 acc m2 F2 H2) :
    Step m1 F1 H1 m2 (Dv.add F2 D) H2 ∧ StoOk K m2 (Dv.add F2 D) H2 ∧ Im K (Dv.add F2 D) H2 (.list acc) (.ref D) := by
  obtain ⟨us, e, i⟩ := f.at_
  refine ⟨⟨fun a o ha n => ⟨(f.st.fix a o ha n).1, .inr (f.st.fix a o ha n).2⟩, fun a o ha n k => ?_⟩, ⟨fun a u ea => ?_, fun a z => ?_⟩, D, us, rfl, .inl rfl, e, imAll_fix (fun a o ha n => ⟨ha, .inr n⟩) _ _ i⟩
  · obtain ⟨x, y, z⟩ := f.st.frm a o ha n k
    exact ⟨x, fun q => q.elim (ne_of_none ha hD) y, z⟩
  · have ne : a ≠ D := fun q => by rw [q, f.nm] at ea; cases ea
    exact ⟨muOk_fix (fun a o ha n => ⟨ha, .inr n⟩) (fun o q => q) (f.so.mu a u ea).1, fun q => q.elim ne (f.so.mu a u ea).2⟩
  · rcases z with z | z
    · rw [z, e]; simp
    · exact f.so.reg a z
/-- a comprehension -/
theorem ev_lc {wi : TI} {g : TG} {vs : List Nat} (h : EvI K wi ρ m fun xs C m1 => ∃ Iv : Nat → List PyData → Sto → Prop, Iv 0 [] m1 ∧ (∀ i acc m', Iv i acc m' → C m') ∧
      (∀ i x acc m', xs[i]? = some x → Iv i acc m' → acc.length < 100000 ∧ ∃ js, (∀ j ∈ js, j ∈ vs) ∧ Gt K g js x (wipeR ρ vs) m' fun ρ2 m2 => EvT K t ρ2 m2 fun b m3 => if b = true then Ev K te ρ2 m3 (fun y m4 => ∃ d, y = .d d ∧ Iv (i + 1) (acc ++ [d]) m4) else Iv (i + 1) acc m3) ∧
      ∀ acc m', Iv xs.length acc m' → P (.d (.list acc)) m') : Ev K (tLc wi g t te vs) ρ m P := fun σ F H Q E S q =>
  h σ F H _ E S fun xs C m1 F1 H1 J ⟨Iv, h0, hC, hs, hd⟩ s1 S1 w => by
    intro D hD
    refine lc_it w (fun i H' => ∃ acc m' F', Iv i acc m' ∧ Fill K D m1 F1 H1 acc m' F' H') ⟨[], m1, F1, h0, Fill.start S1 hD⟩ (fun i H' _ ⟨acc, m', F', a, f⟩ => ⟨m', F', hC _ _ _ a, f.st, f.so⟩) ?_ (fun H' ⟨acc, m', F', a, f⟩ => ?_)
    · rintro i x H' H2 hi ⟨acc, m', F', a, f⟩ y
      obtain ⟨F2, s2, S2, sl, hx, o2⟩ := y m' F' (hC i acc m' a) f.st f.so
      have f2 := f.step s2 S2
      obtain ⟨hlen, js, hj, gt⟩ := hs i sl acc m' hx a
      have E2 : EnvOk K F2 H2 (wipeR ρ vs) (wipe σ vs) := envOk_step (s1.trans f2.st) (envOk_wipe E vs)
      refine gt (wipe σ vs) F2 H2 x _ E2 S2 o2 fun ρ3 m3 σ3 F3 H3 et s3 S3 E3 hw => ⟨?_, ?_⟩
      · have := hw vs hj
        rw [this]
        have ww : ∀ us : List Nat, (∀ j ∈ us, j ∈ vs) → wipe (wipe σ us) vs = wipe σ vs := by
          intro us
          induction us with
          | nil => intro _; rfl
          | cons b us ih =>
            intro hu
            show wipe ((wipe σ us).set b none) vs = wipe σ vs
            rw [wipe_set (hu b List.mem_cons_self)]
            exact ih fun j z => hu j (List.mem_cons_of_mem _ z)
        exact ww vs fun j z => z
      · have f3 := f2.step s3 S3
        refine et σ3 F3 H3 _ E3 S3 fun b m4 F4 H4 ev s4 S4 => ?_
        have f4 := f3.step s4 S4
        cases b with
        | false =>
          rw [if_neg Bool.false_ne_true] at ev
          rw [if_neg Bool.false_ne_true]
          exact ⟨acc, m4, F4, ev, f4⟩
        | true =>
          rw [if_pos rfl] at ev
          rw [if_pos rfl]
          refine ev σ3 F4 H4 _ (envOk_step s4 E3) S4 fun s m5 v F5 H5 ⟨d, es, iv⟩ s5 S5 o5 => ?_
          subst es
          have f5 := f4.step s5 S5
          obtain ⟨us, eD, iu⟩ := f5.at_
          refine ⟨us, eD, ?_, acc ++ [d], m5, F5, iv, f5.add hD eD iu o5⟩
          rw [← imAll_len iu, sizeLine_eq]
          omega
    · obtain ⟨a1, a2, a3⟩ := f.done hD
      exact q _ _ _ _ H' (hd _ _ a) (s1.trans a1) a2 a3
end
end Dv

namespace Dv
open PySem L2
section
variable {K : PySem.W.Frag} {ρ : Rho} {m : Sto} {P P' : PV} {r r' : R2} {s t : Sl}
def ro2 (r r' : R2) : R2 := fun x y H Q => r x y H Q ∨ r' x y H Q
theorem ro_l (h : RO K r s t m P) : RO K (ro2 r r') s t m P := fun x y F H Q a b S q => .inl (h x y F H Q a b S q)
theorem ro_r (h : RO K r' s t m P) : RO K (ro2 r r') s t m P := fun x y F H Q a b S q => .inr (h x y F H Q a b S q)
def rc2 (r r' : List V → Hp → VK → Prop) : List V → Hp → VK → Prop := fun xs H Q => r xs H Q ∨ r' xs H Q
theorem rc_l {r r' : List V → Hp → VK → Prop} {ss : List Sl} (h : RC K r ss m P) : RC K (rc2 r r') ss m P := fun xs F H Q a S q => .inl (h xs F H Q a S q)
theorem rc_r {r r' : List V → Hp → VK → Prop} {ss : List Sl} (h : RC K r' ss m P) : RC K (rc2 r r') ss m P := fun xs F H Q a S q => .inr (h xs F H Q a S q)
/-! ### ints -/
theorem ro_i0 {g : Int → Int → Int} {i j : Int} (p : P (.d (.int (g i j))) m) : RO K (rI0 fun i j => .int (g i j)) (.d (.int i)) (.d (.int j)) m P := fun x y F H Q a b S q => ⟨i, j, a, b, q _ m _ F H p Step.refl S rfl⟩
theorem ro_b0 {g : Int → Int → Bool} {i j : Int} (p : P (.d (.bool (g i j))) m) : RO K (rI0 fun i j => .bl (g i j)) (.d (.int i)) (.d (.int j)) m P := fun x y F H Q a b S q => ⟨i, j, a, b, q _ m _ F H p Step.refl S rfl⟩
theorem ro_i {C : Int → Int → Prop} {g : Int → Int → Int} {i j : Int} (c : C i j) (p : P (.d (.int (g i j))) m) : RO K (rI C fun i j => .int (g i j)) (.d (.int i)) (.d (.int j)) m P := fun x y F H Q a b S q => ⟨i, j, a, b, c, q _ m _ F H p Step.refl S rfl⟩
/-! ### + -/
/-- t + u of tuples -/
def rCatZ (K : PySem.W.Frag) : R2 := fun x y H Q => ∃ a b xs ys, x = .ref a ∧ y = .ref b ∧ SqT K H a xs ∧ SqT K H b ys ∧ xs.length + ys.length ≤ sizeLine ∧
  (xs = [] → Q (.ref b) H) ∧ (xs ≠ [] → ys = [] → Q (.ref a) H) ∧ (xs ≠ [] → ys ≠ [] → ∀ p ob, H p = none → ob.dict = none → Q (.ref p) (upd H p (.frz ob (.tup (xs ++ ys)))))
theorem op_catZ {X : Cx} : OpR X (binaryOp .Add) (rCatZ X.K) := by
  rintro pins s σ H x y v u Q I rx ry ⟨a, b, xs, ys, rfl, rfl, ha, hb, hz, q0, q1, q2⟩
  cases rx
  cases ry
  obtain ⟨its, r1, p1, _⟩ := I.tuple ha
  obtain ⟨its2, r2, p2, _⟩ := I.tuple hb
  have l1 := r1.length
  have l2 := r2.length
  by_cases hx : xs = []
  · subst hx
    cases r1
    exact L2.cat_tup0 p1 p2 ⟨.ref b, H, I, rfl, q0 rfl⟩
  · have hi : its ≠ [] := fun e => hx (by subst e; exact List.length_eq_zero_iff.mp l1)
    refine HT.cat_tup p1 p2 hi (fun e => ⟨.ref a, H, I, rfl, q1 hx (by subst e; exact List.length_eq_zero_iff.mp l2)⟩) (fun e => ?_) (by omega)
    refine ⟨.ref s.heap.objs.size, _, inv_tupZ (tk := s.toks) I (fun _ _ a => a) (xs := xs ++ ys) (by rw [List.length_append]; exact hz) (r1.append r2), rfl, ?_⟩
    exact q2 hx (fun z => e (by subst z; exact List.length_eq_zero_iff.mp l2.symm)) _ _ (I.hok.fresh (Nat.le_refl _)) rfl
abbrev rAdd0 : R2 := rI0 fun i j => .int (i + j)
def rAddStr : R2 := fun x y H Q => ∃ i j, x = .str i ∧ y = .str j ∧ i.length + j.length ≤ sizeLine ∧ Q (.str (i ++ j)) H
def rAddU (K : PySem.W.Frag) : R2 := ro2 rAdd0 (ro2 rAddStr (ro2 rCat (rCatZ K)))
theorem op_addU {X : Cx} : OpR X (binaryOp .Add) (rAddU X.K) := op_add.or (op_add_str.or (op_cat.or op_catZ))
theorem ra_int {i j : Int} (p : P (.d (.int (i + j))) m) : RO K (rAddU K) (.d (.int i)) (.d (.int j)) m P := ro_l (ro_i0 p)
theorem ra_str {x y : Str} (h : x.length + y.length ≤ 100000) (p : P (.d (.str (x ++ y))) m) : RO K (rAddU K) (.d (.str x)) (.d (.str y)) m P := ro_r (ro_l fun u v F H Q a b S q => ⟨x, y, a, b, by rw [sizeLine_eq]; omega, q _ m _ F H p Step.refl S rfl⟩)
/-- what a new object is behind -/
theorem then_new {F : Reg} {H : Hp} {Q : VK} {d : PyData} {o : HO} (S : StoOk K m F H) (p : P (.d d) m) (q : Then K m F H P Q) {a : Addr} (ha : H a = none) (i : Im K (add F a) (upd H a o) d (.ref a)) : Q (.ref a) (upd H a o) :=
  q _ m _ _ _ p (step_new S ha) (sto_new S ha) i
theorem ra_lst {ds es : List PyData} (h : ds.length + es.length ≤ 100000) (p : P (.d (.list (ds ++ es))) m) : RO K (rAddU K) (.d (.list ds)) (.d (.list es)) m P := ro_r (ro_r (ro_l fun u v F H Q a b S q => by
  obtain ⟨l, xs, e1, h1, i1⟩ := im_lst a
  obtain ⟨l2, ys, e2, h2, i2⟩ := im_lst b
  have z1 := imAll_len i1
  have z2 := imAll_len i2
  refine ⟨l, l2, xs, ys, e1, e2, h1, h2, by rw [sizeLine_eq]; omega, fun c hc => ?_⟩
  exact then_new S p q hc ⟨c, _, rfl, .inl rfl, upd_same, imAll_fix (step_new S hc).fix _ _ (imAll_app i1 i2)⟩))
theorem im_nil_t {F : Reg} {H : Hp} {ds : List PyData} {vs : List V} (h : ImAll K F H ds vs) : vs = [] ↔ ds = [] := by
  have := imAll_len h
  cases ds <;> cases vs <;> simp_all
theorem ra_tup {ds es : List PyData} (h : ds.length + es.length ≤ 100000) (p : P (.d (.tuple (ds ++ es))) m) : RO K (rAddU K) (.d (.tuple ds)) (.d (.tuple es)) m P := ro_r (ro_r (ro_r fun u v F H Q a b S q => by
  obtain ⟨l, xs, e1, h1, i1⟩ := im_tup a
  obtain ⟨l2, ys, e2, h2, i2⟩ := im_tup b
  have z1 := imAll_len i1
  have z2 := imAll_len i2
  refine ⟨l, l2, xs, ys, e1, e2, h1, h2, by rw [sizeLine_eq]; omega, fun e => ?_, fun _ e => ?_, fun _ _ c ob hc hd => ?_⟩
  · have : ds = [] := (im_nil_t i1).mp e
    subst this
    subst e2
    exact q _ m _ F H p Step.refl S b
  · have : es = [] := (im_nil_t i2).mp e
    subst this
    subst e1
    rw [List.append_nil] at p
    exact q _ m _ F H p Step.refl S a
  · exact then_new S p q hc ⟨c, _, rfl, .inl ⟨.inl rfl, ob, upd_same, hd⟩, imAll_fix (step_new S hc).fix _ _ (imAll_app i1 i2)⟩))
/-! ### -, *, //, %, ** -/
theorem rs_int {i j : Int} (p : P (.d (.int (i - j))) m) : RO K (rI0 fun i j => .int (i - j)) (.d (.int i)) (.d (.int j)) m P := ro_i0 p
def rMulStr : R2 := fun x y H Q => ∃ z n, x = .str z ∧ y = .int n ∧ 0 ≤ n ∧ n ≤ 1000 ∧ z.length ≤ 1000 ∧ Q (.str (Txt.mul z n)) H
theorem op_mul_str {X : Cx} : OpR X (binaryOp .Mult) rMulStr := by
  intro pins s σ H x y v u Q I rx ry h
  obtain ⟨z, n, rfl, rfl, h0, h1, h2, q⟩ := h
  obtain ⟨t, rfl⟩ := rx
  obtain ⟨t', rfl⟩ := ry
  refine PySem.SB.mul ⟨by simp; omega, fun a _ => ?_, fun a _ => ?_⟩ fun t' k => ⟨.str _, H, I.tok _, ⟨_, rfl⟩, q⟩
  · have : (1000 : Int) ≤ (2 ^ 63 - 1) / n := by
      have : (2 ^ 63 - 1 : Int) / 1000 ≤ (2 ^ 63 - 1) / n := by
        apply Int.le_ediv_of_mul_le (by omega)
        have : (2 ^ 63 - 1 : Int) / 1000 * n ≤ (2 ^ 63 - 1 : Int) / 1000 * 1000 := Int.mul_le_mul_of_nonneg_left h1 (by decide)
        refine Int.le_trans this (by decide)
      refine Int.le_trans (by decide) this
    omega
  · have : z.length * n.toNat ≤ 1000 * 1000 := Nat.mul_le_mul h2 (by omega)
    unfold Builtin.Str.tooLong
    simp [sizeLine_eq] <;> omega
def rMulU : R2 := ro2 (rI CMulW fun i j => .int (i * j)) (ro2 rMulStr rRep)
theorem op_mulU {X : Cx} : OpR X (binaryOp .Mult) rMulU := op_mulW.or (op_mul_str.or op_rep)
theorem rm_int {i j : Int} (c : CMulW i j) (p : P (.d (.int (i * j))) m) : RO K rMulU (.d (.int i)) (.d (.int j)) m P := ro_l (ro_i c p)
theorem rm_str {z : Str} {n : Int} (h0 : 0 ≤ n) (h1 : n ≤ 1000) (h2 : z.length ≤ 1000) (p : P (.d (.str (Txt.mul z n))) m) : RO K rMulU (.d (.str z)) (.d (.int n)) m P := ro_r (ro_l fun u v F H Q a b S q => ⟨z, n, a, b, h0, h1, h2, q _ m _ F H p Step.refl S rfl⟩)
theorem imAll_rep {F : Reg} {H : Hp} {ds : List PyData} {vs : List V} (i : ImAll K F H ds vs) : ∀ k : Nat, ImAll K F H (List.replicate k ds).flatten (List.replicate k vs).flatten
  | 0 => rfl
  | k + 1 => by
    rw [List.replicate_succ, List.replicate_succ, List.flatten_cons, List.flatten_cons]
    exact imAll_app i (imAll_rep i k)
theorem rm_lst {ds : List PyData} {n : Int} (h0 : 0 ≤ n) (h1 : n ≤ 1000) (h2 : ds.length ≤ 1000) (p : P (.d (.list (List.replicate n.toNat ds).flatten)) m) : RO K rMulU (.d (.list ds)) (.d (.int n)) m P := ro_r (ro_r fun u v F H Q a b S q => by
  obtain ⟨l, xs, e1, hl, i1⟩ := im_lst a
  have z1 := imAll_len i1
  have : xs.length * n.toNat ≤ 1000 * 1000 := Nat.mul_le_mul (by omega) (by omega)
  refine ⟨l, n, xs, e1, b, hl, by omega, by omega, by rw [sizeLine_eq]; omega, fun c hc => ?_⟩
  exact then_new S p q hc ⟨c, _, rfl, .inl rfl, upd_same, imAll_fix (step_new S hc).fix _ _ (imAll_rep i1 _)⟩)
theorem rd_int {i j : Int} (c : CDivW i j) (p : P (.d (.int (i / j))) m) : RO K (rI CDivW fun i j => .int (i / j)) (.d (.int i)) (.d (.int j)) m P := ro_i c p
theorem rp_mod {i j : Int} (c : 0 < j) (p : P (.d (.int (i % j))) m) : RO K (rI (fun _ j => 0 < j) fun i j => .int (i % j)) (.d (.int i)) (.d (.int j)) m P := ro_i c p
def CPowW (i j : Int) : Prop := 0 ≤ j ∧ (Builtin.Int.intBits i : Int) * j ≤ 2 ^ 27
theorem op_powW {X : Cx} : OpR X (binaryOp .Pow) (rI CPowW fun i j => .int (i ^ j.toNat)) := opI fun _ _ _ _ _ _ _ hc q => PyProof.Rows.pow_int hc.1 hc.2 q
theorem powW {i j : Int} {b : Nat} (hb : i.natAbs < 2 ^ b) (h0 : 0 < b) (hj : 0 ≤ j) (h : j ≤ 1000) (hb2 : b ≤ 100000) : CPowW i j := by
  refine ⟨hj, ?_⟩
  have x := PySem.Flt.log2_lt_of h0 hb
  have y : Builtin.Int.intBits i ≤ 100000 := by
    unfold Builtin.Int.intBits
    split <;> omega
  have : (Builtin.Int.intBits i : Int) * j ≤ 100000 * 1000 := Int.mul_le_mul (by omega) h hj (by omega)
  refine Int.le_trans this (by decide)
theorem rp_pow {i j : Int} (c : CPowW i j) (p : P (.d (.int (i ^ j.toNat))) m) : RO K (rI CPowW fun i j => .int (i ^ j.toNat)) (.d (.int i)) (.d (.int j)) m P := ro_i c p
/-! ### == and its kin -/
theorem slot_dp {F : Reg} {H : Hp} {d : PyData} {x : V} (h : SlOk K F H (.d d) x) : Dp K H x d := im_dp d x h
theorem slot_dpM {F : Reg} {H : Hp} {a : Addr} {ds : List PyData} {x : V} (hm : m a = some (.lst ds)) (S : StoOk K m F H) (h : SlOk K F H (.m a) x) : Dp K H x (.list ds) := by
  obtain ⟨vs, z, q⟩ := mu_lst S hm
  cases (show x = .ref a from h)
  exact .lst (SqL.of z) (imAll_dp ds vs q)
def rEqU (K : PySem.W.Frag) : R2 := ro2 (rEqD K) rEq
def rNeU (K : PySem.W.Frag) : R2 := ro2 (rNeD K) rNe
theorem op_eqU {X : Cx} (hu : X.A.units + 64 < cLine) : OpR X (compareOp .Eq) (rEqU X.K) := (op_eqD hu).or op_eq
theorem op_neU {X : Cx} (hu : X.A.units + 64 < cLine) : OpR X (compareOp .NotEq) (rNeU X.K) := (op_neD hu).or op_ne
theorem re_eqS {a b : Str} (p : P (.d (.bool (decide (a = b)))) m) : RO K (rEqU K) (.d (.str a)) (.d (.str b)) m P := ro_r fun x y F H Q u v S q => by
  cases (show x = .str a from u)
  cases (show y = .str b from v)
  refine ⟨rfl, q _ m _ F H p Step.refl S ?_⟩
  show V.bl _ = V.bl _
  by_cases h : a = b
  · subst h; simp
  · simp [h]
theorem re_neS {a b : Str} (p : P (.d (.bool (!decide (a = b)))) m) : RO K (rNeU K) (.d (.str a)) (.d (.str b)) m P := ro_r fun x y F H Q u v S q => by
  cases (show x = .str a from u)
  cases (show y = .str b from v)
  refine ⟨rfl, q _ m _ F H p Step.refl S ?_⟩
  show V.bl _ = V.bl _
  by_cases h : a = b
  · subst h; simp
  · simp [h]
theorem re_eq {d e : PyData} (hd : SeqAt.shaped d = true) (he : SeqAt.shaped e = true) (p : P (.d (.bool (PyData.eqv d e))) m) : RO K (rEqU K) (.d d) (.d e) m P := ro_l fun x y F H Q a b S q => ⟨d, e, slot_dp a, slot_dp b, hd, he, q _ m _ F H p Step.refl S rfl⟩
theorem re_ne {d e : PyData} (hd : SeqAt.shaped d = true) (he : SeqAt.shaped e = true) (p : P (.d (.bool (!PyData.eqv d e))) m) : RO K (rNeU K) (.d d) (.d e) m P := ro_l fun x y F H Q a b S q => ⟨d, e, slot_dp a, slot_dp b, hd, he, q _ m _ F H p Step.refl S rfl⟩
theorem re_eqM {a : Addr} {ds : List PyData} {e : PyData} (hm : m a = some (.lst ds)) (hd : SeqAt.shaped (.list ds) = true) (he : SeqAt.shaped e = true) (p : P (.d (.bool (PyData.eqv (.list ds) e))) m) : RO K (rEqU K) (.m a) (.d e) m P := ro_l fun x y F H Q a b S q => ⟨_, e, slot_dpM hm S a, slot_dp b, hd, he, q _ m _ F H p Step.refl S rfl⟩
theorem re_neM {a : Addr} {ds : List PyData} {e : PyData} (hm : m a = some (.lst ds)) (hd : SeqAt.shaped (.list ds) = true) (he : SeqAt.shaped e = true) (p : P (.d (.bool (!PyData.eqv (.list ds) e))) m) : RO K (rNeU K) (.m a) (.d e) m P := ro_l fun x y F H Q a b S q => ⟨_, e, slot_dpM hm S a, slot_dp b, hd, he, q _ m _ F H p Step.refl S rfl⟩
theorem rl_lt {i j : Int} (p : P (.d (.bool (decide (i < j)))) m) : RO K (rI0 fun i j => .bl (decide (i < j))) (.d (.int i)) (.d (.int j)) m P := ro_b0 p
theorem rl_le {i j : Int} (p : P (.d (.bool (decide (i ≤ j)))) m) : RO K (rI0 fun i j => .bl (decide (i ≤ j))) (.d (.int i)) (.d (.int j)) m P := ro_b0 p
theorem rl_gt {i j : Int} (p : P (.d (.bool (decide (j < i)))) m) : RO K (rI0 fun i j => .bl (decide (j < i))) (.d (.int i)) (.d (.int j)) m P := ro_b0 p
theorem rl_ge {i j : Int} (p : P (.d (.bool (decide (j ≤ i)))) m) : RO K (rI0 fun i j => .bl (decide (j ≤ i))) (.d (.int i)) (.d (.int j)) m P := ro_b0 p
def isNone : PyData → Bool
  | .none => true
  | _ => false
theorem im_none {F : Reg} {H : Hp} {d : PyData} {x : V} (h : Im K F H d x) : decide (x = .non) = isNone d := by
  cases d with
  | none => cases (show x = .non from h); rfl
  | bool b => cases (show x = .bl b from h); rfl
  | int b => cases (show x = .int b from h); rfl
  | str b => cases (show x = .str b from h); rfl
  | list ds => obtain ⟨a, vs, e, _⟩ := h; subst e; rfl
  | tuple ds => obtain ⟨a, vs, e, _⟩ := h; subst e; rfl
  | dict ds => exact False.elim h
abbrev rIsN0 : R2 := fun x y H Q => y = .non ∧ Q (.bl (decide (x = .non))) H
abbrev rNotN0 : R2 := fun x y H Q => y = .non ∧ Q (.bl (!decide (x = .non))) H
theorem rn_is {d : PyData} (p : P (.d (.bool (isNone d))) m) : RO K rIsN0 (.d d) (.d .none) m P := fun x y F H Q a b S q => ⟨b, q _ m _ F H p Step.refl S (by rw [im_none a]; rfl)⟩
theorem rn_not {d : PyData} (p : P (.d (.bool (!isNone d))) m) : RO K rNotN0 (.d d) (.d .none) m P := fun x y F H Q a b S q => ⟨b, q _ m _ F H p Step.refl S (by rw [im_none a]; rfl)⟩
/-! ### in -/
def rInDT (K : PySem.W.Frag) : R2 := fun x y H Q => ∃ d ds, Dp K H x d ∧ Dp K H y (.tuple ds) ∧ SeqAt.shaped d = true ∧ SeqAt.shaped (.tuple ds) = true ∧ Q (.bl (ds.any fun z => PyData.eqv z d)) H
def rNotInDT (K : PySem.W.Frag) : R2 := fun x y H Q => ∃ d ds, Dp K H x d ∧ Dp K H y (.tuple ds) ∧ SeqAt.shaped d = true ∧ SeqAt.shaped (.tuple ds) = true ∧ Q (.bl (!ds.any fun z => PyData.eqv z d)) H
theorem op_inDT {X : Cx} (hu : X.A.units + 65 < cLine) : OpR X (compareOp .In) (rInDT X.K) := by
  intro pins s σ H x y v u Q I rx ry h
  obtain ⟨d, ds, hd, he, sd, se, q⟩ := h
  obtain ⟨as, r1⟩ := Dp.reads I d x v hd rx
  obtain ⟨bs, r2⟩ := Dp.reads I (.tuple ds) y u he ry
  exact SeqAt.in_tuple_reads r2 r1 (SeqAt.canLay_of_shaped se) (SeqAt.canLay_of_shaped sd) (PyProof.Rows.room_in_shaped sd hu) ⟨.bl _, H, I, rfl, q⟩
theorem op_notInDT {X : Cx} (hu : X.A.units + 65 < cLine) : OpR X (compareOp .NotIn) (rNotInDT X.K) := by
  intro pins s σ H x y v u Q I rx ry h
  obtain ⟨d, ds, hd, he, sd, se, q⟩ := h
  obtain ⟨as, r1⟩ := Dp.reads I d x v hd rx
  obtain ⟨bs, r2⟩ := Dp.reads I (.tuple ds) y u he ry
  exact SeqAt.notIn_tuple_reads r2 r1 (SeqAt.canLay_of_shaped se) (SeqAt.canLay_of_shaped sd) (PyProof.Rows.room_in_shaped sd hu) ⟨.bl _, H, I, rfl, q⟩
def rInSg : R2 := fun x y H Q => ∃ (c : Nat) (z : Str), x = .str ⟨#[c]⟩ ∧ y = .str z ∧ Q (.bl (decide (c ∈ z.cps.toList))) H
def rNotInSg : R2 := fun x y H Q => ∃ (c : Nat) (z : Str), x = .str ⟨#[c]⟩ ∧ y = .str z ∧ Q (.bl (!decide (c ∈ z.cps.toList))) H
def rInU (K : PySem.W.Frag) (Pg : Program) (w : World) : R2 := ro2 (rInD K) (ro2 (rInDT K) (ro2 rInSg (rSInK Pg w false)))
def rNotInU (K : PySem.W.Frag) (Pg : Program) (w : World) : R2 := ro2 (rNotInD K) (ro2 (rNotInDT K) (ro2 rNotInSg (rSInK Pg w true)))
theorem op_inU {X : Cx} (hu : X.A.units + 65 < cLine) : OpR X (compareOp .In) (rInU X.K X.prog X.w) := (op_inD hu).or ((op_inDT hu).or (op_in_sign.or or_sinK))
theorem op_notInU {X : Cx} (hu : X.A.units + 65 < cLine) : OpR X (compareOp .NotIn) (rNotInU X.K X.prog X.w) := (op_notInD hu).or ((op_notInDT hu).or (op_notIn_sign.or or_snotinK))
variable {Pg : Program} {w : World}
def anyEq (d : PyData) (ds : List PyData) : Bool := ds.any fun z => PyData.eqv z d
theorem ri_lst {d : PyData} {ds : List PyData} (hd : SeqAt.shaped d = true) (he : SeqAt.shaped (.list ds) = true) (p : P (.d (.bool (anyEq d ds))) m) : RO K (rInU K Pg w) (.d d) (.d (.list ds)) m P := ro_l fun x y F H Q a b S q => ⟨d, ds, slot_dp a, slot_dp b, hd, he, q _ m _ F H p Step.refl S rfl⟩
theorem ri_lstM {d : PyData} {l : Addr} {ds : List PyData} (hm : m l = some (.lst ds)) (hd : SeqAt.shaped d = true) (he : SeqAt.shaped (.list ds) = true) (p : P (.d (.bool (anyEq d ds))) m) : RO K (rInU K Pg w) (.d d) (.m l) m P := ro_l fun x y F H Q a b S q => ⟨d, ds, slot_dp a, slot_dpM hm S b, hd, he, q _ m _ F H p Step.refl S rfl⟩
theorem ri_tup {d : PyData} {ds : List PyData} (hd : SeqAt.shaped d = true) (he : SeqAt.shaped (.tuple ds) = true) (p : P (.d (.bool (anyEq d ds))) m) : RO K (rInU K Pg w) (.d d) (.d (.tuple ds)) m P := ro_r (ro_l fun x y F H Q a b S q => ⟨d, ds, slot_dp a, slot_dp b, hd, he, q _ m _ F H p Step.refl S rfl⟩)
theorem ri_str {c : Nat} {z : Str} (p : P (.d (.bool (decide (c ∈ z.cps.toList)))) m) : RO K (rInU K Pg w) (.d (.str ⟨#[c]⟩)) (.d (.str z)) m P := ro_r (ro_r (ro_l fun x y F H Q a b S q => ⟨c, z, a, b, q _ m _ F H p Step.refl S rfl⟩))
theorem rni_lst {d : PyData} {ds : List PyData} (hd : SeqAt.shaped d = true) (he : SeqAt.shaped (.list ds) = true) (p : P (.d (.bool (!anyEq d ds))) m) : RO K (rNotInU K Pg w) (.d d) (.d (.list ds)) m P := ro_l fun x y F H Q a b S q => ⟨d, ds, slot_dp a, slot_dp b, hd, he, q _ m _ F H p Step.refl S rfl⟩
theorem rni_lstM {d : PyData} {l : Addr} {ds : List PyData} (hm : m l = some (.lst ds)) (hd : SeqAt.shaped d = true) (he : SeqAt.shaped (.list ds) = true) (p : P (.d (.bool (!anyEq d ds))) m) : RO K (rNotInU K Pg w) (.d d) (.m l) m P := ro_l fun x y F H Q a b S q => ⟨d, ds, slot_dp a, slot_dpM hm S b, hd, he, q _ m _ F H p Step.refl S rfl⟩
theorem rni_tup {d : PyData} {ds : List PyData} (hd : SeqAt.shaped d = true) (he : SeqAt.shaped (.tuple ds) = true) (p : P (.d (.bool (!anyEq d ds))) m) : RO K (rNotInU K Pg w) (.d d) (.d (.tuple ds)) m P := ro_r (ro_l fun x y F H Q a b S q => ⟨d, ds, slot_dp a, slot_dp b, hd, he, q _ m _ F H p Step.refl S rfl⟩)
theorem rni_str {c : Nat} {z : Str} (p : P (.d (.bool (!decide (c ∈ z.cps.toList)))) m) : RO K (rNotInU K Pg w) (.d (.str ⟨#[c]⟩)) (.d (.str z)) m P := ro_r (ro_r (ro_l fun x y F H Q a b S q => ⟨c, z, a, b, q _ m _ F H p Step.refl S rfl⟩))
/-- a set of keys that stands in the store -/
def setM (Pg : Program) (w : World) (a : Addr) (xs : List Str) : Mu := .raw (SetK Pg w a (fun k => match k with | .inr z => decide (z ∈ xs) | .inl _ => false) xs.length)
theorem ri_set {z : Str} {a : Addr} {xs : List Str} (hm : m a = some (setM Pg w a xs)) (p : P (.d (.bool (decide (z ∈ xs)))) m) : RO K (rInU K Pg w) (.d (.str z)) (.m a) m P := ro_r (ro_r (ro_r fun x y F H Q i b S q => by
  have z2 : H a = some _ := (S.mu a _ hm).1
  exact ⟨.inr z, a, _, _, i, b, z2, q _ m _ F H p Step.refl S rfl⟩))
/-! ### items, slices -/
theorem atI_im {F : Reg} {H : Hp} {ds : List PyData} {vs : List V} (i : ImAll K F H ds vs) {j : Int} {d : PyData} (h : atI ds j = some d) : ∃ v, atI vs j = some v ∧ Im K F H d v := by
  have e := imAll_len i
  unfold atI at h ⊢
  rw [← e]
  cases q : ixN ds.length j with
  | none => rw [q] at h; cases h
  | some n =>
    rw [q] at h
    exact imAll_get i h
theorem rx_lst {ds : List PyData} {j : Int} {d : PyData} (h : atI ds j = some d) (p : P (.d d) m) : RO K (rIx K) (.d (.list ds)) (.d (.int j)) m P := fun x y F H Q a b S q => by
  obtain ⟨l, vs, e, hl, i⟩ := im_lst a
  obtain ⟨v, hv, iv⟩ := atI_im i h
  exact .inl ⟨l, vs, j, v, e, b, SqL.of hl, hv, q _ m _ F H p Step.refl S iv⟩
theorem rx_lstM {l : Addr} {ds : List PyData} {j : Int} {d : PyData} (hm : m l = some (.lst ds)) (h : atI ds j = some d) (p : P (.d d) m) : RO K (rIx K) (.m l) (.d (.int j)) m P := fun x y F H Q a b S q => by
  obtain ⟨vs, hl, i⟩ := mu_lst S hm
  obtain ⟨v, hv, iv⟩ := atI_im i h
  exact .inl ⟨l, vs, j, v, a, b, SqL.of hl, hv, q _ m _ F H p Step.refl S iv⟩
theorem rx_lstF {ds : List PyData} {j : Int} {d : PyData} (h : atI ds j = some d) (p : P (.d d) m) : RO K (rIx K) (.f ds) (.d (.int j)) m P := fun x y F H Q a b S q => by
  obtain ⟨l, vs, e, hl, i⟩ := sl_f a
  obtain ⟨v, hv, iv⟩ := atI_im i h
  exact .inl ⟨l, vs, j, v, e, b, hl, hv, q _ m _ F H p Step.refl S iv⟩
theorem rx_tup {ds : List PyData} {j : Int} {d : PyData} (h : atI ds j = some d) (p : P (.d d) m) : RO K (rIx K) (.d (.tuple ds)) (.d (.int j)) m P := fun x y F H Q a b S q => by
  obtain ⟨l, vs, e, hl, i⟩ := im_tup a
  obtain ⟨v, hv, iv⟩ := atI_im i h
  exact .inr (.inl ⟨l, vs, j, v, e, b, hl, hv, q _ m _ F H p Step.refl S iv⟩)
theorem rx_str {z : Str} {j : Int} {c : Nat} (hz : z.length ≤ 100000) (h : atI z.cps.toList j = some c) (p : P (.d (.str ⟨#[c]⟩)) m) : RO K (rIx K) (.d (.str z)) (.d (.int j)) m P := fun x y F H Q a b S q =>
  .inr (.inr ⟨z, j, c, a, b, by rw [sizeLine_eq]; omega, h, q _ m _ F H p Step.refl S rfl⟩)
def cutD {α : Type} (xs : List α) (lo hi : Option Int) : List α := (xs.drop (HT.sIx xs.length 0 lo)).take (HT.sIx xs.length xs.length hi - HT.sIx xs.length 0 lo)
theorem cut_im {F : Reg} {H : Hp} {ds : List PyData} {vs : List V} (i : ImAll K F H ds vs) (lo hi : Option Int) : ImAll K F H (cutD ds lo hi) (cutV vs lo hi) := by
  unfold cutD cutV
  rw [imAll_len i]
  exact imAll_iff.mpr (paired_take _ (paired_drop _ (imAll_iff.mp i)))
/-- t[lo:hi] of a tuple -/
def rSlZ (K : PySem.W.Frag) : V → Option Int → Option Int → Hp → VK → Prop := fun x lo hi H Q => ∃ a xs, x = .ref a ∧ SqT K H a xs ∧
  (HT.sIx xs.length 0 lo = 0 ∧ HT.sIx xs.length xs.length hi = xs.length → Q (.ref a) H) ∧ (¬ (HT.sIx xs.length 0 lo = 0 ∧ HT.sIx xs.length xs.length hi = xs.length) → ∀ p ob, H p = none → ob.dict = none → Q (.ref p) (upd H p (.frz ob (.tup (cutV xs lo hi)))))
theorem sl_tupZ {X : Cx} : SlR X (rSlZ X.K) := by
  rintro pins s σ H x v vl vu lo hi sl Q I rx hs pl pu ⟨a, xs, rfl, hx, q1, q2⟩
  cases rx
  obtain ⟨its, r, ht, hz⟩ := I.tuple hx
  have hlen : its.toArray.size = xs.length := by rw [List.size_toArray]; exact r.length.symm
  refine ⟨"tuple", _, PyProof.Rows.slot_tuple_getitem.lookup, ht.typeIs, ?_⟩
  by_cases hw : HT.sIx xs.length 0 lo = 0 ∧ HT.sIx xs.length xs.length hi = xs.length
  · exact L2.getItem_tuple_whole ht hs pl pu (by rw [hlen]; exact hw) ⟨.ref a, H, I, rfl, q1 hw⟩
  · apply HT.getItem_tuple_cut ht hs pl pu (by rw [hlen]; exact hw) ?_ (by rw [hlen]; exact hz)
    rw [hlen]
    refine ⟨.ref s.heap.objs.size, _, inv_tupZ (tk := s.toks) I (fun _ _ a => a) (xs := cutV xs lo hi) (Nat.le_trans (cutV_length xs lo hi) hz) ((r.drop _).take _), rfl, ?_⟩
    exact q2 hw _ _ (I.hok.fresh (Nat.le_refl _)) rfl
def rSlU (K : PySem.W.Frag) : V → Option Int → Option Int → Hp → VK → Prop := fun x lo hi H Q => rSlL K x lo hi H Q ∨ rSlZ K x lo hi H Q ∨ rSlS x lo hi H Q
theorem sl_U {X : Cx} : SlR X (rSlU X.K) := sl_list.or (sl_tupZ.or sl_str)
variable {lo hi : Option Int}
theorem rz_lst {ds : List PyData} (p : P (.d (.list (cutD ds lo hi))) m) : RSl K (rSlU K) (.d (.list ds)) lo hi m P := fun x F H Q a S q => by
  obtain ⟨l, vs, e, hl, i⟩ := im_lst a
  exact .inl ⟨l, vs, e, SqL.of hl, fun c hc => then_new S p q hc ⟨c, _, rfl, .inl rfl, upd_same, imAll_fix (step_new S hc).fix _ _ (cut_im i lo hi)⟩⟩
theorem cut_whole {α : Type} {xs : List α} (h : HT.sIx xs.length 0 lo = 0 ∧ HT.sIx xs.length xs.length hi = xs.length) : cutD xs lo hi = xs := by
  unfold cutD
  rw [h.1, h.2]
  simp
theorem rz_tup {ds : List PyData} (p : P (.d (.tuple (cutD ds lo hi))) m) : RSl K (rSlU K) (.d (.tuple ds)) lo hi m P := fun x F H Q a S q => by
  obtain ⟨l, vs, e, hl, i⟩ := im_tup a
  refine .inr (.inl ⟨l, vs, e, hl, fun h => ?_, fun _ c ob hc hd => then_new S p q hc ⟨c, _, rfl, .inl ⟨.inl rfl, ob, upd_same, hd⟩, imAll_fix (step_new S hc).fix _ _ (cut_im i lo hi)⟩⟩)
  rw [← imAll_len i] at h
  rw [cut_whole h] at p
  subst e
  exact q _ m _ F H p Step.refl S a
theorem rz_str {z : Str} (hz : z.length ≤ 100000) (p : P (.d (.str (cutS z lo hi))) m) : RSl K (rSlU K) (.d (.str z)) lo hi m P := fun x F H Q a S q =>
  .inr (.inr ⟨z, a, by rw [sizeLine_eq]; omega, q _ m _ F H p Step.refl S rfl⟩)
/-! ### truth -/
theorem tr_tup {ds : List PyData} : TrS K (.d (.tuple ds)) m (!ds.isEmpty) := fun x F H a S => by
  obtain ⟨l, vs, e, hl, i⟩ := im_tup a
  subst e
  have := imAll_len i
  exact .inr (.inl ⟨vs, hl, by cases ds <;> cases vs <;> simp_all⟩)
theorem tr_lst {ds : List PyData} : TrS K (.d (.list ds)) m (!ds.isEmpty) := fun x F H a S => by
  obtain ⟨l, vs, e, hl, i⟩ := im_lst a
  subst e
  have := imAll_len i
  exact .inl ⟨vs, SqL.of hl, by cases ds <;> cases vs <;> simp_all⟩
theorem tr_lstM {l : Addr} {ds : List PyData} (hm : m l = some (.lst ds)) : TrS K (.m l) m (!ds.isEmpty) := fun x F H a S => by
  obtain ⟨vs, hl, i⟩ := mu_lst S hm
  cases (show x = .ref l from a)
  have := imAll_len i
  exact .inl ⟨vs, SqL.of hl, by cases ds <;> cases vs <;> simp_all⟩
theorem tr_bool {b : Bool} : TrS K (.d (.bool b)) m b := fun x F H a S => by cases (show x = .bl b from a); rfl
theorem tr_int {i : Int} : TrS K (.d (.int i)) m (i != 0) := fun x F H a S => by cases (show x = .int i from a); rfl
theorem tr_none : TrS K (.d .none) m false := fun x F H a S => by cases (show x = .non from a); rfl
theorem tr_str {z : Str} (h : z.length ≤ 100000) : TrS K (.d (.str z)) m ((z.length : Int) != 0) := fun x F H a S => by
  cases (show x = .str z from a)
  exact ⟨by rw [sizeLine_eq]; omega, rfl⟩
/-! ### len, min, max, int, list, tuple, sorted, repr -/
abbrev rLenC (K : PySem.W.Frag) : List V → Hp → VK → Prop := fun xs H Q => ∃ x n, xs = [x] ∧ LenV K x H n ∧ Q (.int n) H
theorem sls1 {F : Reg} {H : Hp} {s : Sl} {xs : List V} (h : SlsOk K F H [s] xs) : ∃ x, xs = [x] ∧ SlOk K F H s x := by
  cases h with
  | cons a b => cases b; exact ⟨_, rfl, a⟩
theorem sls2 {F : Reg} {H : Hp} {s t : Sl} {xs : List V} (h : SlsOk K F H [s, t] xs) : ∃ x y, xs = [x, y] ∧ SlOk K F H s x ∧ SlOk K F H t y := by
  cases h with
  | cons a b =>
    obtain ⟨y, e, c⟩ := sls1 b
    subst e
    exact ⟨_, _, rfl, a, c⟩
theorem sls3 {F : Reg} {H : Hp} {s t u : Sl} {xs : List V} (h : SlsOk K F H [s, t, u] xs) : ∃ x y z, xs = [x, y, z] ∧ SlOk K F H s x ∧ SlOk K F H t y ∧ SlOk K F H u z := by
  cases h with
  | cons a b =>
    obtain ⟨y, z, e, c, d⟩ := sls2 b
    subst e
    exact ⟨_, _, _, rfl, a, c, d⟩
theorem sls0 {F : Reg} {H : Hp} {xs : List V} (h : SlsOk K F H [] xs) : xs = [] := by cases h; rfl
theorem rc_lenT {ds : List PyData} (p : P (.d (.int ds.length)) m) : RC K (rLenC K) [.d (.tuple ds)] m P := fun xs F H Q a S q => by
  obtain ⟨x, e, o⟩ := sls1 a
  obtain ⟨l, vs, e2, hl, i⟩ := im_tup o
  subst e2
  exact ⟨_, _, e, .inr ⟨vs, hl, rfl⟩, by rw [← imAll_len i]; exact q _ m _ F H p Step.refl S rfl⟩
theorem rc_lenL {ds : List PyData} (p : P (.d (.int ds.length)) m) : RC K (rLenC K) [.d (.list ds)] m P := fun xs F H Q a S q => by
  obtain ⟨x, e, o⟩ := sls1 a
  obtain ⟨l, vs, e2, hl, i⟩ := im_lst o
  subst e2
  exact ⟨_, _, e, .inl ⟨vs, SqL.of hl, rfl⟩, by rw [← imAll_len i]; exact q _ m _ F H p Step.refl S rfl⟩
theorem rc_lenF {ds : List PyData} (p : P (.d (.int ds.length)) m) : RC K (rLenC K) [.f ds] m P := fun xs F H Q a S q => by
  obtain ⟨x, e, o⟩ := sls1 a
  obtain ⟨l, vs, e2, hl, i⟩ := sl_f o
  subst e2
  exact ⟨_, _, e, .inl ⟨vs, hl, rfl⟩, by rw [← imAll_len i]; exact q _ m _ F H p Step.refl S rfl⟩
theorem rc_lenM {l : Addr} {ds : List PyData} (hm : m l = some (.lst ds)) (p : P (.d (.int ds.length)) m) : RC K (rLenC K) [.m l] m P := fun xs F H Q a S q => by
  obtain ⟨x, e, o⟩ := sls1 a
  obtain ⟨vs, hl, i⟩ := mu_lst S hm
  cases (show x = .ref l from o)
  exact ⟨_, _, e, .inl ⟨vs, SqL.of hl, rfl⟩, by rw [← imAll_len i]; exact q _ m _ F H p Step.refl S rfl⟩
theorem rc_lenS {z : Str} (h : z.length ≤ 100000) (p : P (.d (.int z.length)) m) : RC K (rLenC K) [.d (.str z)] m P := fun xs F H Q a S q => by
  obtain ⟨x, e, o⟩ := sls1 a
  cases (show x = .str z from o)
  exact ⟨_, _, e, ⟨by rw [sizeLine_eq]; omega, rfl⟩, q _ m _ F H p Step.refl S rfl⟩
def rMinC : List V → Hp → VK → Prop := rc2 (fun xs H Q => ∃ i j, xs = [.int i, .int j] ∧ Q (.int (if j < i then j else i)) H) (fun xs H Q => ∃ i j k, xs = [.int i, .int j, .int k] ∧ Q (.int (if j < i then (if k < j then k else j) else (if k < i then k else i))) H)
theorem call_minU {X : Cx} (hc : X.calm = true) : CallR X (.builtin "min") rMinC := by
  refine (call_min2 hc).or ?_
  intro pins s σ H xs us Q I r h
  obtain ⟨i, j, k, rfl, q⟩ := h
  cases r with
  | cons r1 r =>
    cases r with
    | cons r2 r =>
      cases r with
      | cons r3 r =>
        cases r
        obtain ⟨t1, rfl⟩ := r1
        obtain ⟨t2, rfl⟩ := r2
        obtain ⟨t3, rfl⟩ := r3
        refine PySem.min_three_ints (I.ok.hd hc) fun h' tk kk => ⟨.int _, H, I.kept kk, ?_, q⟩
        split
        · split
          · exact ⟨_, rfl⟩
          · exact ⟨_, rfl⟩
        · split
          · exact ⟨_, rfl⟩
          · exact ⟨_, rfl⟩
theorem rc_min2 {i j : Int} (p : P (.d (.int (if j < i then j else i))) m) : RC K rMinC [.d (.int i), .d (.int j)] m P := rc_l fun xs F H Q a S q => by
  obtain ⟨x, y, e, o1, o2⟩ := sls2 a
  cases (show x = .int i from o1)
  cases (show y = .int j from o2)
  exact ⟨i, j, e, q _ m _ F H p Step.refl S rfl⟩
theorem rc_min3 {i j k : Int} (p : P (.d (.int (if j < i then (if k < j then k else j) else (if k < i then k else i)))) m) : RC K rMinC [.d (.int i), .d (.int j), .d (.int k)] m P := rc_r fun xs F H Q a S q => by
  obtain ⟨x, y, z, e, o1, o2, o3⟩ := sls3 a
  cases (show x = .int i from o1)
  cases (show y = .int j from o2)
  cases (show z = .int k from o3)
  exact ⟨i, j, k, e, q _ m _ F H p Step.refl S rfl⟩
abbrev rMaxC : List V → Hp → VK → Prop := fun xs H Q => ∃ i j, xs = [.int i, .int j] ∧ Q (.int (if j > i then j else i)) H
theorem rc_max2 {i j : Int} (p : P (.d (.int (if j > i then j else i))) m) : RC K rMaxC [.d (.int i), .d (.int j)] m P := fun xs F H Q a S q => by
  obtain ⟨x, y, e, o1, o2⟩ := sls2 a
  cases (show x = .int i from o1)
  cases (show y = .int j from o2)
  exact ⟨i, j, e, q _ m _ F H p Step.refl S rfl⟩
abbrev rIntC : List V → Hp → VK → Prop := fun xs H Q => (∃ i, xs = [.int i] ∧ Q (.int i) H) ∨ ∃ k, xs = [.bl k] ∧ Q (.int (if k then 1 else 0)) H
theorem rc_intB {b : Bool} (p : P (.d (.int (if b then 1 else 0))) m) : RC K rIntC [.d (.bool b)] m P := fun xs F H Q a S q => by
  obtain ⟨x, e, o⟩ := sls1 a
  cases (show x = .bl b from o)
  exact .inr ⟨b, e, q _ m _ F H p Step.refl S rfl⟩
theorem rc_intI {i : Int} (p : P (.d (.int i)) m) : RC K rIntC [.d (.int i)] m P := fun xs F H Q a S q => by
  obtain ⟨x, e, o⟩ := sls1 a
  cases (show x = .int i from o)
  exact .inl ⟨i, e, q _ m _ F H p Step.refl S rfl⟩
abbrev rListC (K : PySem.W.Frag) : List V → Hp → VK → Prop := fun xs H Q => ∃ p ys, xs = [.ref p] ∧ (SqL K H p ys ∨ SqT K H p ys) ∧ ∀ l, H l = none → Q (.ref l) (upd H l (.lst ys))
/-- a slot that holds a list or a tuple of ds -/
def SeqS (K : PySem.W.Frag) (s : Sl) (m : Sto) (ds : List PyData) : Prop := ∀ (x : V) (F : Reg) (H : Hp), SlOk K F H s x → StoOk K m F H → ∃ a vs, x = .ref a ∧ (SqL K H a vs ∨ SqT K H a vs) ∧ ImAll K F H ds vs
theorem seq_lst {ds : List PyData} : SeqS K (.d (.list ds)) m ds := fun x F H a S => let ⟨l, vs, e, hl, i⟩ := im_lst a; ⟨l, vs, e, .inl (SqL.of hl), i⟩
theorem seq_tup {ds : List PyData} : SeqS K (.d (.tuple ds)) m ds := fun x F H a S => let ⟨l, vs, e, hl, i⟩ := im_tup a; ⟨l, vs, e, .inr hl, i⟩
theorem seq_f {ds : List PyData} : SeqS K (.f ds) m ds := fun x F H a S => let ⟨l, vs, e, hl, i⟩ := sl_f a; ⟨l, vs, e, .inl hl, i⟩
theorem seq_m {l : Addr} {ds : List PyData} (hm : m l = some (.lst ds)) : SeqS K (.m l) m ds := fun x F H a S => let ⟨vs, hl, i⟩ := mu_lst S hm; ⟨l, vs, a, .inl (SqL.of hl), i⟩
theorem rc_list {s : Sl} {ds : List PyData} (h : SeqS K s m ds) (p : P (.d (.list ds)) m) : RC K (rListC K) [s] m P := fun xs F H Q a S q => by
  obtain ⟨x, e, o⟩ := sls1 a
  obtain ⟨l, vs, e2, hl, i⟩ := h x F H o S
  subst e2
  exact ⟨l, vs, e, hl, fun c hc => then_new S p q hc ⟨c, vs, rfl, .inl rfl, upd_same, imAll_fix (step_new S hc).fix _ _ i⟩⟩
/-- list(..) that will change -/
theorem rc_listM {s : Sl} {ds : List PyData} (h : SeqS K s m ds) (p : ∀ a, m a = none → P (.m a) (put m a (.lst ds))) : RC K (rListC K) [s] m P := fun xs F H Q a S q => by
  obtain ⟨x, e, o⟩ := sls1 a
  obtain ⟨l, vs, e2, hl, i⟩ := h x F H o S
  subst e2
  exact ⟨l, vs, e, hl, fun c hc => q _ _ _ _ _ (p c (sto_none S hc)) (step_newM S hc) (sto_put S (not_reg S hc) ⟨vs, upd_same, imAll_fix (step_newM (u := .lst ds) S hc).fix ds vs i⟩) rfl⟩
def rTupleC (K : PySem.W.Frag) : List V → Hp → VK → Prop := fun xs H Q => ∃ p ys, xs = [.ref p] ∧ ((SqL K H p ys ∧ ∀ l ob, H l = none → ob.dict = none → Q (.ref l) (upd H l (.frz ob (.tup ys)))) ∨ (SqT K H p ys ∧ Q (.ref p) H))
theorem call_tupleZ {X : Cx} : CallR X (.type "tuple") (rTupleC X.K) := by
  rintro pins s σ H xs us Q I r ⟨p, ys, rfl, h⟩
  obtain ⟨u, rfl, rx⟩ := vals1 r
  cases rx
  rcases h with ⟨hq, q⟩ | ⟨hq, q⟩
  · obtain ⟨its, r', pl, hz⟩ := I.list hq
    have e := r'.length
    apply PySem.call_tuple_list pl.isList (fun h' kp => ?_) (by simp only [List.size_toArray] <;> omega)
    refine ⟨.ref h'.objs.size, _, inv_tupZ (tk := s.toks) I kp hz r', rfl, ?_⟩
    exact q _ _ ((I.kept (t' := s.toks) kp).hok.fresh (Nat.le_refl _)) rfl
  · obtain ⟨its, r', pl, hz⟩ := I.tuple hq
    exact PySem.call_tuple_same pl ⟨.ref p, H, I, rfl, q⟩
theorem rc_tupleT {ds : List PyData} (p : P (.d (.tuple ds)) m) : RC K (rTupleC K) [.d (.tuple ds)] m P := fun xs F H Q a S q => by
  obtain ⟨x, e, o⟩ := sls1 a
  obtain ⟨l, vs, e2, hl, i⟩ := im_tup o
  subst e2
  exact ⟨l, vs, e, .inr ⟨hl, q _ m _ F H p Step.refl S o⟩⟩
theorem rc_tupleL {ds : List PyData} (p : P (.d (.tuple ds)) m) : RC K (rTupleC K) [.d (.list ds)] m P := fun xs F H Q a S q => by
  obtain ⟨x, e, o⟩ := sls1 a
  obtain ⟨l, vs, e2, hl, i⟩ := im_lst o
  subst e2
  exact ⟨l, vs, e, .inl ⟨SqL.of hl, fun c ob hc hd => then_new S p q hc ⟨c, vs, rfl, .inl ⟨.inl rfl, ob, upd_same, hd⟩, imAll_fix (step_new S hc).fix _ _ i⟩⟩⟩
theorem rc_tupleM {l : Addr} {ds : List PyData} (hm : m l = some (.lst ds)) (p : P (.d (.tuple ds)) m) : RC K (rTupleC K) [.m l] m P := fun xs F H Q a S q => by
  obtain ⟨x, e, o⟩ := sls1 a
  obtain ⟨vs, hl, i⟩ := mu_lst S hm
  cases (show x = .ref l from o)
  exact ⟨l, vs, e, .inl ⟨SqL.of hl, fun c ob hc hd => then_new S p q hc ⟨c, vs, rfl, .inl ⟨.inl rfl, ob, upd_same, hd⟩, imAll_fix (step_new S hc).fix _ _ i⟩⟩⟩
/-- sorted of texts, of any length -/
def rSortS (K : PySem.W.Frag) : List V → Hp → VK → Prop := fun vs H Q => ∃ (a : Addr) (xs : List Str), vs = [V.ref a] ∧ SqL K H a (xs.map V.str) ∧
  ∀ (ys : List Str) (p : Addr), ys.Perm xs → PyProof.Rows.sortedS ys = true → H p = none → Q (.ref p) (upd H p (.lst (ys.map V.str)))
theorem cr_sortS {X : Cx} : CallR X (.builtin "sorted") (rSortS X.K) := by
  intro pins s σ H vs us Q I r h
  obtain ⟨a, xs, rfl, hs, q⟩ := h
  obtain ⟨its, rv, hl, hz⟩ := I.list hs
  rw [Vals.ref1 r]
  have hlen0 := rv.length
  rw [List.length_map] at hlen0 hz
  refine PyProof.Rows.sorted_strsAny hl.isList rv.strs (by rw [← hlen0]; exact hz) fun out ys h1 h2 h3 => ?_
  obtain ⟨ep, he'⟩ := PyProof.Rows.sortedAll_at s.heap its out
  have hlen : (ys.map V.str).length ≤ sizeLine := by rw [List.length_map, h2.length_eq]; exact hz
  exact ⟨.ref _, upd H (s.heap.objs.size + 1) (.lst (ys.map V.str)), I.laid (t' := s.toks) (fun _ _ => PyProof.Rows.sortedAll_old) (Nat.le_succ _) ⟨hlen, out.toList, ep, vals_of_strs h1, he'⟩, rfl, q ys _ h2 h3 (I.hok.fresh (Nat.le_succ _))⟩
theorem imAll_strs {F : Reg} {H : Hp} : ∀ {zs : List Str} {vs : List V}, ImAll K F H (zs.map .str) vs ↔ vs = zs.map V.str
  | [], vs => Iff.rfl
  | z :: zs, vs => ⟨fun h => by
      obtain ⟨v, r, e, h1, h2⟩ := h
      cases (show v = .str z from h1)
      rw [e, imAll_strs.mp h2]
      rfl, fun h => ⟨.str z, zs.map V.str, h, rfl, imAll_strs.mpr rfl⟩⟩
theorem rc_sortS {s : Sl} {zs : List Str} (h : ∀ (x : V) (F : Reg) (H : Hp), SlOk K F H s x → StoOk K m F H → ∃ a, x = .ref a ∧ SqL K H a (zs.map V.str))
    (p : ∀ ys : List Str, ys.Perm zs → PyProof.Rows.sortedS ys = true → P (.d (.list (ys.map .str))) m) : RC K (rSortS K) [s] m P := fun xs F H Q a S q => by
  obtain ⟨x, e, o⟩ := sls1 a
  obtain ⟨l, e2, hl⟩ := h x F H o S
  subst e2
  exact ⟨l, zs, e, hl, fun ys c h1 h2 hc => then_new S (p ys h1 h2) q hc ⟨c, _, rfl, .inl rfl, upd_same, imAll_strs.mpr rfl⟩⟩
theorem strs_lst {zs : List Str} : ∀ (x : V) (F : Reg) (H : Hp), SlOk K F H (.d (.list (zs.map .str))) x → StoOk K m F H → ∃ a, x = .ref a ∧ SqL K H a (zs.map V.str) := fun x F H a S => by
  obtain ⟨l, vs, e, hl, i⟩ := im_lst a
  have := imAll_strs.mp i
  subst this
  exact ⟨l, e, SqL.of hl⟩
/-- repr -/
def rRepr (K : PySem.W.Frag) : List V → Hp → VK → Prop := fun xs H Q => ∃ x d, xs = [x] ∧ Dp K H x d ∧ PyData.showable d = true ∧ PyData.hasDict d = false ∧ SeqAt.shaped d = true ∧ (PyData.shown d).length ≤ sizeLine ∧ Q (.str (PyData.shown d)) H
theorem cr_repr {X : Cx} (hg : X.A.guards = some []) (hu : X.A.units + 70 < cLine) : CallR X (.builtin "repr") (rRepr X.K) := by
  intro pins s σ H xs us Q I r h
  obtain ⟨x, d, rfl, hd, hs, hn, hsh, hz, q⟩ := h
  obtain ⟨u, rfl, rx⟩ := vals1 r
  have depth := SeqAt.depth_of_shaped hsh
  cases x with
  | ref a =>
    cases rx
    obtain ⟨as, rd⟩ := Dp.reads I d (.ref a) (.ref a) hd rfl
    refine PySem.repr_of_reads' rd hs (fun e => by rw [hn] at e; cases e) hg (by omega) (fun _ _ e => e) (fun h' u tk kk => ⟨.str _, H, I.kept kk, ⟨_, rfl⟩, q⟩) hz
  | non => cases hd; cases rx; exact PySem.P.repr_of_none ⟨.str _, H, I.tok _, ⟨_, rfl⟩, q⟩
  | bl b => cases hd; cases rx; exact PySem.P.repr_of_bool ⟨.str _, H, I.tok _, ⟨_, rfl⟩, q⟩
  | int i =>
    cases hd
    obtain ⟨t, rfl⟩ := rx
    exact PySem.P.repr_of_int (of_decide_eq_true hs) ⟨.str _, H, I.tok _, ⟨_, rfl⟩, q⟩
  | str z =>
    cases hd
    obtain ⟨t, rfl⟩ := rx
    exact PySem.P.repr_of_str ⟨.str _, H, I.tok _, ⟨_, rfl⟩, q⟩ hz
  | byt b => cases hd
  | flt b => cases hd
  | ty n => cases hd
theorem rc_repr {d : PyData} (h1 : PyData.showable d = true) (h2 : PyData.hasDict d = false) (h3 : SeqAt.shaped d = true) (h4 : (PyData.shown d).length ≤ sizeLine) (p : P (.d (.str (PyData.shown d))) m) : RC K (rRepr K) [.d d] m P := fun xs F H Q a S q => by
  obtain ⟨x, e, o⟩ := sls1 a
  exact ⟨x, d, e, slot_dp o, h1, h2, h3, h4, q _ m _ F H p Step.refl S rfl⟩
end
end Dv

namespace Dv
open PySem L2
/-! ### what is walked -/
theorem pi_or {X : Cx} {tg it : Expr} {wi wi' : TI} (h : PI X tg it wi) (h' : PI X tg it wi') : PI X tg it (fun σ H R => wi σ H R ∨ wi' σ H R) := ⟨fun pins s σ H R I q => q.elim (h.run pins s σ H R I) (h'.run pins s σ H R I)⟩
def iSeqU (K : PySem.W.Frag) (tl : TE) : TI := fun σ H R => iList K tl σ H R ∨ iTup K tl σ H R ∨ iStr tl σ H R
theorem pi_seqU {X : Cx} {tg e : Expr} {tl : TE} (he : PE X e tl) : PI X tg e (iSeqU X.K tl) := pi_or (pi_list he) (pi_or (pi_tup he) (pi_str he))
section
variable {K : PySem.W.Frag} {ρ : Rho} {m : Sto} {tl : TE} {P : List Sl → (Sto → Prop) → Sto → Prop}
abbrev Any : Sto → Prop := fun _ => True
theorem tup_at {m m' : Sto} {F F' : Reg} {H H' : Hp} {a : Addr} {vs : List V} (s : Step m F H m' F' H') (n : (F a ∧ ZT H a vs) ∨ WrT K a vs) : SqT K H' a vs := by
  rcases n with ⟨n, ob, ha, hd⟩ | w
  · exact ZT.sq ⟨ob, (s.fix a _ ha n).1, hd⟩
  · exact w.sq
theorem sl_map {ds : List PyData} {i : Nat} {d : PyData} (h : ds[i]? = some d) : (ds.map Sl.d)[i]? = some (.d d) := by rw [List.getElem?_map, h]; rfl
theorem ei_tup (h : Ev K tl ρ m fun s m1 => ∃ ds, s = .d (.tuple ds) ∧ P (ds.map .d) Any m1) : EvI K (iSeqU K tl) ρ m P := fun σ F H R E S q => .inr (.inl (h σ F H _ E S fun s m1 v F1 H1 ⟨ds, e, p⟩ s1 S1 o1 => by
  subst e
  obtain ⟨a, vs, e, n, i⟩ := o1
  have hl : (ds.map Sl.d).length = vs.length := by rw [List.length_map]; exact imAll_len i
  refine ⟨a, e, ⟨vs, tup_at Step.refl (m := m1) (m' := m1) n⟩, q _ _ m1 F1 H1 _ p s1 S1 ?_⟩
  rw [hl]
  refine (walk_tup (K := K) (a := a) (xs := vs)).mono (fun H2 ⟨m2, F2, _, st, _⟩ => tup_at st n) fun j H2 x H3 hj ⟨m3, F3, _, _, _⟩ ⟨e3, hx⟩ m2 F2 _ st S2 => ?_
  subst e3
  have i2 := imAll_fix st.fix ds vs i
  have hd : ∃ d, ds[j]? = some d := by
    have : j < ds.length := by rw [imAll_len i]; exact hj
    exact ⟨_, List.getElem?_eq_getElem this⟩
  obtain ⟨d, hd⟩ := hd
  obtain ⟨v2, hv, iv⟩ := imAll_get i2 hd
  rw [hx] at hv
  cases hv
  exact ⟨F2, Step.refl, S2, .d d, sl_map hd, iv⟩))
theorem ei_lst (h : Ev K tl ρ m fun s m1 => ∃ ds, s = .d (.list ds) ∧ P (ds.map .d) Any m1) : EvI K (iSeqU K tl) ρ m P := fun σ F H R E S q => .inl (h σ F H _ E S fun s m1 v F1 H1 ⟨ds, e, p⟩ s1 S1 o1 => by
  subst e
  obtain ⟨a, vs, e, n, ha, i⟩ := o1
  have hl : (ds.map Sl.d).length = vs.length := by rw [List.length_map]; exact imAll_len i
  refine ⟨a, e, ⟨vs, SqL.of ha⟩, q _ _ m1 F1 H1 _ p s1 S1 ?_⟩
  rw [hl]
  refine (walk_list (K := K) (a := a) (xs := vs)).mono (fun H2 ⟨m2, F2, _, st, _⟩ => SqL.of (st.fix a _ ha n).1) fun j H2 x H3 hj ⟨m3, F3, _, _, _⟩ ⟨e3, hx⟩ m2 F2 _ st S2 => ?_
  subst e3
  have i2 := imAll_fix st.fix ds vs i
  have hd : ∃ d, ds[j]? = some d := by
    have : j < ds.length := by rw [imAll_len i]; exact hj
    exact ⟨_, List.getElem?_eq_getElem this⟩
  obtain ⟨d, hd⟩ := hd
  obtain ⟨v2, hv, iv⟩ := imAll_get i2 hd
  rw [hx] at hv
  cases hv
  exact ⟨F2, Step.refl, S2, .d d, sl_map hd, iv⟩)
/-- a list that may change, but not in the loop -/
theorem ei_lstM (h : Ev K tl ρ m fun s m1 => ∃ a ds, s = .m a ∧ m1 a = some (.lst ds) ∧ P (ds.map .d) (fun m' => m' a = some (.lst ds)) m1) : EvI K (iSeqU K tl) ρ m P := fun σ F H R E S q => .inl (h σ F H _ E S fun s m1 v F1 H1 ⟨a, ds, e, hm, p⟩ s1 S1 o1 => by
  subst e
  obtain ⟨vs, ha, i⟩ := mu_lst S1 hm
  refine ⟨a, o1, ⟨vs, SqL.of ha⟩, q _ _ m1 F1 H1 _ p s1 S1 ⟨fun j H2 hj ⟨m2, F2, c, st, S2⟩ => ?_, fun H2 ⟨m2, F2, c, st, S2⟩ => ?_, fun j H2 x H3 hj ⟨m3, F3, _, _, _⟩ ⟨e3, hx⟩ m2 F2 c st S2 => ?_⟩⟩
  · obtain ⟨us, ha2, i2⟩ := mu_lst S2 c
    have : j < us.length := by rw [← imAll_len i2]; simpa using hj
    exact ⟨us, us[j], SqL.of ha2, List.getElem?_eq_getElem this⟩
  · obtain ⟨us, ha2, i2⟩ := mu_lst S2 c
    exact ⟨us, SqL.of ha2, by rw [← imAll_len i2]; simp⟩
  · subst e3
    obtain ⟨us, ha2, i2⟩ := mu_lst S2 c
    have hd : ∃ d, ds[j]? = some d := ⟨_, List.getElem?_eq_getElem (by simpa using hj)⟩
    obtain ⟨d, hd⟩ := hd
    obtain ⟨v2, hv, iv⟩ := imAll_get i2 hd
    rw [hx us (SqL.of ha2)] at hv
    cases hv
    exact ⟨F2, Step.refl, S2, .d d, sl_map hd, iv⟩)
/-- the signs of a text -/
def signs (z : Str) : List PyData := z.cps.toList.map fun c => .str ⟨#[c]⟩
theorem ei_str (h : Ev K tl ρ m fun s m1 => ∃ z, s = .d (.str z) ∧ P ((signs z).map .d) Any m1) : EvI K (iSeqU K tl) ρ m P := fun σ F H R E S q => .inr (.inr (h σ F H _ E S fun s m1 v F1 H1 ⟨z, e, p⟩ s1 S1 o1 => by
  subst e
  have hl : ((signs z).map Sl.d).length = z.cps.size := by simp [signs]
  refine ⟨z, o1, q _ _ m1 F1 H1 _ p s1 S1 ?_⟩
  rw [hl]
  refine (walk_str (z := z)).mono (fun H2 _ => trivial) fun j H2 x H3 hj _ ⟨e3, c, hc, hx⟩ m2 F2 _ st S2 => ?_
  subst e3
  refine ⟨F2, Step.refl, S2, .d (.str ⟨#[c]⟩), sl_map ?_, hx⟩
  unfold signs
  rw [List.getElem?_map]
  have : z.cps.toList[j]? = some c := by simpa using hc
  rw [this]
  rfl))
theorem ei_rng1 {ta : TA} (h : EvA K ta ρ m fun ss m1 => ∃ n : Int, ss = [.d (.int n)] ∧ n ≤ 1000000 ∧ -1000000 ≤ n ∧ P ((List.range n.toNat).map fun i => .d (.int (i : Nat))) Any m1) : EvI K (iRng1 ta) ρ m P := fun σ F H R E S q =>
  h σ F H _ E S fun ss m1 vs F1 H1 ⟨n, e, h1, h2, p⟩ s1 S1 o1 => by
    subst e
    obtain ⟨x, e, o⟩ := sls1 o1
    cases (show x = .int n from o)
    refine ⟨n, e, by omega, by omega, q _ _ m1 F1 H1 _ p s1 S1 ?_⟩
    have hl : ((List.range n.toNat).map fun i => Sl.d (.int (i : Nat))).length = n.toNat := by simp
    rw [hl]
    refine (walk_range (lo := 0) (n := n.toNat)).mono (fun _ _ => trivial) fun j H2 x H3 hj _ ⟨e3, hx⟩ m2 F2 _ st S2 => ?_
    subst e3
    have hx' : x = V.int (0 + (j : Nat)) := hx
    refine ⟨F2, Step.refl, S2, .d (.int (j : Nat)), ?_, ?_⟩
    · rw [List.getElem?_map, List.getElem?_range hj]; rfl
    · show x = V.int (j : Nat)
      rw [hx', Int.zero_add]
theorem ei_rng2 {ta : TA} (h : EvA K ta ρ m fun ss m1 => ∃ lo n : Int, ss = [.d (.int lo), .d (.int n)] ∧ n ≤ 1000000 ∧ -1000000 ≤ n ∧ lo ≤ 1000000 ∧ -1000000 ≤ lo ∧ P ((List.range (n - lo).toNat).map fun i => .d (.int (lo + (i : Nat)))) Any m1) : EvI K (iRng2 ta) ρ m P := fun σ F H R E S q =>
  h σ F H _ E S fun ss m1 vs F1 H1 ⟨lo, n, e, h1, h2, h3, h4, p⟩ s1 S1 o1 => by
    subst e
    obtain ⟨x, y, e, o, o'⟩ := sls2 o1
    cases (show x = .int lo from o)
    cases (show y = .int n from o')
    refine ⟨lo, n, e, ⟨by omega, by omega, by omega, by omega⟩, q _ _ m1 F1 H1 _ p s1 S1 ?_⟩
    have hl : ((List.range (n - lo).toNat).map fun i => Sl.d (.int (lo + (i : Nat)))).length = (n - lo).toNat := by simp
    rw [hl]
    refine (walk_range (lo := lo) (n := (n - lo).toNat)).mono (fun _ _ => trivial) fun j H2 x H3 hj _ ⟨e3, hx⟩ m2 F2 _ st S2 => ?_
    subst e3
    refine ⟨F2, Step.refl, S2, .d (.int (lo + (j : Nat))), ?_, hx⟩
    rw [List.getElem?_map, List.getElem?_range hj]; rfl
/-! ### enumerate of a tuple -/
def IteT (K : PySem.W.Frag) (a : Addr) : It :=
  ⟨fun i H => ∃ (xs : List V) (x : V), SqT K H a xs ∧ xs[i]? = some x, fun i H v H' => ∃ T x, v = .ref T ∧ H T = none ∧ H' = upd H T (.tup [.int (i : Nat), x]) ∧ ∀ xs, SqT K H a xs → xs[i]? = some x, fun i H => ∃ xs : List V, SqT K H a xs ∧ xs.length ≤ i⟩
theorem cls_ne {h : Heap} {a b : Addr} {o u : Obj} {S T : String} (ha : h.get? a = some o) (hb : h.get? b = some u) (ca : o.cls = .type S) (cb : u.cls = .type T) (ne : S ≠ T) : a ≠ b := fun e => by
  subst e
  rw [ha] at hb
  cases hb
  rw [ca] at cb
  injection cb with e
  exact ne e
theorem turn_enumT {Pg : Program} {w : World} {K : PySem.W.Frag} {elts : List Expr} {kk : Nat} {tpos : Pos} (a e it : Addr) :
    Turn Pg w K (.Tuple elts kk tpos) (IteT K a) [e, it] e (fun i h => (∃ old, IsEnum h e it ((i : Nat) : Int) old) ∧ h.IsTupleIter it a i ∧ e ≠ it) where
  mem := by simp
  obj := by
    rintro i h ⟨⟨old, he⟩, ⟨o, ho, hc, hd⟩, _⟩ b hb
    rcases (by simpa using hb : b = e ∨ b = it) with z | z
    · rw [z]; exact ⟨_, he, fun v q => nomatch q⟩
    · exact ⟨o, z ▸ ho, fun v q => by rw [hd] at q; cases q⟩
  keep := by
    rintro i h h' ⟨⟨old, he⟩, hi, hne⟩ k
    exact ⟨⟨old, k e (by simp) _ he⟩, hi.at fun o q => k it (by simp) o q, hne⟩
  item := by
    rintro X rfl rfl rfl hc i pins s σ H E I hf ⟨⟨old, he⟩, hit, hne⟩ ⟨xs, x, hq, hx⟩
    obtain ⟨its, rv, p, hz⟩ := I.tuple hq
    obtain ⟨u, hu, ru⟩ := rv.get hx
    have hel : e < s.heap.objs.size := Heap.lt_size he
    obtain ⟨oi, hoi, hci, hdi⟩ := id hit
    obtain ⟨oa, hoa, hca, na, hda⟩ := id p
    have hil : it < s.heap.objs.size := Heap.lt_size hoi
    have nai : a ≠ it := cls_ne hoa hoi hca hci (by decide)
    have nae : e ≠ a := cls_ne he hoa rfl hca (by decide)
    have hlt : i < its.toArray.size := by
      have := (List.getElem?_eq_some_iff.mp hu).1
      simpa using this
    refine wpAny_pyNext_enum_itemD (Draws.tuple (A := X.A.in1) (I.ok.hd hc) it a nai its.toArray) he ⟨hit, p⟩ hlt hne (by simp [hne, nae]) fun y h' tk hP ho st' hT hsz hk => ?_
    have ey : y = u := by
      have : its.toArray[i]? = some u := by simpa using hu
      rw [hP] at this
      exact Option.some.inj this
    subst ey
    refine ⟨_, rfl, wpAny_letOwnedTupleGo_enum (s := { s with heap := h', toks := tk + 1 }) ho fun h'' he' sb => ?_⟩
    have hT2 : h''.get? s.heap.objs.size = some { cls := .type "tuple", data := .seq #[.int i tk, y] } := (sb.2 _ (Nat.ne_of_gt hel)).trans hT
    have new : ObjOk X.prog X.w (upd H s.heap.objs.size (.tup [.int (i : Nat), x])) h'' s.heap.objs.size (.tup [.int (i : Nat), x]) :=
      ⟨by show 2 ≤ sizeLine; decide, [.int i tk, y], .cons ⟨_, rfl⟩ (.cons ru .nil), ⟨_, hT2, rfl, _, rfl⟩⟩
    have I1 : Inv X pins σ (upd H s.heap.objs.size (.tup [.int (i : Nat), x])) { s with heap := h'', toks := tk + 1 } :=
      I.turnedNew (ch := [e, it]) (fun b ob hb q => (sb.2 b (fun z => hb (by simp [z]))).trans (hk b ob (fun z => hb (by simp [z])) (fun z => hb (by simp [z])) q)) hf (Nat.le_refl _) new
    refine ⟨.ref s.heap.objs.size, _, I1, rfl, ⟨_, x, rfl, I.hok.fresh (Nat.le_refl _), rfl, fun ys hy => by rw [I.tuple_inj hy hq]; exact hx⟩, ⟨⟨y, ?_⟩, st'.1.at fun o q => (sb.2 it (Ne.symm hne)).trans q, hne⟩, fun b hb => ?_⟩
    · have e1 : ((i + 1 : Nat) : Int) = (i : Int) + 1 := by omega
      rw [e1]; exact he'
    · have hb' : b < s.heap.objs.size := by
        rcases (by simpa using hb : b = e ∨ b = it) with z | z
        · rw [z]; exact hel
        · rw [z]; exact hil
      rw [upd_ne (Nat.ne_of_lt hb')]
      exact (hf b hb).1
  done := by
    rintro X rfl rfl rfl hc i pins s σ H E I hf ⟨⟨old, he⟩, hit, hne⟩ ⟨xs, hq, hx⟩
    obtain ⟨its, rv, p, hz⟩ := I.tuple hq
    obtain ⟨oi, hoi, hci, hdi⟩ := id hit
    obtain ⟨oa, hoa, hca, na, hda⟩ := id p
    have nai : a ≠ it := cls_ne hoa hoi hca hci (by decide)
    obtain ⟨f0, f1, f2, f3, f4, f5⟩ := hf it (by simp)
    have hl := rv.length
    have D : Draws X.prog X.w X.A.in1 it [it, a] i (fun _ _ => True) (fun j h => j = i ∧ h.IsTupleIter it a i ∧ h.IsTuple a its.toArray) :=
      ⟨fun j h st => let ⟨o, q, _⟩ := st.2.1; ⟨o, q⟩, fun j h h' st k => ⟨st.1, st.2.1.at fun o q => k it (by simp) o q, st.2.2.at fun o q => k a (by simp) o q⟩, fun j s' Q' E' hj st hQ => absurd st.1 (Nat.ne_of_lt hj),
        fun s' Q' E' st hE => PySem.wpAny_nextOf_tuple_end (I.ok.hd hc) st.2.1 st.2.2 (by simp; omega) hE⟩
    exact wpAny_pyNext_enum_endD D he ⟨rfl, hit, p⟩ fun h' eb => ⟨rfl, I.turned (t' := s.toks) (fun b o hb q => eb b o hb q) f0 f1 f3 f4 f5⟩
  self := fun A i s Q E st h => let ⟨⟨_, he⟩, _⟩ := st; wpAny_pyIter_enum he h
theorem meets_enumT (l : Addr) (items : Array Value) : Meets (Builtin.«enumerate.__new__» ⟨[.type "enumerate", .ref l], []⟩) (fun _ R s => s.heap.IsTuple l items ∧
    R (.ok (.ret (.ref (s.heap.objs.size + 1)))) { s with heap := (s.heap.push { cls := .type "tuple_iterator", data := .fields #[.ref l, .int 0 0] }).push { cls := .type "enumerate", data := .fields #[.none, .bool false, .ref s.heap.objs.size, rawInt 0, .none, .none] } }) := by
  apply Meets.of_wp
  rintro prog w A R ⟨hp, g, d, tk, os⟩ ⟨hL, h⟩
  have hz : (hp.push { cls := .type "tuple_iterator", data := .fields #[.ref l, .int 0 0] }).objs.size = hp.objs.size + 1 := Heap.size_push ..
  have hL' : Heap.IsTuple (Shared.heap ⟨hp, g, d, tk, os⟩) l items := hL
  have hsub := sub_enumerate
  have h' : R (.ok (.ret (.ref (hp.push { cls := .type "tuple_iterator", data := .fields #[.ref l, .int 0 0] }).objs.size))) ⟨(hp.push { cls := .type "tuple_iterator", data := .fields #[.ref l, .int 0 0] }).push { cls := .type "enumerate", data := .fields #[.none, .bool false, .ref hp.objs.size, rawInt 0, .none, .none] }, g, d, tk, os⟩ := by rw [hz]; exact h
  wp_walk
  apply wpAny_stack_any
  intro st
  apply wpAny_pure
  split
  · rename_i c _ _ _ _ _
    cases (c == Value.type "enumerate") <;> (wp_walk using wpAny_pyIter_tuple hL'; exact ⟨_, rfl, h'⟩)
  · wp_walk using wpAny_pyIter_tuple hL'
    exact ⟨_, rfl, h'⟩
theorem call_enumT {prog : Program} {w : World} {A : Around} {E : Value → Shared → Prop} {s : Shared} {l : Addr} {items : Array Value} {Q : Value → Shared → Prop} (hL : s.heap.IsTuple l items)
    (h : ∀ h', IsEnum h' (s.heap.objs.size + 1) s.heap.objs.size 0 .none → h'.IsTupleIter s.heap.objs.size l 0 → (∀ b o, s.heap.get? b = some o → h'.get? b = some o) → Q (.ref (s.heap.objs.size + 1)) { s with heap := h' }) :
    wpAny (model prog w) A (call (.type "enumerate") [.ref l]) Q E s := by
  have hz : (s.heap.push { cls := .type "tuple_iterator", data := .fields #[.ref l, .int 0 0] }).objs.size = s.heap.objs.size + 1 := Heap.size_push ..
  have he : IsEnum ((s.heap.push { cls := .type "tuple_iterator", data := .fields #[.ref l, .int 0 0] }).push { cls := .type "enumerate", data := .fields #[.none, .bool false, .ref s.heap.objs.size, rawInt 0, .none, .none] }) (s.heap.objs.size + 1) s.heap.objs.size 0 .none := by
    have e := Heap.get?_push_size (s.heap.push { cls := .type "tuple_iterator", data := .fields #[.ref l, .int 0 0] }) (o := { cls := .type "enumerate", data := .fields #[.none, .bool false, .ref s.heap.objs.size, rawInt 0, .none, .none] }) rfl
    rwa [hz] at e
  apply callType_new F.called_enumerate (by decide) (F.typeCall_enumerate_1 _) (F.newCall_enumerate_1 _) (fun obj => F.args_object_init_2 obj _) F.entry_enumerate_new (meets_enumT l items)
  refine ⟨hL, ⟨_, he, rfl⟩, ?_⟩
  exact h _ he ⟨_, Heap.get?_push_of_some _ (Heap.get?_push_size _ rfl), rfl, rfl⟩ fun b o x => Heap.get?_push_of_some _ (Heap.get?_push_of_some _ x)
def iEnumT (K : PySem.W.Frag) (ta : TA) : TI := fun σ H R => ta σ H fun vs H1 => ∃ a xs, vs = [.ref a] ∧ SqT K H1 a xs ∧ R (IteT K a) H1
theorem pi_enumT {X : Cx} {e : Expr} {ta : TA} {p pos tpos : Pos} {elts : List Expr} {kk : Nat} (hg : Gl X "enumerate") (hm : X.mg "enumerate" = none) (ha : PA X [e] ta) (hs : starEach [e] X.env = [(false, eval e X.env)] := by rfl) :
    PI X (.Tuple elts kk tpos) (.Call (.Name "enumerate" p) [e] [] pos) (iEnumT X.K ta) := by
  constructor
  intro pins s σ H R I h
  refine PyProof.Rows.Call_ (ld_blt I hg hm PyProof.Rows.boot_enumerate (PyProof.Rows.callWith_type1 (thn (ha.run pos pins s σ H _ I h) ?_) hs rfl))
  rintro us s1 ⟨vs, H1, I1, r1, a, xs, rfl, hq, q⟩
  obtain ⟨u, rfl, r⟩ := vals1 r1
  cases r
  obtain ⟨its, rv, p', hz⟩ := I1.tuple hq
  refine call_enumT p' fun h' he hit hk => wpAny_pyIter_enum he ?_
  have I2 : Inv X pins σ H1 { s1 with heap := h' } := I1.kept (t' := s1.toks) hk
  refine ⟨s1.heap.objs.size + 1, [s1.heap.objs.size + 1, s1.heap.objs.size], _, _, H1, rfl, I2, turn_enumT a (s1.heap.objs.size + 1) s1.heap.objs.size, ⟨⟨.none, he⟩, hit, Nat.succ_ne_self _⟩, fun b hb => ?_, q⟩
  have hle : s1.heap.objs.size ≤ b := by
    rcases (by simpa using hb : b = s1.heap.objs.size + 1 ∨ b = s1.heap.objs.size) with z | z
    · rw [z]; exact Nat.le_succ _
    · rw [z]; exact Nat.le_refl _
  exact I1.fpOk hle (I1.hok.fresh hle)
def iEnumU (K : PySem.W.Frag) (ta : TA) : TI := fun σ H R => iEnum K ta σ H R ∨ iEnumT K ta σ H R
theorem pi_enumU {X : Cx} {e : Expr} {ta : TA} {p pos tpos : Pos} {elts : List Expr} {kk : Nat} (hg : Gl X "enumerate") (hm : X.mg "enumerate" = none) (ha : PA X [e] ta) (hs : starEach [e] X.env = [(false, eval e X.env)] := by rfl) :
    PI X (.Tuple elts kk tpos) (.Call (.Name "enumerate" p) [e] [] pos) (iEnumU X.K ta) := pi_or (pi_enum hg hm ha hs) (pi_enumT hg hm ha hs)
def enumS (ds : List PyData) : List Sl := ds.zipIdx.map fun p => .p (.int (p.2 : Nat)) p.1
theorem enumS_len (ds : List PyData) : (enumS ds).length = ds.length := by simp [enumS]
theorem enumS_get {ds : List PyData} {i : Nat} {d : PyData} (h : ds[i]? = some d) : (enumS ds)[i]? = some (.p (.int (i : Nat)) d) := by
  unfold enumS
  rw [List.getElem?_map, List.getElem?_zipIdx, h]
  simp
theorem enumS_of {ds : List PyData} {i : Nat} {x : Sl} (h : (enumS ds)[i]? = some x) : ∃ d, ds[i]? = some d ∧ x = .p (.int (i : Nat)) d := by
  have hl : i < ds.length := by
    have := (List.getElem?_eq_some_iff.mp h).1
    rwa [enumS_len] at this
  have := enumS_get (List.getElem?_eq_getElem hl)
  rw [this] at h
  exact ⟨_, List.getElem?_eq_getElem hl, (Option.some.inj h).symm⟩
theorem pair_new {m : Sto} {F : Reg} {H : Hp} {T : Addr} {x y : V} {dx dy : PyData} (S : StoOk K m F H) (hT : H T = none) (i1 : Im K F H dx x) (i2 : Im K F H dy y) :
    Step m F H m (add F T) (upd H T (.tup [x, y])) ∧ StoOk K m (add F T) (upd H T (.tup [x, y])) ∧ SlOk K (add F T) (upd H T (.tup [x, y])) (.p dx dy) (.ref T) :=
  ⟨step_new S hT, sto_new S hT, T, x, y, rfl, .inl rfl, upd_same, im_fix (step_new S hT).fix _ _ i1, im_fix (step_new S hT).fix _ _ i2⟩
theorem ei_enumT {ta : TA} (h : EvA K ta ρ m fun ss m1 => ∃ ds, ss = [.d (.tuple ds)] ∧ P (enumS ds) Any m1) : EvI K (iEnumU K ta) ρ m P := fun σ F H R E S q => .inr (h σ F H _ E S fun ss m1 us F1 H1 ⟨ds, e, p⟩ s1 S1 o1 => by
  subst e
  obtain ⟨x, e, o⟩ := sls1 o1
  obtain ⟨a, vs, e2, n, i⟩ := o
  subst e2
  refine ⟨a, vs, e, tup_at Step.refl (m := m1) (m' := m1) n, q _ _ m1 F1 H1 _ p s1 S1 ⟨fun j H2 hj ⟨m2, F2, _, st, _⟩ => ?_, fun H2 ⟨m2, F2, _, st, _⟩ => ?_, fun j H2 x H3 hj _ ⟨T, y, e3, hT, eH, hx⟩ m2 F2 _ st S2 => ?_⟩⟩
  · have hj' : j < vs.length := by rw [enumS_len, imAll_len i] at hj; exact hj
    exact ⟨vs, vs[j], tup_at st n, List.getElem?_eq_getElem hj'⟩
  · exact ⟨vs, tup_at st n, by rw [enumS_len, imAll_len i]; exact Nat.le_refl _⟩
  · subst e3 eH
    have hd : ∃ d, ds[j]? = some d := ⟨_, List.getElem?_eq_getElem (by rwa [enumS_len] at hj)⟩
    obtain ⟨d, hd⟩ := hd
    obtain ⟨v2, hv, iv⟩ := imAll_get (imAll_fix st.fix ds vs i) hd
    rw [hx vs (tup_at st n)] at hv
    cases hv
    obtain ⟨a1, a2, a3⟩ := pair_new (dx := .int (j : Nat)) S2 hT rfl iv
    exact ⟨_, a1, a2, _, enumS_get hd, a3⟩)
theorem ei_enumL {ta : TA} (h : EvA K ta ρ m fun ss m1 => ∃ ds, ss = [.d (.list ds)] ∧ P (enumS ds) Any m1) : EvI K (iEnumU K ta) ρ m P := fun σ F H R E S q => .inl (h σ F H _ E S fun ss m1 us F1 H1 ⟨ds, e, p⟩ s1 S1 o1 => by
  subst e
  obtain ⟨x, e, o⟩ := sls1 o1
  obtain ⟨a, vs, e2, n, ha, i⟩ := o
  subst e2
  refine ⟨a, vs, e, SqL.of ha, q _ _ m1 F1 H1 _ p s1 S1 ⟨fun j H2 hj ⟨m2, F2, _, st, _⟩ => ?_, fun H2 ⟨m2, F2, _, st, _⟩ => ?_, fun j H2 x H3 hj _ ⟨T, y, e3, hT, eH, hx⟩ m2 F2 _ st S2 => ?_⟩⟩
  · have hj' : j < vs.length := by rw [enumS_len, imAll_len i] at hj; exact hj
    exact ⟨vs, vs[j], SqL.of (st.fix a _ ha n).1, List.getElem?_eq_getElem hj'⟩
  · exact ⟨vs, SqL.of (st.fix a _ ha n).1, by rw [enumS_len, imAll_len i]; exact Nat.le_refl _⟩
  · subst e3 eH
    have hd : ∃ d, ds[j]? = some d := ⟨_, List.getElem?_eq_getElem (by rwa [enumS_len] at hj)⟩
    obtain ⟨d, hd⟩ := hd
    obtain ⟨v2, hv, iv⟩ := imAll_get (imAll_fix st.fix ds vs i) hd
    rw [hx vs (SqL.of (st.fix a _ ha n).1)] at hv
    cases hv
    obtain ⟨a1, a2, a3⟩ := pair_new (dx := .int (j : Nat)) S2 hT rfl iv
    exact ⟨_, a1, a2, _, enumS_get hd, a3⟩)
/-! ### methods -/
section
variable {Pv : PV}
theorem ty_listM {l : Addr} {ds : List PyData} (hm : m l = some (.lst ds)) : TyS K "list" (.m l) m := fun x F H a S => by
  obtain ⟨vs, hl, i⟩ := mu_lst S hm
  cases (show x = .ref l from a)
  exact .inl ⟨rfl, vs, SqL.of hl⟩
theorem ty_list {ds : List PyData} : TyS K "list" (.d (.list ds)) m := fun x F H a S => by
  obtain ⟨l, vs, e, hl, i⟩ := im_lst a
  subst e
  exact .inl ⟨rfl, vs, SqL.of hl⟩
theorem ty_str {z : Str} : TyS K "str" (.d (.str z)) m := fun x F H a S => by cases (show x = .str z from a); rfl
/-- a list of the store becomes another -/
theorem then_mut {F : Reg} {H : Hp} {Q : VK} {l : Addr} {w : Mu} {ds : List PyData} {us : List V} {s : Sl} {v : V} (S : StoOk K m F H) (hm : m l = some w) (q : Then K m F H Pv Q) (p : Pv s (put m l (.lst ds))) (i : ImAll K F H ds us) (o : SlOk K F H s v) : Q v (upd H l (.lst us)) := by
  have st : Step m F H (put m l (.lst ds)) F (upd H l (.lst us)) := step_mut S hm
  exact q _ _ _ _ _ p st (sto_put S (S.mu l w hm).2 ⟨us, upd_same, imAll_fix st.fix ds us i⟩) (slOk_step st o)
theorem rm_append {l : Addr} {ds : List PyData} {d : PyData} (hm : m l = some (.lst ds)) (h : ds.length < 100000) (p : Pv (.d .none) (put m l (.lst (ds ++ [d])))) : RM K rAppend (.m l) [.d d] m Pv := fun x xs F H Q a b S q => by
  obtain ⟨y, e, o⟩ := sls1 b
  obtain ⟨vs, hl, i⟩ := mu_lst S hm
  cases (show x = .ref l from a)
  exact ⟨l, vs, y, rfl, e, hl, by rw [← imAll_len i, sizeLine_eq]; omega, then_mut S hm q p (imAll_app i (imAll_one o)) rfl⟩
theorem rm_popAt {l : Addr} {ds : List PyData} {j : Int} {k : Nat} {d : PyData} (hm : m l = some (.lst ds)) (h : ds.length < 100000) (hj : 0 ≤ j) (hk : j = (k : Int)) (hd : ds[k]? = some d) (p : Pv (.d d) (put m l (.lst (ds.eraseIdx k)))) : RM K rPopAt (.m l) [.d (.int j)] m Pv := fun x xs F H Q a b S q => by
  obtain ⟨y, e, o⟩ := sls1 b
  cases (show y = .int j from o)
  obtain ⟨vs, hl, i⟩ := mu_lst S hm
  cases (show x = .ref l from a)
  obtain ⟨v, hv, iv⟩ := imAll_get i hd
  have hlt := (List.getElem?_eq_some_iff.mp hv).1
  have hlen := imAll_len i
  refine ⟨l, vs, j, k, v, rfl, e, hl, by omega, by omega, (ixN_seq (show ixN vs.length j = some k from ?_)).1, hv, then_mut S hm q p (imAll_erase i k) iv⟩
  unfold ixN
  rw [if_pos hj, if_pos (by omega), hk]
  simp
theorem rm_pop {l : Addr} {ds : List PyData} {d : PyData} (hm : m l = some (.lst ds)) (hd : ds[ds.length - 1]? = some d) (p : Pv (.d d) (put m l (.lst ds.dropLast))) : RM K rPop (.m l) [] m Pv := fun x xs F H Q a b S q => by
  have e := sls0 b
  obtain ⟨vs, hl, i⟩ := mu_lst S hm
  cases (show x = .ref l from a)
  obtain ⟨v, hv, iv⟩ := imAll_get i hd
  rw [imAll_len i] at hv
  refine ⟨l, vs, v, rfl, e, hl, hv, then_mut S hm q p ?_ iv⟩
  rw [List.dropLast_eq_take, List.dropLast_eq_take, imAll_len i]
  exact imAll_iff.mpr (paired_take _ (imAll_iff.mp i))
/-- xs[j] = e -/
theorem gt_sub {l : Addr} {ds : List PyData} {j : Int} {k : Nat} {d : PyData} {to ti : TE} {Pr : Rho → Sto → Prop} (ho : Ev K to ρ m fun s m1 => s = .m l ∧ Ev K ti ρ m1 fun s' m2 => s' = .d (.int j) ∧ m2 l = some (.lst ds) ∧ ixN ds.length j = some k ∧ Pr ρ (put m2 l (.lst (ds.set k d)))) :
    Gt K (gSub to ti rSetL) [] (.d d) ρ m Pr := fun σ F H v Q E S o q =>
  ho σ F H _ E S fun s m1 x F1 H1 ⟨e, h⟩ s1 S1 o1 => h σ F1 H1 _ (envOk_step s1 E) S1 fun s' m2 y F2 H2 ⟨e2, hm, hk, p⟩ s2 S2 o2 => by
    subst e e2
    cases (show y = .int j from o2)
    obtain ⟨vs, hl, i⟩ := mu_lst S2 hm
    cases (show x = .ref l from o1)
    have st : Step m2 F2 H2 (put m2 l (.lst (ds.set k d))) F2 (upd H2 l (.lst (vs.set k v))) := step_mut S2 hm
    have iv : Im K F2 H2 d v := im_fix (s1.trans s2).fix _ _ o
    refine ⟨l, vs, j, k, rfl, rfl, hl, by rw [← imAll_len i]; exact hk, ?_⟩
    refine q _ _ _ F2 _ p ((s1.trans s2).trans st) (sto_put S2 (S2.mu l _ hm).2 ⟨_, upd_same, imAll_fix st.fix _ _ (imAll_set i k iv)⟩) (envOk_step ((s1.trans s2).trans st) E) fun _ _ => rfl
abbrev rInsert : V → List V → Hp → VK → Prop := fun x vs H Q => ∃ (l : Addr) (xs : List V) (i : Int) (y : V), x = .ref l ∧ vs = [.int i, y] ∧ H l = some (.lst xs) ∧ xs.length < sizeLine ∧ 0 ≤ i ∧ i < 2 ^ 63 ∧ Q .non (upd H l (.lst (xs.take i.toNat ++ [y] ++ xs.drop i.toNat)))
end
end
end Dv

namespace Dv
open PySem L2 PyProof.Rows
/-! ### defs where no guard stands on the stack (repr asks for that) -/
/-- the def at f keeps sp, called where no guard stands -/
structure DF (Pg : Program) (w : World) (K : PySem.W.Frag) (mg : Str → Option Value) (base : Heap) (CX : CXT) (k : Nat) (f : Addr) (fd : FuncData) (ps : List Str) (sp : Sp) : Prop where
  len : ∀ vs H Q E, sp vs H Q E → vs.length = ps.length
  run : ∀ (A : Around) (outer : List Env) (s : Shared) (H : Hp) (args : Args) (us : List Value) (vs : List V) (Q : VK) (E : XK), A.guards = some [] → Room k A → Env0 Pg w K mg base A outer s H →
    BindsTo s fd args (ps.zip us) → Vals vs us → sp vs H Q E → codeAny (model Pg w) A (.call (.ref f) args) (CR CX outer Pg w H s Q E) s
theorem DF.mono {Pg : Program} {w : World} {K : PySem.W.Frag} {mg : Str → Option Value} {base : Heap} {CX : CXT} {j k : Nat} {f : Addr} {fd : FuncData} {ps : List Str} {sp : Sp} (F : DF Pg w K mg base CX j f fd ps sp) (h : j ≤ k) : DF Pg w K mg base CX k f fd ps sp :=
  ⟨F.len, fun A outer s H args us vs Q E g hr => F.run A outer s H args us vs Q E g (hr.mono h)⟩
section
variable {Pg : Program} {w : World} {K : PySem.W.Frag} {mg : Str → Option Value} {base : Heap} {CX : CXT}
theorem df_of {k : Nat} {f : Addr} {name qual : Str} {params : Arguments} {bd : List Stmt} {scope : Scope} {dV kV doc pm cdv ct oc : Value} {an od : Option Addr} {osl : Array (Option Value)} {N ps : List Str} {sp : Sp}
    (lk : K.lookup f = some ⟨oc, od, .func (PySem.W.fnOf name qual params bd scope dV kV doc pm an cdv ct), osl⟩) (hcd : PySem.W.codeIn K cdv qual = true) (S : FnScope N ps scope) (len : ∀ vs H Q E, sp vs H Q E → vs.length = ps.length)
    (hb : ∀ (A : Around) (outer : List Env) (s : Shared) (H : Hp) (vs : List V) (Q : VK) (E : XK), A.guards = some [] → Room k (A.deeper (envOfC qual scope s.heap.objs.size f cdv)) → sp vs H Q E →
      ∃ t, PSs (cxOf CX Pg w K mg base N qual scope f cdv A outer s H E) bd t ∧ t { nx := fun _ H' => Q .non H', rt := Q } (L2.start N vs) H) :
    DF Pg w K mg base CX (k + 1) f (PySem.W.fnOf name qual params bd scope dV kV doc pm an cdv ct) ps sp := by
  constructor
  · exact len
  intro A outer s H args us vs Q E hg hr e0 hbi r hsp
  obtain ⟨t, ht, hq⟩ := hb A outer s H vs Q E hg (hr.deeper _) hsp
  have old : ∀ b o, base.get? b = some o → s.heap.get? b = some o := fun b o e => (e0.bs b o e).1
  have KX := e0.mod.kin.keeps old
  have kinds : ∀ y ∈ ps.zip us, scope.names.lookup y.1 = some .local ∨ (scope.names.lookup y.1 = some .cell ∧ ((cellsFrom (s.heap.objs.size + 1) scope.names []).lookup y.1).isSome = true) := by
    rintro ⟨n, v⟩ hy
    exact (S.par n (List.of_mem_zip hy).1).imp id fun q => ⟨q, PySem.W.cellsFrom_some _ _ _ (.inl q)⟩
  refine codeAny_call_function hr.depth (KX _ _ lk) rfl S.co S.gen rfl (PySem.W.codeRec_of KX hcd) (hbi _ _ _ _ (wpAny_newFunctionEnv_cells S.kind kinds ?_))
  rintro env rfl s1 x
  refine ⟨(e0.mod.nolimit.keeps old).keeps x.toInCall.keep, codeAny_func ?_⟩
  have J := inv_start (CX := CX) (E := E) S hr.hd e0 (len _ _ _ _ hsp) r x
  apply wpAny_mono (ht.run [] s1 (L2.start N vs) H _ J hq) _ (fun _ _ z => z)
  intro fl s' hs
  match fl, hs with
  | .ret u, ⟨v, σ', H', I, rv, q⟩ => exact ⟨v, H', I.os, I.bare, I.base, I.hok, rv, q⟩
  | .next, ⟨σ', H', I, q⟩ => exact ⟨V.non, H', I.os, I.bare, I.base, I.hok, rfl, q⟩
  | .brk, ⟨_, _, _, q⟩ => exact q.elim
  | .cont, ⟨_, _, _, q⟩ => exact q.elim
/-- a def of the text, its body's term of rules and the reading over data -/
theorem df_data {x qual : Str} {st : Stmt} {f : Addr} {fd : FuncData} {N ps : List Str} {k : Nat} {W : WT} {t : TS} (F : Fun K x qual st f fd) (S : FnScope N ps (defScope st)) (len : ∀ ss m P, W ss m P → ss.length = ps.length)
    (der : ∀ (cdv : Value) (A : Around) (outer : List Env) (s : Shared) (H : Hp) (E : XK), (A.deeper (envOfC qual (defScope st) s.heap.objs.size f cdv)).guards = some [] → Room k (A.deeper (envOfC qual (defScope st) s.heap.objs.size f cdv)) →
      PSs (cxOf CX0 Pg w K mg base N qual (defScope st) f cdv A outer s H E).nox (defBody st) t)
    (rd : ∀ ss m P, W ss m P → Wp K t (rho N ss) m { nx := fun _ m' => P (.d .none) m', rt := P }) : DF Pg w K mg base CX0 (k + 1) f fd ps (SpD K W) := by
  obtain ⟨oc, od, kV, doc, pm, an, cdv, ct, osl, rfl, lk, hcd⟩ := F.ex
  exact df_of lk hcd S (fun vs H Q E h => spD_len len h) fun A outer s H vs Q E hg hr h => ⟨t, (der cdv A outer s H E hg hr).nox, body rd h⟩
section
variable {X : Cx} {k : Nat} {f : Addr} {fd : FuncData} {ps : List Str} {sp : Sp} {dvs : List V} {ds : List Value} {E : XK} {x : Str} {p pos : Pos} {e : Expr} {es : List Expr} {t : TA}
theorem run_df {pins : List (Addr × Obj)} {σ : L2.St} {H : Hp} {s : Shared} {Q : VK} {us : List Value} {vs : List V} (F : DF X.prog X.w X.K X.mg X.base CX k f fd ps sp) (hg : X.A.guards = some []) (hr : Room k X.A) (hb : Binds X.K fd ps ds) (hd : Vals dvs ds) (hx : Passes CX X E)
    (I : Inv X pins σ H s) (r : Vals vs us) (h : sp (vs ++ dvs) H Q E) : wpAny (model X.prog X.w) X.A (call (.ref f) us) (EP X pins σ Q) X.xe s := by
  have r2 := r.append hd
  have hl := (r2.length.symm.trans (F.len _ _ _ _ h))
  apply wpAny_call
  apply codeAny_mono (F.run X.A X.stack s H ⟨us, []⟩ _ _ Q E hg hr I.env0 (hb s us I.kIn hl) r2 h)
  intro r s' hq
  match r, hq with
  | .error e, hq => exact hx pins σ H s e s' I hq
  | .ok (.ret u), hq => exact I.after hq
  | .ok .next, hq => exact False.elim hq
  | .ok .brk, hq => exact False.elim hq
  | .ok .cont, hq => exact False.elim hq
theorem pe_dcall (F : DF X.prog X.w X.K X.mg X.base CX k f fd ps sp) (hgd : X.A.guards = some []) (hr : Room k X.A) (hg : Gl X x) (hm : X.mg x = some (.ref f)) (hk : PySem.W.keepIn X.K (.ref f) = true) (hb : Binds X.K fd ps ds) (hd : Vals dvs ds) (hx : Passes CX X E)
    (ha : PA X (e :: es) t) (hdb : (x == ("__debug__" : Str)) = false := by decide) (he : starEach (e :: es) X.env = (false, eval e X.env) :: starEach es X.env := by rfl) (hpl : (backTo pos (starEach es X.env)).any (·.1) = false := by rfl) :
    PE X (.Call (.Name x p) (e :: es) [] pos) (tCall sp dvs E t) := by
  constructor
  intro pins s σ H Q I h
  refine wpAny_Call_Name_kw (ld_glob I hg hm ?_ hdb)
  refine PySem.W.callWith_K (h₀ := X.base) I.ok.mod.kin hk (thn (ha.run pos pins s σ H _ I h) ?_) he hpl
  rintro us s1 ⟨vs, H1, I1, r, q⟩
  exact ⟨I1.kIn, run_df F hgd hr hb hd hx I1 r q⟩
theorem pe_dcall0 (F : DF X.prog X.w X.K X.mg X.base CX k f fd ps sp) (hgd : X.A.guards = some []) (hr : Room k X.A) (hg : Gl X x) (hm : X.mg x = some (.ref f)) (hk : PySem.W.keepIn X.K (.ref f) = true) (hb : Binds X.K fd ps ds) (hd : Vals dvs ds) (hx : Passes CX X E)
    (hdb : (x == ("__debug__" : Str)) = false := by decide) : PE X (.Call (.Name x p) [] [] pos) (tCall sp dvs E tNil) := by
  constructor
  intro pins s σ H Q I h
  exact wpAny_Call_Name_kw (ld_glob I hg hm (PySem.W.callWith_K0 I.kIn hk (run_df (us := []) F hgd hr hb hd hx I .nil h)) hdb)
end
/-! ### the law's own call -/
/-- what a law's def must do: from the script to True -/
def WLaw : WT := fun ss m P => ∃ ns : List Int, ss = [.f (ns.map .int)] ∧ ns.length ≤ 63 ∧ (∀ a, m a = none) ∧ ∀ m', P (.d (.bool true)) m'
theorem imAll_ints {F : Reg} {H : Hp} : ∀ {ns : List Int}, ImAll K F H (ns.map .int) (ns.map V.int)
  | [] => rfl
  | n :: ns => ⟨.int n, ns.map V.int, rfl, rfl, imAll_ints⟩
theorem law_dcall {mb : Str → Option Value} {k : Nat} {fa a : Addr} {fd : FuncData} {x : Str} {s₁ : Shared} {vs : List Value} {ns : List Int}
    (KX : K.In s₁.heap) (hns : s₁.heap.Ns mainGlobals mg) (hb : s₁.heap.Ns builtinsNs mb) (hbb : ∀ x : Str, x ≠ "__name__" → mb x = bootBuiltins x) (hlim : s₁.heap.NoLimit) (hg : s₁.gens = #[])
    (ha : s₁.heap.get? a = some { cls := .type "list", data := .seq vs.toArray }) (hi : IntsAre vs ns) (hl : ns.length ≤ 63) (hr : Room k callerA)
    (F : ∀ base : Heap, K.In base → base.Ns mainGlobals mg → DF Pg w K mg base CX0 k fa fd [x] (SpD K WLaw)) (hbind : ∀ (s : Shared) (u : Value), BindsTo s fd ⟨[u], []⟩ [(x, u)]) :
    codeAny (model Pg w) callerA (.call (.ref fa) ⟨[.ref a], []⟩) (fun r s' => r = .ok (.ret (.bool true)) ∧ OldK s₁.heap s'.heap ∧ s'.os = s₁.os ∧ AllBare s'.gens) s₁ := by
  have lenV := hi.length
  have hz : (ns.map V.int).length ≤ sizeLine := by rw [List.length_map, sizeLine_eq]; omega
  let ob : Obj := { cls := .type "list", data := .seq vs.toArray }
  -- the script is tracked where it is none of the module's own objects
  obtain ⟨H, hH, hS⟩ : ∃ H : Hp, (∀ b, H b = none ∨ (b = a ∧ K.lookup a = none ∧ H b = some (.frz ob (.lst (ns.map V.int))))) ∧ SlOk K (fun b => H b ≠ none) H (.f (ns.map .int)) (.ref a) := by
    cases hk : K.lookup a with
    | none =>
      refine ⟨fun b => if b = a then some (.frz ob (.lst (ns.map V.int))) else none, fun b => ?_, a, ns.map V.int, rfl, .inl ⟨?_, ob, if_pos rfl⟩, imAll_ints⟩
      · by_cases hba : b = a
        · exact .inr ⟨hba, rfl, if_pos hba⟩
        · exact .inl (if_neg hba)
      · show (if a = a then some (HO.frz ob (.lst (ns.map V.int))) else none) ≠ none
        rw [if_pos rfl]; simp
    | some o =>
      have e := KX a o hk
      rw [ha] at e
      cases e
      exact ⟨fun _ => none, fun b => .inl rfl, a, ns.map V.int, rfl, .inr ⟨_, vs.toArray, _, hk, rfl, rfl, rfl, by rw [List.size_toArray, lenV, sizeLine_eq]; omega, vals_ints hi⟩, imAll_ints⟩
  have hok : HOk Pg w H s₁.heap := fun b u e => by
    rcases hH b with z | ⟨rfl, _, z⟩
    · rw [z] at e; cases e
    · rw [z] at e; cases e
      exact ⟨ha, hz, vs, _, vals_ints hi, ha⟩
  have only : ∀ {b : Addr} {u : HO}, H b = some u → b = a ∧ K.lookup a = none := fun {b u} e => by
    rcases hH b with z | ⟨z, y, _⟩
    · rw [z] at e; cases e
    · exact ⟨z, y⟩
  have free : ∀ {b : Addr} {o : Obj} {es : Array DictEntry} {ep : Nat}, s₁.heap.get? b = some o → o.data = .dict es ep → H b = none := fun {b o es ep} e d => by
    cases q : H b with
    | none => rfl
    | some u =>
      rw [(only q).1, ha] at e
      cases e
      cases d
  have ns2 : ∀ {b : Addr} {mm : Str → Option Value}, s₁.heap.Ns b mm → (hidT s₁.heap H).Ns b mm := fun ⟨o, es, ep, e, d, r⟩ => ⟨o, es, ep, hidT_get e (free e d), d, r⟩
  have hKb : K.In (hidT s₁.heap H) := fun b o e => hidT_get (KX b o e) (by
    cases q : H b with
    | none => rfl
    | some u =>
      obtain ⟨e1, e2⟩ := only q
      rw [e1, e2] at e
      cases e)
  have hM : Mod K mg (hidT s₁.heap H) := ⟨hKb, ns2 hns, ⟨mb, ns2 hb, hbb⟩, let ⟨mc, h1, h2⟩ := hlim; ⟨mc, ns2 h1, h2⟩⟩
  have e0 : Env0 Pg w K mg (hidT s₁.heap H) callerA [] s₁ H := ⟨rfl, hM, fun b o e => of_hidT e, Nat.le_of_eq (hidT_size _ _), trivial, fun b hb => absurd (show b ∈ ([] : List Addr) from hb) (by simp), hok, .of_eq hg⟩
  have hsp : SpD K WLaw [.ref a] H (fun v _ => v = .bl true) (fun _ _ _ => False) :=
    ⟨[.f (ns.map .int)], fun _ => none, fun b => H b ≠ none, fun s _ => s = .d (.bool true), .cons hS .nil, ⟨fun _ _ e => (nomatch e), fun _ z => z⟩, ⟨ns, rfl, hl, fun _ => rfl, fun _ => rfl⟩, fun s m' v F' H' e _ _ o => by subst e; exact o⟩
  apply codeAny_mono ((F _ hKb (ns2 hns)).run callerA [] s₁ H ⟨[.ref a], []⟩ [.ref a] [.ref a] _ _ rfl hr e0 (hbind s₁ (.ref a)) (.cons rfl .nil) hsp)
  intro r s' h
  match r, h with
  | .error e, h => exact False.elim h
  | .ok .next, h => exact False.elim h
  | .ok .brk, h => exact False.elim h
  | .ok .cont, h => exact False.elim h
  | .ok (.ret u), ⟨v, H', os, bare, un, hok', rv, q⟩ =>
    cases (show v = .bl true from q)
    cases (show u = Value.bool true from rv)
    refine ⟨rfl, OldK.of_keep fun b o e => ?_, os, bare⟩
    rcases hH b with z | ⟨_, _, z⟩
    · exact un.keep b o e z (by intro y; exact absurd (show b ∈ ([] : List Addr) from y) (by simp)) (by simp)
    · obtain ⟨e1, _⟩ := hok b _ z
      obtain ⟨e2, _⟩ := hok' b _ (un.frzs b _ _ z)
      rw [e] at e1
      cases e1
      exact e2
/-- THE END of a law: from its def's promise -/
theorem dwalk {l : PySem.W.OpenLaw} {k : Nat} {q : Program} {loose : List Str} {XP : (Str → Option Value) → Heap → Prop} {YP : World → Heap → Prop} {d : DefRec} {K : Params → PySem.W.Frag}
    (hn : l.most = some 63) (hdf : d.params.defaults = []) (hr : Room k callerA) (hY : ∀ (w : World) (h : Heap), YP w h → (K w.params).In h)
    (F : ∀ (w : World) (mg : Str → Option Value) (fa : Addr) (h : Heap), (K w.params).In h → h.Ns mainGlobals mg → mg d.name = some (.ref fa) →
      ∃ fd : FuncData, (∀ (s : Shared) (u : Value), BindsTo s fd ⟨[u], []⟩ [("script", u)]) ∧ ∀ base : Heap, (K w.params).In base → base.Ns mainGlobals mg → DF l.prog w (K w.params) mg base CX0 k fa fd ["script"] (SpD (K w.params) WLaw)) :
    PySem.W.WalkO q loose XP YP l.row.toRowW d [] (fun f vs => PySem.call f vs) := by
  apply Att.attach_call hn hdf
  intro w s₀ s₁ mg mb fa o pm cd doc a vs ns G Y ho hd hcd hmg hobj hints hlen hg
  obtain ⟨fd, hb, hF⟩ := F w mg fa _ (hY w _ Y) G.T.g hmg
  exact law_dcall (hY w _ Y) G.T.g G.T.b G.T.builtins G.T.nolimit hg hobj hints hlen hr hF hb
end
end Dv

namespace Dv
open PySem L2
theorem pe_or {X : Cx} {e : Expr} {t t' : TE} (h : PE X e t) (h' : PE X e t') : PE X e (fun σ H Q => t σ H Q ∨ t' σ H Q) := ⟨fun pins s σ H Q I q => q.elim (h.run pins s σ H Q I) (h'.run pins s σ H Q I)⟩
section
variable {K : PySem.W.Frag} {ρ : Rho} {m : Sto} {to te : TE} {P : PV}
theorem ev_l {t t' : TE} (h : Ev K t ρ m P) : Ev K (fun σ H Q => t σ H Q ∨ t' σ H Q) ρ m P := fun σ F H Q E S q => .inl (h σ F H Q E S q)
theorem ev_r {t t' : TE} (h : Ev K t' ρ m P) : Ev K (fun σ H Q => t σ H Q ∨ t' σ H Q) ρ m P := fun σ F H Q E S q => .inr (h σ F H Q E S q)
/-! ### methods of texts -/
theorem ev_m0 {r : V → List V → Hp → VK → Prop} (h : Ev K to ρ m fun s m1 => ∃ z, s = .d (.str z) ∧ RM K r (.d (.str z)) [] m1 P) : Ev K (tM0 r to) ρ m P := fun σ F H Q E S q =>
  h σ F H _ E S fun s m1 x F1 H1 ⟨z, e, h1⟩ s1 S1 o1 => by
    subst e
    exact ⟨⟨z, o1⟩, h1 x [] F1 H1 Q o1 .nil S1 fun s' m' v F' H' p s2 S2 o2 => q s' m' v F' H' p (s1.trans s2) S2 o2⟩
theorem ev_m1 {r : V → List V → Hp → VK → Prop} (h : Ev K to ρ m fun s m1 => ∃ z, s = .d (.str z) ∧ Ev K te ρ m1 fun s2 m2 => RM K r (.d (.str z)) [s2] m2 P) : Ev K (tM1 r to te) ρ m P := fun σ F H Q E S q =>
  h σ F H _ E S fun s m1 x F1 H1 ⟨z, e, h1⟩ s1 S1 o1 => by
    subst e
    refine ⟨⟨z, o1⟩, h1 σ F1 H1 _ (envOk_step s1 E) S1 fun s2 m2 y F2 H2 h2 s2' S2 o2 => ?_⟩
    exact h2 x [y] F2 H2 Q (slOk_step s2' o1) (.cons o2 .nil) S2 fun s' m' v F' H' p s3 S3 o3 => q s' m' v F' H' p ((s1.trans s2').trans s3) S3 o3
abbrev rUpperM : V → List V → Hp → VK → Prop := fun x xs H Q => ∃ a, x = .str a ∧ xs = [] ∧ a.length ≤ 5592405 ∧ Q (.str (Txt.upper a)) H
abbrev rLowerM : V → List V → Hp → VK → Prop := fun x xs H Q => ∃ a, x = .str a ∧ xs = [] ∧ a.length ≤ 5592405 ∧ Q (.str (Txt.lower a)) H
theorem rm_upper {z : Str} (h : z.length ≤ 100000) (p : P (.d (.str (Txt.upper z))) m) : RM K rUpperM (.d (.str z)) [] m P := fun x xs F H Q a b S q => ⟨z, a, sls0 b, by omega, q _ m _ F H p Step.refl S rfl⟩
theorem rm_lower {z : Str} (h : z.length ≤ 100000) (p : P (.d (.str (Txt.lower z))) m) : RM K rLowerM (.d (.str z)) [] m P := fun x xs F H Q a b S q => ⟨z, a, sls0 b, by omega, q _ m _ F H p Step.refl S rfl⟩
abbrev rJoinM (K : PySem.W.Frag) : V → List V → Hp → VK → Prop := fun x xs H Q => ∃ a p, ∃ ys : List Str, x = .str a ∧ xs = [.ref p] ∧ (SqL K H p (ys.map V.str) ∨ SqT K H p (ys.map V.str)) ∧ (ys.map (·.length)).sum + ys.length * a.length ≤ 16777216 ∧ Q (.str (Txt.join a ys)) H
theorem rm_join {a : Str} {ys : List Str} {s : Sl} (hs : SeqS K s m (ys.map .str)) (h : (ys.map (·.length)).sum + ys.length * a.length ≤ 16777216) (p : P (.d (.str (Txt.join a ys))) m) : RM K (rJoinM K) (.d (.str a)) [s] m P := fun x xs F H Q o b S q => by
  obtain ⟨y, e, o2⟩ := sls1 b
  obtain ⟨l, vs, e2, hl, i⟩ := hs y F H o2 S
  have := imAll_strs.mp i
  subst this e2
  exact ⟨a, l, ys, o, e, hl, h, q _ m _ F H p Step.refl S rfl⟩
abbrev rSplitM : V → List V → Hp → VK → Prop := fun x xs H Q => ∃ a b, x = .str a ∧ xs = [.str b] ∧ (b.length == 0) = false ∧ a.length + 2 ≤ sizeLine ∧ rNewStrs (Txt.split a b) H Q
theorem rm_split {a b : Str} (h : (b.length == 0) = false) (h2 : a.length ≤ 100000) (p : P (.d (.list ((Txt.split a b).map .str))) m) : RM K rSplitM (.d (.str a)) [.d (.str b)] m P := fun x xs F H Q o c S q => by
  obtain ⟨y, e, o2⟩ := sls1 c
  cases (show y = .str b from o2)
  refine ⟨a, b, o, e, h, by rw [sizeLine_eq]; omega, fun l hl => ?_⟩
  exact then_new S p q hl ⟨l, _, rfl, .inl rfl, upd_same, imAll_strs.mpr rfl⟩
/-! ### sets of texts -/
variable {Pg : Program} {w : World}
theorem rc_set0 (p : ∀ a, m a = none → P (.m a) (put m a (setM Pg w a []))) : RC K (rSet0K Pg w) [] m P := fun xs F H Q a S q => by
  refine ⟨sls0 a, fun l hl => ?_⟩
  have e : setM Pg w l [] = .raw (SetK Pg w l (fun _ => false) 0) := by
    unfold setM
    congr 2
    funext k
    cases k <;> simp
  have pp := p l (sto_none S hl)
  rw [e] at pp
  exact q _ _ _ _ _ pp (step_newM S hl) (sto_put S (not_reg S hl) upd_same) rfl
theorem ev_sadd {t : TA} (h : Ev K to ρ m fun s m1 => ∃ a xs, s = .m a ∧ m1 a = some (setM Pg w a xs) ∧ EvA K t ρ m1 fun ss m2 => ∃ z, ss = [.d (.str z)] ∧ m2 a = some (setM Pg w a xs) ∧ xs.length < 1000 ∧ P (.d .none) (put m2 a (setM Pg w a (if z ∈ xs then xs else xs ++ [z])))) :
    Ev K (tSAddK Pg w to t) ρ m P := fun σ F H Q E S q =>
  h σ F H _ E S fun s m1 x F1 H1 ⟨a, xs, e, hm, h1⟩ s1 S1 o1 => by
    subst e
    have z1 : H1 a = some _ := (S1.mu a _ hm).1
    refine ⟨⟨a, _, _, o1, z1⟩, h1 σ F1 H1 _ (envOk_step s1 E) S1 fun ss m2 vs F2 H2 ⟨z, e2, hm2, hl, p⟩ s2 S2 o2 => ?_⟩
    subst e2
    obtain ⟨y, e3, o3⟩ := sls1 o2
    cases (show y = .str z from o3)
    have z2 : H2 a = some _ := (S2.mu a _ hm2).1
    refine ⟨a, .inr z, _, _, o1, e3, z2, by show xs.length + 1 < 4096; omega, ?_⟩
    have eS : (setM Pg w a (if z ∈ xs then xs else xs ++ [z])) = .raw (SetK Pg w a (fun j => (match j with | .inr z => decide (z ∈ xs) | .inl _ => false) || decide (j = (.inr z : Key))) (if (match (.inr z : Key) with | .inr z => decide (z ∈ xs) | .inl _ => false) = true then xs.length else xs.length + 1)) := by
      unfold setM
      congr 2
      · funext k
        cases k with
        | inl i => simp
        | inr y =>
          by_cases hz : z ∈ xs
          · rw [if_pos hz]
            by_cases hy : y = z
            · subst hy; simp [hz]
            · have : (Sum.inr y : Key) ≠ Sum.inr z := fun e => hy (Sum.inr.inj e)
              simp [this]
          · rw [if_neg hz]
            by_cases hy : y = z
            · subst hy; simp
            · have : (Sum.inr y : Key) ≠ Sum.inr z := fun e => hy (Sum.inr.inj e)
              simp [this, hy]
      · by_cases hz : z ∈ xs
        · simp [hz]
        · simp [hz]
    rw [eS] at p
    exact q _ _ _ _ _ p ((s1.trans s2).trans (step_mut S2 hm2)) (sto_put S2 (S2.mu a _ hm2).2 upd_same) rfl
/-! ### t.index(x), l.index(x) -/
def tyT (K : PySem.W.Frag) (x : V) (H : Hp) : Prop := ∃ p vs, x = .ref p ∧ (ZT H p vs ∨ WrT K p vs)
abbrev rTIx (K : PySem.W.Frag) : V → List V → Hp → VK → Prop := fun x xs H Q => ∃ p, ∃ ys : List Str, ∃ z j, x = .ref p ∧ xs = [.str z] ∧ SqT K H p (ys.map V.str) ∧ ys[j]? = some z ∧ (∀ m, m < j → ys[m]? ≠ some z) ∧ Q (.int (j : Nat)) H
def tTM (K : PySem.W.Frag) (r : V → List V → Hp → VK → Prop) (to te : TE) : TE := fun σ H Q => to σ H fun x H1 => tyT K x H1 ∧ te σ H1 fun y H2 => r x [y] H2 Q
theorem tyT_is {X : Cx} {pins : List (Addr × Obj)} {σ : L2.St} {H : Hp} {s : Shared} {x : V} {v : Value} (I : Inv X pins σ H s) (r : RelV x v) (ty : tyT X.K x H) : s.TypeIs v "tuple" ∧ ∀ a, v = .ref a → ∃ ob, s.heap.get? a = some ob ∧ ob.dict = none := by
  obtain ⟨p, vs, rfl, h⟩ := ty
  cases r
  rcases h with ⟨ob, ho, hd⟩ | ⟨o, its, n, hk, hc, hd, _⟩
  · obtain ⟨e, z, _, _, o2, e2, c2, _⟩ := I.hok p _ ho
    rw [e] at e2
    cases e2
    exact ⟨⟨ob, e, c2⟩, fun a q => by cases q; exact ⟨ob, e, hd⟩⟩
  · exact ⟨⟨o, I.kIn p o hk, hc⟩, fun a q => by cases q; exact ⟨o, I.kIn _ o hk, hd⟩⟩
theorem pe_tm1 {X : Cx} {o e : Expr} {to te : TE} {id : String} {name : Str} {apos pos : Pos} {r : V → List V → Hp → VK → Prop} (slot : Slot "tuple" name id) (ty : typeOf (.builtin id) = pure (.type "method_descriptor")) (rule : MtR X id r) (ho : PE X o to) (he : PE X e te)
    (hs : starEach [e] X.env = [(false, eval e X.env)] := by rfl) (hbase : attributeBase o name X.env (eval o X.env) = eval o X.env := by rfl) (hline : (apos.endLine == pos.line) = true := by rfl) :
    PE X (.Call (.Attribute o name apos) [e] [] pos) (tTM X.K r to te) := by
  constructor
  intro pins s σ H Q I h
  refine PySem.Call_method1 hbase hs hline (thn (ho.run pins s σ H _ I h) ?_)
  rintro v s1 ⟨x, H1, I1, r1, tt, q1⟩
  obtain ⟨a1, a2⟩ := tyT_is I1 r1 tt
  refine ⟨"tuple", _, PySem.F.plainAttrs_tuple, slot, ty, a1, a2, Calls.callWith_builtin rfl (Calls.evalArgs_plain (Calls.spliced_cons (thn (he.run pins s1 σ H1 _ I1 q1) ?_)))⟩
  rintro u s2 ⟨y, H2, I2, r2, q2⟩
  exact Calls.spliced_nil (rule pins s2 σ H2 _ [y] _ [u] Q I2 r1 (.cons r2 .nil) q2)
theorem ev_tm {r : V → List V → Hp → VK → Prop} (h : Ev K to ρ m fun s m1 => ∃ ds, s = .d (.tuple ds) ∧ Ev K te ρ m1 fun s2 m2 => RM K r (.d (.tuple ds)) [s2] m2 P) : Ev K (tTM K r to te) ρ m P := fun σ F H Q E S q =>
  h σ F H _ E S fun s m1 x F1 H1 ⟨ds, e, h1⟩ s1 S1 o1 => by
    subst e
    refine ⟨?_, h1 σ F1 H1 _ (envOk_step s1 E) S1 fun s2 m2 y F2 H2 h2 s2' S2 o2 => ?_⟩
    · obtain ⟨a, vs, e, n, i⟩ := o1
      exact ⟨a, vs, e, n.imp (·.2) id⟩
    exact h2 x [y] F2 H2 Q (slOk_step s2' o1) (.cons o2 .nil) S2 fun s' m' v F' H' p s3 S3 o3 => q s' m' v F' H' p ((s1.trans s2').trans s3) S3 o3
theorem rm_tindex {ys : List Str} {z : Str} {j : Nat} (h : ys[j]? = some z) (hn : ∀ i, i < j → ys[i]? ≠ some z) (p : P (.d (.int (j : Nat))) m) : RM K (rTIx K) (.d (.tuple (ys.map .str))) [.d (.str z)] m P := fun x xs F H Q a b S q => by
  obtain ⟨y, e, o⟩ := sls1 b
  cases (show y = .str z from o)
  obtain ⟨l, vs, e2, hl, i⟩ := im_tup a
  have := imAll_strs.mp i
  subst this
  exact ⟨l, ys, z, j, e2, e, hl, h, hn, q _ m _ F H p Step.refl S rfl⟩
theorem rm_lindex {ds : List PyData} {d z : PyData} {j : Nat} (h1 : SeqAt.shaped (.list ds) = true) (h2 : SeqAt.shaped d = true) (h : ds[j]? = some z) (hz : PyData.eqv z d = true) (hn : ∀ (i : Nat) (z' : PyData), i < j → ds[i]? = some z' → PyData.eqv z' d = false) (p : P (.d (.int (j : Nat))) m) :
    RM K (rIndexD K) (.d (.list ds)) [.d d] m P := fun x xs F H Q a b S q => by
  obtain ⟨y, e, o⟩ := sls1 b
  have dp : Dp K H x (.list ds) := slot_dp a
  obtain ⟨l, vs, e2, hl, i⟩ := im_lst a
  subst e2
  exact ⟨l, y, d, ds, j, z, rfl, e, dp, slot_dp o, h1, h2, h, hz, hn, q _ m _ F H p Step.refl S rfl⟩
end
end Dv

namespace Dv
open PySem L2 PyProof.Rows
/-! ### a def as its callers know it -/
structure Dfn (Pg : Program) (w : World) (K : PySem.W.Frag) (mg : Str → Option Value) (base : Heap) (k : Nat) (name : Str) (ps : List Str) (W : WT) : Prop where
  ex : ∃ f fd, mg name = some (.ref f) ∧ PySem.W.keepIn K (.ref f) = true ∧ Binds K fd ps [] ∧ DF Pg w K mg base CX0 k f fd ps (SpD K W)
structure FunAt (K : PySem.W.Frag) (mg : Str → Option Value) (name : Str) (st : Stmt) (ps : List Str) : Prop where
  ex : ∃ f fd, mg name = some (.ref f) ∧ Fun K name name st f fd ∧ Binds K fd ps []
theorem funAt_mk {K : PySem.W.Frag} {h : Heap} {mg : Str → Option Value} {x : Str} {st : Stmt} {f : Addr} {oc : Value} {od an : Option Addr} {osl : Array (Option Value)} {kV doc pm cdv ct : Value} {ps : List Str} (X : K.In h) (G : h.Ns mainGlobals mg)
    (a : PySem.W.nsIn K mainGlobals x = some (some (.ref f))) (l : K.lookup f = some ⟨oc, od, .func (PySem.W.fnOf x x (defArgs st) (defBody st) (defScope st) .none kV doc pm an cdv ct), osl⟩) (c : PySem.W.codeIn K cdv x = true) (k : PySem.W.keepIn K (.ref f) = true)
    (hb : ∀ (kV doc pm : Value) (an : Option Addr) (cdv ct : Value) (us : List Value), us.length = ps.length → bindArgs (PySem.W.fnOf x x (defArgs st) (defBody st) (defScope st) .none kV doc pm an cdv ct) ⟨us, []⟩ = pure (ps.zip us)) : FunAt K mg x st ps :=
  ⟨f, _, PySem.W.mg_of X G a, fun_mk l c k, (fun_mk (st := st) l c k).binds hb⟩
section
variable {Pg : Program} {w : World} {K : PySem.W.Frag} {mg : Str → Option Value} {base : Heap}
theorem dfn_mk {k : Nat} {name : Str} {st : Stmt} {N ps : List Str} {W : WT} {t : TS} (A : FunAt K mg name st ps) (S : FnScope N ps (defScope st)) (len : ∀ ss m P, W ss m P → ss.length = ps.length)
    (der : ∀ (f : Addr) (cdv : Value) (A : Around) (outer : List Env) (s : Shared) (H : Hp) (E : XK), (A.deeper (envOfC name (defScope st) s.heap.objs.size f cdv)).guards = some [] → Room k (A.deeper (envOfC name (defScope st) s.heap.objs.size f cdv)) →
      PSs (cxOf CX0 Pg w K mg base N name (defScope st) f cdv A outer s H E).nox (defBody st) t)
    (rd : ∀ ss m P, W ss m P → Wp K t (rho N ss) m { nx := fun _ m' => P (.d .none) m', rt := P }) : Dfn Pg w K mg base (k + 1) name ps W := by
  obtain ⟨f, fd, hm, hF, hb⟩ := A.ex
  exact ⟨f, fd, hm, hF.kp, hb, df_data hF S len (der f) rd⟩
variable {X : Cx}
theorem pe_fn {j k : Nat} {x : Str} {ps : List Str} {W : WT} {p pos : Pos} {e : Expr} {es : List Expr} {t : TA} (D : Dfn X.prog X.w X.K X.mg X.base j x ps W) (hgd : X.A.guards = some []) (hr : Room k X.A) (h : j ≤ k) (hg : Gl X x) (ha : PA X (e :: es) t)
    (hdb : (x == ("__debug__" : Str)) = false := by decide) (he : starEach (e :: es) X.env = (false, eval e X.env) :: starEach es X.env := by rfl) (hpl : (backTo pos (starEach es X.env)).any (·.1) = false := by rfl) :
    PE X (.Call (.Name x p) (e :: es) [] pos) (tCall (SpD X.K W) [] E0 t) := by
  obtain ⟨f, fd, hm, hk, hb, F⟩ := D.ex
  exact pe_dcall F hgd (hr.mono h) hg hm hk hb .nil pass0 ha hdb he hpl
theorem pe_fn0 {j k : Nat} {x : Str} {ps : List Str} {W : WT} {p pos : Pos} (D : Dfn X.prog X.w X.K X.mg X.base j x ps W) (hgd : X.A.guards = some []) (hr : Room k X.A) (h : j ≤ k) (hg : Gl X x)
    (hdb : (x == ("__debug__" : Str)) = false := by decide) : PE X (.Call (.Name x p) [] [] pos) (tCall (SpD X.K W) [] E0 tNil) := by
  obtain ⟨f, fd, hm, hk, hb, F⟩ := D.ex
  exact pe_dcall0 F hgd (hr.mono h) hg hm hk hb .nil pass0 hdb
/-! ### short forms of rules -/
theorem ps_setA (i : Nat) {x : Str} {e : Expr} {te : TE} {pos' pos : Pos} (hN : X.N.Nodup) (he : PE X e te) (hi : X.N[i]? = some x := by rfl) (hx : Loc X.env.scope x := by first | exact Or.inl rfl | exact Or.inr rfl) (hs : swapsWith e (some (.Name x pos')) pos.line X.env = pure false := by rfl)
    (hf : X.fn x = true ∨ X.env.scope.names.lookup x = some .local := by first | exact .inl rfl | exact .inr rfl) : PS X (.Assign [.Name x pos'] e pos) (tAsg te (gName i)) := ps_set hN hi hx he hs hf
theorem pg_nameA (i : Nat) {x : Str} {pos : Pos} (hN : X.N.Nodup) (hi : X.N[i]? = some x := by rfl) (hx : Loc X.env.scope x := by first | exact Or.inl rfl | exact Or.inr rfl) (hf : X.fn x = true ∨ X.env.scope.names.lookup x = some .local := by first | exact .inl rfl | exact .inr rfl) : PG X (.Name x pos) (gName i) := pg_name hN hi hx hf
theorem hu64 {k : Nat} (hr : Room k X.A) : X.A.units + 64 < cLine := hr.units
theorem hu65 {k : Nat} (hr : Room k X.A) : X.A.units + 65 < cLine := by have := hr.un; omega
theorem hu70 {k : Nat} (hr : Room k X.A) : X.A.units + 70 < cLine := by have := hr.un; omega
end
section
variable {K : PySem.W.Frag} {ρ : Rho} {m : Sto} {P : PV} {te : TE}
/-- list(range(n)) -/
def upTo (n : Nat) : List PyData := (List.range n).map fun i => .int (i : Nat)
theorem imAll_upTo {F : Reg} {H : Hp} {n : Int} (h : 0 ≤ n) : ImAll K F H (upTo n.toNat) (rgV 0 n) := by
  unfold upTo rgV
  rw [Int.sub_zero]
  generalize List.range n.toNat = l
  induction l with
  | nil => rfl
  | cons a l ih => exact ⟨_, _, rfl, (by show V.int (0 + (a : Nat)) = V.int (a : Nat); rw [Int.zero_add]), ih⟩
theorem ev_listRg (h : Ev K te ρ m fun s m1 => ∃ n : Int, s = .d (.int n) ∧ 0 ≤ n ∧ n ≤ 100000 ∧ P (.d (.list (upTo n.toNat))) m1) : Ev K (tLstRg (tRg1 te)) ρ m P := fun σ F H Q E S q =>
  h σ F H _ E S fun s m1 x F1 H1 ⟨n, e, h0, h1, p⟩ s1 S1 o1 => by
    subst e
    cases (show x = .int n from o1)
    refine ⟨n, rfl, RgOk.of_le (by omega) (by omega) (by omega) h0, fun a ha => ?_⟩
    exact q _ m1 _ _ _ p (s1.trans (step_new S1 ha)) (sto_new S1 ha) ⟨a, _, rfl, .inl rfl, upd_same, imAll_upTo h0⟩
theorem ev_listRgM (h : Ev K te ρ m fun s m1 => ∃ n : Int, s = .d (.int n) ∧ 0 ≤ n ∧ n ≤ 100000 ∧ ∀ a, m1 a = none → P (.m a) (put m1 a (.lst (upTo n.toNat)))) : Ev K (tLstRg (tRg1 te)) ρ m P := fun σ F H Q E S q =>
  h σ F H _ E S fun s m1 x F1 H1 ⟨n, e, h0, h1, p⟩ s1 S1 o1 => by
    subst e
    cases (show x = .int n from o1)
    refine ⟨n, rfl, RgOk.of_le (by omega) (by omega) (by omega) h0, fun a ha => ?_⟩
    exact q _ _ _ _ _ (p a (sto_none S1 ha)) (s1.trans (step_newM S1 ha)) (sto_put S1 (not_reg S1 ha) ⟨_, upd_same, imAll_upTo h0⟩) rfl
/-- all, any of a list of truth values -/
theorem imAll_bools {F : Reg} {H : Hp} : ∀ {bs : List Bool} {vs : List V}, ImAll K F H (bs.map .bool) vs → vs = bs.map V.bl
  | [], vs, h => h
  | b :: bs, vs, h => by
    obtain ⟨v, r, e, h1, h2⟩ := h
    cases (show v = .bl b from h1)
    rw [e, imAll_bools h2]
    rfl
theorem rc_all {bs : List Bool} (p : P (.d (.bool (bs.all id))) m) : RC K (rAll K) [.d (.list (bs.map .bool))] m P := fun xs F H Q a S q => by
  obtain ⟨x, e, o⟩ := sls1 a
  obtain ⟨l, vs, e2, hl, i⟩ := im_lst o
  have := imAll_bools i
  subst this e2
  exact ⟨l, bs, e, SqL.of hl, q _ m _ F H p Step.refl S rfl⟩
theorem rc_any {bs : List Bool} (p : P (.d (.bool (bs.any id))) m) : RC K (rAny K) [.d (.list (bs.map .bool))] m P := fun xs F H Q a S q => by
  obtain ⟨x, e, o⟩ := sls1 a
  obtain ⟨l, vs, e2, hl, i⟩ := im_lst o
  have := imAll_bools i
  subst this e2
  exact ⟨l, bs, e, SqL.of hl, q _ m _ F H p Step.refl S rfl⟩
end
end Dv

namespace Dv
open PySem L2 PyProof.Rows
theorem pe_cn {X : Cx} {x : Str} {v : V} {pos : Pos} (h : ∃ u, X.mg x = some u ∧ L2.RelV v u) (hg : Gl X x := by rfl) (hd : (x == ("__debug__" : Str)) = false := by decide) : PE X (.Name x pos) (tC v) := let ⟨_, a, b⟩ := h; pe_glob hg a b hd
section
variable {K : PySem.W.Frag} {ρ : Rho} {m : Sto} {P : PV} {te : TE} {ts : TS} {k : Ko}
/-- what the store need not know any more -/
theorem ev_del (h : Ev K te ρ m fun s m' => ∃ a u, m' a = some u ∧ P s (del m' a)) : Ev K te ρ m P := fun σ F H Q E S q =>
  h σ F H Q E S fun s m' v F' H' ⟨a, u, e, p⟩ s1 S1 o1 => q s _ v _ H' p (s1.trans (step_del S1 e)) (sto_del S1 e) (slOk_step (step_del S1 e) o1)
theorem wp_del {a : Addr} {u : Mu} (e : m a = some u) (h : Wp K ts ρ (del m a) k) : Wp K ts ρ m k := fun D σ F H E S q1 q2 q3 q4 =>
  wp_at (D := D) (step_del S e) (envOk_step (step_del S e) E) (sto_del S e) h q1 q2 q3 q4
/-- a slot that holds a list of ds -/
def LsS (K : PySem.W.Frag) (s : Sl) (m : Sto) (ds : List PyData) : Prop := ∀ (x : V) (F : Reg) (H : Hp), SlOk K F H s x → StoOk K m F H → ∃ a vs, x = .ref a ∧ H a = some (.lst vs) ∧ ImAll K F H ds vs
theorem ls_d {ds : List PyData} : LsS K (.d (.list ds)) m ds := fun x F H a S => im_lst a
theorem ls_m {l : Addr} {ds : List PyData} (hm : m l = some (.lst ds)) : LsS K (.m l) m ds := fun x F H a S => let ⟨vs, hl, i⟩ := mu_lst S hm; ⟨l, vs, a, hl, i⟩
/-- lists that will change, by + -/
theorem ra_lstM {s t : Sl} {ds es : List PyData} (hs : LsS K s m ds) (ht : LsS K t m es)
    (h : ds.length + es.length ≤ 100000) (p : ∀ a, m a = none → P (.m a) (put m a (.lst (ds ++ es)))) : RO K (rAddU K) s t m P := ro_r (ro_r (ro_l fun u v F H Q a b S q => by
  obtain ⟨l, xs, e1, h1, i1⟩ := hs u F H a S
  obtain ⟨l2, ys, e2, h2, i2⟩ := ht v F H b S
  have z1 := imAll_len i1
  have z2 := imAll_len i2
  have i := imAll_app i1 i2
  refine ⟨l, l2, xs, ys, e1, e2, h1, h2, by rw [sizeLine_eq]; omega, fun c hc => ?_⟩
  exact q _ _ _ _ _ (p c (sto_none S hc)) (step_newM S hc) (sto_put S (not_reg S hc) ⟨_, upd_same, imAll_fix (step_newM (u := .lst (ds ++ es)) S hc).fix _ _ i⟩) rfl))
variable {t : TT}
theorem wipe_wipe {σ : L2.St} {vs : List Nat} : wipe (wipe σ vs) vs = wipe σ vs := by
  have ww : ∀ us : List Nat, (∀ j ∈ us, j ∈ vs) → wipe (wipe σ us) vs = wipe σ vs := by
    intro us
    induction us with
    | nil => intro _; rfl
    | cons b us ih =>
      intro hu
      show wipe ((wipe σ us).set b none) vs = wipe σ vs
      rw [wipe_set (hu b List.mem_cons_self)]
      exact ih fun j z => hu j (List.mem_cons_of_mem _ z)
  exact ww vs fun j z => z
/-- a comprehension of two clauses; the list that it fills stands in the store -/
theorem ev_lc2 {wi wi1 : TI} {g g1 : TG} {t1 : TT} {vs vs1 : List Nat} (h : EvI K wi ρ m fun xs C m1 => ∀ D, m1 D = none → ∃ Iv : Nat → Sto → Prop, Iv 0 (put m1 D (.lst [])) ∧ (∀ i m', Iv i m' → C m') ∧
      (∀ i x m', xs[i]? = some x → Iv i m' → ∃ js, (∀ j ∈ js, j ∈ vs) ∧ Gt K g js x (wipeR ρ vs) m' fun ρ2 m2 => EvT K t ρ2 m2 fun b m3 => if b = true then
        EvI K wi1 ρ2 m3 (fun ys C1 m4 => ∃ Iv1 : Nat → Sto → Prop, Iv1 0 m4 ∧ (∀ j m', Iv1 j m' → C1 m') ∧
          (∀ j y m', ys[j]? = some y → Iv1 j m' → ∃ js1, (∀ j ∈ js1, j ∈ vs1) ∧ Gt K g1 js1 y (wipeR ρ2 vs1) m' fun ρ3 m5 => EvT K t1 ρ3 m5 fun b m6 => if b = true then
            Ev K te ρ3 m6 (fun z m7 => ∃ d acc, z = .d d ∧ m7 D = some (.lst acc) ∧ acc.length < 100000 ∧ Iv1 (j + 1) (put m7 D (.lst (acc ++ [d])))) else Iv1 (j + 1) m6) ∧
          ∀ m', Iv1 ys.length m' → Iv (i + 1) m') else Iv (i + 1) m3) ∧
      ∀ m', Iv xs.length m' → ∃ acc, m' D = some (.lst acc) ∧ P (.d (.list acc)) (del m' D)) : Ev K (tLc2 wi g t wi1 g1 t1 te vs vs1) ρ m P := fun σ F H Q E S q =>
  h σ F H _ E S fun xs C m1 F1 H1 J hh s1 S1 w => by
    intro D hD
    obtain ⟨Iv, h0, hC, hs, hd⟩ := hh D (sto_none S1 hD)
    have sD : Step m1 F1 H1 (put m1 D (.lst [])) F1 (upd H1 D (.lst [])) := step_newM S1 hD
    have SD : StoOk K (put m1 D (.lst [])) F1 (upd H1 D (.lst [])) := sto_put S1 (not_reg S1 hD) ⟨[], upd_same, rfl⟩
    let Pv : Nat → Hp → Prop := fun i H' => ∃ m' F', Iv i m' ∧ Step m1 F1 H1 m' F' H' ∧ StoOk K m' F' H'
    refine ⟨fun i k H' => k = xs.length - i ∧ i ≤ xs.length ∧ Pv i H', ⟨_, rfl, Nat.zero_le _, _, _, h0, sD, SD⟩, ?_⟩
    rintro i k H' ⟨hk, hi, m', F', a, st, So⟩
    by_cases hn : i = xs.length
    · subst hn
      left
      refine ⟨w.stops H' ⟨m', F', hC _ _ a, st, So⟩, ?_⟩
      obtain ⟨acc, hm, p⟩ := hd m' a
      exact q _ _ _ _ H' p ((s1.trans st).trans (step_del So hm)) (sto_del So hm) (im_frozen So hm)
    · right
      have hlt : i < xs.length := Nat.lt_of_le_of_ne hi hn
      refine ⟨w.goes i H' hlt ⟨m', F', hC _ _ a, st, So⟩, Pv (i + 1), fun H'' z => ⟨_, ?_, rfl, hlt, z⟩, fun x H2 hy => ?_⟩
      · omega
      obtain ⟨F2, s2, S2, sl, hx, o2⟩ := w.yields i H' x H2 hlt ⟨m', F', hC _ _ a, st, So⟩ hy m' F' (hC _ _ a) st So
      obtain ⟨js, hj, gt⟩ := hs i sl m' hx a
      have E2 : EnvOk K F2 H2 (wipeR ρ vs) (wipe σ vs) := envOk_step ((s1.trans st).trans s2) (envOk_wipe E vs)
      refine gt (wipe σ vs) F2 H2 x _ E2 S2 o2 fun ρ3 m3 σ3 F3 H3 et s3 S3 E3 hw => ⟨?_, ?_⟩
      · rw [hw vs hj]
        exact wipe_wipe
      have st3 := (st.trans s2).trans s3
      refine et σ3 F3 H3 _ E3 S3 fun b m4 F4 H4 ev s4 S4 => ?_
      cases b with
      | false =>
        rw [if_neg Bool.false_ne_true] at ev
        rw [if_neg Bool.false_ne_true]
        exact ⟨m4, F4, ev, st3.trans s4, S4⟩
      | true =>
        rw [if_pos rfl] at ev
        rw [if_pos rfl]
        refine ev σ3 F4 H4 _ (envOk_step s4 E3) S4 fun ys C1 m5 F5 H5 J1 ⟨Iv1, g0, gC, gs, gd⟩ s5 S5 w1 => ?_
        have st5 := (st3.trans s4).trans s5
        have E5 : EnvOk K F5 H5 ρ3 σ3 := envOk_step (s4.trans s5) E3
        let Pv1 : Nat → Hp → Prop := fun j H' => ∃ m' F', Iv1 j m' ∧ Step m5 F5 H5 m' F' H' ∧ StoOk K m' F' H'
        refine ⟨fun j k H' => k = ys.length - j ∧ j ≤ ys.length ∧ Pv1 j H', ⟨_, rfl, Nat.zero_le _, _, _, g0, Step.refl, S5⟩, ?_⟩
        rintro j k H6 ⟨hk, hj1, m6, F6, a6, st6, S6⟩
        by_cases hn1 : j = ys.length
        · subst hn1
          left
          exact ⟨w1.stops H6 ⟨m6, F6, gC _ _ a6, st6, S6⟩, m6, F6, gd m6 a6, st5.trans st6, S6⟩
        · right
          have hlt1 : j < ys.length := Nat.lt_of_le_of_ne hj1 hn1
          refine ⟨w1.goes j H6 hlt1 ⟨m6, F6, gC _ _ a6, st6, S6⟩, Pv1 (j + 1), fun H'' z => ⟨_, ?_, rfl, hlt1, z⟩, fun y H7 hy1 => ?_⟩
          · omega
          obtain ⟨F7, s7, S7, sl7, hx7, o7⟩ := w1.yields j H6 y H7 hlt1 ⟨m6, F6, gC _ _ a6, st6, S6⟩ hy1 m6 F6 (gC _ _ a6) st6 S6
          obtain ⟨js1, hjs1, gt1⟩ := gs j sl7 m6 hx7 a6
          have E7 : EnvOk K F7 H7 (wipeR ρ3 vs1) (wipe σ3 vs1) := envOk_step (st6.trans s7) (envOk_wipe E5 vs1)
          refine gt1 (wipe σ3 vs1) F7 H7 y _ E7 S7 o7 fun ρ8 m8 σ8 F8 H8 et8 s8 S8 E8 hw8 => ⟨?_, ?_⟩
          · rw [hw8 vs1 hjs1]
            exact wipe_wipe
          have st8 := (st6.trans s7).trans s8
          refine et8 σ8 F8 H8 _ E8 S8 fun b m9 F9 H9 ev9 s9 S9 => ?_
          cases b with
          | false =>
            rw [if_neg Bool.false_ne_true] at ev9
            rw [if_neg Bool.false_ne_true]
            exact ⟨m9, F9, ev9, st8.trans s9, S9⟩
          | true =>
            rw [if_pos rfl] at ev9
            rw [if_pos rfl]
            refine ev9 σ8 F9 H9 _ (envOk_step s9 E8) S9 fun s m10 v F10 H10 ⟨d, acc, es, hm, hl, iv⟩ s10 S10 o10 => ?_
            subst es
            obtain ⟨us, hus, ius⟩ := mu_lst S10 hm
            refine ⟨us, hus, by rw [← imAll_len ius, sizeLine_eq]; omega, ?_⟩
            have sm : Step m10 F10 H10 (put m10 D (.lst (acc ++ [d]))) F10 (upd H10 D (.lst (us ++ [v]))) := step_mut S10 hm
            exact ⟨_, F10, iv, ((st8.trans s9).trans s10).trans sm, sto_put S10 (S10.mu D _ hm).2 ⟨_, upd_same, imAll_fix sm.fix _ _ (imAll_app ius (imAll_one o10))⟩⟩
end
end Dv

namespace Dv
open PySem L2 PyProof.Rows
theorem ite_b {b : Bool} {A B : Prop} (h1 : b = true → A) (h2 : b = false → B) : if b = true then A else B := by
  cases b with
  | true => rw [if_pos rfl]; exact h1 rfl
  | false => rw [if_neg Bool.false_ne_true]; exact h2 rfl
section
variable {K : PySem.W.Frag} {ρ : Rho} {m : Sto} {P : PV} {te : TE} {ts : TS} {k : Ko} {tt : TT}
/-! ### loops over what does not change -/
theorem wp_forL {α : Type} {toD : α → PyData} {wi : TI} {j : Nat} (h : EvI K wi ρ m fun xs C m1 => ∃ (ys : List α) (Iv : Nat → Rho → Sto → Prop), xs = (ys.map toD).map Sl.d ∧ Iv 0 ρ m1 ∧ (∀ i ρ' m', Iv i ρ' m' → C m') ∧
      (∀ i y ρ' m', ys[i]? = some y → Iv i ρ' m' → Wp K ts (ρ'.set j (some (.d (toD y)))) m' { k with nx := Iv (i + 1), ct := Iv (i + 1), bk := k.nx }) ∧ ∀ ρ' m', Iv ys.length ρ' m' → k.nx ρ' m') :
    Wp K (tFor wi (gName j) ts) ρ m k := wp_for fun σ F H R E S q => h σ F H R E S fun xs C m1 F1 H1 J ⟨ys, Iv, e, h0, hC, hs, hd⟩ s1 S1 w => by
  refine q xs C m1 F1 H1 J ⟨Iv, h0, hC, fun i x ρ' m' hx iv => ?_, fun ρ' m' iv => hd ρ' m' ?_⟩ s1 S1 w
  · subst e
    rw [List.getElem?_map, List.getElem?_map] at hx
    cases hy : ys[i]? with
    | none => rw [hy] at hx; cases hx
    | some y =>
      rw [hy] at hx
      cases hx
      exact ⟨[j], gt_name (hs i y ρ' m' hy iv)⟩
  · subst e
    simpa using iv
theorem wp_rng {ta : TA} {j : Nat} (h : EvA K ta ρ m fun ss m1 => ∃ (n : Nat) (Iv : Nat → Rho → Sto → Prop), ss = [.d (.int n)] ∧ n ≤ 1000000 ∧ Iv 0 ρ m1 ∧
      (∀ i ρ' m', i < n → Iv i ρ' m' → Wp K ts (ρ'.set j (some (.d (.int (i : Nat))))) m' { k with nx := Iv (i + 1), ct := Iv (i + 1), bk := k.nx }) ∧ ∀ ρ' m', Iv n ρ' m' → k.nx ρ' m') :
    Wp K (tFor (iRng1 ta) (gName j) ts) ρ m k := wp_forL (α := Nat) (toD := fun i => .int (i : Nat)) (ei_rng1 fun σ F H R E S q => h σ F H R E S fun ss m1 vs F1 H1 ⟨n, Iv, e, hn, h0, hs, hd⟩ s1 S1 o1 => by
  refine q ss m1 vs F1 H1 ⟨n, e, by omega, by omega, List.range n, Iv, by simp, h0, fun _ _ _ _ => trivial, fun i y ρ' m' hy iv => ?_, fun ρ' m' iv => hd ρ' m' (by simpa using iv)⟩ s1 S1 o1
  have hl := (List.getElem?_eq_some_iff.mp hy).1
  rw [List.getElem?_range (by simpa using hl)] at hy
  cases hy
  exact hs i ρ' m' (by simpa using hl) iv)
/-- for i, x in enumerate(t) -/
theorem wp_enum {α : Type} {toD : α → PyData} {ta : TA} {i1 i2 : Nat} (h : EvA K ta ρ m fun ss m1 => ∃ (ys : List α) (Iv : Nat → Rho → Sto → Prop), ss = [.d (.tuple (ys.map toD))] ∧ Iv 0 ρ m1 ∧
      (∀ i y ρ' m', ys[i]? = some y → Iv i ρ' m' → Wp K ts ((ρ'.set i1 (some (.d (.int (i : Nat))))).set i2 (some (.d (toD y)))) m' { k with nx := Iv (i + 1), ct := Iv (i + 1), bk := k.nx }) ∧ ∀ ρ' m', Iv ys.length ρ' m' → k.nx ρ' m') :
    Wp K (tFor (iEnumU K ta) (gTup K 2 (gCons (gName i1) (gCons (gName i2) gNil))) ts) ρ m k := wp_for (ei_enumT fun σ F H R E S q => h σ F H R E S fun ss m1 vs F1 H1 ⟨ys, Iv, e, h0, hs, hd⟩ s1 S1 o1 => by
  refine q ss m1 vs F1 H1 ⟨_, e, Iv, h0, fun _ _ _ _ => trivial, fun i x ρ' m' hx iv => ?_, fun ρ' m' iv => hd ρ' m' (by rw [enumS_len] at iv; simpa using iv)⟩ s1 S1 o1
  obtain ⟨d, hd', rfl⟩ := enumS_of hx
  rw [List.getElem?_map] at hd'
  cases hy : ys[i]? with
  | none => rw [hy] at hd'; cases hd'
  | some y =>
    rw [hy] at hd'
    cases hd'
    exact ⟨[i1, i2], gt_pairP (hs i y ρ' m' hy iv)⟩)
/-! ### comprehensions where nothing changes -/
theorem ev_lcF {α : Type} {toD : α → PyData} {wi : TI} {j : Nat} {vs : List Nat} (hj : j ∈ vs) (h : EvI K wi ρ m fun xs C m1 => ∃ (ys : List α) (G : α → Bool) (F : α → PyData), xs = (ys.map toD).map Sl.d ∧ C m1 ∧ ys.length ≤ 100000 ∧
      (∀ y ∈ ys, EvT K tt ((wipeR ρ vs).set j (some (.d (toD y)))) m1 (fun b m3 => b = G y ∧ m3 = m1) ∧ (G y = true → Ev K te ((wipeR ρ vs).set j (some (.d (toD y)))) m1 (fun s m4 => s = .d (F y) ∧ m4 = m1))) ∧
      P (.d (.list ((ys.filter G).map F))) m1) : Ev K (tLc wi (gName j) tt te vs) ρ m P := ev_lc fun σ F0 H R E S q => h σ F0 H R E S fun xs C m1 F1 H1 J ⟨ys, G, F, e, hC, hl, hs, p⟩ s1 S1 w => by
  have key : ∀ (i : Nat) (y : α), ys[i]? = some y → (((ys.take (i + 1)).filter G).map F) = if G y = true then ((ys.take i).filter G).map F ++ [F y] else ((ys.take i).filter G).map F := by
    intro i y hy
    rw [List.take_add_one, hy]
    cases hG : G y <;> simp [hG]
  refine q xs C m1 F1 H1 J ⟨fun i acc m' => m' = m1 ∧ acc = ((ys.take i).filter G).map F, ⟨rfl, by simp⟩, fun i acc m' z => by rw [z.1]; exact hC, fun i x acc m' hx iv => ?_, fun acc m' iv => ?_⟩ s1 S1 w
  · obtain ⟨rfl, rfl⟩ := iv
    subst e
    rw [List.getElem?_map, List.getElem?_map] at hx
    cases hy : ys[i]? with
    | none => rw [hy] at hx; cases hx
    | some y =>
      rw [hy] at hx
      cases hx
      obtain ⟨h1, h2⟩ := hs y (List.mem_of_getElem? hy)
      refine ⟨?_, [j], by simpa using hj, gt_name (h1.mono fun b m3 ⟨eb, em⟩ => ?_)⟩
      · have a1 : (((ys.take i).filter G).map F).length ≤ (ys.take i).length := by
          rw [List.length_map]
          exact List.length_filter_le _ _
        have a2 : i < ys.length := (List.getElem?_eq_some_iff.mp hy).1
        have a3 : (ys.take i).length = i := by rw [List.length_take]; omega
        omega
      · subst eb em
        have kk := key i y hy
        refine ite_b (fun hG => ?_) (fun hG => ?_)
        · rw [if_pos hG] at kk
          exact (h2 hG).mono fun s m4 ⟨es, em⟩ => ⟨F y, es, em, kk.symm⟩
        · rw [if_neg (by rw [hG]; exact Bool.false_ne_true)] at kk
          exact ⟨rfl, kk.symm⟩
  · obtain ⟨rfl, rfl⟩ := iv
    have : xs.length = ys.length := by rw [e]; simp
    rw [this, List.take_length]
    exact p
theorem ev_lcR {ta : TA} {j : Nat} {vs : List Nat} (hj : j ∈ vs) (h : EvA K ta ρ m fun ss m1 => ∃ (n : Nat) (F : Nat → PyData), ss = [.d (.int n)] ∧ n ≤ 100000 ∧
      (∀ i, i < n → Ev K te ((wipeR ρ vs).set j (some (.d (.int (i : Nat))))) m1 (fun s m4 => s = .d (F i) ∧ m4 = m1)) ∧
      P (.d (.list ((List.range n).map F))) m1) : Ev K (tLc (iRng1 ta) (gName j) tYes te vs) ρ m P := ev_lcF (α := Nat) (toD := fun i => .int (i : Nat)) hj (ei_rng1 fun σ F0 H R E S q => h σ F0 H R E S fun ss m1 us F1 H1 ⟨n, F, e, hn, hs, p⟩ s1 S1 o1 =>
  q ss m1 us F1 H1 ⟨n, e, by omega, by omega, List.range n, fun _ => true, F, by simp, trivial, by simpa using hn, fun y hy => ⟨et_yes ⟨rfl, rfl⟩, fun _ => hs y (by simpa using hy)⟩, by rw [List.filter_eq_self.mpr (fun _ _ => rfl)]; exact p⟩ s1 S1 o1)
end
end Dv

namespace Dv
open PySem L2 PyProof.Rows
/-! ### letters, names, floors -/
abbrev Sx (l : List Nat) : Str := ⟨l.toArray⟩
theorem sx_len (l : List Nat) : (Sx l).length = l.length := by simp [Str.length]
theorem sx_of (z : Str) : Sx z.cps.toList = z := by cases z; simp
theorem sx_inj {a b : List Nat} (h : Sx a = Sx b) : a = b := by
  have := congrArg (fun z : Str => z.cps.toList) h
  simpa using this
theorem sx_app (a b : List Nat) : Sx a ++ Sx b = Sx (a ++ b) := by
  show (⟨a.toArray ++ b.toArray⟩ : Str) = ⟨(a ++ b).toArray⟩
  simp
def isUp (c : Nat) : Bool := decide (65 ≤ c) && decide (c ≤ 90)
def isLo (c : Nat) : Bool := decide (97 ≤ c) && decide (c ≤ 122)
theorem upE : ("ABCDEFGHIJKLMNOPQRSTUVWXYZ" : Str).cps.toList = List.range' 65 26 := by decide +kernel
theorem loE : ("abcdefghijklmnopqrstuvwxyz" : Str).cps.toList = List.range' 97 26 := by decide +kernel
theorem loS : ("abcdefghijklmnopqrstuvwxyz" : Str) = Sx (List.range' 97 26) := by decide +kernel
theorem mem_up (c : Nat) : decide (c ∈ ("ABCDEFGHIJKLMNOPQRSTUVWXYZ" : Str).cps.toList) = isUp c := by
  rw [upE, isUp, Bool.eq_iff_iff]
  simp [List.mem_range'_1]
  omega
theorem mem_lo (c : Nat) : decide (c ∈ ("abcdefghijklmnopqrstuvwxyz" : Str).cps.toList) = isLo c := by
  rw [loE, isLo, Bool.eq_iff_iff]
  simp [List.mem_range'_1]
  omega
/-- a name: one to six letters, lower-case from the second one on -/
def okL : List Nat → Bool
  | [] => false
  | c :: r => decide (r.length ≤ 5) && ((isUp c || isLo c) && r.all isLo)
theorem atI_zero {α : Type} {c : α} {r : List α} : atI (c :: r) 0 = some c := by
  simp [atI, ixN]
theorem atI_nat' {α : Type} {xs : List α} {i : Int} {k : Nat} {d : α} (hi : i = (k : Int)) (h : xs[k]? = some d) : atI xs i = some d := by
  have hl := (List.getElem?_eq_some_iff.mp h).1
  unfold atI ixN
  rw [if_pos (by omega), if_pos (by omega), hi]
  simpa using h
theorem cutS_tail (c : Nat) (r : List Nat) : cutS (Sx (c :: r)) (some 1) none = Sx r := by
  unfold cutS HT.sIx
  simp [sx_len]
section
variable {K : PySem.W.Frag} {Pg : Program} {w : World}
def W_is_leader : WT := fun ss m P => ∃ (c : Nat) (r : List Nat), ss = [.d (.str (Sx (c :: r)))] ∧ r.length ≤ 2000 ∧ P (.d (.bool (isUp c))) m
def t_is_leader (K : PySem.W.Frag) (Pg : Program) (w : World) : TS :=
  (tRet (tOp (rInU K Pg w) (tOp (rIx K) (tVar 0) (tC (.int 0))) (tC (.str "ABCDEFGHIJKLMNOPQRSTUVWXYZ"))))
theorem rd_is_leader (ss : List Sl) (m : Sto) (P : PV) (h : W_is_leader ss m P) : Wp K (t_is_leader K Pg w) (rho ["name"] ss) m { nx := fun _ m' => P (.d .none) m', rt := P } := by
  obtain ⟨c, r, rfl, hr, p⟩ := h
  have hl : (Sx (c :: r)).length ≤ 100000 := by rw [sx_len]; simp; omega
  refine wp_ret (ev_op (ev_op (ev_var rfl (ev_int (rx_str hl atI_zero (ev_str (ri_str ?_)))))))
  rw [mem_up]
  exact p
def W_is_name : WT := fun ss m P => ∃ l : List Nat, ss = [.d (.str (Sx l))] ∧ l.length ≤ 2000 ∧ P (.d (.bool (okL l))) m
def t_is_name (K : PySem.W.Frag) (Pg : Program) (w : World) : TS :=
  (tSeq (tIfS (tNot (tTest (tChain (rI0 fun i j => .bl (decide (i ≤ j))) (rI0 fun i j => .bl (decide (i ≤ j))) (tC (.int 1)) (tCB (rLenC K) (tCons (tVar 0) tNil)) (tC (.int 6)))))
    (tRet (tC (.bl false)))
    tNext)
    (tSeq (tIfS (tAnd (tTest (tOp (rNotInU K Pg w) (tOp (rIx K) (tVar 0) (tC (.int 0))) (tC (.str "ABCDEFGHIJKLMNOPQRSTUVWXYZ")))) (tTest (tOp (rNotInU K Pg w) (tOp (rIx K) (tVar 0) (tC (.int 0))) (tC (.str "abcdefghijklmnopqrstuvwxyz")))))
    (tRet (tC (.bl false)))
    tNext)
    (tRet (tCB (rAll K) (tCons (tLc (iSeqU K (tSl (rSlU K) (tVar 0) (tPart (tC (.int 1))) tNoPart)) (gName 1) tYes (tOp (rInU K Pg w) (tVar 1) (tC (.str "abcdefghijklmnopqrstuvwxyz"))) [1]) tNil)))))
theorem sg_all {r : List Nat} : (r.map isLo).all id = r.all isLo := by
  rw [List.all_map]
  rfl
theorem signs_sx (r : List Nat) : signs (Sx r) = r.map fun c => .str (Sx [c]) := by simp [signs]
theorem rd_is_name (ss : List Sl) (m : Sto) (P : PV) (h : W_is_name ss m P) : Wp K (t_is_name K Pg w) (rho ["text", "letter"] ss) m { nx := fun _ m' => P (.d .none) m', rt := P } := by
  obtain ⟨l, rfl, hl, p⟩ := h
  have hz : (Sx l).length ≤ 100000 := by rw [sx_len]; omega
  have hn : ((Sx l).length : Int) = (l.length : Int) := by rw [sx_len]
  refine wp_seq (wp_if (et_not (et_test (ev_chain (ev_int (ev_cb (ea_cons (ev_var rfl (ea_nil (rc_lenS hz (rl_le ⟨_, rfl, ite_b (fun h1 => ev_int (rl_le ⟨_, rfl, ite_b (fun h2 => ?_) (fun h2 => ?_)⟩)) (fun h1 => ⟨_, rfl, ite_b (fun h2 => ?_) (fun h2 => Bool.noConfusion (show true = false from h2))⟩)⟩)))))))))))
  · rw [hn] at h2
    simp at h2
    refine wp_ret (ev_bl ?_)
    cases l with
    | nil => exact p
    | cons c r =>
      have : okL (c :: r) = false := by simp [okL]; intro hh; simp at h2; omega
      rw [this] at p
      exact p
  · rw [hn] at h2 h1
    simp at h2 h1
    cases l with
    | nil => simp at h1
    | cons c r =>
    have hr : r.length ≤ 5 := by simp at h2; omega
    have hok : okL (c :: r) = ((isUp c || isLo c) && r.all isLo) := by simp [okL, hr]
    rw [hok] at p
    have bad : isUp c = false → isLo c = false → P (.d (.bool false)) m := fun a b => by
      rw [a, b] at p
      exact p
    have fin : ∀ (h : (isUp c || isLo c) = true), Wp K (tRet (tCB (rAll K) (tCons (tLc (iSeqU K (tSl (rSlU K) (tVar 0) (tPart (tC (.int 1))) tNoPart)) (gName 1) tYes (tOp (rInU K Pg w) (tVar 1) (tC (.str "abcdefghijklmnopqrstuvwxyz"))) [1]) tNil)))
        (rho ["text", "letter"] [.d (.str (Sx (c :: r)))]) m { nx := fun _ m' => P (.d .none) m', rt := P } := fun h => by
      rw [h, Bool.true_and] at p
      refine wp_ret <| ev_cb <| ea_cons <| ev_lcF (toD := fun c : Nat => .str (Sx [c])) List.mem_cons_self <| ei_str <| ev_sl <| ev_var rfl <| eo_some <| ev_int ⟨_, rfl, eo_no <| rz_str hz ⟨_, rfl, r, fun _ => true, fun c => .bool (isLo c), ?_, trivial, by omega, fun y _ => ⟨et_yes ⟨rfl, rfl⟩, fun _ => ?_⟩, ?_⟩⟩
      · rw [cutS_tail, signs_sx]
      · refine ev_op (ev_var rfl (ev_str (ri_str ⟨?_, rfl⟩)))
        rw [mem_lo]
      · refine ea_nil ?_
        have e : (r.filter fun _ => true).map (fun c => PyData.bool (isLo c)) = (r.map isLo).map PyData.bool := by
          rw [List.filter_eq_self.mpr (fun _ _ => rfl), List.map_map]
          rfl
        rw [e]
        refine rc_all ?_
        rw [sg_all]
        exact p
    refine wp_next <| wp_seq <| wp_if <| et_and <| et_test <| ev_op <| ev_op <| ev_var rfl <| ev_int <| rx_str hz atI_zero <| ev_str <| rni_str ⟨_, rfl, ?_⟩
    rw [mem_up]
    refine ite_b (fun hu => et_test <| ev_op <| ev_op <| ev_var rfl <| ev_int <| rx_str hz atI_zero <| ev_str <| rni_str ⟨_, rfl, ?_⟩) (fun hu => ite_b (fun h => nomatch h) (fun _ => wp_next (fin ?_)))
    · rw [mem_lo]
      refine ite_b (fun hv => wp_ret <| ev_bl <| bad (by simpa using hu) (by simpa using hv)) (fun hv => wp_next (fin ?_))
      simp at hv
      rw [hv, Bool.or_true]
    · simp at hu
      rw [hu, Bool.true_or]
  · rw [hn] at h1
    simp at h1
    refine wp_ret <| ev_bl ?_
    cases l with
    | nil => exact p
    | cons c r => simp at h1; omega
end
end Dv

namespace Dv
open PySem L2 PyProof.Rows
abbrev nmD (l : List Nat) : PyData := .str (Sx l)
abbrev rwD (r : List (List Nat)) : PyData := .tuple (r.map nmD)
abbrev flD (fl : List (List (List Nat))) : PyData := .tuple (fl.map rwD)
theorem atI_map {α β : Type} {xs : List α} {f : α → β} {i : Int} {k : Nat} {x : α} (hi : i = (k : Int)) (h : xs[k]? = some x) : atI (xs.map f) i = some (f x) := atI_nat' hi (by rw [List.getElem?_map, h]; rfl)
/-- short names: what the model's bounds allow -/
def Tx (l : List Nat) : Prop := l.length ≤ 2000 ∧ ∀ c ∈ l, c < 1114112
def TxF (fl : List (List (List Nat))) : Prop := ∀ r ∈ fl, ∀ l ∈ r, Tx l
def Short (fl : List (List (List Nat))) : Prop := fl.length ≤ 100 ∧ ∀ r ∈ fl, r.length ≤ 100 ∧ ∀ l ∈ r, Tx l
theorem shaped_str {l : List Nat} (h : Tx l) : SeqAt.shaped (nmD l) = true := by
  simp [SeqAt.shaped, PyData.canLay0, PyData.depth, PyData.strOk]
  exact h.2
theorem canLayAll_names {r : List (List Nat)} (h : ∀ l ∈ r, Tx l) : PyData.canLayAll0 (r.map nmD) = true ∧ PyData.depthAll (r.map nmD) = 0 := by
  induction r with
  | nil => exact ⟨rfl, rfl⟩
  | cons a r ih =>
    obtain ⟨h1, h2⟩ := ih fun l hl => h l (List.mem_cons_of_mem _ hl)
    have ha := shaped_str (h a List.mem_cons_self)
    simp [SeqAt.shaped] at ha
    constructor
    · rw [List.map_cons, PyData.canLayAll0, h1, ha.1]; rfl
    · rw [List.map_cons, PyData.depthAll, h2]; rfl
theorem shaped_names {r : List (List Nat)} (h : ∀ l ∈ r, Tx l) : SeqAt.shaped (.tuple (r.map nmD)) = true ∧ SeqAt.shaped (.list (r.map nmD)) = true := by
  obtain ⟨h1, h2⟩ := canLayAll_names h
  constructor <;> simp [SeqAt.shaped, PyData.canLay0, PyData.depth, h1, h2]
theorem eqv_nm (a b : List Nat) : PyData.eqv (nmD a) (nmD b) = decide (a = b) := by
  have e : PyData.eqv (nmD a) (nmD b) = ((Sx a) == (Sx b)) := rfl
  rw [e]
  by_cases h : a = b
  · subst h; simp
  · rw [decide_eq_false h]
    have : Sx a ≠ Sx b := fun q => h (sx_inj q)
    simpa using h
theorem anyEq_names (l : List Nat) (r : List (List Nat)) : anyEq (nmD l) (r.map nmD) = decide (l ∈ r) := by
  unfold anyEq
  rw [List.any_map]
  induction r with
  | nil => rfl
  | cons a r ih =>
    have e : (List.any (a :: r) ((fun z => PyData.eqv z (nmD l)) ∘ nmD)) = (PyData.eqv (nmD a) (nmD l) || r.any ((fun z => PyData.eqv z (nmD l)) ∘ nmD)) := rfl
    rw [e, ih, eqv_nm]
    by_cases h : a = l
    · subst h; simp
    · have : l ≠ a := fun q => h q.symm
      simp [h, this]
section
variable {K : PySem.W.Frag} {Pg : Program} {w : World}
/-! ### has_name -/
def hasN (fl : List (List (List Nat))) (i j : Nat) : Bool := decide (i < 12) && (decide (j < 12) && (decide (j < (fl.getD 0 []).length) && (decide (j < (fl.getD i []).length) && okL ((fl.getD i []).getD j []))))
def W_has_name : WT := fun ss m P => ∃ (fl : List (List (List Nat))) (i j : Nat), ss = [.d (flD fl), .d (.int i), .d (.int j)] ∧ TxF fl ∧ i < fl.length ∧ P (.d (.bool (hasN fl i j))) m
def t_has_name (K : PySem.W.Frag) (Pg : Program) (w : World) : TS :=
  (tSeq (tIfS (tOr (tTest (tOp (rI0 fun i j => .bl (decide (j ≤ i))) (tVar 1) (tC (.int 12)))) (tTest (tOp (rI0 fun i j => .bl (decide (j ≤ i))) (tVar 2) (tCB (rMinC) (tCons (tC (.int 12)) (tCons (tCB (rLenC K) (tCons (tOp (rIx K) (tVar 0) (tC (.int 0))) tNil)) (tCons (tCB (rLenC K) (tCons (tOp (rIx K) (tVar 0) (tVar 1)) tNil)) tNil)))))))
    (tRet (tC (.bl false)))
    tNext)
    (tRet (tCall (SpD K W_is_name) [] E0 (tCons (tOp (rIx K) (tOp (rIx K) (tVar 0) (tVar 1)) (tVar 2)) tNil))))
theorem rd_has_name (ss : List Sl) (m : Sto) (P : PV) (h : W_has_name ss m P) : Wp K (t_has_name K Pg w) (rho ["floor", "row", "column"] ss) m { nx := fun _ m' => P (.d .none) m', rt := P } := by
  obtain ⟨fl, i, j, rfl, hS, hi, p⟩ := h
  have h0 : fl[0]? = some (fl.getD 0 []) := by cases fl with
    | nil => simp at hi
    | cons a b => rfl
  have hI : fl[i]? = some (fl.getD i []) := by rw [List.getD_eq_getElem?_getD, List.getElem?_eq_getElem hi]; rfl
  revert p
  unfold hasN
  generalize fl.getD 0 [] = r0 at h0 ⊢
  generalize hr : fl.getD i [] = r at hI ⊢
  intro p
  have hmr : r ∈ fl := List.mem_of_getElem? hI
  refine wp_seq <| wp_if <| et_or <| et_test <| ev_op <| ev_var rfl <| ev_int <| rl_ge ⟨_, rfl, ite_b (fun h1 => ?_) (fun h1 => ?_)⟩
  · refine ite_b (fun _ => wp_ret <| ev_bl ?_) (fun h => nomatch h)
    have : decide (i < 12) = false := by simp at h1 ⊢; omega
    rw [this] at p
    exact p
  have h12 : decide (i < 12) = true := by simp at h1 ⊢; omega
  refine et_test <| ev_op <| ev_var rfl <| ev_cb <| ea_cons <| ev_int <| ea_cons <| ev_cb <| ea_cons <| ev_op <| ev_var rfl <| ev_int <| rx_tup (atI_map (k := 0) rfl h0) <| ea_nil <| rc_lenT <|
    ea_cons <| ev_cb <| ea_cons <| ev_op <| ev_var rfl <| ev_var rfl <| rx_tup (atI_map rfl hI) <| ea_nil <| rc_lenT <| ea_nil <| rc_min3 <| rl_ge ⟨_, rfl, ite_b (fun h2 => wp_ret <| ev_bl ?_) (fun h2 => wp_next ?_)⟩
  · have : (decide (j < 12) && (decide (j < r0.length) && (decide (j < r.length) && okL (r.getD j [])))) = false := by
      rw [Bool.eq_false_iff]
      intro hh
      simp at hh h2
      obtain ⟨a, b, c, _⟩ := hh
      split at h2 <;> split at h2 <;> omega
    rw [this, Bool.and_false] at p
    exact p
  · simp at h2
    have hh : j < 12 ∧ j < r0.length ∧ j < r.length := by
      split at h2 <;> split at h2 <;> omega
    obtain ⟨a, b, c⟩ := hh
    have hJ : r[j]? = some (r.getD j []) := by rw [List.getD_eq_getElem?_getD, List.getElem?_eq_getElem c]; rfl
    rw [h12, decide_eq_true a, decide_eq_true b, decide_eq_true c] at p
    refine wp_ret <| ev_call0 <| ea_cons <| ev_op <| ev_op <| ev_var rfl <| ev_var rfl <| rx_tup (atI_map rfl hI) <| ev_var rfl <| rx_tup (atI_map rfl hJ) <| ea_nil ⟨_, rfl, (hS r hmr _ (List.mem_of_getElem? hJ)).1, ?_⟩
    exact p
end
end Dv

namespace Dv
open PySem L2 PyProof.Rows
/-- a floor as the document asks for -/
structure VF (fl : List (List (List Nat))) : Prop where
  pos : fl ≠ []
  most : fl.length ≤ 12
  cols : ∃ c, 0 < c ∧ c ≤ 12 ∧ ∀ r ∈ fl, r.length = c
  ok : ∀ r ∈ fl, ∀ l ∈ r, okL l = true
  nd : fl.flatten.Nodup
theorem okL_tx {l : List Nat} (h : okL l = true) : Tx l := by
  cases l with
  | nil => cases h
  | cons c r =>
    simp [okL, isUp, isLo] at h
    obtain ⟨h1, h2, h3⟩ := h
    refine ⟨by simp; omega, fun d hd => ?_⟩
    rcases List.mem_cons.mp hd with e | e
    · subst e; omega
    · have := h3 d e; omega
theorem VF.short {fl : List (List (List Nat))} (v : VF fl) : Short fl := by
  obtain ⟨c, c0, c1, hc⟩ := v.cols
  have := v.most
  exact ⟨by omega, fun r hr => ⟨by rw [hc r hr]; omega, fun l hl => okL_tx (v.ok r hr l hl)⟩⟩
theorem take_flat {α : Type} {fl : List (List α)} {i : Nat} {r : List α} (h : fl[i]? = some r) : (fl.take (i + 1)).flatten = (fl.take i).flatten ++ r := by
  rw [List.take_add_one, h]
  simp
theorem nd_split {α : Type} {fl : List (List α)} (nd : fl.flatten.Nodup) {i j : Nat} {r : List α} {l : α} (h : fl[i]? = some r) (hl : r[j]? = some l) : l ∉ (fl.take i).flatten ∧ l ∉ r.take j := by
  have e : fl.flatten = (fl.take i).flatten ++ (r ++ (fl.drop (i + 1)).flatten) := by
    have h1 : fl = fl.take i ++ r :: fl.drop (i + 1) := by
      have hi := (List.getElem?_eq_some_iff.mp h).1
      have hr : fl[i] = r := (List.getElem?_eq_some_iff.mp h).2
      rw [← hr, ← List.drop_eq_getElem_cons hi, List.take_append_drop]
    have h2 := congrArg List.flatten h1
    rw [h2]
    simp
  have e2 : r = r.take j ++ l :: r.drop (j + 1) := by
    have hj := (List.getElem?_eq_some_iff.mp hl).1
    have hr : r[j] = l := (List.getElem?_eq_some_iff.mp hl).2
    rw [← hr, ← List.drop_eq_getElem_cons hj, List.take_append_drop]
  rw [e, List.nodup_append] at nd
  obtain ⟨n1, n2, n3⟩ := nd
  have hm : l ∈ r := List.mem_of_getElem? hl
  refine ⟨fun hh => n3 l hh l (List.mem_append_left _ hm) rfl, fun hh => ?_⟩
  rw [List.nodup_append] at n2
  have n4 := n2.1
  rw [e2, List.nodup_append] at n4
  exact n4.2.2 l hh l List.mem_cons_self rfl
section
variable {K : PySem.W.Frag} {Pg : Program} {w : World}
theorem wp_post {ρ : Rho} {m : Sto} {ts : TS} {k : Ko} (h : Wp K ts ρ m { k with nx := fun ρ' m' => ∃ a u, m' a = some u ∧ k.nx ρ' (del m' a) }) : Wp K ts ρ m k := fun D σ F H E S q1 q2 q3 q4 =>
  h D σ F H E S (fun ρ' m' σ' F' H' ⟨a, u, e, p⟩ s1 S1 E1 => q1 ρ' _ σ' _ H' p (s1.trans (step_del S1 e)) (sto_del S1 e) (envOk_step (step_del S1 e) E1)) q2 q3 q4
/-! ### check_floor of what is a floor -/
def W_check_floor : WT := fun ss m P => ∃ fl : List (List (List Nat)), ss = [.d (flD fl)] ∧ VF fl ∧ P (.d .none) m
def t_check_floor (K : PySem.W.Frag) (Pg : Program) (w : World) : TS :=
  (tSeq (tIfS (tOr (tNot (tTr K (tVar 0))) (tNot (tTr K (tOp (rIx K) (tVar 0) (tC (.int 0))))))
    tNever
    tNext)
    (tSeq (tAsg (tCB (rSet0K Pg w) tNil) (gName 1))
    (tFor (iEnumU K (tCons (tVar 0) tNil)) (gTup K 2 (gCons (gName 2) (gCons (gName 3) gNil)))
    (tFor (iRng1 (tCons (tCB (rMaxC) (tCons (tCB (rLenC K) (tCons (tVar 3) tNil)) (tCons (tCB (rLenC K) (tCons (tOp (rIx K) (tVar 0) (tC (.int 0))) tNil)) tNil))) tNil)) (gName 4)
    (tSeq (tIfS (tOr (tNot (tTr K (tCall (SpD K W_has_name) [] E0 (tCons (tVar 0) (tCons (tVar 2) (tCons (tVar 4) tNil)))))) (tTest (tOp (rInU K Pg w) (tOp (rIx K) (tVar 3) (tVar 4)) (tVar 1))))
    tNever
    tNext)
    (tDrop (tSAddK Pg w (tVar 1) (tCons (tOp (rIx K) (tVar 3) (tVar 4)) tNil))))))))
theorem rd_check_floor (ss : List Sl) (m : Sto) (P : PV) (h : W_check_floor ss m P) : Wp K (t_check_floor K Pg w) (rho ["floor", "seen", "row", "names", "column"] ss) m { nx := fun _ m' => P (.d .none) m', rt := P } := by
  obtain ⟨fl, rfl, v, p⟩ := h
  obtain ⟨c, c0, c1, hc⟩ := v.cols
  have hlen := v.most
  obtain ⟨r0, h0⟩ : ∃ r0, fl[0]? = some r0 := by cases fl with
    | nil => exact absurd rfl v.pos
    | cons a b => exact ⟨a, rfl⟩
  have hr0 : r0.length = c := hc r0 (List.mem_of_getElem? h0)
  have n1 : (fl.map rwD).isEmpty = false := by cases fl with
    | nil => exact absurd rfl v.pos
    | cons a b => rfl
  have n2 : (r0.map nmD).isEmpty = false := by cases r0 with
    | nil => simp at hr0; omega
    | cons a b => rfl
  refine wp_seq <| wp_if <| et_or <| et_not <| et_tr <| ev_var rfl ⟨_, tr_tup, ite_b (fun h1 => ?_) (fun h1 => et_not <| et_tr <| ev_op <| ev_var rfl <| ev_int <| rx_tup (atI_map (k := 0) rfl h0) ⟨_, tr_tup, ite_b (fun h2 => ?_) (fun h2 => wp_next ?_)⟩)⟩
  · rw [n1] at h1; cases h1
  · rw [n2] at h2; cases h2
  refine wp_seq <| wp_set <| ev_cb <| ea_nil <| rc_set0 fun a ha => ?_
  refine wp_post <| wp_enum (toD := rwD) <| ea_cons <| ev_var rfl <| ea_nil ⟨fl, fun i ρ' m' => ∃ s2 s3 s4, ρ' = [some (.d (flD fl)), some (.m a), s2, s3, s4] ∧ m' = put m a (setM Pg w a ((fl.take i).flatten.map Sx)), rfl, ⟨_, _, _, rfl, rfl⟩, ?_, ?_⟩
  · rintro i r ρ' m' hr ⟨s2, s3, s4, rfl, rfl⟩
    have hmr : r ∈ fl := List.mem_of_getElem? hr
    have hil := (List.getElem?_eq_some_iff.mp hr).1
    have hrl := hc r hmr
    refine wp_rng <| ea_cons <| ev_cb <| ea_cons <| ev_cb <| ea_cons <| ev_var rfl <| ea_nil <| rc_lenT <| ea_cons <| ev_cb <| ea_cons <| ev_op <| ev_var rfl <| ev_int <| rx_tup (atI_map (k := 0) rfl h0) <| ea_nil <| rc_lenT <| ea_nil <| rc_max2 <|
      ea_nil ⟨c, fun j ρ' m' => ∃ s4, ρ' = [some (.d (flD fl)), some (.m a), some (.d (.int (i : Nat))), some (.d (rwD r)), s4] ∧ m' = put m a (setM Pg w a (((fl.take i).flatten ++ r.take j).map Sx)), ?_, by omega, ⟨_, rfl, by simp⟩, ?_, ?_⟩
    · rw [List.length_map, List.length_map, hrl, hr0]
      simp
    · rintro j ρ' m' hj ⟨s4, rfl, rfl⟩
      obtain ⟨l, hl⟩ : ∃ l, r[j]? = some l := ⟨_, List.getElem?_eq_getElem (by omega)⟩
      have hok := v.ok r hmr l (List.mem_of_getElem? hl)
      obtain ⟨d1, d2⟩ := nd_split v.nd hr hl
      have hN : hasN fl i j = true := by
        have e0 : fl.getD 0 [] = r0 := by rw [List.getD_eq_getElem?_getD, h0]; rfl
        have ei : fl.getD i [] = r := by rw [List.getD_eq_getElem?_getD, hr]; rfl
        have ej : r.getD j [] = l := by rw [List.getD_eq_getElem?_getD, hl]; rfl
        unfold hasN
        rw [e0, ei, ej, hok]
        simp
        omega
      have hset : decide (Sx l ∈ ((fl.take i).flatten ++ r.take j).map Sx) = false := by
        rw [decide_eq_false]
        intro hh
        obtain ⟨x, hx, e⟩ := List.mem_map.mp hh
        rw [sx_inj e] at hx
        exact (List.mem_append.mp hx).elim d1 d2
      refine wp_seq <| wp_if <| et_or <| et_not <| et_tr <| ev_call0 <| ea_cons <| ev_var rfl <| ea_cons <| ev_var rfl <| ea_cons <| ev_var rfl <| ea_nil ⟨fl, i, j, rfl, fun r hr l hl => (v.short.2 r hr).2 l hl, hil, _, tr_bool, ite_b (fun h1 => ?_) (fun h1 => ?_)⟩
      · rw [hN] at h1; cases h1
      refine et_test <| ev_op <| ev_op <| ev_var rfl <| ev_var rfl <| rx_tup (atI_map rfl hl) <| ev_var rfl <| ri_set put_same ⟨_, rfl, ite_b (fun h2 => ?_) (fun h2 => wp_next ?_)⟩
      · rw [hset] at h2; cases h2
      refine wp_drop <| ev_sadd <| ev_var rfl ⟨a, _, rfl, put_same, ea_cons <| ev_op <| ev_var rfl <| ev_var rfl <| rx_tup (atI_map rfl hl) <| ea_nil ⟨Sx l, rfl, put_same, ?_, _, rfl, ?_⟩⟩
      · rw [List.length_map, List.length_append]
        have a1 : (fl.take i).flatten.length ≤ (fl.take i).length * 12 := by
          have : ∀ (g : List (List (List Nat))), (∀ r ∈ g, r ∈ fl) → g.flatten.length ≤ g.length * 12 := by
            intro g
            induction g with
            | nil => intro _; simp
            | cons x g ih =>
              intro hg
              have := ih fun r hr => hg r (List.mem_cons_of_mem _ hr)
              have hx := hc x (hg x List.mem_cons_self)
              simp
              simp at this
              omega
          exact this _ fun r hr => List.mem_of_mem_take hr
        have a2 : (fl.take i).length ≤ 12 := by rw [List.length_take]; omega
        have a3 : (r.take j).length ≤ 12 := by rw [List.length_take]; omega
        omega
      · rw [put_put, if_neg (by simpa using of_decide_eq_false hset), List.take_add_one, hl]
        simp
    · rintro ρ' m' ⟨s4, rfl, rfl⟩
      refine ⟨_, _, _, rfl, ?_⟩
      rw [take_flat hr, List.take_of_length_le (l := r) (by omega)]
  · rintro ρ' m' ⟨s2, s3, s4, rfl, rfl⟩
    refine ⟨a, _, put_same, ?_⟩
    rw [del_put ha]
    exact p
end
end Dv

namespace Dv
open PySem L2 PyProof.Rows
section
variable {K : PySem.W.Frag} {Pg : Program} {w : World}
/-! ### locate of a name that is there -/
def W_locate : WT := fun ss m P => ∃ (fl : List (List (List Nat))) (i j : Nat) (r : List (List Nat)) (l : List Nat), ss = [.d (flD fl), .d (nmD l)] ∧ Short fl ∧ fl.flatten.Nodup ∧ fl[i]? = some r ∧ r[j]? = some l ∧ P (.d (.tuple [.int (i : Nat), .int (j : Nat)])) m
def t_locate (K : PySem.W.Frag) (Pg : Program) (w : World) : TS :=
  (tSeq (tFor (iEnumU K (tCons (tVar 0) tNil)) (gTup K 2 (gCons (gName 2) (gCons (gName 3) gNil)))
    (tIfS (tTest (tOp (rInU K Pg w) (tVar 1) (tVar 3)))
    (tRet (tTupZ (tCons (tVar 2) (tCons (tTM K (rTIx K) (tVar 3) (tVar 1)) tNil))))
    tNext))
    tNever)
theorem rd_locate (ss : List Sl) (m : Sto) (P : PV) (h : W_locate ss m P) : Wp K (t_locate K Pg w) (rho ["floor", "name", "row", "names"] ss) m { nx := fun _ m' => P (.d .none) m', rt := P } := by
  obtain ⟨fl, i, j, r, l, rfl, hS, nd, hi, hj, p⟩ := h
  have hil := (List.getElem?_eq_some_iff.mp hi).1
  have hml : l ∈ r := List.mem_of_getElem? hj
  have hTx : Tx l := (hS.2 r (List.mem_of_getElem? hi)).2 l hml
  refine wp_seq <| wp_enum (toD := rwD) <| ea_cons <| ev_var rfl <| ea_nil ⟨fl, fun k ρ' m' => ∃ s2 s3, ρ' = [some (.d (flD fl)), some (.d (nmD l)), s2, s3] ∧ m' = m ∧ k ≤ i, rfl, ⟨_, _, rfl, rfl, Nat.zero_le _⟩, ?_, ?_⟩
  · rintro k rk ρ' m' hk ⟨s2, s3, rfl, rfl, hki⟩
    have hmk : rk ∈ fl := List.mem_of_getElem? hk
    refine wp_if <| et_test <| ev_op <| ev_var rfl <| ev_var rfl <| ri_tup (shaped_str hTx) (shaped_names fun l hl => (hS.2 rk hmk).2 l hl).1 ⟨_, rfl, ite_b (fun h1 => ?_) (fun h1 => ?_)⟩
    · rw [anyEq_names] at h1
      have hm : l ∈ rk := of_decide_eq_true h1
      have hki' : k = i := by
        rcases Nat.lt_or_ge k i with q | q
        · exfalso
          have := (nd_split nd hi hj).1
          refine this ?_
          rw [List.mem_flatten]
          refine ⟨rk, ?_, hm⟩
          rw [List.mem_take_iff_getElem]
          have hkl := (List.getElem?_eq_some_iff.mp hk).1
          exact ⟨k, by omega, (List.getElem?_eq_some_iff.mp hk).2⟩
        · omega
      subst hki'
      rw [hi] at hk
      cases hk
      have e : (r.map nmD) = (r.map Sx).map PyData.str := by rw [List.map_map]; rfl
      refine wp_ret <| ev_tup <| ea_cons <| ev_var rfl <| ea_cons <| ev_tm <| ev_var rfl ⟨_, rfl, ev_var rfl ?_⟩
      rw [e]
      refine rm_tindex (j := j) (by rw [List.getElem?_map, hj]; rfl) (fun a ha q => ?_) <| ea_nil ⟨[.int (k : Nat), .int (j : Nat)], rfl, by simp, p⟩
      rw [List.getElem?_map] at q
      cases hq : r[a]? with
      | none => rw [hq] at q; cases q
      | some x =>
        rw [hq] at q
        have : x = l := sx_inj (Option.some.inj q)
        subst this
        refine (nd_split nd hi hj).2 ?_
        rw [List.mem_take_iff_getElem]
        have hal := (List.getElem?_eq_some_iff.mp hq).1
        exact ⟨a, by have := (List.getElem?_eq_some_iff.mp hj).1; omega, (List.getElem?_eq_some_iff.mp hq).2⟩
    · refine wp_next ⟨_, _, rfl, rfl, ?_⟩
      rw [anyEq_names] at h1
      have hm : l ∉ rk := of_decide_eq_false h1
      rcases Nat.lt_or_ge k i with q | q
      · omega
      · exfalso
        have : k = i := by omega
        subst this
        rw [hi] at hk
        cases hk
        exact hm hml
  · rintro ρ' m' ⟨s2, s3, rfl, rfl, q⟩
    exact wp_never (by omega)
/-! ### leaders -/
def upN : List Nat → Bool
  | [] => false
  | c :: _ => isUp c
def named (fl : List (List (List Nat))) : Prop := ∀ r ∈ fl, ∀ l ∈ r, l ≠ [] ∧ Tx l
def leads (fl : List (List (List Nat))) : List Str := (fl.flatten.filter upN).map Sx
theorem nms_str (g : List (List Nat)) : g.map nmD = (g.map Sx).map PyData.str := by rw [List.map_map]; rfl
def W_leaders_of : WT := fun ss m P => ∃ fl : List (List (List Nat)), ss = [.d (flD fl)] ∧ named fl ∧ Short fl ∧ ∀ ys : List Str, ys.Perm (leads fl) → sortedS ys = true → P (.d (.tuple (ys.map .str))) m
def t_leaders_of (K : PySem.W.Frag) (Pg : Program) (w : World) : TS :=
  (tRet (tCB (rTupleC K) (tCons (tCB (rSortS K) (tCons (tLc2 (iSeqU K (tVar 0)) (gName 1) tYes (iSeqU K (tVar 1)) (gName 2) (tTr K (tCall (SpD K W_is_leader) [] E0 (tCons (tVar 2) tNil))) (tVar 2) [1, 2] [2]) tNil)) tNil)))
theorem flat_len {fl : List (List (List Nat))} (h : Short fl) : ∀ g : List (List (List Nat)), (∀ r ∈ g, r ∈ fl) → g.flatten.length ≤ g.length * 100 := by
  intro g
  induction g with
  | nil => intro _; simp
  | cons x g ih =>
    intro hg
    have := ih fun r hr => hg r (List.mem_cons_of_mem _ hr)
    have hx := (h.2 x (hg x List.mem_cons_self)).1
    simp
    simp at this
    omega
theorem part_len {fl : List (List (List Nat))} (h : Short fl) {i j : Nat} {r : List (List Nat)} (hr : r ∈ fl) : (((fl.take i).flatten ++ r.take j).filter upN).length < 100000 := by
  have a1 := flat_len h (fl.take i) fun r hr => List.mem_of_mem_take hr
  have a2 : (fl.take i).length ≤ 100 := by rw [List.length_take]; have := h.1; omega
  have a3 : (r.take j).length ≤ 100 := by rw [List.length_take]; have := (h.2 r hr).1; omega
  have a4 := List.length_filter_le upN ((fl.take i).flatten ++ r.take j)
  rw [List.length_append] at a4
  omega
theorem rd_leaders_of (ss : List Sl) (m : Sto) (P : PV) (h : W_leaders_of ss m P) : Wp K (t_leaders_of K Pg w) (rho ["floor", "names", "name"] ss) m { nx := fun _ m' => P (.d .none) m', rt := P } := by
  obtain ⟨fl, rfl, hN, hS, p⟩ := h
  refine wp_ret <| ev_cb <| ea_cons <| ev_cb <| ea_cons <| ev_lc2 <| ei_tup <| ev_var rfl ⟨_, rfl, fun D hD => ⟨fun i m' => m' = put m D (.lst (((fl.take i).flatten.filter upN).map nmD)), rfl, fun _ _ _ => trivial, ?_, ?_⟩⟩
  · rintro i x m' hx rfl
    rw [List.getElem?_map, List.getElem?_map] at hx
    cases hr : fl[i]? with
    | none => rw [hr] at hx; cases hx
    | some r =>
    rw [hr] at hx
    cases hx
    have hmr : r ∈ fl := List.mem_of_getElem? hr
    refine ⟨[1], by simp, gt_name <| et_yes ?_⟩
    rw [if_pos rfl]
    refine ei_tup <| ev_var rfl ⟨_, rfl, fun j m' => m' = put m D (.lst ((((fl.take i).flatten ++ r.take j).filter upN).map nmD)), by simp, fun _ _ _ => trivial, ?_, ?_⟩
    · rintro j y m' hy rfl
      rw [List.getElem?_map, List.getElem?_map] at hy
      cases hl : r[j]? with
      | none => rw [hl] at hy; cases hy
      | some l =>
      rw [hl] at hy
      cases hy
      obtain ⟨n1, n2⟩ := hN r hmr l (List.mem_of_getElem? hl)
      cases l with
      | nil => exact absurd rfl n1
      | cons c t =>
      have key : (((fl.take i).flatten ++ r.take (j + 1)).filter upN).map nmD = if isUp c = true then (((fl.take i).flatten ++ r.take j).filter upN).map nmD ++ [nmD (c :: t)] else (((fl.take i).flatten ++ r.take j).filter upN).map nmD := by
        rw [List.take_add_one, hl]
        cases hu : isUp c <;> simp [upN, hu]
      refine ⟨[2], by simp, gt_name <| et_tr <| ev_call0 <| ea_cons <| ev_var rfl <| ea_nil ⟨c, t, rfl, by have := n2.1; simp at this; omega, _, tr_bool, ite_b (fun h1 => ?_) (fun h1 => ?_)⟩⟩
      · rw [if_pos h1] at key
        refine ev_var rfl ⟨_, _, rfl, put_same, ?_, ?_⟩
        · rw [List.length_map]; exact part_len hS hmr
        · show put (put m D _) D _ = put m D (.lst ((((fl.take i).flatten ++ r.take (j + 1)).filter upN).map nmD))
          rw [put_put, key]
      · rw [if_neg (by rw [h1]; exact Bool.false_ne_true)] at key
        show put m D _ = put m D (.lst ((((fl.take i).flatten ++ r.take (j + 1)).filter upN).map nmD))
        rw [key]
    · rintro m' rfl
      show _ = _
      rw [take_flat hr, List.length_map, List.length_map, List.take_of_length_le (Nat.le_refl _)]
  · rintro m' rfl
    refine ⟨_, put_same, ea_nil ?_⟩
    rw [List.length_map, List.length_map, List.take_of_length_le (Nat.le_refl _), del_put hD, nms_str]
    exact rc_sortS strs_lst fun ys h1 h2 => ea_nil <| rc_tupleL <| p ys h1 h2
def W_leaders : WT := fun ss m P => ∃ fl : List (List (List Nat)), ss = [.d (flD fl)] ∧ named fl ∧ Short fl ∧ ∀ ys : List Str, ys.Perm (leads fl) → sortedS ys = true → P (.d (.list (ys.map .str))) m
def t_leaders (K : PySem.W.Frag) (Pg : Program) (w : World) : TS :=
  (tSeq (tAsg (tLst tNil) (gName 1))
    (tSeq (tFor (iSeqU K (tVar 0)) (gName 2)
    (tAsg (tOp (rAddU K) (tVar 1) (tLc (iSeqU K (tVar 2)) (gName 3) (tTest (tOp (rInU K Pg w) (tOp (rIx K) (tVar 3) (tC (.int 0))) (tC (.str "ABCDEFGHIJKLMNOPQRSTUVWXYZ")))) (tVar 3) [3])) (gName 1)))
    (tRet (tCB (rSortS K) (tCons (tVar 1) tNil)))))
theorem rd_leaders (ss : List Sl) (m : Sto) (P : PV) (h : W_leaders ss m P) : Wp K (t_leaders K Pg w) (rho ["floor", "found", "cells", "name"] ss) m { nx := fun _ m' => P (.d .none) m', rt := P } := by
  obtain ⟨fl, rfl, hN, hS, p⟩ := h
  refine wp_seq <| wp_set <| ev_lst <| ea_nil ⟨[], rfl, by decide, wp_seq <| wp_forL (toD := rwD) <| ei_tup <| ev_var rfl ⟨_, rfl, fl, fun i ρ' m' => ∃ s2 s3, ρ' = [some (.d (flD fl)), some (.d (.list (((fl.take i).flatten.filter upN).map nmD))), s2, s3] ∧ m' = m, rfl, ⟨_, _, rfl, rfl⟩, fun _ _ _ _ => trivial, ?_, ?_⟩⟩
  · rintro i r ρ' m' hr ⟨s2, s3, rfl, rfl⟩
    have hmr : r ∈ fl := List.mem_of_getElem? hr
    refine wp_set <| ev_op <| ev_var rfl <| ev_lcF (toD := nmD) List.mem_cons_self <| ei_tup <| ev_var rfl ⟨_, rfl, r, upN, nmD, rfl, trivial, ?_, fun l hl => ⟨?_, fun _ => ev_var rfl ⟨rfl, rfl⟩⟩, ?_⟩
    · have := (hS.2 r hmr).1; omega
    · obtain ⟨n1, n2⟩ := hN r hmr l hl
      cases l with
      | nil => exact absurd rfl n1
      | cons c t =>
      refine et_test <| ev_op <| ev_op <| ev_var rfl <| ev_int <| rx_str (by rw [sx_len]; have := n2.1; simp at this ⊢; omega) atI_zero <| ev_str <| ri_str ⟨_, rfl, ?_, rfl⟩
      rw [mem_up]
      rfl
    · refine ra_lst ?_ ⟨some (.d (rwD r)), s3, ?_, rfl⟩
      · have := part_len hS hmr (i := i) (j := r.length)
        rw [List.take_of_length_le (Nat.le_refl _), List.filter_append, List.length_append] at this
        rw [List.length_map, List.length_map]
        omega
      · rw [take_flat hr, List.filter_append, List.map_append]
        rfl
  · rintro ρ' m' ⟨s2, s3, rfl, rfl⟩
    refine wp_ret <| ev_cb <| ea_cons <| ev_var rfl <| ea_nil ?_
    rw [List.take_of_length_le (Nat.le_refl _), nms_str]
    exact rc_sortS strs_lst fun ys h1 h2 => p ys h1 h2
end
end Dv

namespace Dv
open PySem L2 PyProof.Rows
/-- a source of draws: what is left of a number, a seed, how many draws at most -/
def SrcL (u : List PyData) (n : Nat) : Prop := ∃ x y c : Int, u = [.int x, .int y, .int c] ∧ 0 ≤ y ∧ y < 2 ^ 140 ∧ 0 ≤ c ∧ c ≤ n
theorem SrcL.mono {u : List PyData} {n k : Nat} (h : SrcL u n) (hk : n ≤ k) : SrcL u k := let ⟨x, y, c, e, a, b, d, f⟩ := h; ⟨x, y, c, e, a, b, d, by omega⟩
theorem pw35 : (10 : Int) ^ (35 : Int).toNat + 69 = 100000000000000000000000000000000069 := by decide +kernel
theorem pw32 : (10 : Int) ^ (32 : Int).toNat + 49 = 100000000000000000000000000000049 := by decide +kernel
theorem pw37 : (10 : Int) ^ (37 : Int).toNat + 43 = 10000000000000000000000000000000000043 := by decide +kernel
section
variable {K : PySem.W.Frag} {Pg : Program} {w : World}
theorem pow10 {e : Int} (h0 : 0 ≤ e) (h : e ≤ 1000) : CPowW 10 e := powW (b := 4) (by decide) (by decide) h0 h (by decide)
def W_source : WT := fun ss m P => ∃ (ns : List Int) (i : Nat), ss = [.f (ns.map .int), .d (.int (i : Nat))] ∧ ns.length ≤ 63 ∧ i ≤ 1000 ∧ ∀ a u, m a = none → SrcL u 0 → P (.m a) (put m a (.lst u))
def t_source (K : PySem.W.Frag) (Pg : Program) (w : World) : TS :=
  (tSeq (tAsg (tC (.int 0)) (gName 2))
    (tSeq (tIfS (tTest (tOp (rI0 fun i j => .bl (decide (i < j))) (tVar 1) (tCB (rLenC K) (tCons (tVar 0) tNil))))
    (tAsg (tOp (rIx K) (tVar 0) (tVar 1)) (gName 2))
    tNext)
    (tRet (tLst (tCons (tCB (rMaxC) (tCons (tC (.int 0)) (tCons (tOp (rI0 fun i j => .int (i - j)) (tVar 2) (tOp (rI CPowW fun i j => .int (i ^ j.toNat)) (tC (.int 10)) (tC (.int 18)))) tNil))) (tCons (tOp (rAddU K) (tOp (rI (fun _ j => 0 < j) fun i j => .int (i % j)) (tVar 2) (tOp (rAddU K) (tOp (rI CPowW fun i j => .int (i ^ j.toNat)) (tC (.int 10)) (tC (.int 37))) (tC (.int 43)))) (tOp (rMulU) (tC (.int 1299709)) (tVar 1))) (tCons (tC (.int 0)) tNil)))))))
theorem rd_source (ss : List Sl) (m : Sto) (P : PV) (h : W_source ss m P) : Wp K (t_source K Pg w) (rho ["script", "index", "cell"] ss) m { nx := fun _ m' => P (.d .none) m', rt := P } := by
  obtain ⟨ns, i, rfl, hl, hi, p⟩ := h
  have fin : ∀ cell : Int, Wp K (tRet (tLst (tCons (tCB (rMaxC) (tCons (tC (.int 0)) (tCons (tOp (rI0 fun i j => .int (i - j)) (tVar 2) (tOp (rI CPowW fun i j => .int (i ^ j.toNat)) (tC (.int 10)) (tC (.int 18)))) tNil))) (tCons (tOp (rAddU K) (tOp (rI (fun _ j => 0 < j) fun i j => .int (i % j)) (tVar 2) (tOp (rAddU K) (tOp (rI CPowW fun i j => .int (i ^ j.toNat)) (tC (.int 10)) (tC (.int 37))) (tC (.int 43)))) (tOp (rMulU) (tC (.int 1299709)) (tVar 1))) (tCons (tC (.int 0)) tNil)))))
      [some (.f (ns.map .int)), some (.d (.int (i : Nat))), some (.d (.int cell))] m { nx := fun _ m' => P (.d .none) m', rt := P } := fun cell => by
    refine wp_ret <| ev_lstM <| ea_cons <| ev_cb <| ea_cons <| ev_int <| ea_cons <| ev_op <| ev_var rfl <| ev_op <| ev_int <| ev_int <| rp_pow (pow10 (by decide) (by decide)) <| rs_int <| ea_nil <| rc_max2 <|
      ea_cons <| ev_op <| ev_op <| ev_var rfl <| ev_op <| ev_op <| ev_int <| ev_int <| rp_pow (pow10 (by decide) (by decide)) <| ev_int <| ra_int <| rp_mod ?_ <| ev_op <| ev_int <| ev_var rfl <| rm_int (wide_mul (a := 30) (b := 30) ?_ ?_ (by decide) (by decide) (by decide)) <| ra_int <|
      ea_cons <| ev_int <| ea_nil ⟨[_, _, _], rfl, by simp, fun a ha => p a _ ha ⟨_, _, _, rfl, ?_, ?_, by decide, by decide⟩⟩
    · rw [pw37]; decide
    · decide
    · omega
    · rw [pw37]
      have := Int.emod_nonneg cell (show (10000000000000000000000000000000000043 : Int) ≠ 0 by decide)
      omega
    · rw [pw37]
      have := Int.emod_lt_of_pos cell (show (0 : Int) < 10000000000000000000000000000000000043 by decide)
      omega
  refine wp_seq <| wp_set <| ev_int <| wp_seq <| wp_if <| et_test <| ev_op <| ev_var rfl <| ev_cb <| ea_cons <| ev_var rfl <| ea_nil <| rc_lenF <| rl_lt ⟨_, rfl, ite_b (fun h1 => ?_) (fun h1 => wp_next (fin 0))⟩
  simp at h1
  have hx : ns[i]? = some (ns[i]'h1) := List.getElem?_eq_getElem h1
  refine wp_set <| ev_op <| ev_var rfl <| ev_var rfl <| rx_lstF (atI_map rfl hx) (fin _)
def W_draw : WT := fun ss m P => ∃ (a : Addr) (b : Int) (u : List PyData) (n : Nat), ss = [.m a, .d (.int b)] ∧ 0 < b ∧ b < 2 ^ 100 ∧ m a = some (.lst u) ∧ SrcL u n ∧ n ≤ 1000000 ∧ ∀ (r : Nat) u', (r : Int) < b → SrcL u' (n + 1) → P (.d (.int (r : Nat))) (put m a (.lst u'))
def t_draw (K : PySem.W.Frag) (Pg : Program) (w : World) : TS :=
  (tSeq (tIfS (tTest (tOp (rI0 fun i j => .bl (decide (j < i))) (tOp (rIx K) (tVar 0) (tC (.int 0))) (tC (.int 0))))
    (tSeq (tAsg (tOp (rI (fun _ j => 0 < j) fun i j => .int (i % j)) (tOp (rIx K) (tVar 0) (tC (.int 0))) (tVar 1)) (gName 2))
    (tSeq (tAsg (tOp (rI CDivW fun i j => .int (i / j)) (tOp (rIx K) (tVar 0) (tC (.int 0))) (tVar 1)) (gSub (tVar 0) (tC (.int 0)) rSetL))
    (tRet (tVar 2))))
    tNext)
    (tSeq (tAsg (tOp (rAddU K) (tOp (rIx K) (tVar 0) (tC (.int 2))) (tC (.int 1))) (gSub (tVar 0) (tC (.int 2)) rSetL))
    (tSeq (tAsg (tOp (rI (fun _ j => 0 < j) fun i j => .int (i % j)) (tOp (rI CPowW fun i j => .int (i ^ j.toNat)) (tOp (rAddU K) (tOp (rIx K) (tVar 0) (tC (.int 1))) (tOp (rMulU) (tC (.int 15485863)) (tOp (rIx K) (tVar 0) (tC (.int 2))))) (tC (.int 3))) (tOp (rAddU K) (tOp (rI CPowW fun i j => .int (i ^ j.toNat)) (tC (.int 10)) (tC (.int 35))) (tC (.int 69)))) (gName 3))
    (tSeq (tAsg (tOp (rI (fun _ j => 0 < j) fun i j => .int (i % j)) (tOp (rI CPowW fun i j => .int (i ^ j.toNat)) (tOp (rAddU K) (tVar 3) (tOp (rMulU) (tC (.int 32452843)) (tOp (rIx K) (tVar 0) (tC (.int 2))))) (tC (.int 3))) (tOp (rAddU K) (tOp (rI CPowW fun i j => .int (i ^ j.toNat)) (tC (.int 10)) (tC (.int 32))) (tC (.int 49)))) (gName 3))
    (tRet (tOp (rI (fun _ j => 0 < j) fun i j => .int (i % j)) (tOp (rI CDivW fun i j => .int (i / j)) (tVar 3) (tC (.int 8191))) (tVar 1)))))))
theorem mod_nat (x b : Int) (h : 0 < b) : ∃ r : Nat, x % b = (r : Int) ∧ (r : Int) < b := by
  have h1 := Int.emod_nonneg x (show b ≠ 0 by omega)
  have h2 := Int.emod_lt_of_pos x h
  exact ⟨(x % b).toNat, by omega, by omega⟩
theorem rd_draw (ss : List Sl) (m : Sto) (P : PV) (h : W_draw ss m P) : Wp K (t_draw K Pg w) (rho ["source", "bound", "digit", "mixed"] ss) m { nx := fun _ m' => P (.d .none) m', rt := P } := by
  obtain ⟨a, b, u, n, rfl, hb, hb2, hm, ⟨x, y, c, rfl, hy, hy2, hc, hcn⟩, hn, p⟩ := h
  have i0 : ∀ x y c : Int, atI [PyData.int x, .int y, .int c] 0 = some (.int x) := fun _ _ _ => rfl
  have i1 : ∀ x y c : Int, atI [PyData.int x, .int y, .int c] 1 = some (.int y) := fun _ _ _ => rfl
  have i2 : ∀ x y c : Int, atI [PyData.int x, .int y, .int c] 2 = some (.int c) := fun _ _ _ => rfl
  refine wp_seq <| wp_if <| et_test <| ev_op <| ev_op <| ev_var rfl <| ev_int <| rx_lstM hm (i0 _ _ _) <| ev_int <| rl_gt ⟨_, rfl, ite_b (fun h1 => ?_) (fun h1 => wp_next ?_)⟩
  · obtain ⟨r, er, hr⟩ := mod_nat x b hb
    refine wp_seq <| wp_set <| ev_op <| ev_op <| ev_var rfl <| ev_int <| rx_lstM hm (i0 _ _ _) <| ev_var rfl <| rp_mod hb <| wp_seq <| wp_asg <| ev_op <| ev_op <| ev_var rfl <| ev_int <| rx_lstM hm (i0 _ _ _) <| ev_var rfl <| rd_int (wide_div (b := 100) hb (by omega) (by decide) (by decide)) ⟨[], gt_sub (l := a) (j := 0) (k := 0) <| ev_var rfl ⟨rfl, ev_int ⟨rfl, hm, rfl, ?_⟩⟩⟩
    refine wp_ret <| ev_var rfl ?_
    rw [er]
    exact p r _ hr ⟨_, _, _, rfl, hy, hy2, hc, by omega⟩
  · refine wp_seq <| wp_asg <| ev_op <| ev_op <| ev_var rfl <| ev_int <| rx_lstM hm (i2 _ _ _) <| ev_int <| ra_int ⟨[], gt_sub (l := a) (j := 2) (k := 2) <| ev_var rfl ⟨rfl, ev_int ⟨rfl, hm, rfl, ?_⟩⟩⟩
    have hm2 : put m a (.lst ([PyData.int x, .int y, .int c].set 2 (.int (c + 1)))) a = some (.lst [.int x, .int y, .int (c + 1)]) := put_same
    refine wp_seq <| wp_set <| ev_op <| ev_op <| ev_op <| ev_op <| ev_var rfl <| ev_int <| rx_lstM hm2 (i1 _ _ _) <| ev_op <| ev_int <| ev_op <| ev_var rfl <| ev_int <| rx_lstM hm2 (i2 _ _ _) <| rm_int (wide_mul (a := 30) (b := 30) (by decide) (by omega) (by decide) (by decide) (by decide)) <| ra_int <| ev_int <| rp_pow (powW (b := 150) ?_ (by decide) (by decide) (by decide) (by decide)) <|
      ev_op <| ev_op <| ev_int <| ev_int <| rp_pow (pow10 (by decide) (by decide)) <| ev_int <| ra_int <| rp_mod ?_ ?_
    · omega
    · rw [pw35]; decide
    rw [pw35]
    obtain ⟨q, eq, hq⟩ := mod_nat ((y + 15485863 * (c + 1)) ^ (3 : Int).toNat) 100000000000000000000000000000000069 (by decide)
    rw [eq]
    refine wp_seq <| wp_set <| ev_op <| ev_op <| ev_op <| ev_var rfl <| ev_op <| ev_int <| ev_op <| ev_var rfl <| ev_int <| rx_lstM hm2 (i2 _ _ _) <| rm_int (wide_mul (a := 30) (b := 30) (by decide) (by omega) (by decide) (by decide) (by decide)) <| ra_int <| ev_int <| rp_pow (powW (b := 150) ?_ (by decide) (by decide) (by decide) (by decide)) <|
      ev_op <| ev_op <| ev_int <| ev_int <| rp_pow (pow10 (by decide) (by decide)) <| ev_int <| ra_int <| rp_mod ?_ ?_
    · omega
    · rw [pw32]; decide
    rw [pw32]
    generalize ((q : Int) + 32452843 * (c + 1)) ^ (3 : Int).toNat % 100000000000000000000000000000049 = z
    refine wp_ret <| ev_op <| ev_op <| ev_var rfl <| ev_int <| rd_int (wide_div (b := 100) (by decide) (by decide) (by decide) (by decide)) <| ev_var rfl <| rp_mod hb ?_
    obtain ⟨r, er, hr⟩ := mod_nat (z / 8191) b hb
    rw [er]
    exact p r _ hr ⟨_, _, _, rfl, hy, hy2, by omega, by omega⟩
end
end Dv

namespace Dv
open PySem L2 PyProof.Rows
theorem perm_map {α β : Type} {f : α → β} {es l : List β} (h : es.Perm l) : ∀ {xs : List α}, xs.map f = l → ∃ ys : List α, ys.Perm xs ∧ es = ys.map f := by
  induction h with
  | nil =>
    intro xs hx
    exact ⟨[], by rw [List.map_eq_nil_iff.mp hx], rfl⟩
  | @cons a l1 l2 h ih =>
    intro xs hx
    cases xs with
    | nil => cases hx
    | cons x xs =>
      rw [List.map_cons] at hx
      obtain ⟨e1, e2⟩ := List.cons.inj hx
      obtain ⟨ys, hy, e⟩ := ih e2
      exact ⟨x :: ys, hy.cons x, by rw [List.map_cons, e1, e]⟩
  | @swap a b l =>
    intro xs hx
    cases xs with
    | nil => cases hx
    | cons x xs =>
      cases xs with
      | nil => cases hx
      | cons y xs =>
        rw [List.map_cons, List.map_cons] at hx
        obtain ⟨e1, e2⟩ := List.cons.inj hx
        obtain ⟨e2, e3⟩ := List.cons.inj e2
        exact ⟨y :: x :: xs, .swap x y xs, by rw [List.map_cons, List.map_cons, e1, e2, e3]⟩
  | @trans l1 l2 l3 h1 h2 ih1 ih2 =>
    intro xs hx
    obtain ⟨ys, hy, e⟩ := ih2 hx
    obtain ⟨zs, hz, e'⟩ := ih1 e.symm
    exact ⟨zs, hz.trans hy, e'⟩
theorem perm_erase {α : Type} : ∀ {l : List α} {i : Nat} (h : i < l.length), (l[i] :: l.eraseIdx i).Perm l
  | x :: l, 0, _ => by simp
  | x :: l, i + 1, h => by
    simp only [List.getElem_cons_succ, List.eraseIdx_cons_succ]
    exact (List.Perm.swap x _ _).trans ((perm_erase (by simpa using h)).cons x)
section
variable {K : PySem.W.Frag} {Pg : Program} {w : World}
def W_shuffled : WT := fun ss m P => ∃ (a : Addr) (ds u : List PyData) (n : Nat), ss = [.m a, .d (.list ds)] ∧ m a = some (.lst u) ∧ SrcL u n ∧ n + ds.length ≤ 1000000 ∧ ds.length ≤ 1000 ∧
  ∀ es u', es.Perm ds → SrcL u' (n + ds.length) → P (.d (.list es)) (put m a (.lst u'))
def t_shuffled (K : PySem.W.Frag) (Pg : Program) (w : World) : TS :=
  (tSeq (tAsg (tCB (rListC K) (tCons (tVar 1) tNil)) (gName 2))
    (tRet (tLc (iRng1 (tCons (tCB (rLenC K) (tCons (tVar 2) tNil)) tNil)) (gName 3) tYes (tBM K "list" rPopAt (tVar 2) (tCons (tCall (SpD K W_draw) [] E0 (tCons (tVar 0) (tCons (tCB (rLenC K) (tCons (tVar 2) tNil)) tNil))) tNil)) [3])))
theorem put_mid {m : Sto} {a b : Addr} {u u' w : Mu} (h : a ≠ b) : put (put (put m a u) b w) a u' = put (put m a u') b w := by
  rw [put_comm (Ne.symm h), put_put]
theorem rd_shuffled (ss : List Sl) (m : Sto) (P : PV) (h : W_shuffled ss m P) : Wp K (t_shuffled K Pg w) (rho ["source", "things", "left", "step"] ss) m { nx := fun _ m' => P (.d .none) m', rt := P } := by
  obtain ⟨a, ds, u, n, rfl, hm, hu, hn, hd, p⟩ := h
  refine wp_seq <| wp_set <| ev_cb <| ea_cons <| ev_var rfl <| ea_nil <| rc_listM seq_lst fun b hb => ?_
  have ab : a ≠ b := fun e => by rw [e, hb] at hm; cases hm
  refine wp_ret <| ev_del <| ev_lc <| ei_rng1 <| ea_cons <| ev_cb <| ea_cons <| ev_var rfl <| ea_nil <| rc_lenM put_same <| ea_nil ⟨_, rfl, by omega, by omega, fun i acc m' => ∃ u' ls, SrcL u' (n + i) ∧ m' = put (put m a (.lst u')) b (.lst ls) ∧ (acc ++ ls).Perm ds ∧ acc.length = i ∧ i ≤ ds.length, ?_, fun _ _ _ _ => trivial, ?_, ?_⟩
  · exact ⟨u, ds, hu, by rw [put_self hm], .refl _, rfl, Nat.zero_le _⟩
  · rintro i x acc m' hx ⟨u', ls, hu', rfl, hp, hl, hi⟩
    have hi2 : i < ds.length := by
      have := (List.getElem?_eq_some_iff.mp hx).1
      simpa using this
    have hll : ls.length = ds.length - i := by
      have := hp.length_eq
      rw [List.length_append] at this
      omega
    refine ⟨by omega, [3], by simp, gt_name <| et_yes ?_⟩
    rw [if_pos rfl]
    refine ev_bm <| ev_var rfl ⟨ty_listM put_same, ea_cons <| ev_call0 <| ea_cons <| ev_var rfl <| ea_cons <| ev_cb <| ea_cons <| ev_var rfl <| ea_nil <| rc_lenM put_same <| ea_nil ⟨a, _, u', n + i, rfl, by omega, by omega, by rw [put_ne ab, put_same], hu', by omega, fun r u2 hr hu2 => ea_nil ?_⟩⟩
    have hr' : r < ls.length := by omega
    rw [put_mid ab]
    refine rm_popAt put_same (by omega) (by omega) rfl (List.getElem?_eq_getElem hr') ⟨_, rfl, u2, _, hu2, put_put, ?_, by rw [List.length_append, hl]; rfl, hi2⟩
    refine List.Perm.trans ?_ hp
    rw [List.append_assoc]
    exact List.Perm.append_left _ (perm_erase hr')
  · rintro acc m' ⟨u', ls, hu', rfl, hp, hl, hi⟩
    refine ⟨b, _, put_same, ?_⟩
    rw [del_put (by rw [put_ne (Ne.symm ab)]; exact hb)]
    have e : (List.map (fun i : Nat => Sl.d (.int (i : Nat))) (List.range (ds.length : Int).toNat)).length = ds.length := by simp
    rw [e] at hl hu'
    have hls : ls = [] := by
      have := hp.length_eq
      rw [List.length_append] at this
      exact List.length_eq_zero_iff.mp (by omega)
    subst hls
    rw [List.append_nil] at hp
    exact p acc u' hp hu'
/-! ### names -/
def nmL (st sh nu : Nat) : List Nat :=
  match st with
  | 0 => (97 + (nu + sh) % 26) :: (if 25 < nu then [97 + (nu / 26 + 2 * sh) % 26] else [])
  | 1 => [97 + (nu / 26 + 2 * sh) % 26, 97 + (nu + sh) % 26]
  | 2 => [113, 113, 97 + (nu / 26 + 2 * sh) % 26, 97 + (nu + sh) % 26]
  | 3 => [97 + (nu + sh) % 26, 97 + (nu / 26 + 2 * sh) % 26, 122, 122]
  | 4 => (97 + (nu + sh) % 26) :: (97 + (nu / 26 + 2 * sh) % 26) :: List.replicate (nu % 3) (97 + (nu / 26 + 2 * sh) % 26)
  | _ => [97 + (nu / 26 + 2 * sh) % 26, 97 + (nu + sh) % 26, 120, 120, 120, 120]
def W_name : WT := fun ss m P => ∃ st sh nu : Nat, ss = [.d (.int (st : Nat)), .d (.int (sh : Nat)), .d (.int (nu : Nat))] ∧ st < 6 ∧ sh < 26 ∧ nu < 144 ∧ P (.d (nmD (nmL st sh nu))) m
def t_name (K : PySem.W.Frag) (Pg : Program) (w : World) : TS :=
  (tSeq (tAsg (tC (.str "abcdefghijklmnopqrstuvwxyz")) (gName 3))
    (tSeq (tAsg (tOp (rIx K) (tVar 3) (tOp (rI (fun _ j => 0 < j) fun i j => .int (i % j)) (tOp (rAddU K) (tVar 2) (tVar 1)) (tC (.int 26)))) (gName 4))
    (tSeq (tAsg (tOp (rIx K) (tVar 3) (tOp (rI (fun _ j => 0 < j) fun i j => .int (i % j)) (tOp (rAddU K) (tOp (rI CDivW fun i j => .int (i / j)) (tVar 2) (tC (.int 26))) (tOp (rMulU) (tC (.int 2)) (tVar 1))) (tC (.int 26)))) (gName 5))
    (tSeq (tAsg (tLst (tCons (tOp (rAddU K) (tVar 4) (tOp (rMulU) (tVar 5) (tCB (rIntC) (tCons (tOp (rI0 fun i j => .bl (decide (j < i))) (tVar 2) (tC (.int 25))) tNil)))) (tCons (tOp (rAddU K) (tVar 5) (tVar 4)) (tCons (tOp (rAddU K) (tOp (rAddU K) (tC (.str "qq")) (tVar 5)) (tVar 4)) (tCons (tOp (rAddU K) (tOp (rAddU K) (tVar 4) (tVar 5)) (tC (.str "zz"))) tNil))))) (gName 6))
    (tSeq (tAsg (tOp (rAddU K) (tVar 6) (tLst (tCons (tOp (rAddU K) (tOp (rAddU K) (tVar 4) (tVar 5)) (tOp (rMulU) (tVar 5) (tOp (rI (fun _ j => 0 < j) fun i j => .int (i % j)) (tVar 2) (tC (.int 3))))) (tCons (tOp (rAddU K) (tOp (rAddU K) (tVar 5) (tVar 4)) (tC (.str "xxxx"))) tNil)))) (gName 6))
    (tRet (tOp (rIx K) (tVar 6) (tVar 0))))))))
theorem lo_at {k : Nat} {i : Int} (h : k < 26) (hi : i = (k : Int)) : atI ("abcdefghijklmnopqrstuvwxyz" : Str).cps.toList i = some (97 + k) := atI_nat' hi (by
  rw [loE, List.getElem?_range' h]
  simp)
theorem mul_chr (s : Nat) {n : Nat} (h : n ≤ 2) : Txt.mul (Sx [s]) (n : Int) = Sx (List.replicate n s) := by
  match n, h with
  | 0, _ => rfl
  | 1, _ => rfl
  | 2, _ => simp [Txt.mul, Sx, Str.length, List.replicate]
theorem qqS : ("qq" : Str) = Sx [113, 113] := by decide +kernel
theorem zzS : ("zz" : Str) = Sx [122, 122] := by decide +kernel
theorem xxS : ("xxxx" : Str) = Sx [120, 120, 120, 120] := by decide +kernel
theorem loLen : ("abcdefghijklmnopqrstuvwxyz" : Str).length ≤ 100000 := by rw [loS, sx_len]; simp
theorem rd_name (ss : List Sl) (m : Sto) (P : PV) (h : W_name ss m P) : Wp K (t_name K Pg w) (rho ["style", "shift", "number", "letters", "first", "second", "names"] ss) m { nx := fun _ m' => P (.d .none) m', rt := P } := by
  obtain ⟨st, sh, nu, rfl, hst, hsh, hnu, p⟩ := h
  have e1 : ((nu : Int) + (sh : Int)) % 26 = (((nu + sh) % 26 : Nat) : Int) := by omega
  have e2 : ((nu : Int) / 26 + 2 * (sh : Int)) % 26 = (((nu / 26 + 2 * sh) % 26 : Nat) : Int) := by omega
  have e3 : ((nu : Int) % 3) = ((nu % 3 : Nat) : Int) := by omega
  have b1 : (nu + sh) % 26 < 26 := by omega
  have b2 : (nu / 26 + 2 * sh) % 26 < 26 := by omega
  have s1 : ∀ c : Nat, (Sx [c]).length ≤ 1000 := fun c => by rw [sx_len]; simp
  have sa : ∀ x y : List Nat, x.length ≤ 100 → y.length ≤ 100 → (Sx x).length + (Sx y).length ≤ 100000 := fun x y hx hy => by rw [sx_len, sx_len]; omega
  refine wp_seq <| wp_set <| ev_str <| wp_seq <| wp_set <| ev_op <| ev_var rfl <| ev_op <| ev_op <| ev_var rfl <| ev_var rfl <| ra_int <| ev_int <| rp_mod (by decide) <| rx_str loLen (lo_at b1 e1) ?_
  refine wp_seq <| wp_set <| ev_op <| ev_var rfl <| ev_op <| ev_op <| ev_op <| ev_var rfl <| ev_int <| rd_int (wide_div (b := 100) (by decide) (by decide) (by decide) (by decide)) <| ev_op <| ev_int <| ev_var rfl <| rm_int (wide_mul (a := 30) (b := 30) (by decide) (by omega) (by decide) (by decide) (by decide)) <| ra_int <| ev_int <| rp_mod (by decide) <| rx_str loLen (lo_at b2 e2) ?_
  have hp : ∀ d, (match st with | 0 => d = nmD (nmL 0 sh nu) | 1 => d = nmD (nmL 1 sh nu) | 2 => d = nmD (nmL 2 sh nu) | 3 => d = nmD (nmL 3 sh nu) | 4 => d = nmD (nmL 4 sh nu) | _ => d = nmD (nmL 5 sh nu)) → P (.d d) m := fun d hd => by
    have : d = nmD (nmL st sh nu) := by
      match st, hst with
      | 0, _ => exact hd
      | 1, _ => exact hd
      | 2, _ => exact hd
      | 3, _ => exact hd
      | 4, _ => exact hd
      | 5, _ => exact hd
    rw [this]; exact p
  clear p
  revert hp
  unfold nmL
  simp only []
  generalize 97 + (nu + sh) % 26 = f
  generalize 97 + (nu / 26 + 2 * sh) % 26 = s
  intro hp
  have hI : ∀ (b : Bool), (if b then (1 : Int) else 0) = ((if b then 1 else 0 : Nat) : Int) := fun b => by cases b <;> rfl
  have hI2 : ∀ (b : Bool), (if b then (1 : Nat) else 0) ≤ 2 := fun b => by cases b <;> decide
  refine wp_seq <| wp_set <| ev_lst <| ea_cons <| ev_op <| ev_var rfl <| ev_op <| ev_var rfl <| ev_cb <| ea_cons <| ev_op <| ev_var rfl <| ev_int <| rl_gt <| ea_nil <| rc_intB <| rm_str (by split <;> decide) (by split <;> decide) (s1 s) <| ?_
  rw [hI]
  show RO K (rAddU K) (.d (.str (Sx [f]))) (.d (.str (Txt.mul (Sx [s]) _))) m _
  rw [mul_chr s (hI2 _)]
  refine ra_str (sa _ _ (by simp) (by simp; split <;> decide)) <| ea_cons <| ev_op <| ev_var rfl <| ev_var rfl <| ra_str (sa [s] [f] (by simp) (by simp)) <| ea_cons <| ev_op <| ev_op <| ev_str <| ev_var rfl <| ?_
  rw [qqS]
  refine ra_str (sa [113, 113] [s] (by simp) (by simp)) <| ev_var rfl <| ?_
  show RO K (rAddU K) (.d (.str (Sx [113, 113] ++ Sx [s]))) (.d (.str (Sx [f]))) m _
  rw [sx_app]
  refine ra_str (sa _ _ (by simp) (by simp)) <| ea_cons <| ev_op <| ev_op <| ev_var rfl <| ev_var rfl <| ra_str (sa [f] [s] (by simp) (by simp)) <| ev_str <| ?_
  show RO K (rAddU K) (.d (.str (Sx [f] ++ Sx [s]))) _ m _
  rw [zzS, sx_app]
  refine ra_str (sa _ _ (by simp) (by simp)) <| ea_nil ⟨[_, _, _, _], rfl, by simp, ?_⟩
  refine wp_seq <| wp_set <| ev_op <| ev_var rfl <| ev_lst <| ea_cons <| ev_op <| ev_op <| ev_var rfl <| ev_var rfl <| ra_str (sa [f] [s] (by simp) (by simp)) <| ev_op <| ev_var rfl <| ev_op <| ev_var rfl <| ev_int <| rp_mod (by decide) <| rm_str (by omega) (by omega) (s1 s) <| ?_
  rw [e3]
  show RO K (rAddU K) (.d (.str (Sx [f] ++ Sx [s]))) (.d (.str (Txt.mul (Sx [s]) _))) m _
  rw [mul_chr s (by omega), sx_app]
  refine ra_str (sa _ _ (by simp) (by simp; omega)) <| ea_cons <| ev_op <| ev_op <| ev_var rfl <| ev_var rfl <| ra_str (sa [s] [f] (by simp) (by simp)) <| ev_str <| ?_
  show RO K (rAddU K) (.d (.str (Sx [s] ++ Sx [f]))) _ m _
  rw [xxS, sx_app]
  refine ra_str (sa _ _ (by simp) (by simp)) <| ea_nil ⟨[_, _], rfl, by simp, ra_lst (by simp) <| wp_ret <| ev_op <| ev_var rfl <| ev_var rfl <| ?_⟩
  rw [sx_app, sx_app, sx_app, sx_app]
  have h25 : (List.replicate (if (decide ((25 : Int) < (nu : Int))) = true then 1 else 0) s) = (if 25 < nu then [s] else []) := by
    by_cases h : 25 < nu
    · have : decide ((25 : Int) < (nu : Int)) = true := by simp; omega
      rw [this, if_pos h]; rfl
    · have : decide ((25 : Int) < (nu : Int)) = false := by simp; omega
      rw [this, if_neg h]; rfl
  rw [h25]
  match st, hst, hp with
  | 0, _, hp => exact rx_lst rfl (hp _ rfl)
  | 1, _, hp => exact rx_lst rfl (hp _ (by show PyData.str (Sx [s] ++ Sx [f]) = _; rw [sx_app]; rfl))
  | 2, _, hp => exact rx_lst rfl (hp _ rfl)
  | 3, _, hp => exact rx_lst rfl (hp _ rfl)
  | 4, _, hp => exact rx_lst rfl (hp _ rfl)
  | 5, _, hp => exact rx_lst rfl (hp _ rfl)
end
end Dv

namespace Dv
open PySem L2 PyProof.Rows
abbrev prD (p : Nat × Nat) : PyData := .tuple [.int (p.1 : Nat), .int (p.2 : Nat)]
def rowC (C i : Nat) : List (Nat × Nat) := (List.range C).map fun c => (i, c)
def cellsC (C : Nat) : Nat → List (Nat × Nat)
  | 0 => []
  | i + 1 => cellsC C i ++ rowC C i
theorem rowC_len (C i : Nat) : (rowC C i).length = C := by simp [rowC]
theorem cellsC_len (C : Nat) : ∀ i, (cellsC C i).length = i * C
  | 0 => by simp [cellsC]
  | i + 1 => by rw [cellsC, List.length_append, cellsC_len C i, rowC_len, Nat.succ_mul]
theorem map_erase {α β : Type} {f : α → β} : ∀ {xs : List α} {i : Nat}, (xs.map f).eraseIdx i = (xs.eraseIdx i).map f
  | [], _ => rfl
  | x :: xs, 0 => rfl
  | x :: xs, i + 1 => by simp [map_erase (xs := xs) (i := i)]
section
variable {K : PySem.W.Frag} {Pg : Program} {w : World}
def W_pattern : WT := fun ss m P => ∃ (a : Addr) (R C : Nat) (u : List PyData) (n : Nat), ss = [.m a, .d (.int (R : Nat)), .d (.int (C : Nat))] ∧ 0 < R ∧ R ≤ 12 ∧ 0 < C ∧ C ≤ 12 ∧ m a = some (.lst u) ∧ SrcL u n ∧ n ≤ 500000 ∧
  ∀ (es : List (Nat × Nat)) u', es.length ≤ 144 → SrcL u' (n + 1000) → P (.d (.list (es.map prD))) (put m a (.lst u'))
def t_pattern (K : PySem.W.Frag) (Pg : Program) (w : World) : TS :=
  (tSeq (tAsg (tCall (SpD K W_draw) [] E0 (tCons (tVar 0) (tCons (tC (.int 9)) tNil))) (gName 3))
    (tSeq (tAsg (tLst tNil) (gName 4))
    (tSeq (tFor (iRng1 (tCons (tVar 1) tNil)) (gName 5)
    (tAsg (tOp (rAddU K) (tVar 4) (tLc (iRng1 (tCons (tVar 2) tNil)) (gName 12) tYes (tTupZ (tCons (tVar 5) (tCons (tVar 12) tNil))) [12])) (gName 4)))
    (tSeq (tIfS (tTest (tOp (rI0 fun i j => .bl (decide (i < j))) (tVar 3) (tC (.int 2))))
    (tRet (tVar 4))
    tNext)
    (tSeq (tIfS (tTest (tOp (rEqU K) (tVar 3) (tC (.int 2))))
    (tRet (tLst tNil))
    tNext)
    (tSeq (tIfS (tTest (tOp (rEqU K) (tVar 3) (tC (.int 3))))
    (tRet (tLst (tCons (tOp (rIx K) (tVar 4) (tCall (SpD K W_draw) [] E0 (tCons (tVar 0) (tCons (tCB (rLenC K) (tCons (tVar 4) tNil)) tNil)))) tNil)))
    tNext)
    (tSeq (tIfS (tTest (tOp (rEqU K) (tVar 3) (tC (.int 4))))
    (tSeq (tAsg (tCall (SpD K W_shuffled) [] E0 (tCons (tVar 0) (tCons (tLstRg (tRg1 (tVar 1))) tNil))) (gName 6))
    (tSeq (tAsg (tCall (SpD K W_shuffled) [] E0 (tCons (tVar 0) (tCons (tLstRg (tRg1 (tVar 2))) tNil))) (gName 7))
    (tSeq (tAsg (tOp (rAddU K) (tC (.int 1)) (tCall (SpD K W_draw) [] E0 (tCons (tVar 0) (tCons (tCB (rMinC) (tCons (tVar 1) (tCons (tVar 2) tNil))) tNil)))) (gName 8))
    (tRet (tLc (iRng1 (tCons (tVar 8) tNil)) (gName 11) tYes (tTupZ (tCons (tOp (rIx K) (tVar 6) (tVar 11)) (tCons (tOp (rIx K) (tVar 7) (tVar 11)) tNil))) [11])))))
    tNext)
    (tSeq (tIfS (tTest (tOp (rEqU K) (tVar 3) (tC (.int 5))))
    (tSeq (tAsg (tCall (SpD K W_draw) [] E0 (tCons (tVar 0) (tCons (tVar 1) tNil))) (gName 9))
    (tRet (tLc (iSeqU K (tVar 4)) (gName 10) (tTest (tOp (rEqU K) (tOp (rIx K) (tVar 10) (tC (.int 0))) (tVar 9))) (tVar 10) [10])))
    tNext)
    (tSeq (tIfS (tTest (tOp (rEqU K) (tVar 3) (tC (.int 6))))
    (tSeq (tAsg (tCall (SpD K W_draw) [] E0 (tCons (tVar 0) (tCons (tVar 2) tNil))) (gName 9))
    (tRet (tLc (iSeqU K (tVar 4)) (gName 10) (tTest (tOp (rEqU K) (tOp (rIx K) (tVar 10) (tC (.int 1))) (tVar 9))) (tVar 10) [10])))
    tNext)
    (tSeq (tIfS (tTest (tOp (rEqU K) (tVar 3) (tC (.int 7))))
    (tSeq (tDrop (tBM K "list" rPopAt (tVar 4) (tCons (tCall (SpD K W_draw) [] E0 (tCons (tVar 0) (tCons (tCB (rLenC K) (tCons (tVar 4) tNil)) tNil))) tNil)))
    (tRet (tVar 4)))
    tNext)
    (tRet (tLc (iSeqU K (tVar 4)) (gName 10) (tTest (tOp (rEqU K) (tCall (SpD K W_draw) [] E0 (tCons (tVar 0) (tCons (tC (.int 3)) tNil))) (tC (.int 0)))) (tVar 10) [10]))))))))))))
theorem shaped_int (i : Int) : SeqAt.shaped (.int i) = true := rfl
theorem list_of {es : List (Nat × Nat)} {ds : List PyData} {P : PV} {m : Sto} (e : ds = es.map prD) (p : P (.d (.list (es.map prD))) m) : P (.d (.list ds)) m := by rw [e]; exact p
theorem upTo_map (n : Nat) : (List.range n).map (fun i : Nat => PyData.int (i : Nat)) = upTo n := rfl
theorem rd_pattern (ss : List Sl) (m : Sto) (P : PV) (h : W_pattern ss m P) : Wp K (t_pattern K Pg w) (rho ["source", "rows", "columns", "way", "cells", "row", "lines", "others", "many", "line", "cell", "index", "column"] ss) m { nx := fun _ m' => P (.d .none) m', rt := P } := by
  obtain ⟨a, R, C, u, n, rfl, hR0, hR, hC0, hC, hm, hu, hn, p⟩ := h
  refine wp_seq <| wp_set <| ev_call0 <| ea_cons <| ev_var rfl <| ea_cons <| ev_int <| ea_nil ⟨a, _, u, n, rfl, by decide, by decide, hm, hu, by omega, fun way u1 hw hu1 => ?_⟩
  clear hu hm
  refine wp_seq <| wp_set <| ev_lstM <| ea_nil ⟨[], rfl, by simp, fun b0 hb0 => ?_⟩
  generalize hm1 : put m a (.lst u1) = m1 at hb0
  have hma : m1 a = some (.lst u1) := by rw [← hm1, put_same]
  refine wp_seq <| wp_rng <| ea_cons <| ev_var rfl <| ea_nil ⟨R, fun i ρ' m' => ∃ b s5, m1 b = none ∧ ρ' = [some (.m a), some (.d (.int (R : Nat))), some (.d (.int (C : Nat))), some (.d (.int (way : Nat))), some (.m b), s5, none, none, none, none, none, none, none] ∧ m' = put m1 b (.lst ((cellsC C i).map prD)), rfl, by omega, ⟨b0, _, hb0, rfl, rfl⟩, ?_, ?_⟩
  · rintro i ρ' m' hi ⟨b, s5, hb, rfl, rfl⟩
    refine wp_post <| wp_set <| ev_op <| ev_var rfl <| ev_lcR List.mem_cons_self <| ea_cons <| ev_var rfl <| ea_nil ⟨C, fun c => prD (i, c), rfl, by omega, fun c hc => ev_tup <| ea_cons <| ev_var rfl <| ea_cons <| ev_var rfl <| ea_nil ⟨[_, _], rfl, by simp, rfl, rfl⟩, ra_lstM (ls_m put_same) ls_d ?_ fun b' hb' => ⟨b, .lst ((cellsC C i).map prD), ?_, b', _, ?_, rfl, ?_⟩⟩
    · rw [List.length_map, cellsC_len, List.length_map, List.length_range]
      have : i * C ≤ 12 * 12 := Nat.mul_le_mul (by omega) hC
      omega
    · have : b ≠ b' := fun e => by rw [← e, put_same] at hb'; cases hb'
      rw [put_ne this, put_same]
    · have : b' ≠ b := fun e => by rw [e, put_same] at hb'; cases hb'
      rw [put_ne this] at hb'
      exact hb'
    · have hne : b ≠ b' := fun e => by rw [← e, put_same] at hb'; cases hb'
      rw [put_comm hne, del_put (by rw [put_ne hne]; exact hb), cellsC, List.map_append, rowC, List.map_map]
      rfl
  rintro ρ' m' ⟨b, s5, hb, rfl, rfl⟩
  have ab : a ≠ b := fun e => by rw [← e, hma] at hb; cases hb
  have hcl : ((cellsC C R).map prD).length = R * C := by rw [List.length_map, cellsC_len]
  have hRC : R * C ≤ 144 := Nat.mul_le_mul hR hC
  have hRC0 : 0 < R * C := Nat.mul_pos hR0 hC0
  generalize cellsC C R = cs at hcl
  have hcs : cs.length = R * C := by rw [← hcl, List.length_map]
  have fin : ∀ (es : List (Nat × Nat)) u' k, es.length ≤ 144 → SrcL u' k → k ≤ n + 1000 → P (.d (.list (es.map prD))) (put m1 a (.lst u')) := fun es u' k h1 h2 h3 => by
    rw [← hm1, put_put]
    exact p es u' h1 (h2.mono h3)
  have fin1 : ∀ (es : List (Nat × Nat)), es.length ≤ 144 → P (.d (.list (es.map prD))) m1 := fun es h1 => by
    have := fin es u1 _ h1 hu1 (by omega)
    rw [put_self hma] at this
    exact this
  have hS : ∀ u' w', put (put m1 b w') a (.lst u') = put (put m1 a (.lst u')) b w' := fun u' w' => put_comm (Ne.symm ab)
  have hSa : put m1 b (.lst (cs.map prD)) a = some (.lst u1) := by rw [put_ne ab]; exact hma
  have hd : ∀ u' w', del (put (put m1 a (.lst u')) b w') b = put m1 a (.lst u') := fun u' w' => del_put (by rw [put_ne (Ne.symm ab)]; exact hb)
  have dw : ∀ (bound : Int) (Q : PV), 0 < bound → bound < 2 ^ 100 → (∀ (r : Nat) u', (r : Int) < bound → SrcL u' (n + 2) → Q (.d (.int (r : Nat))) (put (put m1 a (.lst u')) b (.lst (cs.map prD)))) → W_draw [.m a, .d (.int bound)] (put m1 b (.lst (cs.map prD))) Q := fun bound Q h1 h2 h3 =>
    ⟨a, bound, u1, n + 1, rfl, h1, h2, hSa, hu1, by omega, fun r u' hr hu' => by rw [hS]; exact h3 r u' hr hu'⟩
  refine wp_seq <| wp_if <| et_test <| ev_op <| ev_var rfl <| ev_int <| rl_lt ⟨_, rfl, ite_b (fun _ => ?_) (fun _ => wp_next ?_)⟩
  · refine wp_ret <| ev_varF rfl put_same ?_
    rw [del_put hb]
    exact fin1 cs (by omega)
  refine wp_seq <| wp_if <| et_test <| ev_op <| ev_var rfl <| ev_int <| re_eq (shaped_int _) (shaped_int _) ⟨_, rfl, ite_b (fun _ => ?_) (fun _ => wp_next ?_)⟩
  · refine wp_ret <| ev_del <| ev_lst <| ea_nil ⟨[], rfl, by simp, b, _, put_same, ?_⟩
    rw [del_put hb]
    exact fin1 [] (by simp)
  refine wp_seq <| wp_if <| et_test <| ev_op <| ev_var rfl <| ev_int <| re_eq (shaped_int _) (shaped_int _) ⟨_, rfl, ite_b (fun _ => ?_) (fun _ => wp_next ?_)⟩
  · refine wp_ret <| ev_del <| ev_lst <| ea_cons <| ev_op <| ev_var rfl <| ev_call0 <| ea_cons <| ev_var rfl <| ea_cons <| ev_cb <| ea_cons <| ev_var rfl <| ea_nil <| rc_lenM put_same <| ea_nil <| dw _ _ (by omega) (by omega) fun r u' hr hu' => ?_
    have hr' : r < cs.length := by omega
    refine rx_lstM put_same (atI_map rfl (List.getElem?_eq_getElem hr')) <| ea_nil ⟨[_], rfl, by simp, b, _, put_same, ?_⟩
    rw [hd]
    exact fin [cs[r]] u' _ (by simp) hu' (by omega)
  refine wp_seq <| wp_if <| et_test <| ev_op <| ev_var rfl <| ev_int <| re_eq (shaped_int _) (shaped_int _) ⟨_, rfl, ite_b (fun _ => ?_) (fun _ => wp_next ?_)⟩
  · refine wp_del put_same ?_
    rw [del_put hb]
    have lU : ∀ k : Nat, (upTo k).length = k := fun k => by simp [upTo]
    refine wp_seq <| wp_set <| ev_call0 <| ea_cons <| ev_var rfl <| ea_cons <| ev_listRg <| ev_var rfl ⟨_, rfl, by omega, by omega, ea_nil ⟨a, _, u1, n + 1, rfl, hma, hu1, by rw [lU]; omega, by rw [lU]; omega, fun ls u2 hls hu2 => ?_⟩⟩
    rw [lU] at hu2
    obtain ⟨ys, hys, rfl⟩ := perm_map (f := fun i : Nat => PyData.int (i : Nat)) hls (upTo_map _)
    refine wp_seq <| wp_set <| ev_call0 <| ea_cons <| ev_var rfl <| ea_cons <| ev_listRg <| ev_var rfl ⟨_, rfl, by omega, by omega, ea_nil ⟨a, _, u2, _, rfl, put_same, hu2, by rw [lU]; omega, by rw [lU]; omega, fun os u3 hos hu3 => ?_⟩⟩
    rw [lU] at hu3
    obtain ⟨zs, hzs, rfl⟩ := perm_map (f := fun i : Nat => PyData.int (i : Nat)) hos (upTo_map _)
    rw [put_put]
    have ly : ys.length = R := by have := hys.length_eq; simpa using this
    have lz : zs.length = C := by have := hzs.length_eq; simpa using this
    have hmin : 0 < (if (C : Int) < (R : Int) then (C : Int) else (R : Int)) ∧ (if (C : Int) < (R : Int) then (C : Int) else (R : Int)) ≤ R ∧ (if (C : Int) < (R : Int) then (C : Int) else (R : Int)) ≤ C := by split <;> omega
    refine wp_seq <| wp_set <| ev_op <| ev_int <| ev_call0 <| ea_cons <| ev_var rfl <| ea_cons <| ev_cb <| ea_cons <| ev_var rfl <| ea_cons <| ev_var rfl <| ea_nil <| rc_min2 <| ea_nil ⟨a, _, u3, _, rfl, by omega, by omega, put_same, hu3, by omega, fun r u4 hr hu4 => ra_int ?_⟩
    rw [put_put]
    have e1 : (1 : Int) + (r : Int) = ((r + 1 : Nat) : Int) := by omega
    rw [e1]
    refine wp_ret <| ev_lcR List.mem_cons_self <| ea_cons <| ev_var rfl <| ea_nil ⟨r + 1, fun i => prD (ys.getD i 0, zs.getD i 0), rfl, by omega, fun i hi => ?_, ?_⟩
    · have h1 : ys[i]? = some (ys.getD i 0) := by rw [List.getD_eq_getElem?_getD, List.getElem?_eq_getElem (by omega)]; rfl
      have h2 : zs[i]? = some (zs.getD i 0) := by rw [List.getD_eq_getElem?_getD, List.getElem?_eq_getElem (by omega)]; rfl
      exact ev_tup <| ea_cons <| ev_op <| ev_var rfl <| ev_var rfl <| rx_lst (atI_map rfl h1) <| ea_cons <| ev_op <| ev_var rfl <| ev_var rfl <| rx_lst (atI_map rfl h2) <| ea_nil ⟨[_, _], rfl, by simp, rfl, rfl⟩
    · refine list_of (es := (List.range (r + 1)).map fun i => (ys.getD i 0, zs.getD i 0)) (by rw [List.map_map]; rfl) ?_
      exact fin _ u4 _ (by simp; omega) hu4 (by omega)
  refine wp_seq <| wp_if <| et_test <| ev_op <| ev_var rfl <| ev_int <| re_eq (shaped_int _) (shaped_int _) ⟨_, rfl, ite_b (fun _ => ?_) (fun _ => wp_next ?_)⟩
  · refine wp_seq <| wp_set <| ev_call0 <| ea_cons <| ev_var rfl <| ea_cons <| ev_var rfl <| ea_nil <| dw _ _ (by omega) (by omega) fun r u' hr hu' => ?_
    refine wp_ret <| ev_del <| ev_lcF (toD := prD) List.mem_cons_self <| ei_lstM <| ev_var rfl ⟨b, _, rfl, put_same, cs, fun q => PyData.eqv (.int (q.1 : Nat)) (.int (r : Nat)), prD, rfl, put_same, by omega, fun q _ => ⟨?_, fun _ => ev_var rfl ⟨rfl, rfl⟩⟩, b, _, put_same, ?_⟩
    · exact et_test <| ev_op <| ev_op <| ev_var rfl <| ev_int <| rx_tup rfl <| ev_var rfl <| re_eq (shaped_int _) (shaped_int _) ⟨_, rfl, rfl, rfl⟩
    · rw [hd]
      exact fin _ u' _ (Nat.le_trans (List.length_filter_le _ _) (by omega)) hu' (by omega)
  refine wp_seq <| wp_if <| et_test <| ev_op <| ev_var rfl <| ev_int <| re_eq (shaped_int _) (shaped_int _) ⟨_, rfl, ite_b (fun _ => ?_) (fun _ => wp_next ?_)⟩
  · refine wp_seq <| wp_set <| ev_call0 <| ea_cons <| ev_var rfl <| ea_cons <| ev_var rfl <| ea_nil <| dw _ _ (by omega) (by omega) fun r u' hr hu' => ?_
    refine wp_ret <| ev_del <| ev_lcF (toD := prD) List.mem_cons_self <| ei_lstM <| ev_var rfl ⟨b, _, rfl, put_same, cs, fun q => PyData.eqv (.int (q.2 : Nat)) (.int (r : Nat)), prD, rfl, put_same, by omega, fun q _ => ⟨?_, fun _ => ev_var rfl ⟨rfl, rfl⟩⟩, b, _, put_same, ?_⟩
    · exact et_test <| ev_op <| ev_op <| ev_var rfl <| ev_int <| rx_tup rfl <| ev_var rfl <| re_eq (shaped_int _) (shaped_int _) ⟨_, rfl, rfl, rfl⟩
    · rw [hd]
      exact fin _ u' _ (Nat.le_trans (List.length_filter_le _ _) (by omega)) hu' (by omega)
  refine wp_seq <| wp_if <| et_test <| ev_op <| ev_var rfl <| ev_int <| re_eq (shaped_int _) (shaped_int _) ⟨_, rfl, ite_b (fun _ => ?_) (fun _ => wp_next ?_)⟩
  · refine wp_seq <| wp_drop <| ev_bm <| ev_var rfl ⟨ty_listM put_same, ea_cons <| ev_call0 <| ea_cons <| ev_var rfl <| ea_cons <| ev_cb <| ea_cons <| ev_var rfl <| ea_nil <| rc_lenM put_same <| ea_nil <| dw _ _ (by omega) (by omega) fun r u' hr hu' => ea_nil ?_⟩
    have hr' : r < (cs.map prD).length := by omega
    refine rm_popAt put_same (by omega) (by omega) rfl (List.getElem?_eq_getElem hr') <| wp_ret <| ev_varF rfl put_same ?_
    rw [put_put, hd]
    refine list_of (es := cs.eraseIdx r) ?_ (fin _ u' _ (Nat.le_trans (List.length_eraseIdx_le _ _) (by omega)) hu' (by omega))
    rw [map_erase]
  refine wp_ret <| ev_del <| ev_lc <| ei_lstM <| ev_var rfl ⟨b, _, rfl, put_same, fun i acc m' => ∃ u' es, SrcL u' (n + 1 + i) ∧ m' = put (put m1 a (.lst u')) b (.lst (cs.map prD)) ∧ acc = es.map prD ∧ es.length ≤ i ∧ i ≤ cs.length, ⟨u1, [], hu1, by rw [put_self hma], rfl, Nat.le_refl _, Nat.zero_le _⟩, fun i acc m' ⟨u', es, _, e, _⟩ => by rw [e]; exact put_same, ?_, ?_⟩
  · rintro i x acc m' hx ⟨u', es, hu', rfl, rfl, hl, hi⟩
    rw [List.getElem?_map, List.getElem?_map] at hx
    cases hy : cs[i]? with
    | none => rw [hy] at hx; cases hx
    | some q =>
    rw [hy] at hx
    cases hx
    have hi2 : i < cs.length := (List.getElem?_eq_some_iff.mp hy).1
    refine ⟨by rw [List.length_map]; omega, [10], by simp, gt_name <| et_test <| ev_op <| ev_call0 <| ea_cons <| ev_var rfl <| ea_cons <| ev_int <| ea_nil ⟨a, _, u', n + 1 + i, rfl, by decide, by decide, by rw [put_ne ab, put_same], hu', by omega, fun r u2 hr hu2 => ev_int <| re_eq (shaped_int _) (shaped_int _) ⟨_, rfl, ite_b (fun _ => ?_) (fun _ => ?_)⟩⟩⟩
    · rw [put_mid ab]
      exact ev_var rfl ⟨_, rfl, u2, es ++ [q], hu2, rfl, by rw [List.map_append]; rfl, by rw [List.length_append]; simp; omega, hi2⟩
    · rw [put_mid ab]
      exact ⟨u2, es, hu2, rfl, rfl, by omega, hi2⟩
  · rintro acc m' ⟨u', es, hu', rfl, rfl, hl, hi⟩
    rw [List.length_map, List.length_map] at hl hu'
    refine ⟨b, _, put_same, ?_⟩
    rw [hd]
    exact fin es u' _ (by omega) hu' (by omega)
end
end Dv

namespace Dv
open PySem L2 PyProof.Rows
/-! ### what the floors are made of -/
def lowN : List Nat → List Nat
  | [] => []
  | c :: t => (if isUp c = true then c + 32 else c) :: t
def upL : List Nat → List Nat
  | [] => []
  | c :: t => (c - 32) :: t
theorem nm_form (st sh nu : Nat) : ∃ c t, nmL st sh nu = c :: t ∧ isLo c = true ∧ t.all isLo = true ∧ t.length ≤ 5 := by
  have h1 : isLo (97 + (nu + sh) % 26) = true := by simp [isLo]; omega
  have h2 : isLo (97 + (nu / 26 + 2 * sh) % 26) = true := by simp [isLo]; omega
  unfold nmL
  generalize 97 + (nu + sh) % 26 = f at *
  generalize 97 + (nu / 26 + 2 * sh) % 26 = s at *
  have h5 : isLo 122 = true := rfl
  have h6 : isLo 120 = true := rfl
  have h7 : isLo 113 = true := rfl
  split
  · refine ⟨_, _, rfl, h1, ?_, ?_⟩ <;> split <;> simp [h2]
  · exact ⟨_, _, rfl, h2, by simp [h1], by simp⟩
  · exact ⟨_, _, rfl, h7, by simp [h1, h2, h7], by simp⟩
  · exact ⟨_, _, rfl, h1, by simp [h2, h5], by simp⟩
  · refine ⟨_, _, rfl, h1, ?_, ?_⟩
    · simp [h2]
    · simp; omega
  · exact ⟨_, _, rfl, h2, by simp [h1, h6], by simp⟩
theorem nm_inj {st sh a b : Nat} (hst : st < 6) (hsh : sh < 26) (ha : a < 144) (hb : b < 144) (h : nmL st sh a = nmL st sh b) : a = b := by
  match st, hst, h with
  | 0, _, h =>
    simp only [nmL] at h
    obtain ⟨h1, h2⟩ := List.cons.inj h
    by_cases x : 25 < a
    · by_cases y : 25 < b
      · rw [if_pos x, if_pos y] at h2
        have h3 := (List.cons.inj h2).1
        omega
      · rw [if_pos x, if_neg y] at h2; cases h2
    · by_cases y : 25 < b
      · rw [if_neg x, if_pos y] at h2; cases h2
      · omega
  | 1, _, h => simp only [nmL, List.cons.injEq] at h; omega
  | 2, _, h => simp only [nmL, List.cons.injEq] at h; omega
  | 3, _, h => simp only [nmL, List.cons.injEq] at h; omega
  | 4, _, h =>
    simp only [nmL] at h
    obtain ⟨h1, h2⟩ := List.cons.inj h
    obtain ⟨h3, h4⟩ := List.cons.inj h2
    omega
  | 5, _, h => simp only [nmL, List.cons.injEq] at h; omega
theorem flat_grid {α : Type} (f : Nat → α) (C : Nat) : ∀ R, ((List.range R).map fun i => (List.range C).map fun j => f (i * C + j)).flatten = (List.range (R * C)).map f
  | 0 => by simp
  | R + 1 => by
    rw [List.range_succ, List.map_append, List.flatten_append, flat_grid f C R, Nat.succ_mul, List.range_add, List.map_append, List.map_map]
    simp [Function.comp_def]
structure GF (R C : Nat) (fl : List (List (List Nat))) : Prop where
  r0 : 0 < R
  r1 : R ≤ 12
  c0 : 0 < C
  c1 : C ≤ 12
  len : fl.length = R
  row : ∀ r ∈ fl, r.length = C
  ok : ∀ r ∈ fl, ∀ l ∈ r, okL l = true
  nd : (fl.flatten.map lowN).Nodup
  form : ∃ st sh, st < 6 ∧ ∀ r ∈ fl, ∀ l ∈ r, ∃ nu, lowN l = nmL st sh nu
theorem upper_chr : ∀ k < 26, Txt.upper (Sx [97 + k]) = Sx [65 + k] := by decide +kernel
theorem lower_chr : ∀ k < 26, Txt.lower (Sx [65 + k]) = Sx [97 + k] := by decide +kernel
theorem upper_lo {c : Nat} (h : isLo c = true) : Txt.upper (Sx [c]) = Sx [c - 32] := by
  simp [isLo] at h
  have e : c = 97 + (c - 97) := by omega
  rw [e, upper_chr (c - 97) (by omega)]
  congr 2
  omega
theorem lower_up {c : Nat} (h : isUp c = true) : Txt.lower (Sx [c]) = Sx [c + 32] := by
  simp [isUp] at h
  have e : c = 65 + (c - 65) := by omega
  rw [e, lower_chr (c - 65) (by omega)]
  congr 2
  omega
theorem nmax_facts (st sh nu : Nat) (b : Bool) : okL (if b = true then upL (nmL st sh nu) else nmL st sh nu) = true ∧ lowN (if b = true then upL (nmL st sh nu) else nmL st sh nu) = nmL st sh nu := by
  obtain ⟨c, t, e, h1, h2, h3⟩ := nm_form st sh nu
  rw [e]
  have hc := h1
  simp [isLo] at hc
  have u1 : isUp (c - 32) = true := by simp [isUp]; omega
  have u2 : isUp c = false := by simp [isUp]; omega
  cases b with
  | true =>
    simp only [if_pos, upL]
    constructor
    · simp only [okL, u1, h2, decide_eq_true h3]; rfl
    · simp only [lowN, u1, if_pos]
      congr 1
      omega
  | false =>
    rw [if_neg Bool.false_ne_true]
    constructor
    · simp only [okL, h1, h2, decide_eq_true h3, Bool.or_true]; rfl
    · simp only [lowN, u2]
      rw [if_neg Bool.false_ne_true]
theorem shaped_pairs (es : List (Nat × Nat)) : SeqAt.shaped (.list (es.map prD)) = true := by
  have h : PyData.canLayAll0 (es.map prD) = true ∧ PyData.depthAll (es.map prD) ≤ 1 := by
    induction es with
    | nil => exact ⟨rfl, Nat.zero_le _⟩
    | cons a es ih =>
      constructor
      · rw [List.map_cons, PyData.canLayAll0, ih.1]; rfl
      · rw [List.map_cons, PyData.depthAll]
        exact Nat.max_le.mpr ⟨Nat.le_refl _, ih.2⟩
  obtain ⟨h1, h2⟩ := h
  simp [SeqAt.shaped, PyData.canLay0, PyData.depth, h1]
  omega
theorem shaped_pair (q : Nat × Nat) : SeqAt.shaped (prD q) = true := rfl
section
variable {K : PySem.W.Frag} {Pg : Program} {w : World}
def W_named : WT := fun ss m P => ∃ (a : Addr) (R C : Nat) (u : List PyData) (n : Nat), ss = [.m a, .d (.int (R : Nat)), .d (.int (C : Nat))] ∧ 0 < R ∧ R ≤ 12 ∧ 0 < C ∧ C ≤ 12 ∧ m a = some (.lst u) ∧ SrcL u n ∧ n ≤ 400000 ∧
  ∀ fl u', GF R C fl → SrcL u' (n + 2000) → P (.d (flD fl)) (put m a (.lst u'))
def t_named (K : PySem.W.Frag) (Pg : Program) (w : World) : TS :=
  (tSeq (tAsg (tCall (SpD K W_pattern) [] E0 (tCons (tVar 0) (tCons (tVar 1) (tCons (tVar 2) tNil)))) (gName 3))
    (tSeq (tAsg (tCall (SpD K W_draw) [] E0 (tCons (tVar 0) (tCons (tC (.int 6)) tNil))) (gName 4))
    (tSeq (tAsg (tCall (SpD K W_draw) [] E0 (tCons (tVar 0) (tCons (tC (.int 26)) tNil))) (gName 5))
    (tSeq (tAsg (tCall (SpD K W_shuffled) [] E0 (tCons (tVar 0) (tCons (tLstRg (tRg1 (tOp (rMulU) (tVar 1) (tVar 2)))) tNil))) (gName 6))
    (tSeq (tAsg (tLst tNil) (gName 7))
    (tSeq (tFor (iRng1 (tCons (tVar 1) tNil)) (gName 8)
    (tSeq (tAsg (tLst tNil) (gName 9))
    (tSeq (tFor (iRng1 (tCons (tVar 2) tNil)) (gName 10)
    (tSeq (tAsg (tCall (SpD K W_name) [] E0 (tCons (tVar 4) (tCons (tVar 5) (tCons (tOp (rIx K) (tVar 6) (tOp (rAddU K) (tOp (rMulU) (tVar 8) (tVar 2)) (tVar 10))) tNil)))) (gName 11))
    (tSeq (tIfS (tTest (tOp (rInU K Pg w) (tTupZ (tCons (tVar 8) (tCons (tVar 10) tNil))) (tVar 3)))
    (tAsg (tOp (rAddU K) (tM0 rUpperM (tOp (rIx K) (tVar 11) (tC (.int 0)))) (tSl (rSlU K) (tVar 11) (tPart (tC (.int 1))) tNoPart)) (gName 11))
    tNext)
    (tDrop (tBM K "list" rAppend (tVar 9) (tCons (tVar 11) tNil))))))
    (tDrop (tBM K "list" rAppend (tVar 7) (tCons (tCB (rTupleC K) (tCons (tVar 9) tNil)) tNil))))))
    (tRet (tCB (rTupleC K) (tCons (tVar 7) tNil)))))))))
theorem wp_app {ρ : Rho} {m : Sto} {k : Ko} {c : Addr} {ds : List PyData} {x : PyData} {i j : Nat} (h9 : ρ[i]? = some (some (.m c))) (h11 : ρ[j]? = some (some (.d x))) (hm : m c = some (.lst ds)) (hl : ds.length < 100000) (p : k.nx ρ (put m c (.lst (ds ++ [x])))) :
    Wp K (tDrop (tBM K "list" rAppend (tVar i) (tCons (tVar j) tNil))) ρ m k :=
  wp_drop <| ev_bm <| ev_var h9 ⟨ty_listM hm, ea_cons <| ev_var h11 <| ea_nil <| rm_append hm hl p⟩
theorem rd_named (ss : List Sl) (m : Sto) (P : PV) (h : W_named ss m P) : Wp K (t_named K Pg w) (rho ["source", "rows", "columns", "pattern", "style", "shift", "numbers", "floor", "row", "cells", "column", "name"] ss) m { nx := fun _ m' => P (.d .none) m', rt := P } := by
  obtain ⟨a, R, C, u, n, rfl, hR0, hR, hC0, hC, hm, hu, hn, p⟩ := h
  have hRC : R * C ≤ 144 := Nat.mul_le_mul hR hC
  have lU : ∀ k : Nat, (upTo k).length = k := fun k => by simp [upTo]
  refine wp_seq <| wp_set <| ev_call0 <| ea_cons <| ev_var rfl <| ea_cons <| ev_var rfl <| ea_cons <| ev_var rfl <| ea_nil ⟨a, R, C, u, n, rfl, hR0, hR, hC0, hC, hm, hu, by omega, fun es u1 hes hu1 => ?_⟩
  refine wp_seq <| wp_set <| ev_call0 <| ea_cons <| ev_var rfl <| ea_cons <| ev_int <| ea_nil ⟨a, _, u1, _, rfl, by decide, by decide, put_same, hu1, by omega, fun st u2 hst hu2 => ?_⟩
  rw [put_put]
  refine wp_seq <| wp_set <| ev_call0 <| ea_cons <| ev_var rfl <| ea_cons <| ev_int <| ea_nil ⟨a, _, u2, _, rfl, by decide, by decide, put_same, hu2, by omega, fun sh u3 hsh hu3 => ?_⟩
  rw [put_put]
  have eRC : (R : Int) * (C : Int) = ((R * C : Nat) : Int) := by simp
  refine wp_seq <| wp_set <| ev_call0 <| ea_cons <| ev_var rfl <| ea_cons <| ev_listRg <| ev_op <| ev_var rfl <| ev_var rfl <| rm_int (wide_mul (a := 30) (b := 30) (by omega) (by omega) (by decide) (by decide) (by decide)) ⟨_, rfl, ?_, ?_, ea_nil ⟨a, _, u3, _, rfl, put_same, hu3, ?_, ?_, fun os u4 hos hu4 => ?_⟩⟩
  · rw [eRC]; omega
  · rw [eRC]; omega
  · rw [eRC, Int.toNat_natCast, lU]; omega
  · rw [eRC, Int.toNat_natCast, lU]; omega
  rw [eRC, Int.toNat_natCast] at hos hu4
  rw [lU] at hu4
  obtain ⟨ns, hns, rfl⟩ := perm_map (f := fun i : Nat => PyData.int (i : Nat)) hos (upTo_map _)
  rw [put_put]
  have hnl : ns.length = R * C := by have := hns.length_eq; simpa using this
  have hst' : st < 6 := by omega
  have hsh' : sh < 26 := by omega
  let NM : Nat → List Nat := fun k => nmL st sh (ns.getD k 0)
  let B : Nat → Nat → Bool := fun i j => anyEq (prD (i, j)) (es.map prD)
  let X : Nat → Nat → List Nat := fun i j => if B i j = true then upL (NM (i * C + j)) else NM (i * C + j)
  let row : Nat → List (List Nat) := fun i => (List.range C).map (X i)
  have hlt : ∀ k, k < R * C → ns.getD k 0 < 144 := fun k hk => by
    have : ns.getD k 0 ∈ ns := by
      rw [List.getD_eq_getElem?_getD, List.getElem?_eq_getElem (by omega)]
      exact List.getElem_mem _
    have := List.mem_range.mp (hns.mem_iff.mp this)
    omega
  have hG : GF R C ((List.range R).map row) := by
    refine ⟨hR0, hR, hC0, hC, by simp, fun r hr => ?_, fun r hr l hl => ?_, ?_, st, sh, hst', fun r hr l hl => ?_⟩
    · obtain ⟨i, _, rfl⟩ := List.mem_map.mp hr
      simp [row]
    · obtain ⟨i, _, rfl⟩ := List.mem_map.mp hr
      obtain ⟨j, _, rfl⟩ := List.mem_map.mp hl
      exact (nmax_facts st sh _ _).1
    · have e : (((List.range R).map row).flatten.map lowN) = ns.map (nmL st sh) := by
        rw [List.map_flatten, List.map_map]
        have e1 : (List.map lowN ∘ row) = fun i => (List.range C).map fun j => NM (i * C + j) := by
          funext i
          show List.map lowN ((List.range C).map (X i)) = _
          rw [List.map_map]
          apply List.map_congr_left
          intro j _
          exact (nmax_facts st sh _ _).2
        rw [e1, flat_grid NM C R]
        apply List.ext_getElem?
        intro k
        rw [List.getElem?_map, List.getElem?_map]
        by_cases hk : k < R * C
        · rw [List.getElem?_range hk, List.getElem?_eq_getElem (by omega)]
          show some (nmL st sh (ns.getD k 0)) = some (nmL st sh ns[k])
          rw [List.getD_eq_getElem?_getD, List.getElem?_eq_getElem (by omega)]
          rfl
        · rw [List.getElem?_eq_none (by simpa using hk), List.getElem?_eq_none (by omega)]
          rfl
      rw [e]
      have nd : ns.Nodup := hns.nodup_iff.mpr List.nodup_range
      refine List.pairwise_map.mpr (List.Pairwise.imp_of_mem (fun {x y} hx hy hne q => ?_) nd)
      have h1 := hns.mem_iff.mp hx
      have h2 := hns.mem_iff.mp hy
      simp at h1 h2
      exact hne (nm_inj hst' hsh' (by omega) (by omega) q)
    · obtain ⟨i, _, rfl⟩ := List.mem_map.mp hr
      obtain ⟨j, _, rfl⟩ := List.mem_map.mp hl
      exact ⟨_, (nmax_facts st sh _ _).2⟩
  have fin : P (.d (flD ((List.range R).map row))) (put m a (.lst u4)) := p _ u4 hG (hu4.mono (by omega))
  clear p hu1 hu2 hu3 hu hG hos
  generalize put m a (.lst u4) = m1 at fin ⊢
  refine wp_seq <| wp_set <| ev_lstM <| ea_nil ⟨[], rfl, by simp, fun b hb => ?_⟩
  refine wp_seq <| wp_rng <| ea_cons <| ev_var rfl <| ea_nil ⟨R, fun i ρ' m' => ∃ s8 s9 s10 s11, ρ' = [some (.m a), some (.d (.int (R : Nat))), some (.d (.int (C : Nat))), some (.d (.list (es.map prD))), some (.d (.int (st : Nat))), some (.d (.int (sh : Nat))), some (.d (.list (ns.map fun i => .int (i : Nat)))), some (.m b), s8, s9, s10, s11] ∧ m' = put m1 b (.lst (((List.range i).map row).map rwD)), rfl, by omega, ⟨_, _, _, _, rfl, rfl⟩, ?_, ?_⟩
  · rintro i ρ' m' hi ⟨s8, s9, s10, s11, rfl, rfl⟩
    refine wp_post <| wp_seq <| wp_set <| ev_lstM <| ea_nil ⟨[], rfl, by simp, fun c hc => ?_⟩
    have hbc : b ≠ c := fun e => by rw [← e, put_same] at hc; cases hc
    refine wp_seq <| wp_rng <| ea_cons <| ev_var rfl <| ea_nil ⟨C, fun j ρ' m' => ∃ s10 s11, ρ' = [some (.m a), some (.d (.int (R : Nat))), some (.d (.int (C : Nat))), some (.d (.list (es.map prD))), some (.d (.int (st : Nat))), some (.d (.int (sh : Nat))), some (.d (.list (ns.map fun i => .int (i : Nat)))), some (.m b), some (.d (.int (i : Nat))), some (.m c), s10, s11] ∧ m' = put (put m1 b (.lst (((List.range i).map row).map rwD))) c (.lst (((List.range j).map (X i)).map nmD)), rfl, by omega, ⟨_, _, rfl, rfl⟩, ?_, ?_⟩
    · rintro j ρ' m' hj ⟨s10, s11, rfl, rfl⟩
      have hk : i * C + j < R * C := by
        have : (i + 1) * C ≤ R * C := Nat.mul_le_mul_right C hi
        rw [Nat.succ_mul] at this
        omega
      have hx : ns[i * C + j]? = some (ns.getD (i * C + j) 0) := by rw [List.getD_eq_getElem?_getD, List.getElem?_eq_getElem (by omega)]; rfl
      obtain ⟨c0, t0, e0, h1, h2, h3⟩ := nm_form st sh (ns.getD (i * C + j) 0)
      have el : ((List.range (j + 1)).map (X i)).map nmD = ((List.range j).map (X i)).map nmD ++ [nmD (X i j)] := by rw [List.range_succ, List.map_append, List.map_append]; rfl
      have ll : (((List.range j).map (X i)).map nmD).length < 100000 := by simp; omega
      refine wp_seq <| wp_set <| ev_call0 <| ea_cons <| ev_var rfl <| ea_cons <| ev_var rfl <| ea_cons <| ev_op <| ev_var rfl <| ev_op <| ev_op <| ev_var rfl <| ev_var rfl <| rm_int (wide_mul (a := 30) (b := 30) (by omega) (by omega) (by decide) (by decide) (by decide)) <| ev_var rfl <| ra_int <| rx_lst (atI_map (by simp) hx) <| ea_nil ⟨st, sh, _, rfl, hst', hsh', hlt _ hk, ?_⟩
      refine wp_seq <| wp_if <| et_test <| ev_op <| ev_tup <| ea_cons <| ev_var rfl <| ea_cons <| ev_var rfl <| ea_nil ⟨[_, _], rfl, by simp, ev_var rfl <| ri_lst (shaped_pair (i, j)) (shaped_pairs es) ⟨_, rfl, ite_b (fun hB => ?_) (fun hB => wp_next ?_)⟩⟩
      · have eX : X i j = (c0 - 32) :: t0 := by
          show (if B i j = true then upL (NM (i * C + j)) else NM (i * C + j)) = _
          rw [if_pos hB]
          show upL (nmL st sh _) = _
          rw [e0]
          rfl
        rw [e0]
        have hl : (Sx (c0 :: t0)).length ≤ 100000 := by rw [sx_len]; simp; omega
        refine wp_set <| ev_op <| ev_m0 <| ev_op <| ev_var rfl <| ev_int <| rx_str hl atI_zero ⟨_, rfl, rm_upper (by rw [sx_len [c0]]; simp) <| ev_sl <| ev_var rfl <| eo_some <| ev_int ⟨_, rfl, eo_no <| rz_str hl ?_⟩⟩
        show RO K (rAddU K) (.d (.str (Txt.upper (Sx [c0])))) _ _ _
        rw [upper_lo h1, cutS_tail]
        refine ra_str (by rw [sx_len, sx_len]; simp; omega) ?_
        rw [sx_app]
        refine wp_app rfl rfl put_same ll ⟨_, _, rfl, ?_⟩
        rw [put_put, el, eX]
        rfl
      · have eX : X i j = nmL st sh (ns.getD (i * C + j) 0) := by
          show (if B i j = true then upL (NM (i * C + j)) else NM (i * C + j)) = _
          rw [if_neg (by rw [show B i j = false from hB]; exact Bool.false_ne_true)]
        refine wp_app rfl rfl put_same ll ⟨_, _, rfl, ?_⟩
        rw [put_put, el, eX]
    · rintro ρ' m' ⟨s10, s11, rfl, rfl⟩
      refine wp_drop <| ev_bm <| ev_var rfl ⟨ty_listM (by rw [put_ne hbc, put_same]), ea_cons <| ev_cb <| ea_cons <| ev_var rfl <| ea_nil <| rc_tupleM put_same <| ea_nil <| rm_append (by rw [put_ne hbc, put_same]) (by simp; omega) ⟨c, .lst (((List.range C).map (X i)).map nmD), ?_, _, _, _, _, rfl, ?_⟩⟩
      · rw [put_ne (Ne.symm hbc), put_same]
      · have hc1 : m1 c = none := by rw [put_ne (Ne.symm hbc)] at hc; exact hc
        rw [put_mid hbc, del_put (by rw [put_ne (Ne.symm hbc)]; exact hc1), List.range_succ, List.map_append, List.map_append]
        rfl
  · rintro ρ' m' ⟨s8, s9, s10, s11, rfl, rfl⟩
    refine wp_ret <| ev_del <| ev_cb <| ea_cons <| ev_var rfl <| ea_nil <| rc_tupleM put_same ⟨b, _, put_same, ?_⟩
    rw [del_put hb]
    exact fin
end
end Dv

namespace Dv
open PySem L2 PyProof.Rows
theorem inj_of {α β : Type} {f : α → β} : ∀ {xs : List α}, (xs.map f).Nodup → ∀ {x y : α}, x ∈ xs → y ∈ xs → f x = f y → x = y
  | [], _, _, _, h, _, _ => by cases h
  | a :: xs, nd, x, y, hx, hy, e => by
    rw [List.map_cons, List.nodup_cons] at nd
    rcases List.mem_cons.mp hx with h1 | h1
    · rcases List.mem_cons.mp hy with h2 | h2
      · rw [h1, h2]
      · subst h1
        exact absurd (e ▸ List.mem_map_of_mem h2) nd.1
    · rcases List.mem_cons.mp hy with h2 | h2
      · subst h2
        exact absurd (e.symm ▸ List.mem_map_of_mem h1) nd.1
      · exact inj_of nd.2 h1 h2 e
theorem nd_of {α β : Type} {f : α → β} {xs : List α} (h : (xs.map f).Nodup) : xs.Nodup := (List.pairwise_map.mp h).imp fun {a b} q e => q (congrArg f e)
theorem nd_map {α β : Type} {g : α → β} {xs : List α} (nd : xs.Nodup) (h : ∀ x y, x ∈ xs → y ∈ xs → g x = g y → x = y) : (xs.map g).Nodup := List.pairwise_map.mpr (nd.imp_of_mem fun {x y} hx hy hne e => hne (h x y hx hy e))
theorem GF.vf {R C : Nat} {fl : List (List (List Nat))} (g : GF R C fl) : VF fl where
  pos := fun e => by have := g.len; rw [e] at this; simp at this; have := g.r0; omega
  most := by rw [g.len]; exact g.r1
  cols := ⟨C, g.c0, g.c1, g.row⟩
  ok := g.ok
  nd := nd_of g.nd
theorem okL_ne {l : List Nat} (h : okL l = true) : l ≠ [] := fun e => by rw [e] at h; cases h
theorem VF.named {fl : List (List (List Nat))} (v : VF fl) : named fl := fun r hr l hl => ⟨okL_ne (v.ok r hr l hl), okL_tx (v.ok r hr l hl)⟩
/-- another item takes the name of a leader in lower case -/
def twin (o t l : List Nat) : List Nat := if l = o then t else l
theorem GF.twinned {R C : Nat} {fl : List (List (List Nat))} (g : GF R C fl) {c : Nat} {t o : List Nat} (hl : (c :: t) ∈ fl.flatten) (hu : isUp c = true) (ho : o ∈ fl.flatten) (hno : upN o = false) : VF (fl.map fun r => r.map (twin o ((c + 32) :: t))) := by
  have hok : ∀ l ∈ fl.flatten, okL l = true := fun l h => by
    obtain ⟨r, hr, h2⟩ := List.mem_flatten.mp h
    exact g.ok r hr l h2
  have hlow : isUp (c + 32) = false := by simp [isUp] at hu ⊢; omega
  have hlo : isLo (c + 32) = true := by simp [isUp] at hu; simp [isLo]; omega
  have elow : lowN ((c + 32) :: t) = lowN (c :: t) := by simp only [lowN, hlow, hu, if_pos]; rw [if_neg Bool.false_ne_true]
  have notin : ∀ y ∈ fl.flatten, y ≠ (c + 32) :: t ∨ y = o ∨ True := fun _ _ => .inr (.inr trivial)
  have key : ∀ y ∈ fl.flatten, (c + 32) :: t = y → False := fun y hy e => by
    have h1 := inj_of g.nd hl hy (by rw [← e, elow])
    rw [← e] at h1
    have := (List.cons.inj h1).1
    omega
  refine ⟨fun e => ?_, ?_, ⟨C, g.c0, g.c1, fun r hr => ?_⟩, fun r hr l h => ?_, ?_⟩
  · have h2 := congrArg List.length e
    rw [List.length_map, g.len] at h2
    have := g.r0
    simp at h2
    omega
  · rw [List.length_map, g.len]; exact g.r1
  · obtain ⟨r', hr', rfl⟩ := List.mem_map.mp hr
    rw [List.length_map]
    exact g.row r' hr'
  · obtain ⟨r', hr', rfl⟩ := List.mem_map.mp hr
    obtain ⟨l', hl', rfl⟩ := List.mem_map.mp h
    unfold twin
    split
    · have h1 := hok _ hl
      simp only [okL] at h1 ⊢
      rw [hlo, Bool.or_true]
      simp at h1
      simp [h1]
      exact h1.2.2
    · exact g.ok r' hr' l' hl'
  · have e : (fl.map fun r => r.map (twin o ((c + 32) :: t))).flatten = fl.flatten.map (twin o ((c + 32) :: t)) := by rw [List.map_flatten]
    rw [e]
    refine nd_map (nd_of g.nd) fun x y hx hy e => ?_
    unfold twin at e
    by_cases h1 : x = o
    · by_cases h2 : y = o
      · rw [h1, h2]
      · rw [if_pos h1, if_neg h2] at e
        exact (key y hy e).elim
    · by_cases h2 : y = o
      · rw [if_neg h1, if_pos h2] at e
        exact (key x hx e.symm).elim
      · rw [if_neg h1, if_neg h2] at e
        exact e
section
variable {K : PySem.W.Frag} {Pg : Program} {w : World}
def W_floor : WT := fun ss m P => ∃ (a : Addr) (most : Nat) (u : List PyData) (n : Nat), ss = [.m a, .d (.int (most : Nat))] ∧ 0 < most ∧ most ≤ 10000 ∧ m a = some (.lst u) ∧ SrcL u n ∧ n ≤ 300000 ∧
  ∀ R C fl u', GF R C fl → R * C ≤ most → SrcL u' (n + 3000) → P (.d (flD fl)) (put m a (.lst u'))
def t_floor (K : PySem.W.Frag) (Pg : Program) (w : World) : TS :=
  (tSeq (tAsg (tOp (rAddU K) (tC (.int 1)) (tCall (SpD K W_draw) [] E0 (tCons (tVar 0) (tCons (tCB (rMinC) (tCons (tC (.int 12)) (tCons (tVar 1) tNil))) tNil)))) (gName 2))
    (tSeq (tAsg (tOp (rAddU K) (tC (.int 1)) (tCall (SpD K W_draw) [] E0 (tCons (tVar 0) (tCons (tCB (rMinC) (tCons (tC (.int 12)) (tCons (tOp (rI CDivW fun i j => .int (i / j)) (tVar 1) (tVar 2)) tNil))) tNil)))) (gName 3))
    (tRet (tCall (SpD K W_named) [] E0 (tCons (tVar 0) (tCons (tVar 2) (tCons (tVar 3) tNil)))))))
theorem rd_floor (ss : List Sl) (m : Sto) (P : PV) (h : W_floor ss m P) : Wp K (t_floor K Pg w) (rho ["source", "most", "rows", "columns"] ss) m { nx := fun _ m' => P (.d .none) m', rt := P } := by
  obtain ⟨a, most, u, n, rfl, h0, h1, hm, hu, hn, p⟩ := h
  have m1 : 0 < (if (most : Int) < 12 then (most : Int) else 12) ∧ (if (most : Int) < 12 then (most : Int) else 12) ≤ 12 ∧ (if (most : Int) < 12 then (most : Int) else 12) ≤ most := by split <;> omega
  refine wp_seq <| wp_set <| ev_op <| ev_int <| ev_call0 <| ea_cons <| ev_var rfl <| ea_cons <| ev_cb <| ea_cons <| ev_int <| ea_cons <| ev_var rfl <| ea_nil <| rc_min2 <| ea_nil ⟨a, _, u, n, rfl, m1.1, by omega, hm, hu, by omega, fun r u1 hr hu1 => ra_int ?_⟩
  have e1 : (1 : Int) + (r : Int) = ((r + 1 : Nat) : Int) := by omega
  rw [e1]
  have hR : r + 1 ≤ most := by omega
  have hq0 : 1 ≤ most / (r + 1) := (Nat.le_div_iff_mul_le (by omega)).mpr (by omega)
  have eq : (most : Int) / ((r + 1 : Nat) : Int) = ((most / (r + 1) : Nat) : Int) := by simp
  have m2 : 0 < (if ((most / (r + 1) : Nat) : Int) < 12 then ((most / (r + 1) : Nat) : Int) else 12) ∧ (if ((most / (r + 1) : Nat) : Int) < 12 then ((most / (r + 1) : Nat) : Int) else 12) ≤ 12 ∧ (if ((most / (r + 1) : Nat) : Int) < 12 then ((most / (r + 1) : Nat) : Int) else 12) ≤ ((most / (r + 1) : Nat) : Int) := by split <;> omega
  refine wp_seq <| wp_set <| ev_op <| ev_int <| ev_call0 <| ea_cons <| ev_var rfl <| ea_cons <| ev_cb <| ea_cons <| ev_int <| ea_cons <| ev_op <| ev_var rfl <| ev_var rfl <| rd_int (wide_div (b := 100) (by omega) (by omega) (by decide) (by decide)) <| ea_nil <| rc_min2 <| ?_
  rw [eq]
  refine ea_nil ⟨a, _, u1, n + 1, rfl, m2.1, by omega, put_same, hu1, by omega, fun s u2 hs hu2 => ra_int ?_⟩
  rw [put_put]
  have e2 : (1 : Int) + (s : Int) = ((s + 1 : Nat) : Int) := by omega
  rw [e2]
  refine wp_ret <| ev_call0 <| ea_cons <| ev_var rfl <| ea_cons <| ev_var rfl <| ea_cons <| ev_var rfl <| ea_nil ⟨a, r + 1, s + 1, u2, _, rfl, by omega, by omega, by omega, by omega, put_same, hu2, by omega, fun fl u3 hG hu3 => ?_⟩
  rw [put_put]
  refine p _ _ fl u3 hG ?_ (hu3.mono (by omega))
  have h3 : s + 1 ≤ most / (r + 1) := by omega
  have := (Nat.le_div_iff_mul_le (show 0 < r + 1 by omega)).mp h3
  rw [Nat.mul_comm]
  exact this
def W_twinned : WT := fun ss m P => ∃ (a : Addr) (R C : Nat) (fl : List (List (List Nat))) (u : List PyData) (n : Nat), ss = [.m a, .d (flD fl)] ∧ GF R C fl ∧ m a = some (.lst u) ∧ SrcL u n ∧ n ≤ 400000 ∧
  ∀ fl' u', VF fl' → SrcL u' (n + 3) → P (.d (flD fl')) (put m a (.lst u'))
def t_twinned (K : PySem.W.Frag) (Pg : Program) (w : World) : TS :=
  (tSeq (tAsg (tCall (SpD K W_leaders) [] E0 (tCons (tVar 1) tNil)) (gName 2))
    (tSeq (tAsg (tLst tNil) (gName 3))
    (tSeq (tFor (iSeqU K (tVar 1)) (gName 4)
    (tAsg (tOp (rAddU K) (tVar 3) (tLc (iSeqU K (tVar 4)) (gName 8) (tTest (tOp (rNotInU K Pg w) (tVar 8) (tVar 2))) (tVar 8) [8])) (gName 3)))
    (tSeq (tIfS (tOr (tTest (tOp (rEqU K) (tVar 2) (tLst tNil))) (tOr (tTest (tOp (rEqU K) (tVar 3) (tLst tNil))) (tTest (tOp (rI0 fun i j => .bl (decide (j < i))) (tCall (SpD K W_draw) [] E0 (tCons (tVar 0) (tCons (tC (.int 3)) tNil))) (tC (.int 0))))))
    (tRet (tVar 1))
    tNext)
    (tSeq (tAsg (tOp (rIx K) (tVar 2) (tCall (SpD K W_draw) [] E0 (tCons (tVar 0) (tCons (tCB (rLenC K) (tCons (tVar 2) tNil)) tNil)))) (gName 5))
    (tSeq (tAsg (tOp (rIx K) (tVar 3) (tCall (SpD K W_draw) [] E0 (tCons (tVar 0) (tCons (tCB (rLenC K) (tCons (tVar 3) tNil)) tNil)))) (gName 6))
    (tSeq (tAsg (tOp (rAddU K) (tM0 rLowerM (tOp (rIx K) (tVar 5) (tC (.int 0)))) (tSl (rSlU K) (tVar 5) (tPart (tC (.int 1))) tNoPart)) (gName 7))
    (tRet (tCB (rTupleC K) (tCons (tLc (iSeqU K (tVar 1)) (gName 4) tYes (tCB (rTupleC K) (tCons (tLc (iSeqU K (tVar 4)) (gName 8) tYes (tIf (tTest (tOp (rEqU K) (tVar 8) (tVar 6))) (tVar 7) (tVar 8)) [8]) tNil)) [4]) tNil))))))))))
theorem eqv_nil (ds : List PyData) : PyData.eqv (.list ds) (.list []) = ds.isEmpty := by
  cases ds with
  | nil => rfl
  | cons a b => rfl
theorem filt_map {α : Type} {G : α → Bool} {f : α → PyData} (xs : List α) : (xs.filter G).map f = (xs.filter G).map f := rfl
theorem rd_twinned (ss : List Sl) (m : Sto) (P : PV) (h : W_twinned ss m P) : Wp K (t_twinned K Pg w) (rho ["source", "floor", "leaders", "others", "cells", "leader", "other", "twin", "name"] ss) m { nx := fun _ m' => P (.d .none) m', rt := P } := by
  obtain ⟨a, R, C, fl, u, n, rfl, g, hm, hu, hn, p⟩ := h
  have v := g.vf
  have hS := v.short
  have hN := v.named
  refine wp_seq <| wp_set <| ev_call0 <| ea_cons <| ev_var rfl <| ea_nil ⟨fl, rfl, hN, hS, fun ys hys _ => ?_⟩
  obtain ⟨zs, hzs, rfl⟩ := perm_map (f := Sx) hys rfl
  rw [← nms_str]
  have hzm : ∀ l, l ∈ zs ↔ (l ∈ fl.flatten ∧ upN l = true) := fun l => by rw [hzs.mem_iff, List.mem_filter]
  have hzT : ∀ l ∈ zs, Tx l := fun l hl => by
    obtain ⟨r, hr, h2⟩ := List.mem_flatten.mp ((hzm l).mp hl).1
    exact (hN r hr l h2).2
  refine wp_seq <| wp_set <| ev_lst <| ea_nil ⟨[], rfl, by simp, wp_seq <| wp_forL (toD := rwD) <| ei_tup <| ev_var rfl ⟨_, rfl, fl, fun i ρ' m' => ∃ s4, ρ' = [some (.m a), some (.d (flD fl)), some (.d (.list (zs.map nmD))), some (.d (.list (((fl.take i).flatten.filter fun l => !decide (l ∈ zs)).map nmD))), s4, none, none, none, none] ∧ m' = m, rfl, ⟨_, rfl, rfl⟩, fun _ _ _ _ => trivial, ?_, ?_⟩⟩
  · rintro i r ρ' m' hr ⟨s4, rfl, rfl⟩
    have hmr : r ∈ fl := List.mem_of_getElem? hr
    refine wp_set <| ev_op <| ev_var rfl <| ev_lcF (toD := nmD) List.mem_cons_self <| ei_tup <| ev_var rfl ⟨_, rfl, r, fun l => !decide (l ∈ zs), nmD, rfl, trivial, ?_, fun l hl => ⟨?_, fun _ => ev_var rfl ⟨rfl, rfl⟩⟩, ?_⟩
    · have := (hS.2 r hmr).1; omega
    · refine et_test <| ev_op <| ev_var rfl <| ev_var rfl <| rni_lst (shaped_str (hN r hmr l hl).2) (shaped_names hzT).2 ⟨_, rfl, ?_, rfl⟩
      rw [anyEq_names]
    · refine ra_lst ?_ ⟨some (.d (rwD r)), ?_, rfl⟩
      · have a1 := flat_len hS (fl.take i) fun r hr => List.mem_of_mem_take hr
        have a2 : (fl.take i).length ≤ 100 := by rw [List.length_take]; have := hS.1; omega
        have a3 := (hS.2 r hmr).1
        have a4 := List.length_filter_le (fun l => !decide (l ∈ zs)) (fl.take i).flatten
        have a5 := List.length_filter_le (fun l => !decide (l ∈ zs)) r
        rw [List.length_map, List.length_map]
        omega
      · rw [take_flat hr, List.filter_append, List.map_append]
        rfl
  rintro ρ' m' ⟨s4, rfl, rfl⟩
  rw [List.take_of_length_le (Nat.le_refl _)]
  have hos : ∀ l ∈ fl.flatten.filter (fun l => !decide (l ∈ zs)), l ∈ fl.flatten ∧ upN l = false := fun l hl => by
    obtain ⟨h1, h2⟩ := List.mem_filter.mp hl
    refine ⟨h1, ?_⟩
    have h3 : l ∉ zs := by simpa using h2
    rw [hzm] at h3
    cases hh : upN l with
    | false => rfl
    | true => exact absurd ⟨h1, hh⟩ h3
  have hol : (fl.flatten.filter fun l => !decide (l ∈ zs)).length ≤ 100000 := by
    have a1 := flat_len hS fl fun r hr => hr
    have a2 := hS.1
    have := List.length_filter_le (fun l => !decide (l ∈ zs)) fl.flatten
    omega
  have hzl : zs.length ≤ 100000 := by
    have a0 := hzs.length_eq
    have a1 := flat_len hS fl fun r hr => hr
    have a2 := hS.1
    have := List.length_filter_le upN fl.flatten
    omega
  revert hos hol
  generalize (fl.flatten.filter fun l => !decide (l ∈ zs)) = os
  intro hos hol
  have hoT : ∀ l ∈ os, Tx l := fun l hl => by
    obtain ⟨r, hr, h2⟩ := List.mem_flatten.mp (hos l hl).1
    exact (hN r hr l h2).2
  have keep : P (.d (flD fl)) m' := by
    have := p fl u v (hu.mono (by omega))
    rw [put_self hm] at this
    exact this
  refine wp_seq <| wp_if <| et_or <| et_test <| ev_op <| ev_var rfl <| ev_lst <| ea_nil ⟨[], rfl, by simp, re_eq (shaped_names hzT).2 rfl ⟨_, rfl, ite_b (fun h1 => ?_) (fun h1 => ?_)⟩⟩
  · exact ite_b (fun _ => wp_ret <| ev_var rfl keep) (fun q => nomatch q)
  refine et_or <| et_test <| ev_op <| ev_var rfl <| ev_lst <| ea_nil ⟨[], rfl, by simp, re_eq (shaped_names hoT).2 rfl ⟨_, rfl, ite_b (fun h2 => ?_) (fun h2 => ?_)⟩⟩
  · exact ite_b (fun _ => wp_ret <| ev_var rfl keep) (fun q => nomatch q)
  refine et_test <| ev_op <| ev_call0 <| ea_cons <| ev_var rfl <| ea_cons <| ev_int <| ea_nil ⟨a, _, u, n, rfl, by decide, by decide, hm, hu, by omega, fun r0 u1 _ hu1 => ev_int <| rl_gt ⟨_, rfl, ite_b (fun _ => ?_) (fun _ => wp_next ?_)⟩⟩
  · exact wp_ret <| ev_var rfl <| p fl u1 v (hu1.mono (by omega))
  rw [eqv_nil] at h1 h2
  have z0 : 0 < zs.length := by cases zs with
    | nil => cases h1
    | cons _ _ => simp
  have o0 : 0 < os.length := by cases os with
    | nil => cases h2
    | cons _ _ => simp
  refine wp_seq <| wp_set <| ev_op <| ev_var rfl <| ev_call0 <| ea_cons <| ev_var rfl <| ea_cons <| ev_cb <| ea_cons <| ev_var rfl <| ea_nil <| rc_lenL <| ea_nil ⟨a, _, u1, _, rfl, by rw [List.length_map]; omega, by rw [List.length_map]; omega, put_same, hu1, by omega, fun i u2 hi hu2 => ?_⟩
  rw [List.length_map] at hi
  have hil : i < zs.length := by omega
  refine rx_lst (atI_map rfl (List.getElem?_eq_getElem hil)) ?_
  rw [put_put]
  refine wp_seq <| wp_set <| ev_op <| ev_var rfl <| ev_call0 <| ea_cons <| ev_var rfl <| ea_cons <| ev_cb <| ea_cons <| ev_var rfl <| ea_nil <| rc_lenL <| ea_nil ⟨a, _, u2, _, rfl, by rw [List.length_map]; omega, by rw [List.length_map]; omega, put_same, hu2, by omega, fun j u3 hj hu3 => ?_⟩
  rw [List.length_map] at hj
  have hjl : j < os.length := by omega
  refine rx_lst (atI_map rfl (List.getElem?_eq_getElem hjl)) ?_
  rw [put_put]
  obtain ⟨lm, lu⟩ := (hzm _).mp (List.getElem_mem hil)
  have lT := hzT _ (List.getElem_mem hil)
  obtain ⟨om, ou⟩ := hos _ (List.getElem_mem hjl)
  have oT := hoT _ (List.getElem_mem hjl)
  generalize zs[i] = l at lm lu lT ⊢
  generalize os[j] = o at om ou oT ⊢
  cases l with
  | nil => cases lu
  | cons c t =>
  have hc : isUp c = true := lu
  have hl : (Sx (c :: t)).length ≤ 100000 := by rw [sx_len]; have := lT.1; omega
  refine wp_seq <| wp_set <| ev_op <| ev_m0 <| ev_op <| ev_var rfl <| ev_int <| rx_str hl atI_zero ⟨_, rfl, rm_lower (by rw [sx_len [c]]; simp) <| ev_sl <| ev_var rfl <| eo_some <| ev_int ⟨_, rfl, eo_no <| rz_str hl ?_⟩⟩
  show RO K (rAddU K) (.d (.str (Txt.lower (Sx [c])))) _ _ _
  rw [lower_up hc, cutS_tail]
  refine ra_str (by rw [sx_len, sx_len]; have := lT.1; simp at this ⊢; omega) ?_
  rw [sx_app]
  have tT : Tx ((c + 32) :: t) := by
    refine ⟨by have := lT.1; simpa using this, fun d hd => ?_⟩
    rcases List.mem_cons.mp hd with e | e
    · simp [isUp] at hc; omega
    · exact lT.2 d (List.mem_cons_of_mem _ e)
  refine wp_ret <| ev_cb <| ea_cons <| ev_lcF (toD := rwD) List.mem_cons_self <| ei_tup <| ev_var rfl ⟨_, rfl, fl, fun _ => true, fun r => rwD (r.map (twin o ((c + 32) :: t))), rfl, trivial, by have := hS.1; omega, fun r hr => ⟨et_yes ⟨rfl, rfl⟩, fun _ => ?_⟩, ?_⟩
  · refine ev_cb <| ea_cons <| ev_lcF (toD := nmD) List.mem_cons_self <| ei_tup <| ev_var rfl ⟨_, rfl, r, fun _ => true, fun l => nmD (twin o ((c + 32) :: t) l), rfl, trivial, by have := (hS.2 r hr).1; omega, fun l hl => ⟨et_yes ⟨rfl, rfl⟩, fun _ => ?_⟩, ?_⟩
    · refine ev_if <| et_test <| ev_op <| ev_var rfl <| ev_var rfl <| re_eq (shaped_str (hN r hr l hl).2) (shaped_str oT) ⟨_, rfl, ite_b (fun q => ev_var rfl ⟨?_, rfl⟩) (fun q => ev_var rfl ⟨?_, rfl⟩)⟩
      · rw [eqv_nm] at q
        exact congrArg (fun z => Sl.d (nmD z)) (if_pos (of_decide_eq_true q)).symm
      · rw [eqv_nm] at q
        exact congrArg (fun z => Sl.d (nmD z)) (if_neg (of_decide_eq_false q)).symm
    · refine ea_nil <| rc_tupleL ⟨?_, rfl⟩
      rw [List.filter_eq_self.mpr (fun _ _ => rfl)]
      show Sl.d (.tuple _) = .d (.tuple _)
      rw [List.map_map]
      rfl
  · refine ea_nil <| rc_tupleL ?_
    rw [List.filter_eq_self.mpr (fun _ _ => rfl)]
    have e : (fl.map fun r => rwD (r.map (twin o ((c + 32) :: t)))) = (fl.map fun r => r.map (twin o ((c + 32) :: t))).map rwD := by rw [List.map_map]; rfl
    rw [e]
    exact p _ u3 (g.twinned lm hc om ou) hu3
end
end Dv

namespace Dv
open PySem L2 PyProof.Rows
/-! ### one sorted list -/
abbrev geC (a b : List Nat) : Prop := Spec.ltCps b a = false
theorem ge_trans : ∀ {a b c : List Nat}, geC a b → geC b c → geC a c
  | [], b, c, h1, h2 => by
    cases c with
    | nil => rfl
    | cons z c => rfl
  | x :: a, b, c, h1, h2 => by
    cases b with
    | nil => simp [geC, Spec.ltCps] at h1
    | cons y b =>
      cases c with
      | nil => simp [geC, Spec.ltCps] at h2
      | cons z c =>
        simp only [geC, Spec.ltCps, Bool.or_eq_false_iff, decide_eq_false_iff_not, Bool.and_eq_false_iff, beq_eq_false_iff_ne] at h1 h2 ⊢
        refine ⟨by omega, ?_⟩
        by_cases e : z = x
        · subst e
          right
          have e1 : y = z := by omega
          subst e1
          have h3 := h1.2.resolve_left (fun q => q rfl)
          have h4 := h2.2.resolve_left (fun q => q rfl)
          exact ge_trans (a := a) (b := b) (c := c) h3 h4
        · exact .inl e
theorem ge_anti : ∀ {a b : List Nat}, geC a b → geC b a → a = b
  | [], b, h1, h2 => by
    cases b with
    | nil => rfl
    | cons y b => simp [geC, Spec.ltCps] at h2
  | x :: a, b, h1, h2 => by
    cases b with
    | nil => simp [geC, Spec.ltCps] at h1
    | cons y b =>
      simp only [geC, Spec.ltCps, Bool.or_eq_false_iff, decide_eq_false_iff_not, Bool.and_eq_false_iff, beq_eq_false_iff_ne] at h1 h2
      have e : x = y := by omega
      subst e
      rw [ge_anti (h1.2.resolve_left (fun q => q rfl)) (h2.2.resolve_left (fun q => q rfl))]
theorem rising_pw : ∀ {r : List Str} {x : Str}, risingS x r = true → (∀ y ∈ r, geC x.cps.toList y.cps.toList) ∧ r.Pairwise fun a b => geC a.cps.toList b.cps.toList
  | [], x, _ => ⟨fun _ h => (by cases h), .nil⟩
  | y :: r, x, h => by
    rw [risingS.eq_2, Bool.and_eq_true] at h
    obtain ⟨h1, h2⟩ := h
    obtain ⟨a1, a2⟩ := rising_pw h2
    have g : geC x.cps.toList y.cps.toList := by simpa using h1
    refine ⟨fun z hz => ?_, .cons a1 a2⟩
    rcases List.mem_cons.mp hz with e | e
    · rw [e]; exact g
    · exact ge_trans g (a1 z e)
theorem sorted_pw {ys : List Str} (h : sortedS ys = true) : ys.Pairwise fun a b => geC a.cps.toList b.cps.toList := by
  cases ys with
  | nil => exact .nil
  | cons x r => exact .cons (rising_pw h).1 (rising_pw h).2
theorem pw_unique : ∀ {xs ys : List Str}, xs.Pairwise (fun a b => geC a.cps.toList b.cps.toList) → ys.Pairwise (fun a b => geC a.cps.toList b.cps.toList) → xs.Perm ys → xs = ys
  | [], ys, _, _, p => by rw [List.nil_perm.mp p]
  | x :: xs, [], _, _, p => by cases List.perm_nil.mp p
  | x :: xs, y :: ys, hx, hy, p => by
    obtain ⟨x1, x2⟩ := List.pairwise_cons.mp hx
    obtain ⟨y1, y2⟩ := List.pairwise_cons.mp hy
    have e : x = y := by
      have m1 : x ∈ y :: ys := p.mem_iff.mp List.mem_cons_self
      have m2 : y ∈ x :: xs := p.mem_iff.mpr List.mem_cons_self
      rcases List.mem_cons.mp m1 with e | e
      · exact e
      · rcases List.mem_cons.mp m2 with e2 | e2
        · exact e2.symm
        · have := ge_anti (x1 y e2) (y1 x e)
          rw [← sx_of x, ← sx_of y, this]
    subst e
    rw [pw_unique x2 y2 ((List.perm_cons x).mp p)]
theorem sort_one {xs ys zs : List Str} (h1 : xs.Perm zs) (h2 : sortedS xs = true) (h3 : ys.Perm zs) (h4 : sortedS ys = true) : xs = ys := pw_unique (sorted_pw h2) (sorted_pw h4) (h1.trans h3.symm)
/-! ### what may be shown -/
theorem shown_names {zs : List (List Nat)} (h : ∀ l ∈ zs, Tx l) (hl : zs.length ≤ 500) : PyData.showable (.tuple (zs.map nmD)) = true ∧ PyData.hasDict (.tuple (zs.map nmD)) = false ∧ SeqAt.shaped (.tuple (zs.map nmD)) = true ∧ (PyData.shown (.tuple (zs.map nmD))).length ≤ sizeLine := by
  have hA : ∀ zs : List (List Nat), (∀ l ∈ zs, Tx l) → PyData.showableAll (zs.map nmD) = true ∧ PyData.hasDictAll (zs.map nmD) = false ∧ PyData.leavesShortAll 13 (zs.map nmD) = true ∧ PyData.weightAll (zs.map nmD) ≤ zs.length * 2001 := by
    intro zs
    induction zs with
    | nil => intro _; exact ⟨rfl, rfl, rfl, Nat.le_refl _⟩
    | cons a zs ih =>
      intro h
      obtain ⟨i1, i2, i3, i4⟩ := ih fun l hl => h l (List.mem_cons_of_mem _ hl)
      have ha := h a List.mem_cons_self
      refine ⟨?_, ?_, ?_, ?_⟩
      · rw [List.map_cons, PyData.showableAll, i1]; rfl
      · rw [List.map_cons, PyData.hasDictAll, i2]; rfl
      · rw [List.map_cons, PyData.leavesShortAll, i3, Bool.and_true]
        show (Sx a).cps.toList.all (fun c => decide (c < 16 ^ 8)) = true
        simp only [List.all_eq_true, decide_eq_true_eq]
        intro c hc
        have := ha.2 c (by simpa using hc)
        omega
      · rw [List.map_cons, PyData.weightAll]
        have : PyData.weight (nmD a) = a.length := by show (Sx a).cps.size = _; simp
        have h1 := ha.1
        rw [this, List.length_cons, Nat.succ_mul]
        omega
  obtain ⟨a1, a2, a3, a4⟩ := hA zs h
  refine ⟨a1, a2, (shaped_names h).1, PyData.shown_fits (B := 13) (by decide) (by decide) a3 ?_⟩
  show PyData.weightAll (zs.map nmD) ≤ 2 ^ 20
  have : zs.length * 2001 ≤ 500 * 2001 := Nat.mul_le_mul_right _ hl
  omega
theorem shown_pair : ∀ i < 12, ∀ j < 12, (PyData.shown (prD (i, j))).length ≤ 100 ∧ PyData.showable (prD (i, j)) = true := by decide +kernel
theorem shown_pair' {i j : Nat} (hi : i < 12) (hj : j < 12) : PyData.showable (prD (i, j)) = true ∧ PyData.hasDict (prD (i, j)) = false ∧ SeqAt.shaped (prD (i, j)) = true ∧ (PyData.shown (prD (i, j))).length ≤ sizeLine := by
  obtain ⟨h1, h2⟩ := shown_pair i hi j hj
  exact ⟨h2, rfl, rfl, by rw [sizeLine_eq]; omega⟩
section
variable {K : PySem.W.Frag} {Pg : Program} {w : World}
def t_law2 (K : PySem.W.Frag) (Pg : Program) (w : World) : TS :=
  (tSeq (tFor (iRng1 (tCons (tCB (rMaxC) (tCons (tC (.int 1)) (tCons (tCB (rMinC) (tCons (tC (.int 4)) (tCons (tCB (rLenC K) (tCons (tVar 0) tNil)) tNil))) tNil))) tNil)) (gName 1)
    (tSeq (tAsg (tCall (SpD K W_source) [] E0 (tCons (tVar 0) (tCons (tVar 1) tNil))) (gName 2))
    (tSeq (tAsg (tCall (SpD K W_twinned) [] E0 (tCons (tVar 2) (tCons (tCall (SpD K W_floor) [] E0 (tCons (tVar 2) (tCons (tC (.int 144)) tNil))) tNil))) (gName 3))
    (tSeq (tFor (iRng1 (tCons (tC (.int 2)) tNil)) (gName 4)
    (tIfS (tOr (tTest (tOp (rNotN0) (tCall (SpD K W_check_floor) [] E0 (tCons (tVar 3) tNil)) (tC .non))) (tTest (tOp (rNeU K) (tCB (rRepr K) (tCons (tCall (SpD K W_leaders_of) [] E0 (tCons (tVar 3) tNil)) tNil)) (tCB (rRepr K) (tCons (tCB (rTupleC K) (tCons (tCall (SpD K W_leaders) [] E0 (tCons (tVar 3) tNil)) tNil)) tNil)))))
    (tRet (tC (.bl false)))
    tNext))
    (tFor (iRng1 (tCons (tCB (rLenC K) (tCons (tVar 3) tNil)) tNil)) (gName 5)
    (tFor (iRng1 (tCons (tCB (rLenC K) (tCons (tOp (rIx K) (tVar 3) (tC (.int 0))) tNil)) tNil)) (gName 6)
    (tIfS (tTest (tOp (rNeU K) (tCB (rRepr K) (tCons (tCall (SpD K W_locate) [] E0 (tCons (tVar 3) (tCons (tOp (rIx K) (tOp (rIx K) (tVar 3) (tVar 5)) (tVar 6)) tNil))) tNil)) (tCB (rRepr K) (tCons (tTupZ (tCons (tVar 5) (tCons (tVar 6) tNil))) tNil))))
    (tRet (tC (.bl false)))
    tNext)))))))
    (tRet (tOp (rEqU K) (tC (.int 12)) (tC (.int 12)))))
theorem turns_ok {k n : Nat} (hn : n ≤ 63) (hk : k ≤ 10) : ∃ t : Nat, t ≤ 100 ∧ (if (if (n : Int) < (k : Int) then (n : Int) else (k : Int)) > (1 : Int) then (if (n : Int) < (k : Int) then (n : Int) else (k : Int)) else (1 : Int)) = (t : Int) := by
  refine ⟨(if (if (n : Int) < (k : Int) then (n : Int) else (k : Int)) > (1 : Int) then (if (n : Int) < (k : Int) then (n : Int) else (k : Int)) else (1 : Int)).toNat, ?_, ?_⟩
  · split <;> split <;> omega
  · split <;> split <;> omega
theorem rd_law2 (ss : List Sl) (m : Sto) (P : PV) (h : WLaw ss m P) : Wp K (t_law2 K Pg w) (rho ["script", "index", "source", "floor", "turn", "row", "column"] ss) m { nx := fun _ m' => P (.d .none) m', rt := P } := by
  obtain ⟨ns, rfl, hl, _, p⟩ := h
  obtain ⟨t, ht, et⟩ := turns_ok (k := 4) hl (by decide)
  refine wp_seq <| wp_rng <| ea_cons <| ev_cb <| ea_cons <| ev_int <| ea_cons <| ev_cb <| ea_cons <| ev_int <| ea_cons <| ev_cb <| ea_cons <| ev_var rfl <| ea_nil <| rc_lenF <| ea_nil <| rc_min2 <| ea_nil <| rc_max2 <| ea_nil ⟨t, fun i ρ' m' => ∃ s1 s2 s3 s4 s5 s6, ρ' = [some (.f (ns.map .int)), s1, s2, s3, s4, s5, s6], ?_, by omega, ⟨_, _, _, _, _, _, rfl⟩, ?_, ?_⟩
  · rw [List.length_map]
    exact congrArg (fun z => [Sl.d (.int z)]) et
  · rintro i ρ' m' hi ⟨s1, s2, s3, s4, s5, s6, rfl⟩
    refine wp_seq <| wp_set <| ev_call0 <| ea_cons <| ev_var rfl <| ea_cons <| ev_var rfl <| ea_nil ⟨ns, i, rfl, hl, by omega, fun a u ha hu => ?_⟩
    refine wp_seq <| wp_set <| ev_call0 <| ea_cons <| ev_var rfl <| ea_cons <| ev_call0 <| ea_cons <| ev_var rfl <| ea_cons <| ev_int <| ea_nil ⟨a, 144, u, 0, rfl, by decide, by decide, put_same, hu, by decide, fun R C fl0 u1 hG _ hu1 => ?_⟩
    rw [put_put]
    refine ea_nil ⟨a, R, C, fl0, u1, _, rfl, hG, put_same, hu1, by omega, fun fl u2 v _ => ?_⟩
    rw [put_put]
    generalize put m' a (.lst u2) = m1
    have hS := v.short
    have hN := v.named
    obtain ⟨c, c0, c1, hc⟩ := v.cols
    have hlen := v.most
    obtain ⟨r0, h0⟩ : ∃ r0, fl[0]? = some r0 := by cases fl with
      | nil => exact absurd rfl v.pos
      | cons a b => exact ⟨a, rfl⟩
    have hr0 : r0.length = c := hc r0 (List.mem_of_getElem? h0)
    refine wp_seq <| wp_rng <| ea_cons <| ev_int <| ea_nil ⟨2, fun i ρ' m' => ∃ s1 s2 s4 s5 s6, ρ' = [some (.f (ns.map .int)), s1, s2, some (.d (flD fl)), s4, s5, s6] ∧ m' = m1, rfl, by decide, ⟨_, _, _, _, _, rfl, rfl⟩, ?_, ?_⟩
    · rintro j ρ' m' hj ⟨s1, s2, s4, s5, s6, rfl, rfl⟩
      refine wp_if <| et_or <| et_test <| ev_op <| ev_call0 <| ea_cons <| ev_var rfl <| ea_nil ⟨fl, rfl, v, ev_non <| rn_not ⟨_, rfl, ite_b (fun q => nomatch q) (fun _ => ?_)⟩⟩
      refine et_test <| ev_op <| ev_cb <| ea_cons <| ev_call0 <| ea_cons <| ev_var rfl <| ea_nil ⟨fl, rfl, hN, hS, fun ys h1 h2 => ea_nil ?_⟩
      obtain ⟨zs, hz, rfl⟩ := perm_map (f := Sx) h1 rfl
      have hzT : ∀ l ∈ zs, Tx l := fun l hl => by
        obtain ⟨r, hr, h2⟩ := List.mem_flatten.mp (List.mem_filter.mp (hz.mem_iff.mp hl)).1
        exact (hN r hr l h2).2
      have hzl : zs.length ≤ 500 := by
        have a0 := hz.length_eq
        have a1 : fl.flatten.length ≤ 12 * 12 := by
          have : ∀ (g : List (List (List Nat))), (∀ r ∈ g, r ∈ fl) → g.flatten.length ≤ g.length * 12 := by
            intro g
            induction g with
            | nil => intro _; simp
            | cons x g ih =>
              intro hg
              have := ih fun r hr => hg r (List.mem_cons_of_mem _ hr)
              have hx := hc x (hg x List.mem_cons_self)
              simp
              simp at this
              omega
          have := this fl fun r hr => hr
          omega
        have := List.length_filter_le upN fl.flatten
        omega
      rw [← nms_str]
      obtain ⟨q1, q2, q3, q4⟩ := shown_names hzT hzl
      refine rc_repr q1 q2 q3 q4 <| ev_cb <| ea_cons <| ev_cb <| ea_cons <| ev_call0 <| ea_cons <| ev_var rfl <| ea_nil ⟨fl, rfl, hN, hS, fun ys' h3 h4 => ea_nil <| rc_tupleL <| ea_nil ?_⟩
      have e := sort_one h3 h4 h1 h2
      subst e
      rw [← nms_str]
      refine rc_repr q1 q2 q3 q4 <| re_neS ⟨_, rfl, ite_b (fun q => ?_) (fun _ => wp_next ⟨_, _, _, _, _, rfl, rfl⟩)⟩
      simp at q
    · rintro ρ' m' ⟨s1, s2, s4, s5, s6, rfl, rfl⟩
      refine wp_rng <| ea_cons <| ev_cb <| ea_cons <| ev_var rfl <| ea_nil <| rc_lenT <| ea_nil ⟨fl.length, fun i ρ' m'' => ∃ s1 s2 s4 s5 s6, ρ' = [some (.f (ns.map .int)), s1, s2, some (.d (flD fl)), s4, s5, s6] ∧ m'' = m', by rw [List.length_map], by omega, ⟨_, _, _, _, _, rfl, rfl⟩, ?_, ?_⟩
      · rintro k ρ' m'' hk ⟨s1, s2, s4, s5, s6, rfl, rfl⟩
        have hr : fl[k]? = some fl[k] := List.getElem?_eq_getElem hk
        generalize fl[k] = r at hr
        have hrl := hc r (List.mem_of_getElem? hr)
        refine wp_rng <| ea_cons <| ev_cb <| ea_cons <| ev_op <| ev_var rfl <| ev_int <| rx_tup (atI_map (k := 0) rfl h0) <| ea_nil <| rc_lenT <| ea_nil ⟨c, fun i ρ' m' => ∃ s1 s2 s4 s6, ρ' = [some (.f (ns.map .int)), s1, s2, some (.d (flD fl)), s4, some (.d (.int (k : Nat))), s6] ∧ m' = m'', by rw [List.length_map, hr0], by omega, ⟨_, _, _, _, rfl, rfl⟩, ?_, ?_⟩
        · rintro j ρ' m' hj ⟨s1, s2, s4, s6, rfl, rfl⟩
          obtain ⟨l, hl⟩ : ∃ l, r[j]? = some l := ⟨_, List.getElem?_eq_getElem (by omega)⟩
          obtain ⟨q1, q2, q3, q4⟩ := shown_pair' (i := k) (j := j) (by omega) (by omega)
          refine wp_if <| et_test <| ev_op <| ev_cb <| ea_cons <| ev_call0 <| ea_cons <| ev_var rfl <| ea_cons <| ev_op <| ev_op <| ev_var rfl <| ev_var rfl <| rx_tup (atI_map rfl hr) <| ev_var rfl <| rx_tup (atI_map rfl hl) <| ea_nil ⟨fl, k, j, r, l, rfl, hS, v.nd, hr, hl, ea_nil <| rc_repr q1 q2 q3 q4 <| ev_cb <| ea_cons <| ev_tup <| ea_cons <| ev_var rfl <| ea_cons <| ev_var rfl <| ea_nil ⟨[_, _], rfl, by simp, ea_nil <| rc_repr q1 q2 q3 q4 <| re_neS ⟨_, rfl, ite_b (fun q => ?_) (fun _ => wp_next ⟨_, _, _, _, rfl, rfl⟩)⟩⟩⟩
          simp at q
        · rintro ρ' m' ⟨s1, s2, s4, s6, rfl, rfl⟩
          exact ⟨_, _, _, _, _, rfl, rfl⟩
      · rintro ρ' m'' ⟨s1, s2, s4, s5, s6, rfl, rfl⟩
        exact ⟨_, _, _, _, _, _, rfl⟩
  · rintro ρ' m' ⟨s1, s2, s3, s4, s5, s6, rfl⟩
    exact wp_ret <| ev_op <| ev_int <| ev_int <| re_eq (shaped_int _) (shaped_int _) <| p _
end
end Dv

namespace Dv
open PySem L2 PyProof.Rows
/-! ### what is raised -/
abbrev Flds := List (Str × V)
abbrev Xv := Rho → Addr → Flds → Sto → Prop
section
variable {K : PySem.W.Frag}
def ThenW (K : PySem.W.Frag) (m : Sto) (F : Reg) (H : Hp) (X : Xv) (W : WX) : Prop := ∀ ρ' C fs d m' σ' F' H', X ρ' C fs m' → m' d = none → Step m F H (put m' d (.raw (.xd fs))) F' H' → StoOk K (put m' d (.raw (.xd fs))) F' H' → EnvOk K F' H' ρ' σ' → W (.ref C) (some d) σ' H'
def ThenE (K : PySem.W.Frag) (m : Sto) (F : Reg) (H : Hp) (X : Addr → Flds → Sto → Prop) (E : XK) : Prop := ∀ C fs d m' F' H', X C fs m' → m' d = none → Step m F H (put m' d (.raw (.xd fs))) F' H' → StoOk K (put m' d (.raw (.xd fs))) F' H' → E (.ref C) (some d) H'
theorem ThenW.step {m m1 : Sto} {F F1 : Reg} {H H1 : Hp} {X : Xv} {W : WX} (t : ThenW K m F H X W) (s : Step m F H m1 F1 H1) : ThenW K m1 F1 H1 X W := fun ρ' C fs d m' σ' F' H' x hd s2 S2 E2 => t ρ' C fs d m' σ' F' H' x hd (s.trans s2) S2 E2
/-- a statement that may raise -/
def WpW (K : PySem.W.Frag) (tb : WX → TS) (ρ : Rho) (m : Sto) (k : Ko) (X : Xv) : Prop :=
  ∀ (D : Ends) (W : WX) (σ : L2.St) (F : Reg) (H : Hp), EnvOk K F H ρ σ → StoOk K m F H →
    (∀ ρ' m' σ' F' H', k.nx ρ' m' → Step m F H m' F' H' → StoOk K m' F' H' → EnvOk K F' H' ρ' σ' → D.nx σ' H') →
    (∀ s m' v F' H', k.rt s m' → Step m F H m' F' H' → StoOk K m' F' H' → SlOk K F' H' s v → D.rt v H') →
    (∀ ρ' m' σ' F' H', k.bk ρ' m' → Step m F H m' F' H' → StoOk K m' F' H' → EnvOk K F' H' ρ' σ' → D.bk σ' H') →
    (∀ ρ' m' σ' F' H', k.ct ρ' m' → Step m F H m' F' H' → StoOk K m' F' H' → EnvOk K F' H' ρ' σ' → D.ct σ' H') → ThenW K m F H X W → tb W D σ H
/-- an expression that may raise -/
def EvW (K : PySem.W.Frag) (te : WX → TE) (ρ : Rho) (m : Sto) (P : PV) (X : Xv) : Prop :=
  ∀ (W : WX) (σ : L2.St) (F : Reg) (H : Hp) (Q : VK), EnvOk K F H ρ σ → StoOk K m F H → Then K m F H P Q → ThenW K m F H X W → te W σ H Q
variable {ρ : Rho} {m : Sto} {k : Ko} {X : Xv} {P : PV} {ts : TS} {t1 t2 tb : WX → TS} {te : WX → TE} {tt : TT} {ta : TA}
theorem wpw_of (h : Wp K ts ρ m k) : WpW K (fun _ => ts) ρ m k X := fun D W σ F H E S q1 q2 q3 q4 _ => h D σ F H E S q1 q2 q3 q4
theorem wpw_at {D : Ends} {W : WX} {m0 m1 : Sto} {F0 F1 : Reg} {H0 H1 : Hp} {σ : L2.St} {ρ1 : Rho} (s1 : Step m0 F0 H0 m1 F1 H1) (E : EnvOk K F1 H1 ρ1 σ) (S1 : StoOk K m1 F1 H1) (w : WpW K tb ρ1 m1 k X)
    (q1 : ∀ ρ' m' σ' F' H', k.nx ρ' m' → Step m0 F0 H0 m' F' H' → StoOk K m' F' H' → EnvOk K F' H' ρ' σ' → D.nx σ' H')
    (q2 : ∀ s m' v F' H', k.rt s m' → Step m0 F0 H0 m' F' H' → StoOk K m' F' H' → SlOk K F' H' s v → D.rt v H')
    (q3 : ∀ ρ' m' σ' F' H', k.bk ρ' m' → Step m0 F0 H0 m' F' H' → StoOk K m' F' H' → EnvOk K F' H' ρ' σ' → D.bk σ' H')
    (q4 : ∀ ρ' m' σ' F' H', k.ct ρ' m' → Step m0 F0 H0 m' F' H' → StoOk K m' F' H' → EnvOk K F' H' ρ' σ' → D.ct σ' H') (q5 : ThenW K m0 F0 H0 X W) : tb W D σ H1 :=
  w D W σ F1 H1 E S1 (fun a b c d f e s2 S2 => q1 a b c d f e (s1.trans s2) S2) (fun a b c d f e s2 S2 => q2 a b c d f e (s1.trans s2) S2) (fun a b c d f e s2 S2 => q3 a b c d f e (s1.trans s2) S2) (fun a b c d f e s2 S2 => q4 a b c d f e (s1.trans s2) S2) (q5.step s1)
theorem wpw_seq (h : WpW K t1 ρ m { k with nx := fun ρ' m' => WpW K t2 ρ' m' k X } X) : WpW K (fun W => tSeq (t1 W) (t2 W)) ρ m k X := fun D W σ F H E S q1 q2 q3 q4 q5 =>
  h { D with nx := t2 W D } W σ F H E S (fun ρ' m' σ' F' H' w s1 S1 E1 => wpw_at (D := D) s1 E1 S1 w q1 q2 q3 q4 q5) q2 q3 q4 q5
theorem wpw_if (h : EvT K tt ρ m fun b m1 => if b = true then WpW K t1 ρ m1 k X else WpW K t2 ρ m1 k X) : WpW K (fun W => tIfS tt (t1 W) (t2 W)) ρ m k X := fun D W σ F H E S q1 q2 q3 q4 q5 =>
  h σ F H _ E S fun b m1 F1 H1 w s1 S1 => by
    cases b with
    | true => exact wpw_at (D := D) s1 (envOk_step s1 E) S1 w q1 q2 q3 q4 q5
    | false => exact wpw_at (D := D) s1 (envOk_step s1 E) S1 w q1 q2 q3 q4 q5
theorem wpw_for {wi : TI} {g : TG} (h : EvI K wi ρ m fun xs C m1 => ∃ Iv : Nat → Rho → Sto → Prop, Iv 0 ρ m1 ∧ (∀ i ρ' m', Iv i ρ' m' → C m') ∧
      (∀ i x ρ' m', xs[i]? = some x → Iv i ρ' m' → ∃ js, Gt K g js x ρ' m' fun ρ2 m2 => WpW K tb ρ2 m2 { k with nx := Iv (i + 1), ct := Iv (i + 1), bk := k.nx } X) ∧ ∀ ρ' m', Iv xs.length ρ' m' → k.nx ρ' m') :
    WpW K (fun W => tFor wi g (tb W)) ρ m k X := fun D W σ F H E S q1 q2 q3 q4 q5 =>
  h σ F H _ E S fun xs C m1 F1 H1 J ⟨Iv, h0, hC, hs, hd⟩ s1 S1 w => by
    refine for_it w (fun i σ' H' => ∃ ρ' m' F', Iv i ρ' m' ∧ Step m1 F1 H1 m' F' H' ∧ StoOk K m' F' H' ∧ EnvOk K F' H' ρ' σ') ⟨ρ, m1, F1, h0, Step.refl, S1, envOk_step s1 E⟩ (fun i σ' H' _ ⟨ρ', m', F', a, b, c, d⟩ => ⟨m', F', hC i ρ' m' a, b, c⟩) ?_
      (fun σ' H' ⟨ρ', m', F', a, b, c, d⟩ => q1 ρ' m' σ' F' H' (hd ρ' m' a) (s1.trans b) c d)
    rintro i x σ' H' H2 hi ⟨ρ', m', F', a, b, c, d⟩ y
    obtain ⟨F2, s2, S2, sl, hx, o2⟩ := y m' F' (hC i ρ' m' a) b c
    obtain ⟨js, gt⟩ := hs i sl ρ' m' hx a
    refine gt σ' F2 H2 x _ (envOk_step s2 d) S2 o2 fun ρ3 m3 σ3 F3 H3 wp s3 S3 E3 _ => ?_
    have st : Step m1 F1 H1 m3 F3 H3 := (b.trans s2).trans s3
    exact wp _ W σ3 F3 H3 E3 S3 (fun a' b' c' f' d' e s4 S4 E4 => ⟨a', b', f', e, st.trans s4, S4, E4⟩) (fun a b c d f e s4 S4 => q2 a b c d f e ((s1.trans st).trans s4) S4) (fun a b c d f e s4 S4 E4 => q1 a b c d f e ((s1.trans st).trans s4) S4 E4) (fun a' b' c' f' d' e s4 S4 E4 => ⟨a', b', f', e, st.trans s4, S4, E4⟩) (q5.step (s1.trans st))
theorem wpw_rng {j : Nat} (h : EvA K ta ρ m fun ss m1 => ∃ (n : Nat) (Iv : Nat → Rho → Sto → Prop), ss = [.d (.int n)] ∧ n ≤ 1000000 ∧ Iv 0 ρ m1 ∧
      (∀ i ρ' m', i < n → Iv i ρ' m' → WpW K tb (ρ'.set j (some (.d (.int (i : Nat))))) m' { k with nx := Iv (i + 1), ct := Iv (i + 1), bk := k.nx } X) ∧ ∀ ρ' m', Iv n ρ' m' → k.nx ρ' m') :
    WpW K (fun W => tFor (iRng1 ta) (gName j) (tb W)) ρ m k X := wpw_for (ei_rng1 fun σ F H R E S q => h σ F H R E S fun ss m1 vs F1 H1 ⟨n, Iv, e, hn, h0, hs, hd⟩ s1 S1 o1 => by
  refine q ss m1 vs F1 H1 ⟨n, e, by omega, by omega, Iv, h0, fun _ _ _ _ => trivial, fun i x ρ' m' hx iv => ?_, fun ρ' m' iv => hd ρ' m' (by simpa using iv)⟩ s1 S1 o1
  have hl := (List.getElem?_eq_some_iff.mp hx).1
  have hl' : i < n := by simpa using hl
  rw [List.getElem?_map, Int.toNat_natCast, List.getElem?_range hl'] at hx
  cases hx
  exact ⟨[j], gt_name (hs i ρ' m' hl' iv)⟩)
theorem wpw_enum {α : Type} {toD : α → PyData} {i1 i2 : Nat} (h : EvA K ta ρ m fun ss m1 => ∃ (ys : List α) (Iv : Nat → Rho → Sto → Prop), ss = [.d (.tuple (ys.map toD))] ∧ Iv 0 ρ m1 ∧
      (∀ i y ρ' m', ys[i]? = some y → Iv i ρ' m' → WpW K tb ((ρ'.set i1 (some (.d (.int (i : Nat))))).set i2 (some (.d (toD y)))) m' { k with nx := Iv (i + 1), ct := Iv (i + 1), bk := k.nx } X) ∧ ∀ ρ' m', Iv ys.length ρ' m' → k.nx ρ' m') :
    WpW K (fun W => tFor (iEnumU K ta) (gTup K 2 (gCons (gName i1) (gCons (gName i2) gNil))) (tb W)) ρ m k X := wpw_for (ei_enumT fun σ F H R E S q => h σ F H R E S fun ss m1 vs F1 H1 ⟨ys, Iv, e, h0, hs, hd⟩ s1 S1 o1 => by
  refine q ss m1 vs F1 H1 ⟨_, e, Iv, h0, fun _ _ _ _ => trivial, fun i x ρ' m' hx iv => ?_, fun ρ' m' iv => hd ρ' m' (by rw [enumS_len] at iv; simpa using iv)⟩ s1 S1 o1
  obtain ⟨d, hd', rfl⟩ := enumS_of hx
  rw [List.getElem?_map] at hd'
  cases hy : ys[i]? with
  | none => rw [hy] at hd'; cases hd'
  | some y =>
    rw [hy] at hd'
    cases hd'
    exact ⟨[i1, i2], gt_pairP (hs i y ρ' m' hy iv)⟩)
theorem evw_of {t : TE} (h : Ev K t ρ m P) : EvW K (fun _ => t) ρ m P X := fun W σ F H Q E S q _ => h σ F H Q E S q
theorem wpw_set {i : Nat} (h : EvW K te ρ m (fun s m1 => k.nx (ρ.set i (some s)) m1) X) : WpW K (fun W => tAsg (te W) (gName i)) ρ m k X := fun D W σ F H E S q1 _ _ _ q5 =>
  h W σ F H _ E S (fun s m1 v F1 H1 p s1 S1 o1 => q1 _ m1 _ F1 H1 p s1 S1 (envOk_set (envOk_step s1 E) i o1)) q5
theorem wpw_drop (h : EvW K te ρ m (fun _ m1 => k.nx ρ m1) X) : WpW K (fun W => tDrop (te W)) ρ m k X := fun D W σ F H E S q1 _ _ _ q5 =>
  h W σ F H _ E S (fun s m1 v F1 H1 p s1 S1 o1 => q1 _ m1 _ F1 H1 p s1 S1 (envOk_step s1 E)) q5
theorem wpw_ret (h : EvW K te ρ m k.rt X) : WpW K (fun W => tRet (te W)) ρ m k X := fun D W σ F H E S _ q2 _ _ q5 => h W σ F H _ E S q2 q5
theorem wpw_post (h : WpW K tb ρ m { k with nx := fun ρ' m' => ∃ a u, m' a = some u ∧ k.nx ρ' (del m' a) } X) : WpW K tb ρ m k X := fun D W σ F H E S q1 q2 q3 q4 q5 =>
  h D W σ F H E S (fun ρ' m' σ' F' H' ⟨a, u, e, p⟩ s1 S1 E1 => q1 ρ' _ σ' _ H' p (s1.trans (step_del S1 e)) (sto_del S1 e) (envOk_step (step_del S1 e) E1)) q2 q3 q4 q5
/-- what stood in the store besides is forgotten where it is raised -/
theorem wpw_postX {Y : Xv} (h : WpW K tb ρ m k Y) (hy : ∀ ρ' C fs m', Y ρ' C fs m' → ∃ a u, m' a = some u ∧ X ρ' C fs (del m' a)) : WpW K tb ρ m k X := fun D W σ F H E S q1 q2 q3 q4 q5 =>
  h D W σ F H E S q1 q2 q3 q4 fun ρ' C fs d m' σ' F' H' y hd s1 S1 E1 => by
    obtain ⟨a, u, e, x⟩ := hy ρ' C fs m' y
    have ne : a ≠ d := fun z => by rw [z, hd] at e; cases e
    have e' : put m' d (.raw (.xd fs)) a = some u := by rw [put_ne ne]; exact e
    have ec : del (put m' d (.raw (.xd fs))) a = put (del m' a) d (.raw (.xd fs)) := del_put_ne (Ne.symm ne)
    have hd' : del m' a d = none := by rw [del_ne (Ne.symm ne)]; exact hd
    have st := step_del S1 e'
    have so := sto_del S1 e'
    have E2 := envOk_step st E1
    rw [ec] at st so
    exact q5 ρ' C fs d (del m' a) σ' _ H' x hd' (s1.trans st) so E2
/-! ### the promise of a def that may raise -/
abbrev WTX := List Sl → Sto → PV → (Addr → Flds → Sto → Prop) → Prop
def SpX (K : PySem.W.Frag) (W : WTX) : Sp := fun vs H Q E => ∃ (ss : List Sl) (m : Sto) (F : Reg) (P : PV) (Y : Addr → Flds → Sto → Prop), SlsOk K F H ss vs ∧ StoOk K m F H ∧ W ss m P Y ∧ Then K m F H P Q ∧ ThenE K m F H Y E
theorem spX_len {W : WTX} {n : Nat} (h : ∀ ss m P Y, W ss m P Y → ss.length = n) {vs : List V} {H : Hp} {Q : VK} {E : XK} (w : SpX K W vs H Q E) : vs.length = n := by
  obtain ⟨ss, m, F, P, Y, o, _, w, _⟩ := w
  rw [← paired_len o]
  exact h ss m P Y w
theorem bodyX {W : WTX} {N : List Str} {tb : WX → TS} (h : ∀ ss m P Y, W ss m P Y → WpW K tb (rho N ss) m { nx := fun _ m' => P (.d .none) m', rt := P } (fun _ => Y)) {vs : List V} {H : Hp} {Q : VK} {E : XK} (w : SpX K W vs H Q E) :
    tb (fun cls d _ H' => E cls d H') { nx := fun _ H' => Q .non H', rt := Q } (L2.start N vs) H := by
  obtain ⟨ss, m, F, P, Y, o, S, w, q, qx⟩ := w
  exact h ss m P Y w _ _ _ F _ (envOk_start o) S (fun ρ' m' σ' F' H' p s1 S1 _ => q _ m' _ F' H' p s1 S1 rfl) q (fun _ _ _ _ _ p => p.elim) (fun _ _ _ _ _ p => p.elim) fun ρ' C fs d m' σ' F' H' y hd s1 S1 _ => qx C fs d m' F' H' y hd s1 S1
theorem evw_call {W0 : WTX} (h : EvA K ta ρ m fun ss m1 => W0 ss m1 P (fun C fs m' => X ρ C fs m')) : EvW K (fun W => tCallS (SpX K W0) (WE W) ta) ρ m P X := fun W σ F H Q E S q q5 =>
  h σ F H _ E S fun ss m1 vs F1 H1 w s1 S1 o1 => ⟨ss, m1, F1, P, _, o1, S1, w, fun s m' v F' H' p s2 S2 o2 => q s m' v F' H' p (s1.trans s2) S2 o2, fun C fs d m' F' H' y hd s2 S2 => q5 ρ C fs d m' σ F' H' y hd (s1.trans s2) S2 (envOk_step (s1.trans s2) E)⟩
end
end Dv

namespace Dv
open PySem L2 PyProof.Rows
section
variable {Pg : Program} {w : World} {K : PySem.W.Frag} {mg : Str → Option Value} {base : Heap}
/-- a def that may raise -/
structure DfnX (Pg : Program) (w : World) (K : PySem.W.Frag) (mg : Str → Option Value) (base : Heap) (k : Nat) (name : Str) (ps : List Str) (W : WTX) : Prop where
  ex : ∃ f fd, mg name = some (.ref f) ∧ PySem.W.keepIn K (.ref f) = true ∧ Binds K fd ps [] ∧ DF Pg w K mg base (CX Pg w) k f fd ps (SpX K W)
theorem dfnX_mk {k : Nat} {name : Str} {st : Stmt} {N ps : List Str} {W : WTX} {tb : WX → TS} (A : FunAt K mg name st ps) (S : FnScope N ps (defScope st)) (len : ∀ ss m P Y, W ss m P Y → ss.length = ps.length)
    (der : ∀ (f : Addr) (cdv : Value) (A : Around) (outer : List Env) (s : Shared) (H : Hp) (E : XK), (A.deeper (envOfC name (defScope st) s.heap.objs.size f cdv)).guards = some [] → Room k (A.deeper (envOfC name (defScope st) s.heap.objs.size f cdv)) →
      PSs (cxOf (CX Pg w) Pg w K mg base N name (defScope st) f cdv A outer s H E) (defBody st) (tb fun cls d _ H' => E cls d H'))
    (rd : ∀ ss m P Y, W ss m P Y → WpW K tb (rho N ss) m { nx := fun _ m' => P (.d .none) m', rt := P } (fun _ => Y)) : DfnX Pg w K mg base (k + 1) name ps W := by
  obtain ⟨f, fd, hm, hF, hb⟩ := A.ex
  refine ⟨f, fd, hm, hF.kp, hb, ?_⟩
  obtain ⟨oc, od, kV, doc, pm, an, cdv, ct, osl, rfl, lk, hcd⟩ := hF.ex
  exact df_of lk hcd S (fun vs H Q E h => spX_len len h) fun A outer s H vs Q E hg hr h => ⟨_, der f cdv A outer s H E hg hr, bodyX rd h⟩
section
variable {X : Cx} {W : WX}
theorem run_dfS {k : Nat} {f : Addr} {fd : FuncData} {ps : List Str} {sp : Sp} {E : XK} {CX : CXT} {pins : List (Addr × Obj)} {σ : L2.St} {H : Hp} {s : Shared} {Q : VK} {us : List Value} {vs : List V} (F : DF X.prog X.w X.K X.mg X.base CX k f fd ps sp) (hg : X.A.guards = some []) (hr : Room k X.A) (hb : Binds X.K fd ps [])
    (hx : PassesAt CX X σ E) (I : Inv X pins σ H s) (r : Vals vs us) (h : sp vs H Q E) : wpAny (model X.prog X.w) X.A (call (.ref f) us) (EP X pins σ Q) X.xe s := by
  have hl := (r.length.symm.trans (F.len _ _ _ _ h))
  have hb2 := hb s us I.kIn (by rw [List.append_nil]; exact hl)
  rw [List.append_nil] at hb2
  apply wpAny_call
  apply codeAny_mono (F.run X.A X.stack s H ⟨us, []⟩ _ _ Q E hg hr I.env0 hb2 r h)
  intro r s' hq
  match r, hq with
  | .error e, hq => exact hx pins H s e s' I hq
  | .ok (.ret u), hq => exact I.after hq
  | .ok .next, hq => exact False.elim hq
  | .ok .brk, hq => exact False.elim hq
  | .ok .cont, hq => exact False.elim hq
theorem pe_fnX {j k : Nat} {x : Str} {ps : List Str} {W0 : WTX} {p pos : Pos} {e : Expr} {es : List Expr} {t : TA} (D : DfnX X.prog X.w X.K X.mg X.base j x ps W0) (tk : Takes X W) (hgd : X.A.guards = some []) (hr : Room k X.A) (h : j ≤ k) (hg : Gl X x) (ha : PA X (e :: es) t)
    (hdb : (x == ("__debug__" : Str)) = false := by decide) (he : starEach (e :: es) X.env = (false, eval e X.env) :: starEach es X.env := by rfl) (hpl : (backTo pos (starEach es X.env)).any (·.1) = false := by rfl) :
    PE X (.Call (.Name x p) (e :: es) [] pos) (tCallS (SpX X.K W0) (WE W) t) := by
  obtain ⟨f, fd, hm, hk, hb, F⟩ := D.ex
  constructor
  intro pins s σ H Q I h2
  refine wpAny_Call_Name_kw (ld_glob I hg hm ?_ hdb)
  refine PySem.W.callWith_K (h₀ := X.base) I.ok.mod.kin hk (thn (ha.run pos pins s σ H _ I h2) ?_) he hpl
  rintro us s1 ⟨vs, H1, I1, r, q⟩
  exact ⟨I1.kIn, run_dfS F hgd (hr.mono h) hb (passAt tk σ) I1 r q⟩
end
/-! ### an error of the program's own, made and raised -/
def spIni (C : Addr) (ns : List Str) : Sp := fun vs H Q _ => ∃ (a : Addr) (ws : List V), vs = .ref a :: ws ∧ ws.length = ns.length ∧ H a = some (exo a C none) ∧
  ∀ d H', H d = none → d ≠ a → H' a = some (exo a C (some d)) → H' d = some (exd d (ns.zip ws).reverse) → (∀ b, b ≠ a → b ≠ d → H' b = H b) → Q .non H'
theorem wpw_raise {ρ : Rho} {m : Sto} {k : Ko} {X : Xv} {ta : TA} {C : Addr} {ns : List Str} (h : EvA K ta ρ m fun ss m1 => ∃ ws : List V, (∀ F H us, SlsOk K F H ss us → us = ws) ∧ ws.length = ns.length ∧ ws.length ≤ 1000 ∧ X ρ C (ns.zip ws).reverse m1) :
    WpW K (fun W _ σ H => tMkO C (spIni C ns) [] ta σ H fun cls d H' => W cls d σ H') ρ m k X := fun D W σ F H E S _ _ _ _ q5 =>
  h σ F H _ E S fun ss m1 us F1 H1 ⟨ws, hv, hl, hl2, x⟩ s1 S1 o1 => by
    have e := hv F1 H1 us o1
    subst e
    refine ⟨hl2, fun a ha => ⟨a, us, by rw [List.append_nil], hl, upd_same, fun d H' hd ne h1 h2 h3 => ⟨rfl, d, _, h1, h2, ?_, ?_⟩⟩⟩
    · rwa [upd_ne ne] at hd
    · have hd1 : H1 d = none := by rwa [upd_ne ne] at hd
      have e : upd (L2.del H' a) d (.xd (ns.zip us).reverse) = upd H1 d (.xd (ns.zip us).reverse) := by
        funext b
        by_cases h4 : b = d
        · rw [h4, upd_same, upd_same]
        · rw [upd_ne h4, upd_ne h4]
          by_cases h5 : b = a
          · rw [h5, ha]
            exact if_pos rfl
          · have : L2.del H' a b = H' b := if_neg h5
            rw [this, h3 b h5 h4, upd_ne h5]
      show W _ _ σ (upd (L2.del H' a) d (.xd (ns.zip us).reverse))
      rw [e]
      exact q5 ρ C _ d m1 σ F1 _ x (sto_none S1 hd1) (s1.trans (step_newM S1 hd1)) (sto_put S1 (not_reg S1 hd1) upd_same) (envOk_step (s1.trans (step_newM (u := .raw (.xd (ns.zip us).reverse)) S1 hd1)) E)
/-- what a class of errors is in the text: its def __init__ stores one or two fields -/
structure ErrC (Pg : Program) (w : World) (K : PySem.W.Frag) (mg : Str → Option Value) (base : Heap) (name : Str) (C : Addr) (ps : List Str) : Prop where
  oex : OexC K C
  mgC : mg name = some (.ref C)
  xfc : XfC K C
  nn : ∀ n ∈ ps, PySem.W.findIn K (.ref C) n = some none
  exm : PySem.W.exmOne K (.ref C) (.ref C) = some true
  ini : ∃ fI fd, PySem.W.findIn K (.ref C) "__init__" = some (some (.ref fI)) ∧ PySem.W.typeIn K (.ref fI) = some (.type "function") ∧ Binds K fd ("self" :: ps) [] ∧ FnOk Pg w K mg base CX0 1 fI fd ("self" :: ps) (spIni C ps)
theorem ps_raiseC {X : Cx} {W : WX} {k : Nat} {x : Str} {C : Addr} {ps : List Str} {p pos pos2 : Pos} {e : Expr} {es : List Expr} {ta : TA} (R : ErrC X.prog X.w X.K X.mg X.base x C ps) (hc : X.calm = true) (tk : Takes X W) (hr : Room k X.A) (h : 2 ≤ k) (hg : Gl X x) (ha : PA X (e :: es) ta)
    (hdb : (x == ("__debug__" : Str)) = false := by decide) (he : starEach (e :: es) X.env = (false, eval e X.env) :: starEach es X.env := by rfl) (hpl : (backTo pos (starEach es X.env)).any (·.1) = false := by rfl) :
    PS X (.Raise (some (.Call (.Name x p) (e :: es) [] pos)) none pos2) (fun _ σ H => tMkO C (spIni C ps) [] ta σ H fun cls d H' => W cls d σ H') := by
  obtain ⟨fI, fd, h1, h2, h3, h4⟩ := R.ini
  exact ps_raise hc tk (pmk_oex R.oex h1 h2 h4 (hr.mono h) h3 .nil pass0 hg R.mgC ha hdb he hpl)
theorem ini1 {fI C : Addr} {fd : FuncData} {q n : Str} {st : Stmt} (F : Fun K "__init__" q st fI fd) (T : OexC K C) (nn : PySem.W.findIn K (.ref C) n = some none) (S : FnScope ["self", n] ["self", n] (defScope st))
    (der : ∀ (cdv : Value) (A : Around) (outer : List Env) (s : Shared) (H : Hp) (E : XK), PSs (cxOf CX0 Pg w K mg base ["self", n] q (defScope st) fI cdv A outer s H E).nox (defBody st) (tOst K n (tVar 0) (tVar 1))) :
    FnOk Pg w K mg base CX0 1 fI fd ["self", n] (spIni C [n]) := by
  refine F.ok S (fun vs H Q E h => ?_) (fun cdv A outer s H vs Q E hr h => ?_)
  · obtain ⟨a, ws, rfl, hl, _⟩ := h
    simp at hl ⊢
    exact hl
  · obtain ⟨a, ws, rfl, hl, ha, k⟩ := h
    match ws, hl with
    | [v], _ =>
    refine ⟨_, der cdv A outer s H E, ?_⟩
    refine ⟨_, rfl, _, rfl, a, C, rfl, T, nn, .inl ⟨ha, fun d hd ne => ?_⟩⟩
    refine k d _ hd ne upd_same (by rw [upd_ne ne, upd_same]; rfl) fun b h1 h2 => by rw [upd_ne h1, upd_ne h2]
theorem ini2 {fI C : Addr} {fd : FuncData} {q n1 n2 : Str} {st : Stmt} (F : Fun K "__init__" q st fI fd) (T : OexC K C) (nn1 : PySem.W.findIn K (.ref C) n1 = some none) (nn2 : PySem.W.findIn K (.ref C) n2 = some none) (S : FnScope ["self", n1, n2] ["self", n1, n2] (defScope st))
    (der : ∀ (cdv : Value) (A : Around) (outer : List Env) (s : Shared) (H : Hp) (E : XK), PSs (cxOf CX0 Pg w K mg base ["self", n1, n2] q (defScope st) fI cdv A outer s H E).nox (defBody st) (tSeq (tOst K n1 (tVar 0) (tVar 1)) (tOst K n2 (tVar 0) (tVar 2)))) :
    FnOk Pg w K mg base CX0 1 fI fd ["self", n1, n2] (spIni C [n1, n2]) := by
  refine F.ok S (fun vs H Q E h => ?_) (fun cdv A outer s H vs Q E hr h => ?_)
  · obtain ⟨a, ws, rfl, hl, _⟩ := h
    simp at hl ⊢
    exact hl
  · obtain ⟨a, ws, rfl, hl, ha, k⟩ := h
    match ws, hl with
    | [v1, v2], _ =>
    refine ⟨_, der cdv A outer s H E, ?_⟩
    refine ⟨_, rfl, _, rfl, a, C, rfl, T, nn1, .inl ⟨ha, fun d hd ne => ?_⟩⟩
    refine ⟨_, rfl, _, rfl, a, C, rfl, T, nn2, .inr ⟨d, _, upd_same, by rw [upd_ne ne, upd_same], by simp, ?_⟩⟩
    refine k d _ hd ne (by rw [upd_ne (Ne.symm ne), upd_same]) upd_same fun b h1 h2 => by rw [upd_ne h2, upd_ne h1, upd_ne h2]
/-! ### try .. except X as n -/
theorem exm_own {S : Addr} (ha : PySem.W.subIn K (.ref S) (.type "BaseException") = some true) (hb : PySem.W.isClsIn K S = true) (hc : PySem.W.typeIn K (.ref S) = some (.type "type")) (hd : PySem.W.subIn K (.ref S) (.ref S) = some true) : PySem.W.exmOne K (.ref S) (.ref S) = some true := by
  have hb' : (PySem.W.clsIn K S).isSome = true := hb
  simp [PySem.W.exmOne, PySem.W.kitCls, ha, hb', hc, hd]
def tTry (K : PySem.W.Frag) (c : Value) (i : Nat) (ts : Addr → Value → Option Addr → TS) (tb : WX → TS) : TS := fun D σ H => tb (wAs K c i ts (fun _ _ _ _ => False) D) D σ H
theorem ps_tryA {X : Cx} {x n : Str} {c : Value} {i : Nat} {body suite : List Stmt} {b₀ : Stmt} {np pos pos' : Pos} {tb : WX → TS} {ts : Addr → Value → Option Addr → TS} (hs : X.stack = X.env :: X.outer) (hf : X.env.frame = some X.env.locals) (hN : X.N.Nodup) (hi : X.N[i]? = some n) (hln : X.env.kindOf n = some .local) (hc : Names X x c)
    (hb : ∀ (W : WX) (pn : List (Addr × Obj)) (xe : Value → Shared → Prop), Takes (X.tr pn xe) W → PassesOwn (model X.prog X.w) X.A X.env xe → PSs (X.tr pn xe) body (tb W))
    (hsu : ∀ (a : Addr) (oe : Obj) (cls : Value) (d : Option Addr) (pn : List (Addr × Obj)), Zc cls d oe → (∃ vs, oe.data = .fields vs) → PSs (X.suite a ((a, oe) :: pn)) (b₀ :: suite) (ts a cls d)) :
    PS X (.Try body [.ExceptHandler (some (.Name x np)) (some n) (b₀ :: suite) pos'] [] [] pos) (tTry X.K c i ts tb) := ps_try_as hs hf hN hi hln hc takes0 hb hsu
theorem wp_try {ρ : Rho} {m : Sto} {k : Ko} {tb : WX → TS} {ts : Addr → Value → Option Addr → TS} {c : Value} {i : Nat} {XS : Xv} (h : WpW K tb ρ m k XS)
    (hx : ∀ ρ' C fs m', XS ρ' C fs m' → PySem.W.exmOne K (.ref C) c = some true ∧ ∀ a d, m' d = none → Wp K (ts a (.ref C) (some d)) (ρ'.set i (some (.v (.ref a)))) (put m' d (.raw (.xd fs))) { nx := fun ρ2 m2 => k.nx (ρ2.set i none) m2, rt := k.rt, bk := fun ρ2 m2 => k.bk (ρ2.set i none) m2, ct := fun ρ2 m2 => k.ct (ρ2.set i none) m2 }) :
    Wp K (tTry K c i ts tb) ρ m k := fun D σ F H E S q1 q2 q3 q4 =>
  h D _ σ F H E S q1 q2 q3 q4 fun ρ' C fs d m' σ' F' H' x hd s1 S1 E1 => by
    obtain ⟨e, g⟩ := hx ρ' C fs m' x
    refine ⟨true, e, fun _ a ha => ?_, fun z => nomatch z⟩
    have un : ∀ {F H} {ρ2 : Rho} {σ2 : L2.St}, EnvOk K F H ρ2 σ2 → EnvOk K F H (ρ2.set i none) (σ2.set i none) := fun E => paired_set (F := SlO K _ _) (x := none) (y := none) (fun _ e => nomatch e) i E
    refine g a d hd _ (σ'.set i (some (.ref a))) F' H' (envOk_set (s := .v (.ref a)) E1 i rfl) S1 (fun ρ2 m2 σ2 F2 H2 p s2 S2 E2 => q1 _ m2 _ F2 H2 p (s1.trans s2) S2 (un E2)) (fun s m2 v F2 H2 p s2 S2 o2 => q2 s m2 v F2 H2 p (s1.trans s2) S2 o2)
      (fun ρ2 m2 σ2 F2 H2 p s2 S2 E2 => q3 _ m2 _ F2 H2 p (s1.trans s2) S2 (un E2)) (fun ρ2 m2 σ2 F2 H2 p s2 S2 E2 => q4 _ m2 _ F2 H2 p (s1.trans s2) S2 (un E2))
theorem ev_xf {ρ : Rho} {m : Sto} {P : PV} {te : TE} {a C : Addr} {d : Addr} {n : Str} {fs : Flds} {v : V} {s' : Sl} (h : Ev K te ρ m fun s m1 => s = .v (.ref a) ∧ m1 d = some (.raw (.xd fs)) ∧ fs.lookup n = some v ∧ (∀ F H, SlOk K F H s' v) ∧ P s' m1) : Ev K (tXf a (.ref C) (some d) C n te) ρ m P := fun σ F H Q E S q =>
  h σ F H _ E S fun s m1 x F1 H1 ⟨e, hm, hf, hs, p⟩ s1 S1 o1 => by
    subst e
    exact ⟨o1, rfl, d, fs, v, rfl, (S1.mu d _ hm).1, hf, q s' m1 v F1 H1 p s1 S1 (hs F1 H1)⟩
end
end Dv

namespace Dv
open PySem L2 PyProof.Rows
/-! ### list of a text -/
def rListStr : List V → Hp → VK → Prop := fun xs H Q => ∃ z : Str, xs = [.str z] ∧ z.length ≤ 100000 ∧ ∀ l, H l = none → Q (.ref l) (upd H l (.lst (z.cps.toList.map fun c => V.str ⟨#[c]⟩)))
theorem vals_of_get : ∀ {xs : List V} {ys : List Value}, xs.length = ys.length → (∀ (j : Nat) (x : V) (y : Value), xs[j]? = some x → ys[j]? = some y → L2.RelV x y) → Vals xs ys
  | [], [], _, _ => .nil
  | [], _ :: _, h, _ => by simp at h
  | _ :: _, [], h, _ => by simp at h
  | x :: xs, y :: ys, h, g => .cons (g 0 x y rfl rfl) (vals_of_get (by simpa using h) fun j a b ha hb => g (j + 1) a b (by simpa using ha) (by simpa using hb))
theorem call_listStr {X : Cx} (hc : X.calm = true) : CallR X (.type "list") rListStr := by
  rintro pins s σ H xs us Q I r ⟨z, rfl, hz, q⟩
  obtain ⟨u, rfl, rx⟩ := vals1 r
  obtain ⟨t, rfl⟩ := rx
  have hz' : z.cps.size ≤ sizeLine := by have : z.cps.size ≤ 100000 := hz; rw [sizeLine_eq]; omega
  refine PySem.call_list_str (I.ok.hd hc) z t (fun h' tk acc c' kp ho it => ?_) hz'
  obtain ⟨hs, hi⟩ := it
  have hlen : (z.cps.toList.map fun c => V.str ⟨#[c]⟩).length = acc.toList.length := by simp [hs]
  have hv : Vals (z.cps.toList.map fun c => V.str ⟨#[c]⟩) acc.toList := vals_of_get hlen fun j x y hx hy => by
    obtain ⟨c, u, h1, h2⟩ := hi j y (by simpa using hy)
    rw [List.getElem?_map] at hx
    have h3 : z.cps.toList[j]? = some c := by simpa using h1
    rw [h3] at hx
    cases hx
    exact ⟨u, h2⟩
  refine ⟨.ref s.heap.objs.size, upd H s.heap.objs.size (.lst (z.cps.toList.map fun c => V.str ⟨#[c]⟩)), I.laid (t' := tk) (fun _ _ => kp _ _) (Nat.le_refl _) ⟨by rw [hlen]; simp [hs]; exact hz', acc.toList, c', hv, by simpa using ho⟩, rfl, ?_⟩
  exact q _ (I.hok.fresh (Nat.le_refl _))
def rListU (K : PySem.W.Frag) : List V → Hp → VK → Prop := rc2 (rListC K) rListStr
theorem call_listU {X : Cx} (hc : X.calm = true) : CallR X (.type "list") (rListU X.K) := (call_list_of).or (call_listStr hc)
section
variable {K : PySem.W.Frag} {m : Sto} {P : PV}
theorem rc_listStr {z : Str} (h : z.length ≤ 100000) (p : P (.d (.list (signs z))) m) : RC K (rListU K) [.d (.str z)] m P := rc_r fun xs F H Q a S q => by
  obtain ⟨x, e, o⟩ := sls1 a
  cases (show x = .str z from o)
  refine ⟨z, e, h, fun c hc => then_new S p q hc ⟨c, _, rfl, .inl rfl, upd_same, ?_⟩⟩
  have : signs z = (z.cps.toList.map fun c => (⟨#[c]⟩ : Str)).map PyData.str := by rw [List.map_map]; rfl
  rw [this]
  exact imAll_strs.mpr (by rw [List.map_map]; rfl)
end
end Dv

namespace Dv
open PySem L2 PyProof.Rows
section
variable {K : PySem.W.Frag} {ρ : Rho} {m : Sto} {P : PV} {te : TE}
/-- of the store a part is kept -/
theorem ev_keep (h : Ev K te ρ m fun s m' => ∃ m0 : Sto, (∀ a u, m0 a = some u → m' a = some u) ∧ P s m0) : Ev K te ρ m P := fun σ F H Q E S q =>
  h σ F H Q E S fun s m' v F' H' ⟨m0, sub, p⟩ s1 S1 o1 => by
    have st : Step m' F' H' m0 (fun a => F' a ∨ (m' a ≠ none ∧ m0 a = none)) H' := ⟨fun a o ha n => ⟨ha, .inl n⟩, fun a o ha n k => by
      refine ⟨ha, fun z => z.elim n (fun z => z.1 k), ?_⟩
      cases e : m0 a with
      | none => rfl
      | some u => rw [sub a u e] at k; cases k⟩
    have so : StoOk K m0 (fun a => F' a ∨ (m' a ≠ none ∧ m0 a = none)) H' := by
      refine ⟨fun a u e => ⟨muOk_fix (fun b o hb n => ⟨hb, .inl n⟩) (fun o q => q) (S1.mu a u (sub a u e)).1, fun z => z.elim (S1.mu a u (sub a u e)).2 (fun z => ?_)⟩, fun a z => ?_⟩
      · rw [e] at z
        cases z.2
      · rcases z with z | z
        · exact S1.reg a z
        · cases e : m' a with
          | none => exact absurd e z.1
          | some u =>
            obtain ⟨o, q⟩ := muOk_some (S1.mu a u e).1
            rw [q]; simp
    exact q s m0 v _ H' p (s1.trans st) so (slOk_step st o1)
/-! ### lists of lists that change -/
theorem mu_refs {F : Reg} {H : Hp} (S : StoOk K m F H) {a : Addr} {as : List Addr} (h : m a = some (.refs as)) : H a = some (.lst (as.map V.ref)) := (S.mu a _ h).1
theorem then_put {F : Reg} {H : Hp} {Q : VK} {l : Addr} {w u : Mu} {o : HO} {s : Sl} {v : V} (S : StoOk K m F H) (hm : m l = some w) (q : Then K m F H P Q) (p : P s (put m l u)) (hu : MuOk K F (upd H l o) l u) (os : SlOk K F H s v) : Q v (upd H l o) := by
  have st : Step m F H (put m l u) F (upd H l o) := step_mut S hm
  exact q _ _ _ _ _ p st (sto_put S (S.mu l w hm).2 hu) (slOk_step st os)
theorem rx_refs {l b : Addr} {as : List Addr} {j : Int} (hm : m l = some (.refs as)) (h : atI as j = some b) (p : P (.m b) m) : RO K (rIx K) (.m l) (.d (.int j)) m P := fun x y F H Q a c S q => by
  have hl := mu_refs S hm
  have hv : atI (as.map V.ref) j = some (.ref b) := by
    unfold atI at h ⊢
    rw [List.length_map]
    cases e : ixN as.length j with
    | none => rw [e] at h; cases h
    | some n =>
      rw [e] at h
      show (as.map V.ref)[n]? = _
      rw [List.getElem?_map, show as[n]? = some b from h]
      rfl
  exact .inl ⟨l, _, j, .ref b, a, c, SqL.of hl, hv, q _ m _ F H p Step.refl S rfl⟩
theorem rc_lenR {l : Addr} {as : List Addr} (hm : m l = some (.refs as)) (p : P (.d (.int as.length)) m) : RC K (rLenC K) [.m l] m P := fun xs F H Q a S q => by
  obtain ⟨x, e, o⟩ := sls1 a
  cases (show x = .ref l from o)
  exact ⟨_, _, e, .inl ⟨_, SqL.of (mu_refs S hm), rfl⟩, by rw [List.length_map]; exact q _ m _ F H p Step.refl S rfl⟩
theorem ty_listR {l : Addr} {as : List Addr} (hm : m l = some (.refs as)) : TyS K "list" (.m l) m := fun x F H a S => by
  cases (show x = .ref l from a)
  exact .inl ⟨rfl, _, SqL.of (mu_refs S hm)⟩
theorem rm_appendR {l b : Addr} {as : List Addr} (hm : m l = some (.refs as)) (h : as.length < 100000) (p : P (.d .none) (put m l (.refs (as ++ [b])))) : RM K rAppend (.m l) [.m b] m P := fun x xs F H Q a c S q => by
  obtain ⟨y, e, o⟩ := sls1 c
  cases (show x = .ref l from a)
  cases (show y = .ref b from o)
  refine ⟨l, _, _, rfl, e, mu_refs S hm, by rw [List.length_map, sizeLine_eq]; omega, then_put S hm q p ?_ rfl⟩
  show upd H l _ l = _
  rw [upd_same, List.map_append]
  rfl
theorem rm_popR {l b : Addr} {as : List Addr} {j : Int} {k : Nat} (hm : m l = some (.refs as)) (h : as.length < 100000) (hj : 0 ≤ j) (hk : j = (k : Int)) (hd : as[k]? = some b) (p : P (.m b) (put m l (.refs (as.eraseIdx k)))) : RM K rPopAt (.m l) [.d (.int j)] m P := fun x xs F H Q a c S q => by
  obtain ⟨y, e, o⟩ := sls1 c
  cases (show y = .int j from o)
  cases (show x = .ref l from a)
  have hlt := (List.getElem?_eq_some_iff.mp hd).1
  have hv : (as.map V.ref)[k]? = some (.ref b) := by rw [List.getElem?_map, hd]; rfl
  refine ⟨l, _, j, k, .ref b, rfl, e, mu_refs S hm, by omega, by omega, (ixN_seq (show ixN (as.map V.ref).length j = some k from ?_)).1, hv, then_put S hm q p ?_ rfl⟩
  · unfold ixN
    rw [List.length_map, if_pos hj, if_pos (by omega), hk]
    simp
  · show upd H l _ l = _
    rw [upd_same]
    congr 2
    have me : ∀ (xs : List Addr) (i : Nat), (xs.map V.ref).eraseIdx i = (xs.eraseIdx i).map V.ref := by
      intro xs
      induction xs with
      | nil => intro i; rfl
      | cons x xs ih =>
        intro i
        cases i with
        | zero => rfl
        | succ i => simp [ih]
    exact me as k
theorem rm_insertR {l b : Addr} {as : List Addr} {k : Nat} (hm : m l = some (.refs as)) (h : as.length < 100000) (hk : k ≤ 1000000) (p : P (.d .none) (put m l (.refs (as.take k ++ [b] ++ as.drop k)))) : RM K rInsert (.m l) [.d (.int (k : Nat)), .m b] m P := fun x xs F H Q a c S q => by
  obtain ⟨y, z, e, o1, o2⟩ := sls2 c
  cases (show y = .int _ from o1)
  cases (show z = .ref b from o2)
  cases (show x = .ref l from a)
  refine ⟨l, _, _, _, rfl, e, mu_refs S hm, by rw [List.length_map, sizeLine_eq]; omega, by omega, by omega, then_put S hm q p ?_ rfl⟩
  show upd H l _ l = _
  rw [upd_same, Int.toNat_natCast, List.map_append, List.map_append, List.map_take, List.map_drop]
  rfl
theorem rm_insert {l : Addr} {ds : List PyData} {d : PyData} {k : Nat} (hm : m l = some (.lst ds)) (h : ds.length < 100000) (hk : k ≤ 1000000) (p : P (.d .none) (put m l (.lst (ds.take k ++ [d] ++ ds.drop k)))) : RM K rInsert (.m l) [.d (.int (k : Nat)), .d d] m P := fun x xs F H Q a c S q => by
  obtain ⟨y, z, e, o1, o2⟩ := sls2 c
  cases (show y = .int _ from o1)
  cases (show x = .ref l from a)
  obtain ⟨vs, hl, i⟩ := mu_lst S hm
  have st : Step m F H (put m l (.lst (ds.take k ++ [d] ++ ds.drop k))) F (upd H l (.lst (vs.take (k : Int).toNat ++ [z] ++ vs.drop (k : Int).toNat))) := step_mut S hm
  refine ⟨l, vs, _, z, rfl, e, hl, by rw [← imAll_len i, sizeLine_eq]; omega, by omega, by omega, then_put S hm q p ?_ rfl⟩
  refine ⟨_, upd_same, imAll_fix st.fix _ _ ?_⟩
  rw [Int.toNat_natCast]
  exact imAll_app (imAll_app (imAll_iff.mpr (paired_take _ (imAll_iff.mp i))) (imAll_one o2)) (imAll_iff.mpr (paired_drop _ (imAll_iff.mp i)))
/-- xs[j] = e, where what is drawn says j -/
theorem gt_subE {d : PyData} {to ti : TE} {Pr : Rho → Sto → Prop} (ho : Ev K to ρ m fun s m1 => ∃ l, s = .m l ∧ Ev K ti ρ m1 fun s' m2 => ∃ (j : Int) (k : Nat) (ds : List PyData), s' = .d (.int j) ∧ m2 l = some (.lst ds) ∧ ixN ds.length j = some k ∧ Pr ρ (put m2 l (.lst (ds.set k d)))) :
    Gt K (gSub to ti rSetL) [] (.d d) ρ m Pr := fun σ F H v Q E S o q =>
  ho σ F H _ E S fun s m1 x F1 H1 ⟨l, e, h⟩ s1 S1 o1 => h σ F1 H1 _ (envOk_step s1 E) S1 fun s' m2 y F2 H2 ⟨j, k, ds, e2, hm, hk, p⟩ s2 S2 o2 => by
    subst e e2
    cases (show y = .int j from o2)
    obtain ⟨vs, hl, i⟩ := mu_lst S2 hm
    cases (show x = .ref l from o1)
    have st : Step m2 F2 H2 (put m2 l (.lst (ds.set k d))) F2 (upd H2 l (.lst (vs.set k v))) := step_mut S2 hm
    have iv : Im K F2 H2 d v := im_fix (s1.trans s2).fix _ _ o
    refine ⟨l, vs, j, k, rfl, rfl, hl, by rw [← imAll_len i]; exact hk, ?_⟩
    refine q _ _ _ F2 _ p ((s1.trans s2).trans st) (sto_put S2 (S2.mu l _ hm).2 ⟨_, upd_same, imAll_fix st.fix _ _ (imAll_set i k iv)⟩) (envOk_step ((s1.trans s2).trans st) E) fun _ _ => rfl
/-- rows[j] = a list -/
theorem gt_subR {l b : Addr} {as : List Addr} {j : Int} {k : Nat} {to ti : TE} {Pr : Rho → Sto → Prop} (ho : Ev K to ρ m fun s m1 => s = .m l ∧ Ev K ti ρ m1 fun s' m2 => s' = .d (.int j) ∧ m2 l = some (.refs as) ∧ ixN as.length j = some k ∧ Pr ρ (put m2 l (.refs (as.set k b)))) :
    Gt K (gSub to ti rSetL) [] (.m b) ρ m Pr := fun σ F H v Q E S o q =>
  ho σ F H _ E S fun s m1 x F1 H1 ⟨e, h⟩ s1 S1 o1 => h σ F1 H1 _ (envOk_step s1 E) S1 fun s' m2 y F2 H2 ⟨e2, hm, hk, p⟩ s2 S2 o2 => by
    subst e e2
    cases (show y = .int j from o2)
    cases (show v = .ref b from o)
    cases (show x = .ref l from o1)
    have st : Step m2 F2 H2 (put m2 l (.refs (as.set k b))) F2 (upd H2 l (.lst ((as.map V.ref).set k (.ref b)))) := step_mut S2 hm
    refine ⟨l, _, j, k, rfl, rfl, mu_refs S2 hm, by rw [List.length_map]; exact hk, ?_⟩
    refine q _ _ _ F2 _ p ((s1.trans s2).trans st) (sto_put S2 (S2.mu l _ hm).2 ?_) (envOk_step ((s1.trans s2).trans st) E) fun _ _ => rfl
    show upd H2 l _ l = _
    rw [upd_same, List.map_set]
/-- [e for ..] where each e is a list that will change -/
theorem ev_lcRefs {wi : TI} {g : TG} {vs : List Nat} (h : EvI K wi ρ m fun xs C m1 => ∀ D, m1 D = none → ∃ Iv : Nat → Sto → Prop, Iv 0 (put m1 D (.refs [])) ∧ (∀ i m', Iv i m' → C m') ∧
      (∀ i x m', xs[i]? = some x → Iv i m' → ∃ js, (∀ j ∈ js, j ∈ vs) ∧ Gt K g js x (wipeR ρ vs) m' fun ρ2 m2 => Ev K te ρ2 m2 fun z m3 => ∃ b acc, z = .m b ∧ m3 D = some (.refs acc) ∧ acc.length < 100000 ∧ Iv (i + 1) (put m3 D (.refs (acc ++ [b])))) ∧
      ∀ m', Iv xs.length m' → P (.m D) m') : Ev K (tLc wi g tYes te vs) ρ m P := fun σ F H Q E S q =>
  h σ F H _ E S fun xs C m1 F1 H1 J hh s1 S1 w => by
    intro D hD
    obtain ⟨Iv, h0, hC, hs, hd⟩ := hh D (sto_none S1 hD)
    have sD : Step m1 F1 H1 (put m1 D (.refs [])) F1 (upd H1 D (.lst [])) := step_newM S1 hD
    have SD : StoOk K (put m1 D (.refs [])) F1 (upd H1 D (.lst [])) := sto_put S1 (not_reg S1 hD) upd_same
    let Pv : Nat → Hp → Prop := fun i H' => ∃ m' F', Iv i m' ∧ Step m1 F1 H1 m' F' H' ∧ StoOk K m' F' H'
    refine lc_it w Pv ⟨_, _, h0, sD, SD⟩ (fun i H' _ ⟨m', F', a, st, So⟩ => ⟨m', F', hC _ _ a, st, So⟩) ?_ (fun H' ⟨m', F', a, st, So⟩ => q _ _ _ _ H' (hd m' a) (s1.trans st) So rfl)
    rintro i x H' H2 hi ⟨m', F', a, st, So⟩ y
    obtain ⟨F2, s2, S2, sl, hx, o2⟩ := y m' F' (hC _ _ a) st So
    obtain ⟨js, hj, gt⟩ := hs i sl m' hx a
    have E2 : EnvOk K F2 H2 (wipeR ρ vs) (wipe σ vs) := envOk_step ((s1.trans st).trans s2) (envOk_wipe E vs)
    refine gt (wipe σ vs) F2 H2 x _ E2 S2 o2 fun ρ3 m3 σ3 F3 H3 ev s3 S3 E3 hw => ⟨?_, ?_⟩
    · rw [hw vs hj]
      exact wipe_wipe
    show if true = true then te σ3 H3 (fun y H4 => ∃ acc, H4 D = some (HO.lst acc) ∧ acc.length < sizeLine ∧ Pv (i + 1) (upd H4 D (HO.lst (acc ++ [y])))) else Pv (i + 1) H3
    rw [if_pos rfl]
    refine ev σ3 F3 H3 _ E3 S3 fun s m4 v F4 H4 ⟨b, acc, es, hm, hl, iv⟩ s4 S4 o4 => ?_
    subst es
    cases (show v = .ref b from o4)
    refine ⟨_, mu_refs S4 hm, by rw [List.length_map, sizeLine_eq]; omega, ?_⟩
    have sm : Step m4 F4 H4 (put m4 D (.refs (acc ++ [b]))) F4 (upd H4 D (.lst (acc.map V.ref ++ [.ref b]))) := step_mut S4 hm
    exact ⟨_, F4, iv, (((st.trans s2).trans s3).trans s4).trans sm, sto_put S4 (S4.mu D _ hm).2 (by show upd H4 D _ D = _; rw [upd_same, List.map_append]; rfl)⟩
/-- a walk over a list of lists -/
theorem ei_refs {tl : TE} {P : List Sl → (Sto → Prop) → Sto → Prop} (h : Ev K tl ρ m fun s m1 => ∃ a as, s = .m a ∧ m1 a = some (.refs as) ∧ P (as.map .m) (fun m' => m' a = some (.refs as)) m1) : EvI K (iSeqU K tl) ρ m P := fun σ F H R E S q => .inl (h σ F H _ E S fun s m1 v F1 H1 ⟨a, as, e, hm, p⟩ s1 S1 o1 => by
  subst e
  refine ⟨a, o1, ⟨_, SqL.of (mu_refs S1 hm)⟩, q _ _ m1 F1 H1 _ p s1 S1 ⟨fun j H2 hj ⟨m2, F2, c, st, S2⟩ => ?_, fun H2 ⟨m2, F2, c, st, S2⟩ => ?_, fun j H2 x H3 hj ⟨m3, F3, _, _, _⟩ ⟨e3, hx⟩ m2 F2 c st S2 => ?_⟩⟩
  · have ha2 := mu_refs S2 c
    have : j < (as.map V.ref).length := by simpa using hj
    exact ⟨_, (as.map V.ref)[j], SqL.of ha2, List.getElem?_eq_getElem this⟩
  · exact ⟨_, SqL.of (mu_refs S2 c), by simp⟩
  · subst e3
    have ha2 := mu_refs S2 c
    have hj' : j < as.length := by simpa using hj
    have h1 := hx _ (SqL.of ha2)
    rw [List.getElem?_map, List.getElem?_eq_getElem hj'] at h1
    refine ⟨F2, Step.refl, S2, .m as[j], by rw [List.getElem?_map, List.getElem?_eq_getElem hj']; rfl, ?_⟩
    have h2 : some (V.ref as[j]) = some x := h1
    exact (Option.some.inj h2).symm)
/-- [x] * n that will change -/
theorem rm_lstM {ds : List PyData} {n : Int} (h0 : 0 ≤ n) (h1 : n ≤ 1000) (h2 : ds.length ≤ 1000) (p : ∀ a, m a = none → P (.m a) (put m a (.lst (List.replicate n.toNat ds).flatten))) : RO K rMulU (.d (.list ds)) (.d (.int n)) m P := ro_r (ro_r fun u v F H Q a b S q => by
  obtain ⟨l, xs, e1, hl, i1⟩ := im_lst a
  have z1 := imAll_len i1
  have : xs.length * n.toNat ≤ 1000 * 1000 := Nat.mul_le_mul (by omega) (by omega)
  refine ⟨l, n, xs, e1, b, hl, by omega, by omega, by rw [sizeLine_eq]; omega, fun c hc => ?_⟩
  exact q _ _ _ _ _ (p c (sto_none S hc)) (step_newM S hc) (sto_put S (not_reg S hc) ⟨_, upd_same, imAll_fix (step_newM (u := .lst (List.replicate n.toNat ds).flatten) S hc).fix _ _ (imAll_rep i1 _)⟩) rfl)
/-- lists by +, one of them may change -/
theorem ra_lstD {s t : Sl} {ds es : List PyData} (hs : LsS K s m ds) (ht : LsS K t m es) (h : ds.length + es.length ≤ 100000) (p : P (.d (.list (ds ++ es))) m) : RO K (rAddU K) s t m P := ro_r (ro_r (ro_l fun u v F H Q a b S q => by
  obtain ⟨l, xs, e1, h1, i1⟩ := hs u F H a S
  obtain ⟨l2, ys, e2, h2, i2⟩ := ht v F H b S
  have z1 := imAll_len i1
  have z2 := imAll_len i2
  refine ⟨l, l2, xs, ys, e1, e2, h1, h2, by rw [sizeLine_eq]; omega, fun c hc => ?_⟩
  exact then_new S p q hc ⟨c, _, rfl, .inl rfl, upd_same, imAll_fix (step_new S hc).fix _ _ (imAll_app i1 i2)⟩))
end
end Dv

namespace Dv
open PySem L2 PyProof.Rows
/-! ### isinstance of a caught error that has fields -/
structure ErrI (K : PySem.W.Frag) (C : Addr) : Prop where
  xc : ExcC K C
  ic : PySem.W.isClsIn K C = true
def rIsX (K : PySem.W.Frag) (D a : Addr) (cls : Value) (d : Option Addr) : List V → Hp → VK → Prop := fun xs H Q => ∃ (c : V) (cv : Value) (b : Bool), cls = .ref D ∧ (∃ dd fs, d = some dd ∧ H dd = some (.xd fs)) ∧ xs = [.ref a, c] ∧ (∀ u, L2.RelV c u → u = cv) ∧ PySem.W.kitOne K (.ref D) cv = some b ∧ Q (.bl b) H
theorem inst_of {X : Cx} {a D dd : Addr} {oe : Obj} {pn pins : List (Addr × Obj)} {σ : L2.St} {H : Hp} {s : Shared} {fs : List (Str × V)} (I : Inv (X.suite a ((a, oe) :: pn)) pins σ H s) (hz : Zc (.ref D) (some dd) oe) (hf : ∃ vs, oe.data = .fields vs) (hd : H dd = some (.xd fs)) : ∃ od, PySem.W.InstAt s.heap a oe D (some od) := by
  obtain ⟨hp, _⟩ := I.pin (a, oe) (List.mem_append_left _ List.mem_cons_self)
  obtain ⟨mA, ⟨o, es, ep, ho, _⟩, _⟩ := I.hok dd _ hd
  obtain ⟨vs, hv⟩ := hf
  refine ⟨o, hp, hz.1, ?_, ?_⟩
  · unfold PySem.W.notCls
    rw [hv]
  · rw [hz.2]
    exact ho
theorem call_isX {X : Cx} {a D : Addr} {oe : Obj} {pn : List (Addr × Obj)} {cls : Value} {d : Option Addr} (C : ErrI X.K D) (hz : Zc cls d oe) (hf : ∃ vs, oe.data = .fields vs) : CallR (X.suite a ((a, oe) :: pn)) (.builtin "isinstance") (rIsX X.K D a cls d) := by
  rintro pins s σ H xs us Q I r ⟨c, cv, b, rfl, ⟨dd, fs, rfl, hd⟩, rfl, hc, hk, q⟩
  cases r with
  | cons r1 r =>
    cases r with
    | cons r2 r =>
      cases r
      cases r1
      rw [hc _ r2]
      obtain ⟨od, hi⟩ := inst_of I hz hf hd
      exact PySem.W.kia_one (PySem.W.kitx_exc (od := some od) C.ic C.xc.hg C.xc.hk C.xc.hs C.xc.ha C.xc.hn C.xc.ht C.xc.hm) I.kIn hi hk (fun e => by cases e) (fun tk => ⟨.bl b, H, I.tok _, rfl, q⟩)
def rIsXT (K : PySem.W.Frag) (D a : Addr) (cls : Value) (d : Option Addr) : List V → Hp → VK → Prop := fun xs H Q => ∃ (tp : Addr) (cs : List Addr) (b : Bool), cls = .ref D ∧ (∃ dd fs, d = some dd ∧ H dd = some (.xd fs)) ∧ xs = [.ref a, .ref tp] ∧ SqT K H tp (cs.map V.ref) ∧ PySem.W.kitAny K (.ref D) (cs.map Value.ref) = some b ∧ Q (.bl b) H
theorem vals_refs : ∀ {cs : List Addr} {us : List Value}, Vals (cs.map V.ref) us → us = cs.map Value.ref
  | [], _, .nil => rfl
  | c :: cs, _, .cons r t => by rw [vals_refs t]; cases r; rfl
theorem call_isXT {X : Cx} {a D : Addr} {oe : Obj} {pn : List (Addr × Obj)} {cls : Value} {d : Option Addr} (C : ErrI X.K D) (hz : Zc cls d oe) (hf : ∃ vs, oe.data = .fields vs) : CallR (X.suite a ((a, oe) :: pn)) (.builtin "isinstance") (rIsXT X.K D a cls d) := by
  rintro pins s σ H xs us Q I r ⟨tp, cs, b, rfl, ⟨dd, fs, rfl, hd⟩, rfl, hs, hk, q⟩
  cases r with
  | cons r1 r =>
    cases r with
    | cons r2 r =>
      cases r
      cases r1
      cases r2
      obtain ⟨od, hi⟩ := inst_of I hz hf hd
      obtain ⟨its, rv, ht, hz2⟩ := I.tuple hs
      obtain ⟨o, ho, hc, n, hdt⟩ := ht
      have e := vals_refs rv
      subst e
      obtain ⟨oc, odct, odata, osl⟩ := o
      cases hc
      cases hdt
      exact PySem.W.kia_tup (PySem.W.kitx_exc (od := some od) C.ic C.xc.hg C.xc.hk C.xc.hs C.xc.ha C.xc.hn C.xc.ht C.xc.hm) I.kIn hi ho hk (fun e => by cases e) (fun tk => ⟨.bl b, H, I.tok _, rfl, q⟩)
theorem kit_self {K : PySem.W.Frag} {D : Addr} : PySem.W.kitOne K (.ref D) (.ref D) = some true := by
  unfold PySem.W.kitOne
  rw [if_pos]
  exact beq_self_eq_true _
section
variable {K : PySem.W.Frag} {m : Sto} {P : PV}
theorem rc_isX {a d D c : Addr} {fs : Flds} {b : Bool} (hm : m d = some (.raw (.xd fs))) (hk : PySem.W.kitOne K (.ref D) (.ref c) = some b) (p : P (.d (.bool b)) m) : RC K (rIsX K D a (.ref D) (some d)) [.v (.ref a), .v (.ref c)] m P := fun xs F H Q o S q => by
  obtain ⟨x, y, e, o1, o2⟩ := sls2 o
  cases (show x = .ref a from o1)
  cases (show y = .ref c from o2)
  exact ⟨.ref c, .ref c, b, rfl, ⟨d, fs, rfl, (S.mu d _ hm).1⟩, e, fun u hu => hu, hk, q _ m _ F H p Step.refl S rfl⟩
theorem sls_refs {F : Reg} {H : Hp} : ∀ {cs : List Addr} {vs : List V}, SlsOk K F H (cs.map fun c => Sl.v (.ref c)) vs → vs = cs.map V.ref
  | [], _, .nil => rfl
  | c :: cs, _, .cons r t => by rw [sls_refs t]; cases (show _ = V.ref c from r); rfl
/-- a tuple of classes -/
theorem ev_clsT {ρ : Rho} {tr : TA} {te : TE} {cs : List Addr} (h : EvA K tr ρ m fun ss m1 => ss = cs.map (fun c => Sl.v (.ref c)) ∧ cs.length ≤ 100 ∧ m1 = m) {a d D : Addr} {fs : Flds} {b : Bool} (he : Ev K te ρ m fun s m1 => s = .v (.ref a) ∧ m1 = m) (hm : m d = some (.raw (.xd fs))) (hk : PySem.W.kitAny K (.ref D) (cs.map Value.ref) = some b) (p : P (.d (.bool b)) m) :
    Ev K (tCB (rIsXT K D a (.ref D) (some d)) (tCons te (tCons (tTupZ tr) tNil))) ρ m P := fun σ F H Q E S q =>
  he σ F H _ E S fun s m1 x F1 H1 ⟨e, em⟩ s1 S1 o1 => by
    subst e em
    cases (show x = .ref a from o1)
    refine h σ F1 H1 _ (envOk_step s1 E) S1 fun ss m2 vs F2 H2 ⟨e, hl, em⟩ s2 S2 o2 => ?_
    subst em
    have hvs : vs = cs.map V.ref := sls_refs (e ▸ o2)
    subst hvs
    refine ⟨by rw [List.length_map, sizeLine_eq]; omega, fun tp ob ht hdct => ?_⟩
    have st : Step m2 F2 H2 m2 (add F2 tp) (upd H2 tp (.frz ob (.tup (cs.map V.ref)))) := step_new S2 ht
    have so := sto_new (o := .frz ob (.tup (cs.map V.ref))) S2 ht
    exact ⟨tp, cs, b, rfl, ⟨d, fs, rfl, (so.mu d _ hm).1⟩, rfl, ZT.sq ⟨ob, upd_same, hdct⟩, hk, q _ m2 _ _ _ p ((s1.trans s2).trans st) so rfl⟩
end
end Dv

namespace Dv
open PySem L2 PyProof.Rows
/-! ### errors of several classes, caught by one handler -/
theorem al_nil {α : Type} {p : α → Prop} : ∀ x, x ∈ ([] : List α) → p x := fun _ h => by cases h
theorem al_cons {α : Type} {p : α → Prop} {a : α} {l : List α} (h : p a) (t : ∀ x, x ∈ l → p x) : ∀ x, x ∈ a :: l → p x := fun x hx => by
  rcases List.mem_cons.mp hx with e | e
  · rw [e]; exact h
  · exact t x e
theorem pe_cl {X : Cx} {x : Str} {C : Addr} {pos : Pos} (h : X.mg x = some (.ref C)) (hg : Gl X x := by rfl) (hd : (x == ("__debug__" : Str)) = false := by decide) : PE X (.Name x pos) (tC (.ref C)) := pe_glob hg h rfl hd
theorem exm_to {K : PySem.W.Frag} {S c : Addr} (ha : PySem.W.subIn K (.ref c) (.type "BaseException") = some true) (hb : PySem.W.isClsIn K c = true) (hc : PySem.W.typeIn K (.ref c) = some (.type "type")) (hd : PySem.W.subIn K (.ref S) (.ref c) = some true) : PySem.W.exmOne K (.ref S) (.ref c) = some true := by
  have hb' : (PySem.W.clsIn K c).isSome = true := hb
  simp [PySem.W.exmOne, PySem.W.kitCls, ha, hb', hc, hd]
theorem kit_b {K : PySem.W.Frag} {S c : Addr} {b : Bool} (hn : (S == c) = false) (hb : PySem.W.isClsIn K c = true) (hc : PySem.W.typeIn K (.ref c) = some (.type "type")) (hd : PySem.W.subIn K (.ref S) (.ref c) = some b) : PySem.W.kitOne K (.ref S) (.ref c) = some b := by
  have hb' : (PySem.W.clsIn K c).isSome = true := hb
  have hne : S ≠ c := by
    intro e
    rw [e] at hn
    simp at hn
  have hv : ¬ ((Value.ref S == Value.ref c) = true) := by
    intro e
    have := eq_of_beq e
    cases this
    exact hne rfl
  unfold PySem.W.kitOne
  rw [if_neg hv]
  simp [PySem.W.kitCls, hb', hc, hd]
theorem ka_nil {K : PySem.W.Frag} {t : Value} : PySem.W.kitAny K t [] = some false := rfl
theorem ka_no {K : PySem.W.Frag} {t c : Value} {r : List Value} {b : Bool} (h : PySem.W.kitOne K t c = some false) (hr : PySem.W.kitAny K t r = some b) : PySem.W.kitAny K t (c :: r) = some b := by
  simp [PySem.W.kitAny, h, hr]
theorem ka_yes {K : PySem.W.Frag} {t c : Value} {r : List Value} (h : PySem.W.kitOne K t c = some true) : PySem.W.kitAny K t (c :: r) = some true := by
  simp [PySem.W.kitAny, h]
def rIsA (K : PySem.W.Frag) (Ds : List Addr) (a : Addr) (cls : Value) (d : Option Addr) : List V → Hp → VK → Prop := fun xs H Q => ∃ D, D ∈ Ds ∧ rIsX K D a cls d xs H Q
def rIsAT (K : PySem.W.Frag) (Ds : List Addr) (a : Addr) (cls : Value) (d : Option Addr) : List V → Hp → VK → Prop := fun xs H Q => ∃ D, D ∈ Ds ∧ rIsXT K D a cls d xs H Q
theorem call_isA {X : Cx} {a : Addr} {Ds : List Addr} {oe : Obj} {pn : List (Addr × Obj)} {cls : Value} {d : Option Addr} (C : ∀ D, D ∈ Ds → ErrI X.K D) (hz : Zc cls d oe) (hf : ∃ vs, oe.data = .fields vs) : CallR (X.suite a ((a, oe) :: pn)) (.builtin "isinstance") (rIsA X.K Ds a cls d) := by
  rintro pins s σ H xs us Q I r ⟨D, hD, h⟩
  exact call_isX (C D hD) hz hf pins s σ H xs us Q I r h
theorem call_isAT {X : Cx} {a : Addr} {Ds : List Addr} {oe : Obj} {pn : List (Addr × Obj)} {cls : Value} {d : Option Addr} (C : ∀ D, D ∈ Ds → ErrI X.K D) (hz : Zc cls d oe) (hf : ∃ vs, oe.data = .fields vs) : CallR (X.suite a ((a, oe) :: pn)) (.builtin "isinstance") (rIsAT X.K Ds a cls d) := by
  rintro pins s σ H xs us Q I r ⟨D, hD, h⟩
  exact call_isXT (C D hD) hz hf pins s σ H xs us Q I r h
def tXfA (a : Addr) (cls : Value) (d : Option Addr) (Ds : List Addr) (f : Str) (te : TE) : TE := fun σ H Q => ∃ D, D ∈ Ds ∧ tXf a cls d D f te σ H Q
theorem pe_xfA {X : Cx} {a : Addr} {Ds : List Addr} {oe : Obj} {cls : Value} {d : Option Addr} {pn : List (Addr × Obj)} {e : Expr} {te : TE} {pos : Pos} {n : Str} (T : ∀ D, D ∈ Ds → XfC X.K D ∧ PySem.W.findIn X.K (.ref D) n = some none)
    (hz : Zc cls d oe) (hf : ∃ vs, oe.data = .fields vs) (he : PE (X.suite a ((a, oe) :: pn)) e te) (hb : attributeBase e n X.env (eval e X.env) = eval e X.env := by rfl) :
    PE (X.suite a ((a, oe) :: pn)) (.Attribute e n pos) (tXfA a cls d Ds n te) := ⟨fun pins s σ H Q I h => by
  obtain ⟨D, hD, h⟩ := h
  exact (pe_xf (T D hD).1 (T D hD).2 hz hf he hb).run pins s σ H Q I h⟩
section
variable {K : PySem.W.Frag} {m : Sto} {P : PV}
theorem rc_isA {a d D c : Addr} {Ds : List Addr} {fs : Flds} {b : Bool} (hD : D ∈ Ds) (hm : m d = some (.raw (.xd fs))) (hk : PySem.W.kitOne K (.ref D) (.ref c) = some b) (p : P (.d (.bool b)) m) : RC K (rIsA K Ds a (.ref D) (some d)) [.v (.ref a), .v (.ref c)] m P := fun xs F H Q o S q =>
  ⟨D, hD, rc_isX hm hk p xs F H Q o S q⟩
theorem ev_clsA {ρ : Rho} {tr : TA} {te : TE} {cs Ds : List Addr} (h : EvA K tr ρ m fun ss m1 => ss = cs.map (fun c => Sl.v (.ref c)) ∧ cs.length ≤ 100 ∧ m1 = m) {a d D : Addr} {fs : Flds} {b : Bool} (hD : D ∈ Ds) (he : Ev K te ρ m fun s m1 => s = .v (.ref a) ∧ m1 = m) (hm : m d = some (.raw (.xd fs))) (hk : PySem.W.kitAny K (.ref D) (cs.map Value.ref) = some b) (p : P (.d (.bool b)) m) :
    Ev K (tCB (rIsAT K Ds a (.ref D) (some d)) (tCons te (tCons (tTupZ tr) tNil))) ρ m P := fun σ F H Q E S q =>
  he σ F H _ E S fun s m1 x F1 H1 ⟨e, em⟩ s1 S1 o1 => by
    subst e em
    cases (show x = .ref a from o1)
    refine h σ F1 H1 _ (envOk_step s1 E) S1 fun ss m2 vs F2 H2 ⟨e, hl, em⟩ s2 S2 o2 => ?_
    subst em
    have hvs : vs = cs.map V.ref := sls_refs (e ▸ o2)
    subst hvs
    refine ⟨by rw [List.length_map, sizeLine_eq]; omega, fun tp ob ht hdct => ?_⟩
    have st : Step m2 F2 H2 m2 (add F2 tp) (upd H2 tp (.frz ob (.tup (cs.map V.ref)))) := step_new S2 ht
    have so := sto_new (o := .frz ob (.tup (cs.map V.ref))) S2 ht
    exact ⟨D, hD, tp, cs, b, rfl, ⟨d, fs, rfl, (so.mu d _ hm).1⟩, rfl, ZT.sq ⟨ob, upd_same, hdct⟩, hk, q _ m2 _ _ _ p ((s1.trans s2).trans st) so rfl⟩
theorem ev_xfA {ρ : Rho} {te : TE} {a C : Addr} {Ds : List Addr} {d : Addr} {n : Str} {fs : Flds} {v : V} {s' : Sl} (hC : C ∈ Ds) (h : Ev K te ρ m fun s m1 => s = .v (.ref a) ∧ m1 d = some (.raw (.xd fs)) ∧ fs.lookup n = some v ∧ (∀ F H, SlOk K F H s' v) ∧ P s' m1) : Ev K (tXfA a (.ref C) (some d) Ds n te) ρ m P := fun σ F H Q E S q =>
  ⟨C, hC, ev_xf h σ F H Q E S q⟩
theorem wpw_asg {ρ : Rho} {k : Ko} {X : Xv} {te : WX → TE} {g : TG} (h : EvW K te ρ m (fun s m1 => ∃ js, Gt K g js s ρ m1 k.nx) X) : WpW K (fun W => tAsg (te W) g) ρ m k X := fun D W σ F H E S q1 _ _ _ q5 =>
  h W σ F H _ E S (fun s m1 v F1 H1 ⟨js, p⟩ s1 S1 o1 => p σ F1 H1 v _ (envOk_step s1 E) S1 o1 fun a b c d f e s2 S2 E2 _ => q1 a b c d f e (s1.trans s2) S2 E2) q5
end
/-! ### parts of tuples -/
theorem cut_from {α : Type} {xs : List α} {k : Nat} : cutD xs (some (k : Int)) none = xs.drop k := by
  unfold cutD
  rw [HT.sIx_nat]
  show (xs.drop (min k xs.length)).take (xs.length - min k xs.length) = _
  rcases Nat.le_total k xs.length with h | h
  · rw [Nat.min_eq_left h, List.take_of_length_le (by simp)]
  · rw [Nat.min_eq_right h, List.drop_of_length_le (Nat.le_refl _), List.drop_of_length_le h]
    simp
theorem cut_to {α : Type} {xs : List α} {k : Nat} : cutD xs none (some (k : Int)) = xs.take k := by
  unfold cutD
  rw [HT.sIx_nat]
  show (xs.drop 0).take (min k xs.length - 0) = _
  rw [List.drop_zero, Nat.sub_zero]
  rcases Nat.le_total k xs.length with h | h
  · rw [Nat.min_eq_left h]
  · rw [Nat.min_eq_right h, List.take_of_length_le (Nat.le_refl _), List.take_of_length_le h]
theorem cut_mid {α : Type} {xs : List α} {k l : Nat} (hk : k ≤ l) (hl : l ≤ xs.length) : cutD xs (some (k : Int)) (some (l : Int)) = (xs.drop k).take (l - k) := by
  unfold cutD
  rw [HT.sIx_nat, HT.sIx_nat, Nat.min_eq_left hl, Nat.min_eq_left (Nat.le_trans hk hl)]
/-- what stands behind, what stands there, what stands before -/
def crL {α : Type} (k : Nat) (xs : List α) : List α := xs.drop (k + 1) ++ (xs.drop k).take 1 ++ xs.take k
theorem crL_map {α β : Type} {f : α → β} {k : Nat} {xs : List α} : crL k (xs.map f) = (crL k xs).map f := by
  simp [crL, List.map_drop, List.map_take]
theorem crL_len {α : Type} {k : Nat} {xs : List α} (h : k < xs.length) : (crL k xs).length = xs.length := by
  simp [crL]; omega
theorem one_at {α : Type} {k : Nat} {xs : List α} {x : α} (h : xs[k]? = some x) : (xs.drop k).take 1 = [x] := by
  have hk := (List.getElem?_eq_some_iff.mp h).1
  rw [List.drop_eq_getElem_cons hk]
  have := (List.getElem?_eq_some_iff.mp h).2
  simp [this]
theorem crL_at {α : Type} {k : Nat} {xs : List α} {x : α} (h : xs[k]? = some x) : crL k xs = xs.drop (k + 1) ++ [x] ++ xs.take k := by
  unfold crL
  rw [one_at h]
theorem crL_mem {α : Type} {k : Nat} {xs : List α} {x : α} (h : x ∈ crL k xs) : x ∈ xs := by
  unfold crL at h
  rcases List.mem_append.mp h with h | h
  · rcases List.mem_append.mp h with h | h
    · exact List.mem_of_mem_drop h
    · exact List.mem_of_mem_drop (List.mem_of_mem_take h)
  · exact List.mem_of_mem_take h
theorem crL_perm {α : Type} {k : Nat} {xs : List α} : (crL k xs).Perm xs := by
  unfold crL
  have e : xs = xs.take k ++ ((xs.drop k).take 1 ++ xs.drop (k + 1)) := by
    have h1 : xs.drop (k + 1) = (xs.drop k).drop 1 := by rw [List.drop_drop]
    rw [h1, List.take_append_drop, List.take_append_drop]
  refine List.Perm.trans ?_ (List.Perm.of_eq e.symm)
  rw [← List.append_assoc]
  refine (List.perm_append_comm).trans ?_
  rw [List.append_assoc]
  refine List.Perm.append_left _ List.perm_append_comm
def crF {α : Type} (i j : Nat) (fl : List (List α)) : List (List α) := (crL i fl).map (crL j)
def At (fl : List (List (List Nat))) (i j : Nat) (l : List Nat) : Prop := ∃ r, fl[i]? = some r ∧ r[j]? = some l
theorem At.mem {fl : List (List (List Nat))} {i j : Nat} {l : List Nat} (h : At fl i j l) : l ∈ fl.flatten := by
  obtain ⟨r, h1, h2⟩ := h
  exact List.mem_flatten.mpr ⟨r, List.mem_of_getElem? h1, List.mem_of_getElem? h2⟩
theorem at_of {fl : List (List (List Nat))} {l : List Nat} (h : l ∈ fl.flatten) : ∃ i j, At fl i j l := by
  obtain ⟨r, hr, hl⟩ := List.mem_flatten.mp h
  obtain ⟨i, hi⟩ := List.mem_iff_getElem?.mp hr
  obtain ⟨j, hj⟩ := List.mem_iff_getElem?.mp hl
  exact ⟨i, j, r, hi, hj⟩
theorem at_row {fl : List (List (List Nat))} (nd : fl.flatten.Nodup) {i j k : Nat} {l : List Nat} {r : List (List Nat)} (h : At fl i j l) (hr : fl[k]? = some r) (hl : l ∈ r) : k = i := by
  obtain ⟨r1, h1, h2⟩ := h
  have key : ∀ {a b : Nat} {ra rb : List (List Nat)}, fl[a]? = some ra → fl[b]? = some rb → l ∈ ra → (∃ j : Nat, rb[j]? = some l) → ¬ a < b := by
    intro a b ra rb ha hb hla ⟨j, hj⟩ hab
    refine (nd_split nd hb hj).1 ?_
    rw [List.mem_flatten]
    refine ⟨ra, ?_, hla⟩
    rw [List.mem_take_iff_getElem]
    have hal := (List.getElem?_eq_some_iff.mp ha).1
    exact ⟨a, by omega, (List.getElem?_eq_some_iff.mp ha).2⟩
  have k1 := key hr h1 hl ⟨j, h2⟩
  obtain ⟨j', hj'⟩ := List.mem_iff_getElem?.mp hl
  have k2 := key h1 hr (List.mem_of_getElem? h2) ⟨j', hj'⟩
  omega
theorem first_at {fl : List (List (List Nat))} (nd : fl.flatten.Nodup) {i j : Nat} {l : List Nat} {r : List (List Nat)} (hi : fl[i]? = some r) (hj : r[j]? = some l) : ∀ a, a < j → r[a]? ≠ some l := fun a ha q => by
  refine (nd_split nd hi hj).2 ?_
  rw [List.mem_take_iff_getElem]
  have hal := (List.getElem?_eq_some_iff.mp q).1
  exact ⟨a, by have := (List.getElem?_eq_some_iff.mp hj).1; omega, (List.getElem?_eq_some_iff.mp q).2⟩
theorem at_one {fl : List (List (List Nat))} (nd : fl.flatten.Nodup) {i j k n : Nat} {l : List Nat} (h : At fl i j l) (g : At fl k n l) : k = i ∧ n = j := by
  obtain ⟨r, h1, h2⟩ := g
  have e := at_row nd h h1 (List.mem_of_getElem? h2)
  subst e
  obtain ⟨r', h3, h4⟩ := h
  rw [h1] at h3
  cases h3
  refine ⟨rfl, ?_⟩
  have a1 := first_at nd h1 h2
  have a2 := first_at nd h1 h4
  rcases Nat.lt_trichotomy n j with q | q | q
  · exact absurd h2 (a2 n q)
  · exact q
  · exact absurd h4 (a1 j q)
abbrev nameF (l : List Nat) : Flds := [("name", V.str (Sx l))]
section
variable {K : PySem.W.Frag} {Pg : Program} {w : World}
def WX_locate (CU : Addr) : WTX := fun ss m P Y => ∃ (fl : List (List (List Nat))) (l : List Nat), ss = [.d (flD fl), .d (nmD l)] ∧ VF fl ∧ Tx l ∧ (∀ i j, At fl i j l → P (.d (prD (i, j))) m) ∧ (l ∉ fl.flatten → Y CU (nameF l) m)
def t_locate5 (K : PySem.W.Frag) (Pg : Program) (w : World) (CU : Addr) (W : WX) : TS :=
  (tSeq (tFor (iEnumU K (tCons (tVar 0) tNil)) (gTup K 2 (gCons (gName 2) (gCons (gName 3) gNil)))
    (tIfS (tTest (tOp (rInU K Pg w) (tVar 1) (tVar 3)))
    (tRet (tTupZ (tCons (tVar 2) (tCons (tTM K (rTIx K) (tVar 3) (tVar 1)) tNil))))
    tNext))
    (fun _ σ H => tMkO CU (spIni CU ["name"]) [] (tCons (tVar 1) tNil) σ H fun cls d H' => W cls d σ H'))
theorem raise_name {ρ : Rho} {m : Sto} {k : Ko} {X : Xv} {C : Addr} {l : List Nat} {i : Nat} (h : ρ[i]? = some (some (.d (nmD l)))) (x : X ρ C (nameF l) m) : WpW K (fun W _ σ H => tMkO C (spIni C ["name"]) [] (tCons (tVar i) tNil) σ H fun cls d H' => W cls d σ H') ρ m k X :=
  wpw_raise (C := C) (ns := ["name"]) <| ea_cons <| ev_var h <| ea_nil ⟨[.str (Sx l)], fun F H us hu => by
    obtain ⟨x, e, o⟩ := sls1 hu
    cases (show x = .str _ from o)
    exact e, rfl, by simp, x⟩
theorem rd_locate5 (CU : Addr) (ss : List Sl) (m : Sto) (P : PV) (Y : Addr → Flds → Sto → Prop) (h : WX_locate CU ss m P Y) : WpW K (t_locate5 K Pg w CU) (rho ["floor", "name", "row", "names"] ss) m { nx := fun _ m' => P (.d .none) m', rt := P } (fun _ => Y) := by
  obtain ⟨fl, l, rfl, v, hT, p, y⟩ := h
  unfold t_locate5
  have hS := v.short
  refine wpw_seq <| wpw_of <| wp_enum (toD := rwD) <| ea_cons <| ev_var rfl <| ea_nil ⟨fl, fun k ρ' m' => ∃ s2 s3, ρ' = [some (.d (flD fl)), some (.d (nmD l)), s2, s3] ∧ m' = m ∧ l ∉ (fl.take k).flatten, rfl, ⟨_, _, rfl, rfl, by simp⟩, ?_, ?_⟩
  · rintro k rk ρ' m' hk ⟨s2, s3, rfl, rfl, hn⟩
    have hmk : rk ∈ fl := List.mem_of_getElem? hk
    refine wp_if <| et_test <| ev_op <| ev_var rfl <| ev_var rfl <| ri_tup (shaped_str hT) (shaped_names fun l hl => (hS.2 rk hmk).2 l hl).1 ⟨_, rfl, ite_b (fun h1 => ?_) (fun h1 => wp_next ⟨_, _, rfl, rfl, ?_⟩)⟩
    · rw [anyEq_names] at h1
      have hm : l ∈ rk := of_decide_eq_true h1
      obtain ⟨j, hj⟩ := List.mem_iff_getElem?.mp hm
      refine wp_ret <| ev_tup <| ea_cons <| ev_var rfl <| ea_cons <| ev_tm <| ev_var rfl ⟨_, rfl, ev_var rfl ?_⟩
      rw [nms_str]
      refine rm_tindex (j := j) (by rw [List.getElem?_map, hj]; rfl) (fun a ha q => ?_) <| ea_nil ⟨[.int (k : Nat), .int (j : Nat)], rfl, by simp, p k j ⟨rk, hk, hj⟩⟩
      rw [List.getElem?_map] at q
      cases hq : rk[a]? with
      | none => rw [hq] at q; cases q
      | some x =>
        rw [hq] at q
        have : x = l := sx_inj (Option.some.inj q)
        subst this
        exact first_at v.nd hk hj a ha hq
    · rw [anyEq_names] at h1
      rw [take_flat hk, List.mem_append]
      rintro (q | q)
      · exact hn q
      · exact of_decide_eq_false h1 q
  · rintro ρ' m' ⟨s2, s3, rfl, rfl, hn⟩
    rw [List.take_length] at hn
    exact raise_name rfl (y hn)
def WX_locate_leader (CU CN : Addr) : WTX := fun ss m P Y => ∃ (fl : List (List (List Nat))) (l : List Nat), ss = [.d (flD fl), .d (nmD l)] ∧ VF fl ∧ Tx l ∧ (∀ i j, At fl i j l → upN l = true → P (.d (prD (i, j))) m) ∧ (l ∉ fl.flatten → Y CU (nameF l) m) ∧ (l ∈ fl.flatten → upN l = false → Y CN (nameF l) m)
def t_locate_leader (K : PySem.W.Frag) (Pg : Program) (w : World) (CU : Addr) (CN : Addr) (W : WX) : TS :=
  (tSeq (tAsg (tCallS (SpX K (WX_locate CU)) (WE W) (tCons (tVar 0) (tCons (tVar 1) tNil))) (gName 2))
    (tSeq (tIfS (tNot (tTr K (tCall (SpD K W_is_leader) [] E0 (tCons (tVar 1) tNil))))
    (fun _ σ H => tMkO CN (spIni CN ["name"]) [] (tCons (tVar 1) tNil) σ H fun cls d H' => W cls d σ H')
    tNext)
    (tRet (tVar 2))))
theorem rd_locate_leader (CU CN : Addr) (ss : List Sl) (m : Sto) (P : PV) (Y : Addr → Flds → Sto → Prop) (h : WX_locate_leader CU CN ss m P Y) : WpW K (t_locate_leader K Pg w CU CN) (rho ["floor", "name", "place"] ss) m { nx := fun _ m' => P (.d .none) m', rt := P } (fun _ => Y) := by
  obtain ⟨fl, l, rfl, v, hT, p, y, z⟩ := h
  unfold t_locate_leader
  refine wpw_seq <| wpw_set <| evw_call <| ea_cons <| ev_var rfl <| ea_cons <| ev_var rfl <| ea_nil ⟨fl, l, rfl, v, hT, fun i j hat => ?_, y⟩
  obtain ⟨r, hr, hl⟩ := List.mem_flatten.mp hat.mem
  have hne := (v.named r hr l hl).1
  cases l with
  | nil => exact absurd rfl hne
  | cons c t =>
  have ht : t.length ≤ 2000 := by have := hT.1; simp at this; omega
  refine wpw_seq <| wpw_if <| et_not <| et_tr <| ev_call0 <| ea_cons <| ev_var rfl <| ea_nil ⟨c, t, rfl, ht, _, tr_bool, ite_b (fun h1 => ?_) (fun h1 => ?_)⟩
  · exact raise_name rfl (z hat.mem (by show isUp c = false; simpa using h1))
  · exact wpw_of <| wp_next <| wpw_ret <| evw_of <| ev_var rfl <| p i j hat (by show isUp c = true; simpa using h1)
/-! ### crossed, cross -/
def W_crossed : WT := fun ss m P => ∃ (ds : List PyData) (k : Nat), ss = [.d (.tuple ds), .d (.int (k : Nat))] ∧ k < ds.length ∧ ds.length ≤ 1000 ∧ P (.d (.tuple (crL k ds))) m
def t_crossed (K : PySem.W.Frag) (Pg : Program) (w : World) : TS :=
  (tRet (tOp (rAddU K) (tOp (rAddU K) (tSl (rSlU K) (tVar 0) (tPart (tOp (rAddU K) (tVar 1) (tC (.int 1)))) tNoPart) (tSl (rSlU K) (tVar 0) (tPart (tVar 1)) (tPart (tOp (rAddU K) (tVar 1) (tC (.int 1)))))) (tSl (rSlU K) (tVar 0) tNoPart (tPart (tVar 1)))))
theorem rd_crossed (ss : List Sl) (m : Sto) (P : PV) (h : W_crossed ss m P) : Wp K (t_crossed K Pg w) (rho ["line", "at"] ss) m { nx := fun _ m' => P (.d .none) m', rt := P } := by
  obtain ⟨ds, k, rfl, hk, hl, p⟩ := h
  have e1 : (k : Int) + 1 = ((k + 1 : Nat) : Int) := by omega
  refine wp_ret <| ev_op <| ev_op <| ev_sl <| ev_var rfl <| eo_some <| ev_op <| ev_var rfl <| ev_int <| ra_int ⟨_, rfl, eo_no <| rz_tup ?_⟩
  rw [e1, cut_from]
  refine ev_sl <| ev_var rfl <| eo_some <| ev_var rfl ⟨_, rfl, eo_some <| ev_op <| ev_var rfl <| ev_int <| ra_int ⟨_, rfl, rz_tup ?_⟩⟩
  rw [e1, cut_mid (by omega) (by omega), show k + 1 - k = 1 from by omega]
  refine ra_tup ?_ <| ev_sl <| ev_var rfl <| eo_no <| eo_some <| ev_var rfl ⟨_, rfl, rz_tup ?_⟩
  · simp; omega
  rw [cut_to]
  exact ra_tup (by simp; omega) p
def WX_cross (CU CN : Addr) : WTX := fun ss m P Y => ∃ (fl : List (List (List Nat))) (l : List Nat), ss = [.d (flD fl), .d (nmD l)] ∧ VF fl ∧ Tx l ∧ (∀ i j, At fl i j l → upN l = true → P (.d (flD (crF i j fl))) m) ∧ (l ∉ fl.flatten → Y CU (nameF l) m) ∧ (l ∈ fl.flatten → upN l = false → Y CN (nameF l) m)
def t_cross (K : PySem.W.Frag) (Pg : Program) (w : World) (CU : Addr) (CN : Addr) (W : WX) : TS :=
  (tSeq (tAsg (tCallS (SpX K (WX_locate_leader CU CN)) (WE W) (tCons (tVar 0) (tCons (tVar 1) tNil))) (gTup K 2 (gCons (gName 2) (gCons (gName 3) gNil))))
    (tRet (tCB (rTupleC K) (tCons (tLc (iSeqU K (tCall (SpD K W_crossed) [] E0 (tCons (tVar 0) (tCons (tVar 2) tNil)))) (gName 4) tYes (tCall (SpD K W_crossed) [] E0 (tCons (tVar 4) (tCons (tVar 3) tNil))) [4]) tNil))))
theorem rd_cross (CU CN : Addr) (ss : List Sl) (m : Sto) (P : PV) (Y : Addr → Flds → Sto → Prop) (h : WX_cross CU CN ss m P Y) : WpW K (t_cross K Pg w CU CN) (rho ["floor", "name", "row", "column", "names"] ss) m { nx := fun _ m' => P (.d .none) m', rt := P } (fun _ => Y) := by
  obtain ⟨fl, l, rfl, v, hT, p, y, z⟩ := h
  unfold t_cross
  refine wpw_seq <| wpw_asg <| evw_call <| ea_cons <| ev_var rfl <| ea_cons <| ev_var rfl <| ea_nil ⟨fl, l, rfl, v, hT, fun i j hat hu => ⟨[2, 3], gt_pair ?_⟩, y, z⟩
  obtain ⟨r, hr, hl⟩ := id hat
  obtain ⟨c, c0, c1, hc⟩ := v.cols
  have hil := (List.getElem?_eq_some_iff.mp hr).1
  have hjl := (List.getElem?_eq_some_iff.mp hl).1
  have hrc := hc r (List.mem_of_getElem? hr)
  have hm := v.most
  refine wpw_ret <| evw_of <| ev_cb <| ea_cons <| ev_lcF (toD := rwD) List.mem_cons_self <| ei_tup <| ev_call0 <| ea_cons <| ev_var rfl <| ea_cons <| ev_var rfl <| ea_nil ⟨fl.map rwD, i, rfl, by rw [List.length_map]; exact hil, by rw [List.length_map]; omega, _, rfl, crL i fl, fun _ => true, fun r => rwD (crL j r), ?_, trivial, ?_, fun q hq => ⟨et_yes ⟨rfl, rfl⟩, fun _ => ?_⟩, ?_⟩
  · rw [crL_map]
  · rw [crL_len hil]; omega
  · have hqc := hc q (crL_mem hq)
    refine ev_call0 <| ea_cons <| ev_var rfl <| ea_cons <| ev_var rfl <| ea_nil ⟨q.map nmD, j, rfl, by rw [List.length_map]; omega, by rw [List.length_map]; omega, ?_, rfl⟩
    rw [crL_map]
  · refine ea_nil <| rc_tupleL ?_
    rw [List.filter_eq_self.mpr (fun _ _ => rfl)]
    have e : (crL i fl).map (fun r => rwD (crL j r)) = (crF i j fl).map rwD := by unfold crF; rw [List.map_map]; rfl
    rw [e]
    exact p i j hat hu
theorem filt_one {G : Nat → Bool} {i : Nat} (g : G i = true) : ∀ {n : Nat}, i < n → (∀ k, k < n → G k = true → k = i) → (List.range n).filter G = [i]
  | 0, h, _ => absurd h (Nat.not_lt_zero _)
  | n + 1, h, u => by
    rw [List.range_succ, List.filter_append]
    by_cases e : i = n
    · subst e
      have h0 : (List.range i).filter G = [] := List.filter_eq_nil_iff.mpr fun k hk q => by
        have := List.mem_range.mp hk
        have := u k (by omega) q
        omega
      rw [h0]
      simp [g]
    · have hn : G n = false := by
        cases q : G n with
        | false => rfl
        | true => exact absurd (u n (by omega) q).symm e
      rw [filt_one g (by omega) (fun k hk => u k (by omega))]
      simp [hn]
def W_l_cross : WT := fun ss m P => ∃ (fl : List (List (List Nat))) (l : List Nat) (i j : Nat), ss = [.d (flD fl), .d (nmD l)] ∧ VF fl ∧ At fl i j l ∧ P (.d (flD (crF i j fl))) m
def t_l_cross (K : PySem.W.Frag) (Pg : Program) (w : World) : TS :=
  (tSeq (tAsg (tOp (rIx K) (tLc (iRng1 (tCons (tCB (rLenC K) (tCons (tVar 0) tNil)) tNil)) (gName 5) (tTest (tOp (rInU K Pg w) (tVar 1) (tOp (rIx K) (tVar 0) (tVar 5)))) (tVar 5) [5]) (tC (.int 0))) (gName 2))
    (tSeq (tAsg (tTM K (rTIx K) (tOp (rIx K) (tVar 0) (tVar 2)) (tVar 1)) (gName 3))
    (tSeq (tAsg (tOp (rAddU K) (tOp (rAddU K) (tCB (rListC K) (tCons (tSl (rSlU K) (tVar 0) (tPart (tOp (rAddU K) (tVar 2) (tC (.int 1)))) tNoPart) tNil)) (tLst (tCons (tOp (rIx K) (tVar 0) (tVar 2)) tNil))) (tCB (rListC K) (tCons (tSl (rSlU K) (tVar 0) tNoPart (tPart (tVar 2))) tNil))) (gName 4))
    (tRet (tCB (rTupleC K) (tCons (tLc (iSeqU K (tVar 4)) (gName 6) tYes (tCB (rTupleC K) (tCons (tOp (rAddU K) (tOp (rAddU K) (tCB (rListC K) (tCons (tSl (rSlU K) (tVar 6) (tPart (tOp (rAddU K) (tVar 3) (tC (.int 1)))) tNoPart) tNil)) (tLst (tCons (tOp (rIx K) (tVar 6) (tVar 3)) tNil))) (tCB (rListC K) (tCons (tSl (rSlU K) (tVar 6) tNoPart (tPart (tVar 3))) tNil))) tNil)) [6]) tNil))))))
theorem rd_l_cross (ss : List Sl) (m : Sto) (P : PV) (h : W_l_cross ss m P) : Wp K (t_l_cross K Pg w) (rho ["floor", "name", "row", "column", "lines", "index", "line"] ss) m { nx := fun _ m' => P (.d .none) m', rt := P } := by
  obtain ⟨fl, l, i, j, rfl, v, hat, p⟩ := h
  obtain ⟨r, hi, hj⟩ := id hat
  obtain ⟨c, c0, c1, hc⟩ := v.cols
  have hS := v.short
  have hm := v.most
  have hil := (List.getElem?_eq_some_iff.mp hi).1
  have hjl := (List.getElem?_eq_some_iff.mp hj).1
  have hmr := List.mem_of_getElem? hi
  have hrc := hc r hmr
  have hT : Tx l := (hS.2 r hmr).2 l (List.mem_of_getElem? hj)
  have e1 : ∀ k : Nat, (k : Int) + 1 = ((k + 1 : Nat) : Int) := fun k => by omega
  refine wp_seq <| wp_set <| ev_op <| ev_lcF (α := Nat) (toD := fun i => .int (i : Nat)) List.mem_cons_self <| ei_rng1 <| ea_cons <| ev_cb <| ea_cons <| ev_var rfl <| ea_nil <| rc_lenT <| ea_nil ⟨_, rfl, by rw [List.length_map]; omega, by omega, List.range fl.length, fun k => decide (l ∈ fl.getD k []), fun k => .int (k : Nat), ?_, trivial, by simp; omega, fun k hk => ⟨?_, fun _ => ev_var rfl ⟨rfl, rfl⟩⟩, ?_⟩
  · rw [List.length_map, List.map_map]
    rfl
  · have hkl := List.mem_range.mp hk
    have hq : fl[k]? = some (fl.getD k []) := by rw [List.getD_eq_getElem?_getD, List.getElem?_eq_getElem hkl]; rfl
    refine et_test <| ev_op <| ev_var rfl <| ev_op <| ev_var rfl <| ev_var rfl <| rx_tup (atI_map rfl hq) <| ri_tup (shaped_str hT) (shaped_names fun x hx => (hS.2 _ (List.mem_of_getElem? hq)).2 x hx).1 ⟨_, rfl, anyEq_names _ _, rfl⟩
  have hf : (List.range fl.length).filter (fun k => decide (l ∈ fl.getD k [])) = [i] := by
    refine filt_one ?_ hil fun k hk q => ?_
    · rw [List.getD_eq_getElem?_getD, hi]
      exact decide_eq_true (List.mem_of_getElem? hj)
    · have hq : fl[k]? = some (fl.getD k []) := by rw [List.getD_eq_getElem?_getD, List.getElem?_eq_getElem hk]; rfl
      exact at_row v.nd hat hq (of_decide_eq_true q)
  rw [hf]
  refine ev_int <| rx_lst (d := .int (i : Nat)) rfl <| wp_seq <| wp_set <| ev_tm <| ev_op <| ev_var rfl <| ev_var rfl <| rx_tup (atI_map rfl hi) ⟨_, rfl, ev_var rfl ?_⟩
  rw [nms_str]
  refine rm_tindex (j := j) (by rw [List.getElem?_map, hj]; rfl) (fun a ha q => ?_) ?_
  · rw [List.getElem?_map] at q
    cases hq : r[a]? with
    | none => rw [hq] at q; cases q
    | some x =>
      rw [hq] at q
      have : x = l := sx_inj (Option.some.inj q)
      subst this
      exact first_at v.nd hi hj a ha hq
  refine wp_seq <| wp_set <| ev_op <| ev_op <| ev_cb <| ea_cons <| ev_sl <| ev_var rfl <| eo_some <| ev_op <| ev_var rfl <| ev_int <| ra_int ⟨_, rfl, eo_no <| rz_tup ?_⟩
  rw [e1, cut_from]
  refine ea_nil <| rc_list seq_tup <| ev_lst <| ea_cons <| ev_op <| ev_var rfl <| ev_var rfl <| rx_tup (atI_map rfl hi) <| ea_nil ⟨[_], rfl, by simp, ra_lst (by simp; omega) <| ev_cb <| ea_cons <| ev_sl <| ev_var rfl <| eo_no <| eo_some <| ev_var rfl ⟨_, rfl, rz_tup ?_⟩⟩
  rw [cut_to]
  refine ea_nil <| rc_list seq_tup <| ra_lst (by simp; omega) ?_
  have eL : (fl.map rwD).drop (i + 1) ++ [rwD r] ++ (fl.map rwD).take i = (crL i fl).map rwD := by
    rw [crL_at hi]
    simp [List.map_drop, List.map_take]
  rw [eL]
  refine wp_ret <| ev_cb <| ea_cons <| ev_lcF (toD := rwD) List.mem_cons_self <| ei_lst <| ev_var rfl ⟨_, rfl, crL i fl, fun _ => true, fun r => rwD (crL j r), rfl, trivial, by rw [crL_len hil]; omega, fun q hq => ⟨et_yes ⟨rfl, rfl⟩, fun _ => ?_⟩, ?_⟩
  · have hqc := hc q (crL_mem hq)
    obtain ⟨x, hx⟩ : ∃ x, q[j]? = some x := ⟨_, List.getElem?_eq_getElem (by omega)⟩
    refine ev_cb <| ea_cons <| ev_op <| ev_op <| ev_cb <| ea_cons <| ev_sl <| ev_var rfl <| eo_some <| ev_op <| ev_var rfl <| ev_int <| ra_int ⟨_, rfl, eo_no <| rz_tup ?_⟩
    rw [e1, cut_from]
    refine ea_nil <| rc_list seq_tup <| ev_lst <| ea_cons <| ev_op <| ev_var rfl <| ev_var rfl <| rx_tup (atI_map rfl hx) <| ea_nil ⟨[_], rfl, by simp, ra_lst (by simp; omega) <| ev_cb <| ea_cons <| ev_sl <| ev_var rfl <| eo_no <| eo_some <| ev_var rfl ⟨_, rfl, rz_tup ?_⟩⟩
    rw [cut_to]
    refine ea_nil <| rc_list seq_tup <| ra_lst (by simp; omega) <| ea_nil <| rc_tupleL ⟨?_, rfl⟩
    have eQ : (q.map nmD).drop (j + 1) ++ [nmD x] ++ (q.map nmD).take j = (crL j q).map nmD := by
      rw [crL_at hx]
      simp [List.map_drop, List.map_take]
    rw [eQ]
  · refine ea_nil <| rc_tupleL ?_
    rw [List.filter_eq_self.mpr (fun _ _ => rfl)]
    have e : (crL i fl).map (fun r => rwD (crL j r)) = (crF i j fl).map rwD := by unfold crF; rw [List.map_map]; rfl
    rw [e]
    exact p
end
end Dv

namespace Dv
open PySem L2 PyProof.Rows
/-! ### what may be shown and compared: depth at most k, weight at most n -/
structure Nx (k n : Nat) (d : PyData) : Prop where
  sh : PyData.showable d = true
  hd : PyData.hasDict d = false
  cl : PyData.canLay0 d = true
  dp : PyData.depth d ≤ k
  ls : PyData.leavesShort 13 d = true
  wt : PyData.weight d ≤ n
structure NxA (k n : Nat) (ds : List PyData) : Prop where
  sh : PyData.showableAll ds = true
  hd : PyData.hasDictAll ds = false
  cl : PyData.canLayAll0 ds = true
  dp : PyData.depthAll ds ≤ k
  ls : PyData.leavesShortAll 13 ds = true
  wt : PyData.weightAll ds ≤ n
theorem Nx.mono {k n k' n' : Nat} {d : PyData} (h : Nx k n d) (hk : k ≤ k') (hn : n ≤ n') : Nx k' n' d := ⟨h.sh, h.hd, h.cl, Nat.le_trans h.dp hk, h.ls, Nat.le_trans h.wt hn⟩
theorem NxA.mono {k n k' n' : Nat} {d : List PyData} (h : NxA k n d) (hk : k ≤ k') (hn : n ≤ n') : NxA k' n' d := ⟨h.sh, h.hd, h.cl, Nat.le_trans h.dp hk, h.ls, Nat.le_trans h.wt hn⟩
theorem nxa_nil {k : Nat} : NxA k 0 [] := ⟨rfl, rfl, rfl, Nat.zero_le _, rfl, Nat.le_refl _⟩
theorem nxa_cons {k n n' : Nat} {d : PyData} {ds : List PyData} (h : Nx k n d) (t : NxA k n' ds) : NxA k (n + 1 + n') (d :: ds) where
  sh := by rw [PyData.showableAll, h.sh, t.sh]; rfl
  hd := by rw [PyData.hasDictAll, h.hd, t.hd]; rfl
  cl := by rw [PyData.canLayAll0, h.cl, t.cl]; rfl
  dp := by rw [PyData.depthAll]; exact Nat.max_le.mpr ⟨h.dp, t.dp⟩
  ls := by rw [PyData.leavesShortAll, h.ls, t.ls]; rfl
  wt := by rw [PyData.weightAll]; have := h.wt; have := t.wt; omega
theorem nxa_map {α : Type} {f : α → PyData} {k n : Nat} : ∀ {xs : List α}, (∀ x, x ∈ xs → Nx k n (f x)) → NxA k (xs.length * (n + 1)) (xs.map f)
  | [], _ => by rw [List.length_nil, Nat.zero_mul]; exact nxa_nil
  | x :: xs, h => (nxa_cons (h x List.mem_cons_self) (nxa_map fun y hy => h y (List.mem_cons_of_mem _ hy))).mono (Nat.le_refl _) (by rw [List.length_cons, Nat.succ_mul]; omega)
theorem nx_tup {k n : Nat} {ds : List PyData} (h : NxA k n ds) : Nx (k + 1) n (.tuple ds) := ⟨h.sh, h.hd, h.cl, by rw [PyData.depth]; exact Nat.succ_le_succ h.dp, h.ls, h.wt⟩
theorem nx_lst {k n : Nat} {ds : List PyData} (h : NxA k n ds) : Nx (k + 1) n (.list ds) := ⟨h.sh, h.hd, h.cl, by rw [PyData.depth]; exact Nat.succ_le_succ h.dp, h.ls, h.wt⟩
theorem nx_str {k : Nat} {l : List Nat} (h : Tx l) : Nx k 2000 (nmD l) := by
  have hs := shaped_str h
  simp [SeqAt.shaped] at hs
  refine ⟨rfl, rfl, hs.1, Nat.zero_le _, ?_, ?_⟩
  · show (Sx l).cps.toList.all (fun c => decide (c < 16 ^ 8)) = true
    simp only [List.all_eq_true, decide_eq_true_eq]
    intro c hc
    have := h.2 c (by simpa using hc)
    omega
  · have : PyData.weight (nmD l) = l.length := by show (Sx l).cps.size = _; simp
    rw [this]
    exact h.1
theorem nx_bool {k : Nat} {b : Bool} : Nx k 0 (.bool b) := ⟨rfl, rfl, rfl, Nat.zero_le _, rfl, Nat.zero_le _⟩
theorem nx_none {k : Nat} : Nx k 0 .none := ⟨rfl, rfl, rfl, Nat.zero_le _, rfl, Nat.zero_le _⟩
theorem Nx.shaped {k n : Nat} {d : PyData} (h : Nx k n d) (hk : k ≤ 60) : SeqAt.shaped d = true := by
  have := h.dp
  simp [SeqAt.shaped, h.cl]
  omega
theorem Nx.len {k n : Nat} {d : PyData} (h : Nx k n d) (hn : n ≤ 1048576) : (PyData.shown d).length ≤ sizeLine := PyData.shown_fits (B := 13) (by decide) (by decide) h.ls (Nat.le_trans h.wt hn)
theorem Nx.refl {k n : Nat} {d : PyData} (h : Nx k n d) : PyData.eqv d d = true := SeqAt.eqv_refl d h.cl
theorem nx_row {r : List (List Nat)} (h : ∀ l, l ∈ r → Tx l) (hl : r.length ≤ 12) : Nx 1 (12 * 2001) (rwD r) := (nx_tup (nxa_map (k := 0) fun l hl => nx_str (h l hl))).mono (Nat.le_refl _) (Nat.mul_le_mul_right _ hl)
theorem nx_floor {fl : List (List (List Nat))} (h : ∀ r, r ∈ fl → r.length ≤ 12 ∧ ∀ l, l ∈ r → Tx l) (hl : fl.length ≤ 12) : Nx 2 (12 * (12 * 2001 + 1)) (flD fl) := (nx_tup (nxa_map fun r hr => nx_row (h r hr).2 (h r hr).1)).mono (Nat.le_refl _) (Nat.mul_le_mul_right _ hl)
theorem vf_small {fl : List (List (List Nat))} (v : VF fl) : ∀ r, r ∈ fl → r.length ≤ 12 ∧ ∀ l, l ∈ r → Tx l := fun r hr => by
  obtain ⟨c, c0, c1, hc⟩ := v.cols
  exact ⟨by rw [hc r hr]; exact c1, fun l hl => okL_tx (v.ok r hr l hl)⟩
theorem crF_small {fl : List (List (List Nat))} (v : VF fl) (i j : Nat) (hi : i < fl.length) : (∀ r, r ∈ crF i j fl → r.length ≤ 12 ∧ ∀ l, l ∈ r → Tx l) ∧ (crF i j fl).length ≤ 12 := by
  constructor
  · intro r hr
    obtain ⟨q, hq, rfl⟩ := List.mem_map.mp hr
    obtain ⟨a1, a2⟩ := vf_small v q (crL_mem hq)
    exact ⟨by rw [crL_perm.length_eq]; exact a1, fun l hl => a2 l (crL_mem hl)⟩
  · unfold crF
    rw [List.length_map, crL_len hi]
    exact v.most
theorem lower_same : ∀ k < 26, Txt.lower (Sx [97 + k]) = Sx [97 + k] := by decide +kernel
theorem upper_same : ∀ k < 26, Txt.upper (Sx [65 + k]) = Sx [65 + k] := by decide +kernel
theorem lower_lo {c : Nat} (h : isLo c = true) : Txt.lower (Sx [c]) = Sx [c] := by
  simp [isLo] at h
  have e : c = 97 + (c - 97) := by omega
  rw [e]
  exact lower_same (c - 97) (by omega)
theorem upper_up {c : Nat} (h : isUp c = true) : Txt.upper (Sx [c]) = Sx [c] := by
  simp [isUp] at h
  have e : c = 65 + (c - 65) := by omega
  rw [e]
  exact upper_same (c - 65) (by omega)
def upF : List Nat → List Nat
  | [] => []
  | c :: t => (if isLo c = true then c - 32 else c) :: t
theorem low_first {c : Nat} {t : List Nat} (h : okL (c :: t) = true) : Txt.lower (Sx [c]) ++ Sx t = Sx (lowN (c :: t)) := by
  simp [okL] at h
  show _ = Sx ((if isUp c = true then c + 32 else c) :: t)
  rcases h.2.1 with q | q
  · rw [lower_up q, sx_app, if_pos q]; rfl
  · have : ¬ (isUp c = true) := by simp [isLo] at q; simp [isUp]; omega
    rw [lower_lo q, sx_app, if_neg this]; rfl
theorem up_first {c : Nat} {t : List Nat} (h : okL (c :: t) = true) : Txt.upper (Sx [c]) ++ Sx t = Sx (upF (c :: t)) := by
  simp [okL] at h
  show _ = Sx ((if isLo c = true then c - 32 else c) :: t)
  rcases h.2.1 with q | q
  · have : ¬ (isLo c = true) := by simp [isUp] at q; simp [isLo]; omega
    rw [upper_up q, sx_app, if_neg this]; rfl
  · rw [upper_lo q, sx_app, if_pos q]; rfl
theorem tx_low {l : List Nat} (h : okL l = true) : Tx (lowN l) := by
  have hT := okL_tx h
  cases l with
  | nil => cases h
  | cons c t =>
    refine ⟨by have := hT.1; simpa [lowN] using this, fun d hd => ?_⟩
    simp only [lowN] at hd
    rcases List.mem_cons.mp hd with e | e
    · subst e
      split
      · rename_i q; simp [isUp] at q; omega
      · exact hT.2 c List.mem_cons_self
    · exact hT.2 d (List.mem_cons_of_mem _ e)
theorem tx_up {l : List Nat} (h : okL l = true) : Tx (upF l) := by
  have hT := okL_tx h
  cases l with
  | nil => cases h
  | cons c t =>
    have hc := hT.2 c List.mem_cons_self
    refine ⟨by have := hT.1; simpa [upF] using this, fun d hd => ?_⟩
    simp only [upF] at hd
    rcases List.mem_cons.mp hd with e | e
    · subst e
      split <;> omega
    · exact hT.2 d (List.mem_cons_of_mem _ e)
theorem flat12 {fl : List (List (List Nat))} (v : VF fl) : ∀ g : List (List (List Nat)), (∀ r ∈ g, r ∈ fl) → g.flatten.length ≤ g.length * 12 := by
  obtain ⟨c, c0, c1, hc⟩ := v.cols
  intro g
  induction g with
  | nil => intro _; simp
  | cons x g ih =>
    intro hg
    have := ih fun r hr => hg r (List.mem_cons_of_mem _ hr)
    have hx := hc x (hg x List.mem_cons_self)
    simp
    simp at this
    omega
theorem flat144 {fl : List (List (List Nat))} (v : VF fl) (i : Nat) : (fl.take i).flatten.length ≤ 144 := by
  have h1 := flat12 v (fl.take i) fun r hr => List.mem_of_mem_take hr
  have h2 := v.most
  have h3 : (fl.take i).length ≤ 12 := by rw [List.length_take]; omega
  omega
theorem flat144' {fl : List (List (List Nat))} (v : VF fl) : fl.flatten.length ≤ 144 := by
  have := flat144 v fl.length
  rwa [List.take_length] at this
def Told (fl : List (List (List Nat))) (l : List Nat) (d : PyData) : Prop := (∃ i j, At fl i j l ∧ upN l = true ∧ d = flD (crF i j fl)) ∨ (l ∉ fl.flatten ∧ d = .list [.str "unknown", nmD l]) ∨ (l ∈ fl.flatten ∧ upN l = false ∧ d = .list [.str "not leader", nmD l])
section
variable {K : PySem.W.Frag} {Pg : Program} {w : World}
def W_told5 : WT := fun ss m P => ∃ (fl : List (List (List Nat))) (l : List Nat) (d : PyData), ss = [.d (flD fl), .d (nmD l)] ∧ VF fl ∧ Tx l ∧ Told fl l d ∧ P (.d d) m
def t_told5 (K : PySem.W.Frag) (Pg : Program) (w : World) (CB : Addr) (CE : Addr) (CK : Addr) (CN : Addr) (CU : Addr) : TS :=
  (tSeq (tTry K (.ref CE) 3 (fun a cls d =>
    (tSeq (tAsg (tLst (tCons (tC (.str "other")) (tCons (tC (.str "")) tNil))) (gName 2))
    (tSeq (tIfS (tAnd (tTr K (tCB (rIsA K [CU, CN] a cls d) (tCons (tVar 3) (tCons (tC (.ref CN)) tNil)))) (tNot (tTr K (tCB (rIsAT K [CU, CN] a cls d) (tCons (tVar 3) (tCons (tTupZ (tCons (tC (.ref CB)) (tCons (tC (.ref CU)) (tCons (tC (.ref CK)) tNil)))) tNil))))))
    (tAsg (tLst (tCons (tC (.str "not leader")) (tCons (tXfA a cls d [CU, CN] "name" (tVar 3)) tNil))) (gName 2))
    tNext)
    (tIfS (tAnd (tTr K (tCB (rIsA K [CU, CN] a cls d) (tCons (tVar 3) (tCons (tC (.ref CU)) tNil)))) (tNot (tTr K (tCB (rIsAT K [CU, CN] a cls d) (tCons (tVar 3) (tCons (tTupZ (tCons (tC (.ref CB)) (tCons (tC (.ref CN)) (tCons (tC (.ref CK)) tNil)))) tNil))))))
    (tAsg (tLst (tCons (tC (.str "unknown")) (tCons (tXfA a cls d [CU, CN] "name" (tVar 3)) tNil))) (gName 2))
    tNext)))) (fun W =>
    (tAsg (tCallS (SpX K (WX_cross CU CN)) (WE W) (tCons (tVar 0) (tCons (tVar 1) tNil))) (gName 2))))
    (tRet (tVar 2)))
theorem mem1 {α : Type} {a b : α} : a ∈ [a, b] := List.mem_cons_self
theorem mem2 {α : Type} {a b : α} : b ∈ [a, b] := List.mem_cons_of_mem _ List.mem_cons_self
theorem rd_told5 (CB CE CK CN CU : Addr) (xNE : PySem.W.exmOne K (.ref CN) (.ref CE) = some true) (xUE : PySem.W.exmOne K (.ref CU) (.ref CE) = some true)
    (tNB : PySem.W.kitOne K (.ref CN) (.ref CB) = some false) (tNK : PySem.W.kitOne K (.ref CN) (.ref CK) = some false) (tNU : PySem.W.kitOne K (.ref CN) (.ref CU) = some false)
    (tUB : PySem.W.kitOne K (.ref CU) (.ref CB) = some false) (tUK : PySem.W.kitOne K (.ref CU) (.ref CK) = some false) (tUN : PySem.W.kitOne K (.ref CU) (.ref CN) = some false)
    (ss : List Sl) (m : Sto) (P : PV) (h : W_told5 ss m P) : Wp K (t_told5 K Pg w CB CE CK CN CU) (rho ["floor", "name", "found", "e"] ss) m { nx := fun _ m' => P (.d .none) m', rt := P } := by
  obtain ⟨fl, l, d, rfl, v, hT, td, p⟩ := h
  unfold t_told5
  refine wp_seq <| wp_try (XS := fun ρ' C fs m' => ρ' = [some (.d (flD fl)), some (.d (nmD l)), none, none] ∧ m' = m ∧ fs = nameF l ∧ ((C = CU ∧ l ∉ fl.flatten) ∨ (C = CN ∧ l ∈ fl.flatten ∧ upN l = false))) ?_ ?_
  · refine wpw_set <| evw_call <| ea_cons <| ev_var rfl <| ea_cons <| ev_var rfl <| ea_nil ⟨fl, l, rfl, v, hT, fun i j hat hu => ?_, fun hn => ⟨rfl, rfl, rfl, .inl ⟨rfl, hn⟩⟩, fun hm hu => ⟨rfl, rfl, rfl, .inr ⟨rfl, hm, hu⟩⟩⟩
    refine wp_ret <| ev_var rfl ?_
    rcases td with ⟨i', j', hat', _, rfl⟩ | ⟨hn, _⟩ | ⟨_, hu', _⟩
    · obtain ⟨rfl, rfl⟩ := at_one v.nd hat' hat
      exact p
    · exact absurd hat.mem hn
    · rw [hu] at hu'; cases hu'
  · rintro ρ' C fs m' ⟨rfl, rfl, rfl, ⟨rfl, hn⟩ | ⟨rfl, hm, hu⟩⟩
    · refine ⟨xUE, fun a dd hd => ?_⟩
      refine wp_seq <| wp_set <| ev_lst <| ea_cons <| ev_str <| ea_cons <| ev_str <| ea_nil ⟨[_, _], rfl, by simp, ?_⟩
      refine wp_seq <| wp_if <| et_and <| et_tr <| ev_cb <| ea_cons <| ev_var rfl <| ea_cons <| ev_raw <| ea_nil <| rc_isA mem1 put_same tUN ⟨_, tr_bool, ?_⟩
      rw [if_neg Bool.false_ne_true, if_neg Bool.false_ne_true]
      refine wp_next <| wp_if <| et_and <| et_tr <| ev_cb <| ea_cons <| ev_var rfl <| ea_cons <| ev_raw <| ea_nil <| rc_isA mem1 put_same kit_self ⟨_, tr_bool, ?_⟩
      rw [if_pos rfl]
      refine et_not <| et_tr <| ev_clsA (cs := [CB, CN, CK]) (ea_cons <| ev_raw <| ea_cons <| ev_raw <| ea_cons <| ev_raw <| ea_nil ⟨rfl, by simp, rfl⟩) mem1 (ev_var rfl ⟨rfl, rfl⟩) put_same (ka_no tUB <| ka_no tUN <| ka_no tUK ka_nil) ⟨_, tr_bool, ?_⟩
      rw [if_pos (show (!false) = true from rfl)]
      refine wp_set <| ev_lst <| ea_cons <| ev_str <| ea_cons <| ev_xfA (s' := .d (nmD l)) (v := .str (Sx l)) mem1 <| ev_var rfl ⟨rfl, put_same, by simp [List.lookup], fun _ _ => rfl, ea_nil ⟨[_, _], rfl, by simp, ?_⟩⟩
      refine wp_ret <| ev_del <| ev_var rfl ⟨dd, _, put_same, ?_⟩
      rw [del_put hd]
      rcases td with ⟨i', j', hat', _, rfl⟩ | ⟨_, rfl⟩ | ⟨hm, _, _⟩
      · exact absurd hat'.mem hn
      · exact p
      · exact absurd hm hn
    · refine ⟨xNE, fun a dd hd => ?_⟩
      refine wp_seq <| wp_set <| ev_lst <| ea_cons <| ev_str <| ea_cons <| ev_str <| ea_nil ⟨[_, _], rfl, by simp, ?_⟩
      refine wp_seq <| wp_if <| et_and <| et_tr <| ev_cb <| ea_cons <| ev_var rfl <| ea_cons <| ev_raw <| ea_nil <| rc_isA mem2 put_same kit_self ⟨_, tr_bool, ?_⟩
      rw [if_pos rfl]
      refine et_not <| et_tr <| ev_clsA (cs := [CB, CU, CK]) (ea_cons <| ev_raw <| ea_cons <| ev_raw <| ea_cons <| ev_raw <| ea_nil ⟨rfl, by simp, rfl⟩) mem2 (ev_var rfl ⟨rfl, rfl⟩) put_same (ka_no tNB <| ka_no tNU <| ka_no tNK ka_nil) ⟨_, tr_bool, ?_⟩
      rw [if_pos (show (!false) = true from rfl)]
      refine wp_set <| ev_lst <| ea_cons <| ev_str <| ea_cons <| ev_xfA (s' := .d (nmD l)) (v := .str (Sx l)) mem2 <| ev_var rfl ⟨rfl, put_same, by simp [List.lookup], fun _ _ => rfl, ea_nil ⟨[_, _], rfl, by simp, ?_⟩⟩
      refine wp_if <| et_and <| et_tr <| ev_cb <| ea_cons <| ev_var rfl <| ea_cons <| ev_raw <| ea_nil <| rc_isA mem2 put_same tNU ⟨_, tr_bool, ?_⟩
      rw [if_neg Bool.false_ne_true, if_neg Bool.false_ne_true]
      refine wp_next <| wp_ret <| ev_del <| ev_var rfl ⟨dd, _, put_same, ?_⟩
      rw [del_put hd]
      rcases td with ⟨i', j', _, hu', rfl⟩ | ⟨hn, _⟩ | ⟨_, _, rfl⟩
      · rw [hu] at hu'; cases hu'
      · exact absurd hm hn
      · exact p
end
end Dv

namespace Dv
open PySem L2 PyProof.Rows
/-! ### an error as a value: made as for a raise, then kept -/
def exV (a C : Addr) (d : Option Addr) : HO := .ext fun h => ∃ oe vs, h.get? a = some oe ∧ Zc (.ref C) d oe ∧ oe.data = .fields vs
theorem inv_more {X : Cx} {pins : List (Addr × Obj)} {σ : L2.St} {H : Hp} {sI s' : Shared} {a : Addr} {o : HO} (I : Inv X pins σ H sI) (sub : ∀ b u, sI.heap.get? b = some u → s'.heap.get? b = some u) (hn : sI.heap.get? a = none) (hH : H a = none)
    (ob : ObjOk X.prog X.w (upd H a o) s'.heap a o) (eo : s'.os = sI.os) (hb : AllBare s'.gens) : Inv X pins σ (upd H a o) s' := by
  have ne : ∀ {b : Addr} {u : Obj}, sI.heap.get? b = some u → b ≠ a := fun {b u} e z => by rw [z, hn] at e; cases e
  have neH : ∀ {b : Addr} {u : HO}, H b = some u → b ≠ a := fun {b u} e z => by rw [z, hH] at e; cases e
  obtain ⟨hp, g, d, t, os⟩ := s'
  cases (show os = sI.os from eo)
  refine I.step (ch := []) (fun b hb => by cases hb) (fun b u _ _ _ e _ => sub b u e) (fun b u _ _ _ e _ => ⟨u.slots, sub b u e⟩) (fun b u _ e z => by rw [upd_ne (ne e)]; exact z) (fun b u _ e => ⟨u, sub b u e⟩) (fun b xs e => by rw [upd_ne (neH e)]; exact e) (fun b u v e => by rw [upd_ne (neH e)]; exact e)
    (fun b ps e => ⟨#[], by rw [upd_ne (neH e)]; simpa using e⟩) (fun m ⟨u, es, ep, e, r⟩ => ⟨u, es, ep, sub _ u e, r⟩) (fun b u e => ?_) hb
  by_cases z : b = a
  · subst z
    rw [upd_same] at e
    cases e
    exact ob
  · rw [upd_ne z] at e
    exact (I.hok b u e).stay (fun c v _ hc => sub c v hc) (fun c hc => by rw [upd_ne (neH hc)]; exact hc) (fun c xs hc => by rw [upd_ne (neH hc)]; exact hc)
theorem pe_of_mk {X : Cx} {e : Expr} {t : L2.St → Hp → XK → Prop} (h : PMk X e t) : PE X e (fun σ H Q => t σ H fun cls d H' => ∃ C, cls = .ref C ∧ ∀ a, H' a = none → Q (.ref a) (upd H' a (exV a C d))) := by
  constructor
  intro pins s σ H Q I q
  refine wpAny_mono (h pins s σ H _ I q) ?_ (fun _ _ z => z)
  rintro u s' ⟨a, oe, vs, sI, H', cls, d, rfl, I', sub, hn, ha, hz, hv, _, hH, eo, hb, _, C, rfl, q'⟩
  exact ⟨.ref a, upd H' a (exV a C d), inv_more I' sub hn hH ⟨⟨oe, vs, ha, hz, hv⟩, ⟨oe, ha⟩, fun h1 h2 ⟨oe, vs, a1, z1, v1⟩ sb => ⟨oe, vs, sb _ a1, z1, v1⟩⟩ eo hb, rfl, q' a hH⟩
end Dv

namespace Dv
open PySem L2 PyProof.Rows
open PySem.Calls
open PySem.W (EachIs AllAlike Sortable dataLe dataKind SortsAt sortingHeap)
/-! ### sorted of alike data: of a list, of a tuple, of what is collected -/
section
variable {prog : Program} {w : World} {A : Around} {E : Value → Shared → Prop} {s : Shared}
theorem sortingHeap_new {h : Heap} {vs : List Value} {b : Addr} {o : Obj} (e : h.get? b = some o) : (sortingHeap (h.push (seqObj "list" vs.toArray 0)) h.objs.size vs).get? b = some o :=
  PySem.W.sortingHeap_old (Nat.ne_of_lt (Heap.lt_size e)) (Heap.get?_push_of_some _ e)
theorem sorted_col {v : Value} {vs : List Value} {bs : List (V × PyData)} {Q : Value → Shared → Prop} (Ok : Shared → Prop) (hL : vs.length ≤ sizeLine) (hcol : ∀ (Q' : List Value → Shared → Prop) (E' : Value → Shared → Prop), (∀ s1, Ok s1 → Q' vs s1) → wpAny (model prog w) A.in1 (collect v) Q' E' s)
    (e : EachIs (fun v b => L2.RelV b.1 v) vs bs) (er : ∀ s1, Ok s1 → EachIs (fun v b => ∃ as, Reads s1.heap v b.2 as) vs bs) (hal : AllAlike (bs.map Prod.snd)) (hk : Sortable (bs.map Prod.snd)) (hu : ∀ b, b ∈ bs → A.units + 2 + b.2.depth < cLine)
    (hQ : ∀ (s1 : Shared) (out : List Value) (h' : Heap), Ok s1 → (∀ b o, s1.heap.get? b = some o → h'.get? b = some o) → out.length = bs.length → EachIs (fun v b => L2.RelV b.1 v) out (bs.mergeSort (dataLe false Prod.snd)) → (∃ c, h'.get? s1.heap.objs.size = some (seqObj "list" out.toArray c)) → Q (.ref s1.heap.objs.size) { s1 with heap := h' }) :
    wpAny (model prog w) A (call (.builtin "sorted") [v]) Q E s := by
  refine call_function_entry_kw kind_sorted plain_sorted entry_sorted (args_sorted1 _) ?_
  unfold Builtin.«sorted»
  refine wpAny_bind (m := checkCount "sorted" 1 1 _) (wpAny_pure ?_)
  refine wpAny_bind (hcol _ _ fun s1 ok => ?_)
  refine wpAny_bind (wpAny_newList ?_ hL)
  have hD : (s1.heap.push (seqObj "list" vs.toArray 0)).get? s1.heap.objs.size = some (seqObj "list" vs.toArray 0) := Heap.get?_push_size _ rfl
  have er' : EachIs (fun v b => ∃ as, Reads (sortingHeap (s1.heap.push (seqObj "list" vs.toArray 0)) s1.heap.objs.size vs) v b.2 as) vs bs := (er s1 ok).mono fun _ _ ⟨as, r⟩ => ⟨as, PyProof.Rows.Reads.keeps (fun _ _ q => sortingHeap_new q) r⟩
  have S : SortsAt prog w A.in1.in1 { s1 with heap := sortingHeap (s1.heap.push (seqObj "list" vs.toArray 0)) s1.heap.objs.size vs } (dataKind (sortingHeap (s1.heap.push (seqObj "list" vs.toArray 0)) s1.heap.objs.size vs) (bs.map Prod.snd)) vs :=
    SortsAt.data (s := { s1 with heap := sortingHeap (s1.heap.push (seqObj "list" vs.toArray 0)) s1.heap.objs.size vs }) (PySem.W.each_map (R := fun v d => ∃ as, Reads (sortingHeap (s1.heap.push (seqObj "list" vs.toArray 0)) s1.heap.objs.size vs) v d as) Prod.snd er') hal hk (PySem.W.bound_map hu)
  refine wpAny_bind (wpAny_holding (wpAny_call_entry_kw slot_list_sort ⟨_, hD, rfl⟩ entry_list_sort ?_ (args_list_sort _)))
  show wpAny (model prog w) A.in1.in1 (Builtin.«list.sort» ⟨[.ref s1.heap.objs.size], []⟩) _ _ _
  refine PySem.W.list_sort_vals (s := { s1 with heap := s1.heap.push (seqObj "list" vs.toArray 0) }) hD S hL ⟨_, rfl, ?_⟩
  refine wpAny_pure ⟨_, rfl, ?_⟩
  have hlen : vs.length = bs.length := e.length
  refine hQ s1 _ _ ok (fun b o q => ?_) (by rw [PySem.W.sortVals_length false rfl]; exact hlen) (PySem.W.sortVals_data false e er' hal) (sortedHeap_at hD)
  have hlt := Heap.lt_size q
  rw [sortedHeap_old (Nat.ne_of_lt hlt) (by rw [size_push']; exact Nat.lt_succ_of_lt hlt)]
  exact Heap.get?_push_of_some _ q
end
end Dv
namespace Dv
open PySem L2 PyProof.Rows PySem.Calls
open PySem.W (EachIs AllAlike Sortable dataLe)
def rSortD (K : PySem.W.Frag) : List V → Hp → VK → Prop := fun vs H Q => ∃ (a : Addr) (xs : List V) (ds : List PyData), vs = [V.ref a] ∧ (SqL K H a xs ∨ SqT K H a xs) ∧ DpAll K H xs ds ∧ AllAlike ds ∧ Sortable ds ∧ (∀ d, d ∈ ds → d.depth ≤ 20) ∧
  ∀ p, H p = none → Q (.ref p) (upd H p (.lst (((xs.zip ds).mergeSort (dataLe false Prod.snd)).map Prod.fst)))
theorem each_zip {h : Heap} : ∀ {us : List Value} {xs : List V} {ds : List PyData} {as : List Addr}, Vals xs us → ReadsAll h us ds as → EachIs (fun v (b : V × PyData) => L2.RelV b.1 v) us (xs.zip ds) ∧ EachIs (fun v (b : V × PyData) => ∃ as, Reads h v b.2 as) us (xs.zip ds)
  | _, _, _, _, .nil, .nil => ⟨.nil, .nil⟩
  | _, _, _, _, .cons r t, .cons a b => by
    obtain ⟨h1, h2⟩ := each_zip t b
    exact ⟨.cons r h1, .cons ⟨_, a⟩ h2⟩
theorem each_vals : ∀ {us : List Value} {bs : List (V × PyData)}, EachIs (fun v b => L2.RelV b.1 v) us bs → Vals (bs.map Prod.fst) us
  | _, _, .nil => .nil
  | _, _, .cons r t => .cons r (each_vals t)
theorem hok_there {P : Program} {w : World} {H : Hp} {h : Heap} {a : Addr} {o : HO} (x : ObjOk P w H h a o) : ∃ u, h.get? a = some u := by
  cases o with
  | lst xs => obtain ⟨_, _, _, _, e⟩ := x; exact ⟨_, e⟩
  | tup xs => obtain ⟨_, _, _, o, e, _⟩ := x; exact ⟨_, e⟩
  | dK kvs => obtain ⟨_, _, _, _, o, _, _, e, _⟩ := x; exact ⟨_, e⟩
  | dT kvs => obtain ⟨_, _, _, _, o, _, _, e, _⟩ := x; exact ⟨_, e⟩
  | set S n => obtain ⟨o, _, _, _, e, _⟩ := x; exact ⟨_, e⟩
  | ins C dx fs => obtain ⟨_, _, _, e, _⟩ := x; exact ⟨_, e⟩
  | own y => exact x
  | xd fs => obtain ⟨_, ⟨_, _, _, e, _⟩, _⟩ := x; exact ⟨_, e⟩
  | rng lo hi => obtain ⟨_, _, _, e⟩ := x; exact ⟨_, e⟩
  | frz ob u => exact ⟨_, x.1⟩
  | tbl ps => exact ⟨_, x⟩
  | met f y => exact ⟨_, x⟩
  | ext φ => exact x.2.1
theorem cr_sortD {X : Cx} (hu : X.A.units + 30 < cLine) : CallR X (.builtin "sorted") (rSortD X.K) := by
  intro pins s σ H vs us Q I r h
  obtain ⟨a, xs, ds, rfl, hs, hd, hal, hk, hdp, q⟩ := h
  rw [Vals.ref1 r]
  obtain ⟨its, rv, hz, hcol⟩ : ∃ its : List Value, Vals xs its ∧ its.length ≤ sizeLine ∧ ∀ (A' : Around) (Q' : List Value → Shared → Prop) (E' : Value → Shared → Prop), (∀ s1, (∃ h1, s1 = { s with heap := h1 } ∧ ∀ b o, s.heap.get? b = some o → h1.get? b = some o) → Q' its s1) → wpAny (model X.prog X.w) A' (collect (.ref a)) Q' E' s := by
    rcases hs with hs | hs
    · obtain ⟨its, rv, hl, hz⟩ := I.list hs
      have hz' : its.length ≤ sizeLine := by rw [← rv.length]; exact hz
      obtain ⟨o, n, ho, hc, hd', hdat⟩ := hl
      exact ⟨its, rv, hz', fun A' Q' E' q' => wpAny_collect_seq a (.inl rfl) ho hc hdat (fun h' k => q' _ ⟨h', rfl, k⟩) (by simpa using hz')⟩
    · obtain ⟨its, rv, ⟨o, ho, hc, n, hdat⟩, hz⟩ := I.tuple hs
      have hz' : its.length ≤ sizeLine := by rw [← rv.length]; exact hz
      exact ⟨its, rv, hz', fun A' Q' E' q' => wpAny_collect_seq a (.inr rfl) ho hc hdat (fun h' k => q' _ ⟨h', rfl, k⟩) (by simpa using hz')⟩
  obtain ⟨as, ra⟩ := Dp.readsAll I ds xs its hd rv
  obtain ⟨e1, e2⟩ := each_zip rv ra
  have hlen : xs.length = ds.length := by
    have h1 := rv.length
    have h2 := SeqAt.ReadsAll.length _ _ _ ra
    omega
  have hmap : (xs.zip ds).map Prod.snd = ds := List.map_snd_zip (by omega)
  refine sorted_col (fun s1 => ∃ h1, s1 = { s with heap := h1 } ∧ ∀ b o, s.heap.get? b = some o → h1.get? b = some o) hz (hcol X.A.in1) e1 (fun s1 ⟨h1, eh, k⟩ => e2.mono fun v b ⟨as, r⟩ => ⟨as, by subst eh; exact PyProof.Rows.Reads.keeps k r⟩) (by rw [hmap]; exact hal) (by rw [hmap]; exact hk) (fun b hb => ?_) fun s1 out h' ⟨h1, eh, k⟩ k2 ho eo hc => ?_
  · have h3 : PyData.depth b.2 ≤ 20 := hdp _ (List.of_mem_zip hb).2
    exact Nat.lt_of_le_of_lt (Nat.add_le_add_left h3 _) (by omega)
  · subst eh
    obtain ⟨c, hc⟩ := hc
    have hn : s.heap.get? h1.objs.size = none := by
      cases hg : s.heap.get? h1.objs.size with
      | none => rfl
      | some o => exact absurd (Heap.lt_size (k _ _ hg)) (Nat.lt_irrefl _)
    have hH : H h1.objs.size = none := by
      cases hg : H h1.objs.size with
      | none => rfl
      | some o =>
        obtain ⟨u, hu⟩ := hok_there (I.hok _ _ hg)
        rw [hn] at hu
        cases hu
    have hv := each_vals eo
    exact ⟨.ref h1.objs.size, _, inv_more (s' := { s with heap := h' }) I (fun b o q => k2 b o (k b o q)) hn hH (show ObjOk X.prog X.w _ h' _ (.lst (((xs.zip ds).mergeSort (dataLe false Prod.snd)).map Prod.fst)) from ⟨by have h0 := rv.length; rw [hv.length, ho, List.length_zip]; exact Nat.le_trans (Nat.min_le_left _ _) (by omega), out, c, hv, hc⟩) rfl I.bare, rfl, q _ hH⟩
theorem lt_asym {a b : List Nat} (h : Spec.ltCps a b = true) : Spec.ltCps b a = false := by
  rw [ltCps_eq] at h ⊢
  exact decide_eq_false (List.lt_asymm (of_decide_eq_true h))
theorem ge_self (a : List Nat) : geC a a := by
  show Spec.ltCps a a = false
  rw [ltCps_eq]
  exact decide_eq_false (List.lt_irrefl a)
theorem ge_total (a b : List Nat) : geC a b ∨ geC b a := by
  cases h : Spec.ltCps b a with
  | false => exact .inl h
  | true => exact .inr (lt_asym h)
theorem dataLt_strs (x y : Str) : PySem.W.dataLt (.str x) (.str y) = Spec.ltCps x.cps.toList y.cps.toList := by
  rw [PySem.W.dataLt_str, ltCps_eq]
theorem minD_strs : ∀ (xs : List Str) (a : Str), ∃ z, PySem.W.minD (.str a) (xs.map .str) = .str z ∧ z ∈ a :: xs ∧ ∀ y, y ∈ a :: xs → geC z.cps.toList y.cps.toList
  | [], a => ⟨a, rfl, List.mem_cons_self, fun y hy => by rw [List.mem_singleton.mp hy]; exact ge_self _⟩
  | x :: xs, a => by
    have e : PySem.W.minD (.str a) ((x :: xs).map .str) = PySem.W.minD (if PySem.W.dataLt (.str x) (.str a) = true then .str x else .str a) (xs.map .str) := rfl
    rw [e, dataLt_strs]
    by_cases h : Spec.ltCps x.cps.toList a.cps.toList = true
    · rw [if_pos h]
      obtain ⟨z, h1, h2, h3⟩ := minD_strs xs x
      refine ⟨z, h1, List.mem_cons_of_mem _ h2, fun y hy => ?_⟩
      rcases List.mem_cons.mp hy with q | q
      · subst q
        exact ge_trans (h3 x List.mem_cons_self) (lt_asym h)
      · exact h3 y q
    · rw [if_neg h]
      obtain ⟨z, h1, h2, h3⟩ := minD_strs xs a
      have ha := h3 a List.mem_cons_self
      refine ⟨z, h1, ?_, fun y hy => ?_⟩
      · rcases List.mem_cons.mp h2 with q | q
        · rw [q]; exact List.mem_cons_self
        · exact List.mem_cons_of_mem _ (List.mem_cons_of_mem _ q)
      · rcases List.mem_cons.mp hy with q | q
        · rw [q]; exact ha
        · rcases List.mem_cons.mp q with q | q
          · subst q
            exact ge_trans ha (by simpa using h)
          · exact h3 y (List.mem_cons_of_mem _ q)
def rMinS (K : PySem.W.Frag) : List V → Hp → VK → Prop := fun vs H Q => ∃ (a : Addr) (zs : List Str), vs = [V.ref a] ∧ (SqL K H a (zs.map V.str) ∨ SqT K H a (zs.map V.str)) ∧ zs ≠ [] ∧ ∀ z, z ∈ zs → (∀ y, y ∈ zs → geC z.cps.toList y.cps.toList) → Q (.str z) H
theorem dpAll_strs {K : PySem.W.Frag} {H : Hp} : ∀ zs : List Str, DpAll K H (zs.map V.str) (zs.map .str)
  | [] => .nil
  | z :: zs => .cons (.str z) (dpAll_strs zs)
theorem cr_minS {X : Cx} (hc : X.calm = true) (hu : X.A.units + 30 < cLine) : CallR X (.builtin "min") (rMinS X.K) := by
  intro pins s σ H vs us Q I r h
  obtain ⟨a, zs, rfl, hs, hne, q⟩ := h
  rw [Vals.ref1 r]
  cases zs with
  | nil => exact absurd rfl hne
  | cons x xs =>
  have ha : PySem.W.AlikeAll (.str x :: xs.map .str) := by
    refine ⟨fun d hd e he => ?_, fun d hd => ?_⟩
    · have h1 : ∀ {d : PyData}, d ∈ (PyData.str x :: xs.map .str) → ∃ z, d = .str z := fun hd => by
        rcases List.mem_cons.mp hd with q | q
        · exact ⟨x, q⟩
        · obtain ⟨z, _, e⟩ := List.mem_map.mp q; exact ⟨z, e.symm⟩
      obtain ⟨z, rfl⟩ := h1 hd
      obtain ⟨y, rfl⟩ := h1 he
      simp [PySem.W.alike]
    · rcases List.mem_cons.mp hd with q | q
      · rw [q]; intro e; cases e
      · obtain ⟨z, _, e⟩ := List.mem_map.mp q
        rw [← e]; intro e; cases e
  have hdep : PyData.depthAll (.str x :: xs.map .str) = 0 := by
    have : ∀ zs : List Str, PyData.depthAll (zs.map .str) = 0 := by
      intro zs
      induction zs with
      | nil => rfl
      | cons z zs ih => rw [List.map_cons, PyData.depthAll, ih]; rfl
    exact this (x :: xs)
  have hroom : X.A.units + 1 + PyData.depthAll (.str x :: xs.map .str) < cLine := by rw [hdep]; omega
  obtain ⟨z, e1, e2, e3⟩ := minD_strs xs x
  have fin : ∀ {its : List Value}, Vals ((x :: xs).map V.str) its → ∀ (i : Nat) (v : Value) (h' : Heap) (tk : Nat) (bs : List Addr), its.toArray[i]? = some v → Reads h' v (PySem.W.minD (.str x) (xs.map .str)) bs → (∀ b o, s.heap.get? b = some o → h'.get? b = some o) → EP X pins σ Q v { s with heap := h', toks := tk } := by
    intro its rv i v h' tk bs hv hr hk
    have hv' : its[i]? = some v := by simpa using hv
    have hi : i < ((x :: xs).map V.str).length := by rw [rv.length]; exact (List.getElem?_eq_some_iff.mp hv').1
    obtain ⟨u, hu', ru⟩ := rv.get (List.getElem?_eq_getElem hi)
    rw [hv'] at hu'
    cases hu'
    rw [List.getElem_map] at ru
    obtain ⟨t, rfl⟩ := ru
    rw [e1] at hr
    have hi2 : i < (x :: xs).length := by simpa using hi
    have ez : (x :: xs)[i]'hi2 = z := by cases hr; rfl
    rw [ez]
    exact ⟨.str z, H, I.kept hk, ⟨_, rfl⟩, q z e2 e3⟩
  rcases hs with hs | hs
  · obtain ⟨its, rv, hl, _⟩ := I.list hs
    obtain ⟨as, ra⟩ := Dp.readsAll I _ _ its (dpAll_strs (K := X.K) (H := H) (x :: xs)) rv
    exact PySem.W.min_list_data (I.ok.hd hc) hl.isList (by simpa using ra) ha hroom (fin rv)
  · obtain ⟨its, rv, hl, _⟩ := I.tuple hs
    obtain ⟨as, ra⟩ := Dp.readsAll I _ _ its (dpAll_strs (K := X.K) (H := H) (x :: xs)) rv
    exact PySem.W.min_tuple_data (I.ok.hd hc) hl (by simpa using ra) ha hroom (fin rv)
def rMinA (K : PySem.W.Frag) : List V → Hp → VK → Prop := rc2 rMinC (rMinS K)
theorem call_minA {X : Cx} (hc : X.calm = true) (hu : X.A.units + 30 < cLine) : CallR X (.builtin "min") (rMinA X.K) := (call_minU hc).or (cr_minS hc hu)
def rMaxA (K : PySem.W.Frag) : List V → Hp → VK → Prop := rc2 rMaxC (rMax K)
theorem call_maxA {X : Cx} (hc : X.calm = true) : CallR X (.builtin "max") (rMaxA X.K) := (call_max2 hc).or (cr_max hc)
section
variable {K : PySem.W.Frag} {m : Sto} {P : PV}
theorem hu30 {X : Cx} {k : Nat} (hr : Room k X.A) : X.A.units + 30 < cLine := by have := hr.units; omega
theorem rc_minN {s : Sl} {r : List (List Nat)} (h : SeqS K s m (r.map nmD)) (hr : r ≠ []) (p : ∀ l, l ∈ r → (∀ y, y ∈ r → geC l y) → P (.d (nmD l)) m) : RC K (rMinA K) [s] m P := rc_r fun xs F H Q a S q => by
  obtain ⟨x, e, o⟩ := sls1 a
  obtain ⟨l, vs, e2, hl, i⟩ := h x F H o S
  subst e2
  rw [nms_str] at i
  have := imAll_strs.mp i
  subst this
  refine ⟨l, r.map Sx, e, hl, by simpa using hr, fun z hz hle => ?_⟩
  obtain ⟨n, hn, rfl⟩ := List.mem_map.mp hz
  exact q _ m _ F H (p n hn fun y hy => by simpa using hle (Sx y) (List.mem_map_of_mem hy)) Step.refl S rfl
theorem rc_minA2 {i j : Int} (p : P (.d (.int (if j < i then j else i))) m) : RC K (rMinA K) [.d (.int i), .d (.int j)] m P := rc_l (rc_min2 p)
theorem rc_maxA2 {i j : Int} (p : P (.d (.int (if j > i then j else i))) m) : RC K (rMaxA K) [.d (.int i), .d (.int j)] m P := rc_l (rc_max2 p)
theorem imAll_intsOf {F : Reg} {H : Hp} : ∀ {ns : List Int} {vs : List V}, ImAll K F H (ns.map .int) vs → vs = ns.map V.int
  | [], vs, h => h
  | n :: ns, vs, h => by
    obtain ⟨v, r, e, h1, h2⟩ := h
    cases (show v = .int n from h1)
    rw [e, imAll_intsOf h2]
    rfl
theorem rc_maxL {ns : List Int} (hne : ns ≠ []) (p : ∀ k, k ∈ ns → (∀ y, y ∈ ns → y ≤ k) → P (.d (.int k)) m) : RC K (rMaxA K) [.d (.list (ns.map .int))] m P := rc_r fun xs F H Q a S q => by
  obtain ⟨x, e, o⟩ := sls1 a
  obtain ⟨l, vs, e2, hl, i⟩ := im_lst o
  subst e2
  have := imAll_intsOf i
  subst this
  exact ⟨l, ns, e, SqL.of hl, List.length_pos_iff.mpr hne, fun k hk hle => q _ m _ F H (p k hk hle) Step.refl S rfl⟩
theorem rc_sumL {ns : List Int} (p : P (.d (.int ns.sum)) m) : RC K (rSum K) [.d (.list (ns.map .int))] m P := fun xs F H Q a S q => by
  obtain ⟨x, e, o⟩ := sls1 a
  obtain ⟨l, vs, e2, hl, i⟩ := im_lst o
  subst e2
  have := imAll_intsOf i
  subst this
  exact ⟨l, ns, e, SqL.of hl, q _ m _ F H p Step.refl S rfl⟩
theorem rc_sortD {s : Sl} {ds : List PyData} (h : SeqS K s m ds) (hal : AllAlike ds) (hk : Sortable ds) (hd : ∀ d, d ∈ ds → d.depth ≤ 20) (p : P (.d (.list (ds.mergeSort (dataLe false id)))) m) : RC K (rSortD K) [s] m P := fun xs F H Q a S q => by
  obtain ⟨x, e, o⟩ := sls1 a
  obtain ⟨l, vs, e2, hl, i⟩ := h x F H o S
  subst e2
  refine ⟨l, vs, ds, e, hl, imAll_dp _ _ i, hal, hk, hd, fun c hc => then_new S p q hc ⟨c, _, rfl, .inl rfl, upd_same, ?_⟩⟩
  have hlen := imAll_len i
  have e3 : ds.mergeSort (dataLe false id) = ((vs.zip ds).mergeSort (dataLe false Prod.snd)).map Prod.snd := by
    rw [PySem.W.sort_maps (r := dataLe false Prod.snd) (s := dataLe false id) (l := vs.zip ds) Prod.snd (fun _ _ _ _ => rfl), List.map_snd_zip (by omega)]
  rw [e3]
  have key : ∀ bs : List (V × PyData), (∀ b, b ∈ bs → Im K (add F c) (upd H c (.lst (((vs.zip ds).mergeSort (dataLe false Prod.snd)).map Prod.fst))) b.2 b.1) → ImAll K (add F c) (upd H c (.lst (((vs.zip ds).mergeSort (dataLe false Prod.snd)).map Prod.fst))) (bs.map Prod.snd) (bs.map Prod.fst) := by
    intro bs
    induction bs with
    | nil => intro _; rfl
    | cons b bs ih => intro hb; exact ⟨_, _, rfl, hb b List.mem_cons_self, ih fun x hx => hb x (List.mem_cons_of_mem _ hx)⟩
  refine key _ fun b hb => ?_
  have hb' : b ∈ vs.zip ds := (List.mergeSort_perm _ _).mem_iff.mp hb
  obtain ⟨j, hj⟩ := List.mem_iff_getElem?.mp hb'
  rw [List.getElem?_zip_eq_some] at hj
  obtain ⟨j1, j2⟩ := hj
  obtain ⟨v, hv, iv⟩ := imAll_get i j2
  rw [j1] at hv
  cases hv
  exact im_fix (step_new S hc).fix _ _ iv
/-- the names in order -/
def srt (r : List (List Nat)) : List (List Nat) := r.mergeSort fun a b => !Spec.ltCps b a
theorem srt_perm (r : List (List Nat)) : (srt r).Perm r := List.mergeSort_perm _ _
theorem srt_pw (r : List (List Nat)) : (srt r).Pairwise geC := by
  have h : (srt r).Pairwise fun a b => (!Spec.ltCps b a) = true := List.pairwise_mergeSort (fun a b c h1 h2 => by
    have h1' : geC a b := by simpa using h1
    have h2' : geC b c := by simpa using h2
    have := ge_trans h1' h2'
    simpa using this) (fun a b => by
    rcases ge_total a b with h | h
    · simp [show Spec.ltCps b a = false from h]
    · simp [show Spec.ltCps a b = false from h]) r
  exact h.imp fun {a b} q => by simpa using q
theorem pwN_unique : ∀ {xs ys : List (List Nat)}, xs.Pairwise geC → ys.Pairwise geC → xs.Perm ys → xs = ys
  | [], ys, _, _, p => by rw [List.nil_perm.mp p]
  | x :: xs, [], _, _, p => by cases List.perm_nil.mp p
  | x :: xs, y :: ys, hx, hy, p => by
    obtain ⟨x1, x2⟩ := List.pairwise_cons.mp hx
    obtain ⟨y1, y2⟩ := List.pairwise_cons.mp hy
    have e : x = y := by
      have m1 : x ∈ y :: ys := p.mem_iff.mp List.mem_cons_self
      have m2 : y ∈ x :: xs := p.mem_iff.mpr List.mem_cons_self
      rcases List.mem_cons.mp m1 with e | e
      · exact e
      · rcases List.mem_cons.mp m2 with e2 | e2
        · exact e2.symm
        · exact ge_anti (x1 y e2) (y1 x e)
    subst e
    rw [pwN_unique x2 y2 ((List.perm_cons x).mp p)]
theorem srt_of {xs r : List (List Nat)} (h : xs.Pairwise geC) (p : xs.Perm r) : srt r = xs := pwN_unique (srt_pw r) h ((srt_perm r).trans p.symm)
theorem srt_congr {r r' : List (List Nat)} (p : r.Perm r') : srt r = srt r' := srt_of (srt_pw r') ((srt_perm r').trans p.symm)
theorem alike_nms (r : List (List Nat)) : AllAlike (r.map nmD) := fun d hd e he => by
  obtain ⟨a, _, rfl⟩ := List.mem_map.mp hd
  obtain ⟨b, _, rfl⟩ := List.mem_map.mp he
  simp [PySem.W.alike]
theorem sortable_nms (r : List (List Nat)) : Sortable (r.map nmD) := .inr fun d hd => by
  obtain ⟨a, _, rfl⟩ := List.mem_map.mp hd
  exact ⟨fun e => (nomatch e), fun xs e => (nomatch e)⟩
theorem rc_sortN {s : Sl} {r : List (List Nat)} (h : SeqS K s m (r.map nmD)) (p : P (.d (.list ((srt r).map nmD))) m) : RC K (rSortD K) [s] m P := rc_sortD h (alike_nms r) (sortable_nms r) (fun d hd => by
  obtain ⟨a, _, rfl⟩ := List.mem_map.mp hd
  exact Nat.zero_le _) (by
  have e : (r.map nmD).mergeSort (dataLe false id) = (srt r).map nmD := by
    rw [srt, PySem.W.sort_maps (r := fun a b => !Spec.ltCps b a) (s := dataLe false id) (l := r) nmD]
    intro a _ b _
    rw [PySem.W.dataLe_eq]
    show (!Spec.ltCps b a) = !PySem.W.dataLt (nmD b) (nmD a)
    rw [dataLt_strs]
  rw [e]
  exact p)
/-- the least name -/
def mnL (r : List (List Nat)) : List Nat := (srt r).headD []
theorem mnL_head {r : List (List Nat)} (h : r ≠ []) : ∃ t, srt r = mnL r :: t := by
  cases e : srt r with
  | nil =>
    have := (srt_perm r).length_eq
    rw [e] at this
    exact absurd (List.length_eq_zero_iff.mp this.symm) h
  | cons a t => exact ⟨t, by simp [mnL, e]⟩
theorem mnL_mem {r : List (List Nat)} (h : r ≠ []) : mnL r ∈ r := by
  obtain ⟨t, e⟩ := mnL_head h
  exact (srt_perm r).mem_iff.mp (by rw [e]; exact List.mem_cons_self)
theorem mnL_le {r : List (List Nat)} {y : List Nat} (hy : y ∈ r) : geC (mnL r) y := by
  have h : r ≠ [] := fun e => by rw [e] at hy; cases hy
  obtain ⟨t, e⟩ := mnL_head h
  have hm : y ∈ srt r := (srt_perm r).mem_iff.mpr hy
  have pw := srt_pw r
  rw [e] at pw hm
  rcases List.mem_cons.mp hm with q | q
  · rw [q]; exact ge_self _
  · exact (List.pairwise_cons.mp pw).1 y q
theorem mnL_one {r : List (List Nat)} {l : List Nat} (hl : l ∈ r) (h : ∀ y, y ∈ r → geC l y) : l = mnL r := by
  have hne : r ≠ [] := fun e => by rw [e] at hl; cases hl
  exact ge_anti (h _ (mnL_mem hne)) (mnL_le hl)
theorem rc_minM {s : Sl} {r : List (List Nat)} (h : SeqS K s m (r.map nmD)) (hr : r ≠ []) (p : P (.d (nmD (mnL r))) m) : RC K (rMinA K) [s] m P := rc_minN h hr fun l h1 h2 => by rw [mnL_one h1 h2]; exact p
end
end Dv

namespace Dv
open PySem L2 PyProof.Rows
/-! ### dicts from texts to data that do not change; while -/
def valP (ps : List (Str × PyData)) (k : Str) : Option PyData := (ps.find? fun p => decide (p.1 = k)).map (·.2)
def putP (ps : List (Str × PyData)) (k : Str) (d : PyData) : List (Str × PyData) := if (ps.any fun p => decide (p.1 = k)) = true then ps.map (fun p => if p.1 = k then (p.1, d) else p) else ps ++ [(k, d)]
section
variable {K : PySem.W.Frag} {F : Reg} {H : Hp}
def DicR (K : PySem.W.Frag) (F : Reg) (H : Hp) (ps : List (Str × PyData)) (kvs : List (Key × V)) : Prop := Paired (fun p kv => kv.1 = Sum.inr p.1 ∧ Im K F H p.2 kv.2) ps kvs
theorem key_eq {x k : Str} {y : Key} (h : y = Sum.inr x) : decide (y = (Sum.inr k : Key)) = decide (x = k) := by
  subst h
  by_cases e : x = k
  · subst e; simp
  · rw [decide_eq_false e, decide_eq_false (fun z => e (Sum.inr.inj z))]
theorem dic_val {k : Str} : ∀ {ps : List (Str × PyData)} {kvs : List (Key × V)}, DicR K F H ps kvs → (∀ d, valP ps k = some d → ∃ v, valV kvs (Sum.inr k) = some v ∧ Im K F H d v) ∧ (valP ps k).isSome = (valV kvs (Sum.inr k)).isSome
  | _, _, .nil => ⟨(fun d e => nomatch e), rfl⟩
  | p :: ps, kv :: kvs, .cons r t => by
    obtain ⟨r1, r2⟩ := r
    obtain ⟨h1, h2⟩ := dic_val (k := k) t
    by_cases e : p.1 = k
    · have e1 : valP (p :: ps) k = some p.2 := by simp [valP, e]
      have e2 : valV (kv :: kvs) (Sum.inr k) = some kv.2 := by simp [valV, r1, e]
      rw [e1, e2]
      exact ⟨fun d q => by cases q; exact ⟨_, rfl, r2⟩, rfl⟩
    · have e1 : valP (p :: ps) k = valP ps k := by simp [valP, e]
      have e2 : valV (kv :: kvs) (Sum.inr k) = valV kvs (Sum.inr k) := by simp [valV, r1, e]
      rw [e1, e2]
      exact ⟨h1, h2⟩
theorem dic_any {k : Str} : ∀ {ps : List (Str × PyData)} {kvs : List (Key × V)}, DicR K F H ps kvs → (ps.any fun p => decide (p.1 = k)) = (kvs.any fun kv => decide (kv.1 = (Sum.inr k : Key)))
  | _, _, .nil => rfl
  | p :: ps, kv :: kvs, .cons r t => by rw [List.any_cons, List.any_cons, dic_any t, key_eq r.1]
theorem dic_map {k : Str} {d : PyData} {v : V} (i : Im K F H d v) : ∀ {ps : List (Str × PyData)} {kvs : List (Key × V)}, DicR K F H ps kvs → DicR K F H (ps.map fun p => if p.1 = k then (p.1, d) else p) (kvs.map fun kv => if kv.1 = (Sum.inr k : Key) then (kv.1, v) else kv)
  | _, _, .nil => .nil
  | p :: ps, kv :: kvs, .cons r t => by
    refine .cons ?_ (dic_map i t)
    dsimp only
    by_cases e : p.1 = k
    · rw [if_pos e, if_pos (by rw [r.1, e])]
      exact ⟨r.1, i⟩
    · rw [if_neg e, if_neg (fun z => e (by rw [r.1] at z; exact Sum.inr.inj z))]
      exact r
theorem dic_put {k : Str} {d : PyData} {v : V} {ps : List (Str × PyData)} {kvs : List (Key × V)} (r : DicR K F H ps kvs) (i : Im K F H d v) : DicR K F H (putP ps k d) (putK kvs (Sum.inr k) v) := by
  unfold putP putK
  rw [dic_any r]
  by_cases h : (kvs.any fun kv => decide (kv.1 = (Sum.inr k : Key))) = true
  · rw [if_pos h, if_pos h]
    exact dic_map i r
  · rw [if_neg h, if_neg h]
    exact paired_app r (.cons ⟨rfl, i⟩ .nil)
variable {ρ : Rho} {m : Sto} {P : PV} {td ty : TE}
theorem mu_dic (S : StoOk K m F H) {a : Addr} {ps : List (Str × PyData)} (h : m a = some (.dic ps)) : ∃ kvs, H a = some (.dK kvs) ∧ DicR K F H ps kvs := (S.mu a _ h).1
theorem ev_dnew (p : ∀ a, m a = none → P (.m a) (put m a (.dic []))) : Ev K tDNewK ρ m P := fun σ F H Q E S q a ha =>
  q _ _ _ F _ (p a (sto_none S ha)) (step_newM S ha) (sto_put S (not_reg S ha) ⟨[], upd_same, .nil⟩) rfl
theorem ev_dget (h : Ev K td ρ m fun s m1 => ∃ a, s = .m a ∧ Ev K ty ρ m1 fun s' m2 => ∃ (ps : List (Str × PyData)) (k : Str) (d : PyData), s' = .d (.str k) ∧ m2 a = some (.dic ps) ∧ valP ps k = some d ∧ P (.d d) m2) : Ev K (tDGet td ty) ρ m P := fun σ F H Q E S q =>
  h σ F H _ E S fun s m1 x F1 H1 ⟨a, e, h1⟩ s1 S1 o1 => h1 σ F1 H1 _ (envOk_step s1 E) S1 fun s' m2 y F2 H2 ⟨ps, k, d, e2, hm, hv, p⟩ s2 S2 o2 => by
    subst e e2
    cases (show x = .ref a from o1)
    cases (show y = .str k from o2)
    obtain ⟨kvs, hk, r⟩ := mu_dic S2 hm
    obtain ⟨v, hv2, iv⟩ := (dic_val r).1 d hv
    exact ⟨a, v, rfl, hv2 ▸ DGet.k (k := .inr k) hk, q _ m2 _ F2 H2 p (s1.trans s2) S2 iv⟩
theorem ev_din (h : Ev K ty ρ m fun s m1 => Ev K td ρ m1 fun s' m2 => ∃ (ps : List (Str × PyData)) (k : Str) (a : Addr), s = .d (.str k) ∧ s' = .m a ∧ m2 a = some (.dic ps) ∧ P (.d (.bool (valP ps k).isSome)) m2) : Ev K (tDIn ty td) ρ m P := fun σ F H Q E S q =>
  h σ F H _ E S fun s m1 x F1 H1 h1 s1 S1 o1 => h1 σ F1 H1 _ (envOk_step s1 E) S1 fun s' m2 y F2 H2 ⟨ps, k, a, e, e2, hm, p⟩ s2 S2 o2 => by
    subst e e2
    cases (show y = .ref a from o2)
    cases (show x = .str k from o1)
    obtain ⟨kvs, hk, r⟩ := mu_dic S2 hm
    refine ⟨a, _, rfl, DGet.k (k := .inr k) hk, ?_⟩
    rw [← (dic_val r).2]
    exact q _ m2 _ F2 H2 p (s1.trans s2) S2 rfl
theorem ev_dnotin (h : Ev K ty ρ m fun s m1 => Ev K td ρ m1 fun s' m2 => ∃ (ps : List (Str × PyData)) (k : Str) (a : Addr), s = .d (.str k) ∧ s' = .m a ∧ m2 a = some (.dic ps) ∧ P (.d (.bool (!(valP ps k).isSome))) m2) : Ev K (tDNotIn ty td) ρ m P := fun σ F H Q E S q =>
  h σ F H _ E S fun s m1 x F1 H1 h1 s1 S1 o1 => h1 σ F1 H1 _ (envOk_step s1 E) S1 fun s' m2 y F2 H2 ⟨ps, k, a, e, e2, hm, p⟩ s2 S2 o2 => by
    subst e e2
    cases (show y = .ref a from o2)
    cases (show x = .str k from o1)
    obtain ⟨kvs, hk, r⟩ := mu_dic S2 hm
    refine ⟨a, _, rfl, DGet.k (k := .inr k) hk, ?_⟩
    rw [← (dic_val r).2]
    exact q _ m2 _ F2 H2 p (s1.trans s2) S2 rfl
theorem gt_dput {d : PyData} {to ti : TE} {Pr : Rho → Sto → Prop} (h : Ev K to ρ m fun s m1 => ∃ a, s = .m a ∧ Ev K ti ρ m1 fun s' m2 => ∃ (ps : List (Str × PyData)) (k : Str), s' = .d (.str k) ∧ m2 a = some (.dic ps) ∧ ps.length < 100000 ∧ Pr ρ (put m2 a (.dic (putP ps k d)))) :
    Gt K (gSub to ti rSetD) [] (.d d) ρ m Pr := fun σ F H v Q E S o q =>
  h σ F H _ E S fun s m1 x F1 H1 ⟨a, e, h1⟩ s1 S1 o1 => h1 σ F1 H1 _ (envOk_step s1 E) S1 fun s' m2 y F2 H2 ⟨ps, k, e2, hm, hl, p⟩ s2 S2 o2 => by
    subst e e2
    cases (show x = .ref a from o1)
    cases (show y = .str k from o2)
    obtain ⟨kvs, hk, r⟩ := mu_dic S2 hm
    have iv : Im K F2 H2 d v := im_fix (s1.trans s2).fix _ _ o
    have st : Step m2 F2 H2 (put m2 a (.dic (putP ps k d))) F2 (upd H2 a (.dK (putK kvs (Sum.inr k) v))) := step_mut S2 hm
    have r2 : DicR K F2 (upd H2 a (.dK (putK kvs (Sum.inr k) v))) (putP ps k d) (putK kvs (Sum.inr k) v) := Paired.mapP (dic_put r iv) fun _ _ z => ⟨z.1, im_fix st.fix _ _ z.2⟩
    refine ⟨a, _, rfl, DPut.k (k := .inr k) hk (by rw [← paired_len r, sizeLine_eq]; omega), ?_⟩
    exact q _ _ _ F2 _ p ((s1.trans s2).trans st) (sto_put S2 (S2.mu a _ hm).2 ⟨_, upd_same, r2⟩) (envOk_step ((s1.trans s2).trans st) E) fun _ _ => rfl
/-- while -/
theorem wp_while {c : TT} {tb : TS} {k : Ko} (Iv : Nat → Rho → Sto → Prop) (n0 : Nat) (h0 : Iv n0 ρ m)
    (hs : ∀ n ρ' m', Iv n ρ' m' → EvT K c ρ' m' fun b m1 => if b = true then Wp K tb ρ' m1 { nx := fun ρ2 m2 => ∃ n', n' < n ∧ Iv n' ρ2 m2, ct := fun ρ2 m2 => ∃ n', n' < n ∧ Iv n' ρ2 m2, bk := k.nx, rt := k.rt } else k.nx ρ' m1) : Wp K (tWhile c tb) ρ m k := fun D σ F H E S q1 q2 q3 q4 => by
  refine ⟨fun n σ' H' => ∃ ρ' m' F', Iv n ρ' m' ∧ Step m F H m' F' H' ∧ StoOk K m' F' H' ∧ EnvOk K F' H' ρ' σ', ⟨n0, ρ, m, F, h0, Step.refl, S, E⟩, ?_⟩
  rintro n σ' H' ⟨ρ', m', F', iv, st, S', E'⟩
  refine hs n ρ' m' iv σ' F' H' _ E' S' fun b m1 F1 H1 w s1 S1 => ?_
  cases b with
  | true =>
    refine ⟨fun σ2 H2 => ∃ n', n' < n ∧ ∃ ρ2 m2 F2, Iv n' ρ2 m2 ∧ Step m F H m2 F2 H2 ∧ StoOk K m2 F2 H2 ∧ EnvOk K F2 H2 ρ2 σ2, fun σ2 H2 h => h, ?_⟩
    refine w _ σ' F1 H1 (envOk_step s1 E') S1 (fun ρ2 m2 σ2 F2 H2 ⟨n', hn, i2⟩ s2 S2 E2 => ⟨n', hn, ρ2, m2, F2, i2, (st.trans s1).trans s2, S2, E2⟩) (fun s m2 v F2 H2 p s2 S2 o2 => q2 s m2 v F2 H2 p ((st.trans s1).trans s2) S2 o2)
      (fun ρ2 m2 σ2 F2 H2 p s2 S2 E2 => q1 ρ2 m2 σ2 F2 H2 p ((st.trans s1).trans s2) S2 E2) (fun ρ2 m2 σ2 F2 H2 ⟨n', hn, i2⟩ s2 S2 E2 => ⟨n', hn, ρ2, m2, F2, i2, (st.trans s1).trans s2, S2, E2⟩)
  | false => exact q1 ρ' m1 σ' F1 H1 w (st.trans s1) S1 (envOk_step s1 E')
end
end Dv

namespace Dv
open PySem L2 PyProof.Rows
/-! ### dict(a tuple of pairs) -/
section
variable {X : Cx}
theorem pairs_uv {pins : List (Addr × Obj)} {σ : L2.St} {H : Hp} {s : Shared} (I : Inv X pins σ H s) : ∀ {ps : List Addr} {kvs : List (Key × V)}, Paired (fun p kv => SqT X.K H p [kV kv.1, kv.2]) ps kvs →
    ∃ (prs : List (Key × Value)) (uv : List (Value × Value)), KV kvs prs ∧ prs.length = ps.length ∧ uv.length = ps.length ∧ ∀ (j : Nat) (u v : Value), uv[j]? = some (u, v) → ∃ (k : Key) (b : Addr), prs[j]? = some (k, v) ∧ ps[j]? = some b ∧ IsTup s.heap b #[u, v] ∧ keyIs k u = true
  | _, _, .nil => ⟨[], [], .nil, rfl, rfl, fun j u v e => by simp at e⟩
  | _, _, .cons (a := p) (b := kv) h t => by
    obtain ⟨prs, uv, r, hl, hl2, hp⟩ := pairs_uv I t
    obtain ⟨its, rv, ht, _⟩ := I.tuple h
    obtain ⟨u, y, ei, ru, ry⟩ := vals2 rv
    subst ei
    refine ⟨(kv.1, y) :: prs, (u, y) :: uv, .cons ⟨rfl, ry⟩ r, by rw [List.length_cons, List.length_cons, hl], by rw [List.length_cons, List.length_cons, hl2], fun j u' v' e => ?_⟩
    cases j with
    | zero =>
      have e' := Option.some.inj e
      cases e'
      exact ⟨kv.1, p, rfl, rfl, ht, kV_is (P := X.prog) (w := X.w) ru⟩
    | succ j =>
      obtain ⟨k, b, e1, e2, e3, e4⟩ := hp j u' v' (by simpa using e)
      exact ⟨k, b, by simpa using e1, by simpa using e2, e3, e4⟩
def rDictT (K : PySem.W.Frag) : List V → Hp → VK → Prop := fun xs H Q => ∃ (a : Addr) (ps : List Addr) (kvs : List (Key × V)), xs = [.ref a] ∧ (ZT H a (ps.map V.ref) ∨ WrT K a (ps.map V.ref)) ∧ Paired (fun p kv => SqT K H p [kV kv.1, kv.2]) ps kvs ∧
    ∀ p, H p = none → Q (.ref p) (upd H p (.dK (mergeK [] kvs)))
theorem call_dictPT (hcalm : X.calm = true) : CallR X (.type "dict") (rDictT X.K) := by
  intro pins s σ H xs us Q I r q
  obtain ⟨a, ps, kvs, ex, hq, hp, q⟩ := q
  subst ex
  rw [Vals.ref1 r]
  have sq : SqT X.K H a (ps.map V.ref) := hq.elim ZT.sq WrT.sq
  obtain ⟨_, hnd⟩ := tyT_is (X := X) I (x := .ref a) (v := .ref a) rfl ⟨a, _, rfl, hq⟩
  obtain ⟨ob, hob, hdn⟩ := hnd a rfl
  obtain ⟨its, rv, pl, hz⟩ := I.tuple sq
  have ei := refs_at rv
  subst ei
  rw [List.length_map] at hz
  obtain ⟨prs, uv, rel, hl, hl2, hpr⟩ := pairs_uv I hp
  obtain ⟨o, ho, hc, n, hdat⟩ := pl
  rw [hob] at ho
  cases ho
  have hasT : ∀ j u v, uv[j]? = some (u, v) → ps[j]? = some (ps.getD j 0) ∧ IsTup s.heap (ps.getD j 0) #[u, v] := fun j u v e => by
    obtain ⟨k, b, e1, e2, e3, e4⟩ := hpr j u v e
    have : ps.getD j 0 = b := by rw [List.getD_eq_getElem?_getD, e2]; rfl
    rw [this]
    exact ⟨e2, e3⟩
  refine PySem.call_dict_pairs (knd := mixKind X.prog X.w) (kvs := prs) (PySem.PairArg.tuple a (ps.map Value.ref).toArray (fun j => ps.getD j 0) uv) (I.ok.hd hcalm) ⟨⟨ob, n, hob, hc, hdn, hdat⟩, by rw [List.size_toArray, List.length_map, hl2], fun j k v e => ?_⟩ ⟨by rw [hl, hl2], fun i key v e => ?_⟩ (by rw [hl2]; exact hz) fun h' tk hd' k => ?_
  · obtain ⟨e1, e2⟩ := hasT j k v e
    exact ⟨by rw [List.getElem?_toArray, List.getElem?_map, e1]; rfl, .inl e2⟩
  · obtain ⟨k, b, e1, e2, e3, e4⟩ := hpr i key v e
    exact ⟨k, e1, e4⟩
  · have hm : (s.heap.objs.size == sysModules) = false := beq_eq_false_iff_ne.mpr (Nat.ne_of_gt I.big)
    have hlen : (mergeK [] kvs).length ≤ sizeLine := by
      refine Nat.le_trans (length_mergeK kvs []) ?_
      rw [List.length_nil, Nat.zero_add, rel.length, hl]
      exact hz
    exact ⟨.ref s.heap.objs.size, upd H s.heap.objs.size (.dK (mergeK [] kvs)), I.laid (t' := tk) (fun b o e => k b o (fun q => nomatch q) e) (Nat.le_refl _) (show ObjOk X.prog X.w _ _ _ (.dK (mergeK [] kvs)) from ⟨hlen, hm, merged [] prs, KV.merge rel .nil, hd'⟩), rfl, q _ (I.hok.fresh (Nat.le_refl _))⟩
end
end Dv

namespace Dv
open PySem L2 PyProof.Rows
/-! ### more rules for laws about permutations -/
def pqD (q : Str × Str) : PyData := .tuple [.str q.1, .str q.2]
def rLtS : R2 := fun x y H Q => ∃ i j : Str, x = .str i ∧ y = .str j ∧ Q (.bl (decide (i.cps.toList < j.cps.toList))) H
def rLtU : R2 := ro2 (rI0 fun i j => .bl (decide (i < j))) rLtS
theorem op_ltU {X : Cx} : OpR X (compareOp .Lt) rLtU := op_lt.or op_lt_str
def rSortDic (K : PySem.W.Frag) : List V → Hp → VK → Prop := fun xs H Q => ∃ (a : Addr) (kvs : List (Key × V)) (ks : List Str), xs = [.ref a] ∧ Rd H a (.dK kvs) ∧ kvs.map (·.1) = ks.map Sum.inr ∧ ks.length < 64 ∧
    ∀ ys p, ys.Perm ks → sortedS ys = true → H p = none → Q (.ref p) (upd H p (.lst (ys.map V.str)))
theorem call_sortDic {X : Cx} (hc : X.calm = true) : CallR X (.builtin "sorted") (rSortDic X.K) := call_sortedD hc
section
variable {K : PySem.W.Frag} {Pg : Program} {w : World} {ρ : Rho} {m : Sto} {P : PV}
theorem rl_ltI {i j : Int} (p : P (.d (.bool (decide (i < j)))) m) : RO K rLtU (.d (.int i)) (.d (.int j)) m P := ro_l (ro_b0 p)
theorem rl_ltS {a b : Str} (p : P (.d (.bool (decide (a.cps.toList < b.cps.toList)))) m) : RO K rLtU (.d (.str a)) (.d (.str b)) m P := ro_r fun x y F H Q i j S q => ⟨a, b, i, j, q _ m _ F H p Step.refl S rfl⟩
theorem rni_set {z : Str} {a : Addr} {xs : List Str} (hm : m a = some (setM Pg w a xs)) (p : P (.d (.bool (!decide (z ∈ xs)))) m) : RO K (rNotInU K Pg w) (.d (.str z)) (.m a) m P := ro_r (ro_r (ro_r fun x y F H Q i b S q => by
  have z2 : H a = some _ := (S.mu a _ hm).1
  exact ⟨.inr z, a, _, _, i, b, z2, q _ m _ F H p Step.refl S rfl⟩))
/-- a pair taken apart into two names -/
theorem gt_pairD {i j : Nat} {x y : PyData} {Pr : Rho → Sto → Prop} (h : Pr ((ρ.set i (some (.d x))).set j (some (.d y))) m) : Gt K (gTup K 2 (gCons (gName i) (gCons (gName j) gNil))) [i, j] (.d (.tuple [x, y])) ρ m Pr := fun σ F H v Q E S o q => by
  obtain ⟨a, vs, rfl, sq, i0⟩ := im_tup o
  obtain ⟨v1, r, rfl, i1, v2, r2, rfl, i2, rfl⟩ := i0
  refine ⟨a, _, rfl, sq, rfl, v1, [v2], rfl, v2, [], rfl, rfl, ?_⟩
  refine q _ m _ F H h Step.refl S (envOk_set (s := .d y) (envOk_set (s := .d x) E i i1) j i2) fun vs hj => ?_
  rw [wipe_set (hj j (by simp)), wipe_set (hj i (by simp))]
theorem dic_keys {F : Reg} {H : Hp} : ∀ {ps : List (Str × PyData)} {kvs : List (Key × V)}, DicR K F H ps kvs → kvs.map (·.1) = (ps.map Prod.fst).map Sum.inr
  | _, _, .nil => rfl
  | _, _, .cons r t => by rw [List.map_cons, List.map_cons, List.map_cons, dic_keys t, r.1]
theorem rc_sortDic {a : Addr} {ps : List (Str × PyData)} (hm : m a = some (.dic ps)) (hl : ps.length < 64) (p : ∀ ys : List Str, ys.Perm (ps.map Prod.fst) → sortedS ys = true → P (.d (.list (ys.map .str))) m) : RC K (rSortDic K) [.m a] m P := fun xs F H Q o S q => by
  obtain ⟨x, e, o1⟩ := sls1 o
  cases (show x = .ref a from o1)
  obtain ⟨kvs, hk, r⟩ := mu_dic S hm
  refine ⟨a, kvs, ps.map Prod.fst, e, .inl hk, dic_keys r, by rw [List.length_map]; exact hl, fun ys c h1 h2 hc => then_new S (p ys h1 h2) q hc ⟨c, _, rfl, .inl rfl, upd_same, imAll_strs.mpr rfl⟩⟩
/-- what a dict of pairs with keys told apart holds -/
theorem dic_merge {F : Reg} {H : Hp} : ∀ {more : List (Str × PyData)} {mv : List (Key × V)} {acc : List (Str × PyData)} {av : List (Key × V)}, DicR K F H more mv → DicR K F H acc av → (more.map Prod.fst).Nodup → (∀ p, p ∈ more → ∀ q, q ∈ acc → q.1 ≠ p.1) → DicR K F H (acc ++ more) (mergeK av mv)
  | _, _, acc, av, .nil, r, _, _ => by rw [List.append_nil]; exact r
  | p :: more, kv :: mv, acc, av, .cons r t, ra, nd, hd => by
    obtain ⟨h1, h2⟩ := List.nodup_cons.mp nd
    have hk : putK av kv.1 kv.2 = av ++ [kv] := by
      have hno : (av.any fun x => decide (x.1 = kv.1)) = false := by
        have := dic_any (k := p.1) ra
        rw [r.1, ← this]
        refine Bool.eq_false_iff.mpr fun q => ?_
        obtain ⟨z, hz, e⟩ := List.any_eq_true.mp q
        exact hd p List.mem_cons_self z hz (of_decide_eq_true e)
      unfold putK
      rw [hno]
      rfl
    have := dic_merge (acc := acc ++ [p]) (av := av ++ [kv]) t (paired_app ra (.cons r .nil)) h2 fun q hq z hz => by
      rcases List.mem_append.mp hz with hz | hz
      · exact hd q (List.mem_cons_of_mem _ hq) z hz
      · rw [List.mem_singleton.mp hz]
        exact fun e => h1 (by rw [e]; exact List.mem_map_of_mem hq)
    rw [List.append_assoc] at this
    show DicR K F H (acc ++ ([p] ++ more)) (mergeK (putK av kv.1 kv.2) mv)
    rw [hk]
    exact this
theorem rc_dictT {qs : List (Str × Str)} (nd : (qs.map Prod.fst).Nodup) (p : ∀ a, m a = none → P (.m a) (put m a (.dic (qs.map fun q => (q.1, .str q.2))))) : RC K (rDictT K) [.d (.tuple (qs.map pqD))] m P := fun xs F H Q o S q => by
  obtain ⟨x, e, o1⟩ := sls1 o
  obtain ⟨a, vs, rfl, n, i⟩ := o1
  have split : ∀ {qs : List (Str × Str)} {vs : List V}, ImAll K F H (qs.map pqD) vs → ∃ ps : List Addr, vs = ps.map V.ref ∧ Paired (fun p kv => SqT K H p [kV kv.1, kv.2]) ps (qs.map fun q => ((Sum.inr q.1 : Key), V.str q.2)) := by
    intro qs
    induction qs with
    | nil => intro vs h; exact ⟨[], h, .nil⟩
    | cons q qs ih =>
      intro vs h
      obtain ⟨v, r, rfl, h1, h2⟩ := h
      obtain ⟨b, ws, rfl, sq, i2⟩ := im_tup h1
      obtain ⟨v1, _, rfl, e1, v2, _, rfl, e2, rfl⟩ := i2
      cases (show v1 = .str q.1 from e1)
      cases (show v2 = .str q.2 from e2)
      obtain ⟨ps, rfl, hp⟩ := ih h2
      exact ⟨b :: ps, rfl, .cons sq hp⟩
  obtain ⟨ps, rfl, hp⟩ := split i
  have hz : ZT H a (ps.map V.ref) ∨ WrT K a (ps.map V.ref) := by
    rcases n with ⟨_, h⟩ | h
    · exact .inl h
    · exact .inr h
  have rel : ∀ qs : List (Str × Str), DicR K F H (qs.map fun q => (q.1, PyData.str q.2)) (qs.map fun q => ((Sum.inr q.1 : Key), V.str q.2)) := by
    intro qs
    induction qs with
    | nil => exact .nil
    | cons q qs ih => exact .cons ⟨rfl, rfl⟩ ih
  have hm := dic_merge (K := K) (F := F) (H := H) (rel qs) (.nil : DicR K F H [] []) (by rw [List.map_map]; exact nd) fun p _ q hq => by cases hq
  rw [List.nil_append] at hm
  refine ⟨a, ps, _, e, hz, hp, fun c hc => ?_⟩
  have st : Step m F H (put m c (.dic (qs.map fun q => (q.1, .str q.2)))) F (upd H c (.dK (mergeK [] (qs.map fun q => ((Sum.inr q.1 : Key), V.str q.2))))) := step_newM S hc
  exact q _ _ _ F _ (p c (sto_none S hc)) st (sto_put S (not_reg S hc) ⟨_, upd_same, Paired.mapP hm fun _ _ z => ⟨z.1, im_fix st.fix _ _ z.2⟩⟩) rfl
end
end Dv

namespace Dv
/-! ### inversions: exchanging two entries changes their number by an odd one -/
section
variable {α : Type} [DecidableEq α] (lt : α → α → Bool)
/-- how many of l are less than x -/
def cntB (x : α) (l : List α) : Nat := (l.filter fun y => lt y x).length
/-- of how many of l x is less -/
def cntA (x : α) (l : List α) : Nat := (l.filter fun y => lt x y).length
def inv : List α → Nat
  | [] => 0
  | x :: r => cntB lt x r + inv r
/-- distinct things are ordered one way -/
def Tot : Prop := ∀ a b : α, a ≠ b → lt a b = !lt b a
variable {lt}
theorem cntB_app (x : α) (a b : List α) : cntB lt x (a ++ b) = cntB lt x a + cntB lt x b := by simp [cntB]
theorem cntB_cons (x y : α) (l : List α) : cntB lt x (y :: l) = (if lt y x = true then 1 else 0) + cntB lt x l := by
  unfold cntB
  rw [List.filter_cons]
  by_cases h : lt y x = true
  · rw [if_pos h, if_pos h, List.length_cons]; omega
  · rw [if_neg h, if_neg h]; omega
theorem cntA_cons (x y : α) (l : List α) : cntA lt x (y :: l) = (if lt x y = true then 1 else 0) + cntA lt x l := by
  unfold cntA
  rw [List.filter_cons]
  by_cases h : lt x y = true
  · rw [if_pos h, if_pos h, List.length_cons]; omega
  · rw [if_neg h, if_neg h]; omega
theorem cntB_perm (x : α) {a b : List α} (p : a.Perm b) : cntB lt x a = cntB lt x b := (p.filter _).length_eq
theorem cnt_both (T : Tot lt) (x : α) : ∀ l : List α, x ∉ l → cntB lt x l + cntA lt x l = l.length
  | [], _ => rfl
  | y :: l, h => by
    have ne : y ≠ x := fun e => h (e ▸ List.mem_cons_self)
    have ih := cnt_both T x l fun q => h (List.mem_cons_of_mem _ q)
    rw [cntB_cons, cntA_cons, List.length_cons]
    have := T y x ne
    cases hx : lt x y <;> rw [hx] at this <;> simp at this <;> simp [this] <;> omega
/-- an entry taken out -/
theorem inv_mid (y : α) (c : List α) : ∀ b : List α, inv lt (b ++ y :: c) = inv lt (b ++ c) + cntA lt y b + cntB lt y c
  | [] => by simp [inv, cntA]; omega
  | z :: b => by
    have ih := inv_mid y c b
    show cntB lt z (b ++ y :: c) + inv lt (b ++ y :: c) = cntB lt z (b ++ c) + inv lt (b ++ c) + cntA lt y (z :: b) + cntB lt y c
    rw [ih, cntB_app, cntB_cons, cntB_app, cntA_cons]
    omega
theorem inv_swap0 (T : Tot lt) {x y : α} {b c : List α} (hxy : x ≠ y) (hx : x ∉ b) (hy : y ∉ b) : (inv lt (x :: (b ++ y :: c)) + inv lt (y :: (b ++ x :: c))) % 2 = 1 := by
  show (cntB lt x (b ++ y :: c) + inv lt (b ++ y :: c) + (cntB lt y (b ++ x :: c) + inv lt (b ++ x :: c))) % 2 = 1
  rw [inv_mid, inv_mid, cntB_app, cntB_app, cntB_cons, cntB_cons]
  have h1 := cnt_both T x b hx
  have h2 := cnt_both T y b hy
  have h3 := T x y hxy
  cases hh : lt y x <;> rw [hh] at h3 <;> simp at h3 <;> simp [h3] <;> omega
theorem inv_swap (T : Tot lt) {x y : α} {b c : List α} (hxy : x ≠ y) (hx : x ∉ b) (hy : y ∉ b) : ∀ a : List α, (inv lt (a ++ x :: (b ++ y :: c)) + inv lt (a ++ y :: (b ++ x :: c))) % 2 = 1
  | [] => inv_swap0 T hxy hx hy
  | z :: a => by
    have ih := inv_swap T hxy hx hy (c := c) a
    have p : (a ++ x :: (b ++ y :: c)).Perm (a ++ y :: (b ++ x :: c)) := by
      refine List.Perm.append_left a ?_
      have h1 : (x :: (b ++ y :: c)).Perm (x :: y :: (b ++ c)) := (List.perm_middle).cons x
      have h2 : (y :: (b ++ x :: c)).Perm (y :: x :: (b ++ c)) := (List.perm_middle).cons y
      exact (h1.trans (List.Perm.swap y x _)).trans h2.symm
    show (cntB lt z (a ++ x :: (b ++ y :: c)) + inv lt (a ++ x :: (b ++ y :: c)) + (cntB lt z (a ++ y :: (b ++ x :: c)) + inv lt (a ++ y :: (b ++ x :: c)))) % 2 = 1
    rw [cntB_perm z p]
    omega
/-- two values exchanged -/
def sw (x y z : α) : α := if z = x then y else if z = y then x else z
theorem sw_l (x y : α) : sw x y x = y := if_pos rfl
theorem sw_r (x y : α) : sw x y y = x := by
  unfold sw
  by_cases h : y = x
  · rw [if_pos h, h]
  · rw [if_neg h, if_pos rfl]
theorem sw_o {x y z : α} (h1 : z ≠ x) (h2 : z ≠ y) : sw x y z = z := by
  unfold sw
  rw [if_neg h1, if_neg h2]
theorem map_sw_id {x y : α} : ∀ {l : List α}, x ∉ l → y ∉ l → l.map (sw x y) = l
  | [], _, _ => rfl
  | z :: l, h1, h2 => by
    rw [List.map_cons, sw_o (x := x) (y := y) (z := z) (fun e => h1 (by rw [e]; exact List.mem_cons_self)) (fun e => h2 (by rw [e]; exact List.mem_cons_self)), map_sw_id (fun q => h1 (List.mem_cons_of_mem _ q)) (fun q => h2 (List.mem_cons_of_mem _ q))]
theorem split_two {x y : α} (hxy : x ≠ y) : ∀ {l : List α}, l.Nodup → x ∈ l → y ∈ l → ∃ a b c u v, ((u = x ∧ v = y) ∨ (u = y ∧ v = x)) ∧ l = a ++ u :: (b ++ v :: c)
  | [], _, h, _ => by cases h
  | z :: l, nd, hx, hy => by
    obtain ⟨_, nd2⟩ := List.nodup_cons.mp nd
    by_cases e1 : z = x
    · subst e1
      have : y ∈ l := (List.mem_cons.mp hy).resolve_left fun e => hxy e.symm
      obtain ⟨b, c, rfl⟩ := List.append_of_mem this
      exact ⟨[], b, c, z, y, .inl ⟨rfl, rfl⟩, rfl⟩
    · by_cases e2 : z = y
      · subst e2
        have : x ∈ l := (List.mem_cons.mp hx).resolve_left fun e => e1 e.symm
        obtain ⟨b, c, rfl⟩ := List.append_of_mem this
        exact ⟨[], b, c, z, x, .inr ⟨rfl, rfl⟩, rfl⟩
      · obtain ⟨a, b, c, u, v, h, rfl⟩ := split_two hxy nd2 ((List.mem_cons.mp hx).resolve_left fun e => e1 e.symm) ((List.mem_cons.mp hy).resolve_left fun e => e2 e.symm)
        exact ⟨z :: a, b, c, u, v, h, rfl⟩
theorem inv_sw (T : Tot lt) {x y : α} (hxy : x ≠ y) {l : List α} (nd : l.Nodup) (hx : x ∈ l) (hy : y ∈ l) : (inv lt l + inv lt (l.map (sw x y))) % 2 = 1 := by
  obtain ⟨a, b, c, u, v, h, rfl⟩ := split_two hxy nd hx hy
  have huv : u ≠ v := by
    rcases h with ⟨rfl, rfl⟩ | ⟨rfl, rfl⟩
    · exact hxy
    · exact Ne.symm hxy
  have su : sw x y u = v ∧ sw x y v = u := by
    rcases h with ⟨rfl, rfl⟩ | ⟨rfl, rfl⟩
    · exact ⟨sw_l _ _, sw_r _ _⟩
    · exact ⟨sw_r _ _, sw_l _ _⟩
  have n1 := List.nodup_append.mp nd
  obtain ⟨na, nr, dis⟩ := n1
  obtain ⟨hu, nr2⟩ := List.nodup_cons.mp nr
  obtain ⟨nb, nc, dis2⟩ := List.nodup_append.mp nr2
  obtain ⟨hv, nc2⟩ := List.nodup_cons.mp nc
  have ua : u ∉ a := fun q => dis u q u List.mem_cons_self rfl
  have va : v ∉ a := fun q => dis v q v (List.mem_cons_of_mem _ (List.mem_append_right _ List.mem_cons_self)) rfl
  have ub : u ∉ b := fun q => hu (List.mem_append_left _ q)
  have uc : u ∉ c := fun q => hu (List.mem_append_right _ (List.mem_cons_of_mem _ q))
  have vb : v ∉ b := fun q => dis2 v q v List.mem_cons_self rfl
  have vc : v ∉ c := hv
  have mp : ∀ l : List α, u ∉ l → v ∉ l → l.map (sw x y) = l := fun l h1 h2 => by
    rcases h with ⟨rfl, rfl⟩ | ⟨rfl, rfl⟩
    · exact map_sw_id h1 h2
    · exact map_sw_id h2 h1
  rw [List.map_append, List.map_cons, List.map_append, List.map_cons, mp a ua va, mp b ub vb, mp c uc vc, su.1, su.2]
  exact inv_swap T huv ub vb a
end
end Dv

namespace Dv
/-! ### the sign of a permutation by its cycles -/
section
variable {α : Type} [DecidableEq α] {lt : α → α → Bool}
/-- q goes on by f and ends in x -/
def CycAt (f : α → α) (x : α) : List α → Prop
  | [] => False
  | [y] => f y = x
  | y :: z :: r => f y = z ∧ CycAt f x (z :: r)
theorem CycAt.last {f : α → α} {x : α} : ∀ {q : List α}, CycAt f x q → ∃ z, z ∈ q ∧ f z = x
  | [y], h => ⟨y, List.mem_cons_self, h⟩
  | y :: z :: r, h => by
    obtain ⟨w, h1, h2⟩ := CycAt.last h.2
    exact ⟨w, List.mem_cons_of_mem _ h1, h2⟩
theorem CycAt.congr {f g : α → α} {x : α} : ∀ {q : List α}, CycAt f x q → (∀ z, z ∈ q → g z = f z) → CycAt g x q
  | [y], h, e => (e y List.mem_cons_self).trans h
  | y :: z :: r, h, e => ⟨(e y List.mem_cons_self).trans h.1, CycAt.congr h.2 fun w hw => e w (List.mem_cons_of_mem _ hw)⟩
theorem CycAt.sw {f : α → α} {x y : α} : ∀ {q : List α}, CycAt f x q → (∀ z, z ∈ q.tail → z ≠ x ∧ z ≠ y) → CycAt (fun z => sw x y (f z)) y q
  | [w], h, _ => by
    show Dv.sw x y (f w) = y
    rw [h, sw_l]
  | w :: z :: r, h, e => by
    have h1 := e z List.mem_cons_self
    refine ⟨?_, CycAt.sw h.2 fun v hv => e v (List.mem_cons_of_mem _ hv)⟩
    show Dv.sw x y (f w) = z
    rw [h.1, sw_o h1.1 h1.2]
theorem sw_inj {x y a b : α} (h : sw x y a = sw x y b) : a = b := by
  unfold sw at h
  by_cases a1 : a = x
  · rw [if_pos a1] at h
    by_cases b1 : b = x
    · rw [a1, b1]
    · rw [if_neg b1] at h
      by_cases b2 : b = y
      · rw [if_pos b2] at h; rw [a1, b2]; exact h.symm
      · rw [if_neg b2] at h; exact absurd h.symm b2
  · rw [if_neg a1] at h
    by_cases a2 : a = y
    · rw [if_pos a2] at h
      by_cases b1 : b = x
      · rw [if_pos b1] at h; rw [a2, b1]; exact h.symm
      · rw [if_neg b1] at h
        by_cases b2 : b = y
        · rw [a2, b2]
        · rw [if_neg b2] at h; exact absurd h.symm b1
    · rw [if_neg a2] at h
      by_cases b1 : b = x
      · rw [if_pos b1] at h; exact absurd h a2
      · rw [if_neg b1] at h
        by_cases b2 : b = y
        · rw [if_pos b2] at h; exact absurd h a1
        · rw [if_neg b2] at h; exact h
theorem inj_on {β : Type} {f : α → β} : ∀ {l : List α}, (l.map f).Nodup → ∀ {a b : α}, a ∈ l → b ∈ l → f a = f b → a = b
  | [], _, _, _, h, _, _ => by cases h
  | z :: l, nd, a, b, ha, hb, e => by
    obtain ⟨h1, h2⟩ := List.nodup_cons.mp nd
    rcases List.mem_cons.mp ha with ea | ha2
    · rcases List.mem_cons.mp hb with eb | hb2
      · rw [ea, eb]
      · exact absurd (List.mem_map.mpr ⟨b, hb2, by rw [← e, ea]⟩) h1
    · rcases List.mem_cons.mp hb with eb | hb2
      · exact absurd (List.mem_map.mpr ⟨a, ha2, by rw [e, eb]⟩) h1
      · exact inj_on h2 ha2 hb2 e
theorem nodup_sw {x y : α} {l : List α} (nd : l.Nodup) : (l.map (sw x y)).Nodup := List.pairwise_map.mpr (nd.imp fun h e => h (sw_inj e))
/-- a cycle undone -/
theorem cyc_par (T : Tot lt) {l : List α} : ∀ (r : List α) (x : α) (f : α → α), (l.map f).Nodup → CycAt f x (x :: r) → (x :: r).Nodup → (∀ z, z ∈ x :: r → z ∈ l) →
    (inv lt (l.map f) + inv lt (l.map fun z => if z ∈ x :: r then z else f z) + r.length) % 2 = 0 ∧ (l.map fun z => if z ∈ x :: r then z else f z).Nodup
  | [], x, f, nd, c, _, _ => by
    have e : (l.map fun z => if z ∈ [x] then z else f z) = l.map f := List.map_congr_left fun z _ => by
      by_cases h : z ∈ [x]
      · rw [if_pos h, List.mem_singleton.mp h]; exact (show f x = x from c).symm
      · rw [if_neg h]
    rw [e]
    exact ⟨by simp; omega, nd⟩
  | y :: r, x, f, nd, c, cn, sub => by
    obtain ⟨hx, cn2⟩ := List.nodup_cons.mp cn
    obtain ⟨hy, cn3⟩ := List.nodup_cons.mp cn2
    have hxy : x ≠ y := fun e => hx (e ▸ List.mem_cons_self)
    obtain ⟨w, hw, fw⟩ := c.2.last
    have fx : f x = y := c.1
    have xl := sub x List.mem_cons_self
    have wl := sub w (List.mem_cons_of_mem _ hw)
    have c2 : CycAt (fun z => sw x y (f z)) y (y :: r) := c.2.sw fun z hz => ⟨fun e => hx (e ▸ List.mem_cons_of_mem _ hz), fun e => hy (e ▸ hz)⟩
    have e1 : l.map (fun z => sw x y (f z)) = (l.map f).map (sw x y) := by rw [List.map_map]; rfl
    have nd1 : (l.map fun z => sw x y (f z)).Nodup := by rw [e1]; exact nodup_sw nd
    obtain ⟨p1, p2⟩ := cyc_par T r y (fun z => sw x y (f z)) nd1 c2 cn2 fun z hz => sub z (List.mem_cons_of_mem _ hz)
    have p0 := inv_sw T hxy nd (List.mem_map.mpr ⟨w, wl, fw⟩) (List.mem_map.mpr ⟨x, xl, fx⟩)
    rw [← e1] at p0
    have eg : (l.map fun z => if z ∈ x :: y :: r then z else f z) = l.map fun z => if z ∈ y :: r then z else sw x y (f z) := List.map_congr_left fun z hz => by
      by_cases h1 : z ∈ y :: r
      · rw [if_pos h1, if_pos (List.mem_cons_of_mem _ h1)]
      · rw [if_neg h1]
        by_cases h2 : z = x
        · rw [if_pos (by rw [h2]; exact List.mem_cons_self), h2, fx, sw_r]
        · rw [if_neg (fun q => (List.mem_cons.mp q).elim h2 h1)]
          refine (sw_o (fun e => ?_) (fun e => ?_)).symm
          · have : z = w := inj_on nd hz wl (e.trans fw.symm)
            exact h1 (this ▸ hw)
          · exact h2 (inj_on nd hz xl (e.trans fx.symm))
    rw [eg]
    refine ⟨?_, p2⟩
    rw [List.length_cons]
    omega
/-- the nontrivial cycles, found from the left -/
def goC (f : α → α) (cyc : α → List α) : List α → List α → List (List α)
  | [], _ => []
  | x :: r, seen => if f x ≠ x ∧ x ∉ seen then cyc x :: goC f cyc r (seen ++ cyc x) else goC f cyc r seen
theorem goC_par (T : Tot lt) {l : List α} {f : α → α} {cyc : α → List α} (hc : ∀ x, x ∈ l → f x ≠ x → ∃ t, cyc x = x :: t ∧ CycAt f x (x :: t) ∧ (x :: t).Nodup ∧ ∀ z, z ∈ x :: t → z ∈ l)
    (hd : ∀ x y, x ∈ l → y ∈ l → f x ≠ x → f y ≠ y → y ∉ cyc x → ∀ z, z ∈ cyc y → z ∉ cyc x) : ∀ (xs seen : List α), (∀ x, x ∈ xs → x ∈ l) → (l.map fun z => if z ∈ seen then z else f z).Nodup → (∀ z, z ∈ l → z ∉ seen → f z ≠ z → z ∈ xs) →
    (∀ y, y ∈ l → f y ≠ y → y ∉ seen → ∀ z, z ∈ cyc y → z ∉ seen) → (inv lt (l.map fun z => if z ∈ seen then z else f z) + ((goC f cyc xs seen).map fun c => c.length - 1).sum) % 2 = inv lt l % 2
  | [], seen, _, nd, hf, _ => by
    have e : (l.map fun z => if z ∈ seen then z else f z) = l := by
      have : (l.map fun z => if z ∈ seen then z else f z) = l.map id := List.map_congr_left fun z hz => by
        by_cases h : z ∈ seen
        · rw [if_pos h]; rfl
        · rw [if_neg h]
          by_cases h2 : f z = z
          · exact h2
          · cases hf z hz h h2
      rw [this, List.map_id]
    rw [e]
    simp [goC]
  | x :: r, seen, hl, nd, hf, hs => by
    have xl := hl x List.mem_cons_self
    by_cases h : f x ≠ x ∧ x ∉ seen
    · obtain ⟨t, e, c, cn, sub⟩ := hc x xl h.1
      have hdis := hs x xl h.1 h.2
      rw [e] at hdis
      have c' : CycAt (fun z => if z ∈ seen then z else f z) x (x :: t) := c.congr fun z hz => if_neg (hdis z hz)
      obtain ⟨p1, p2⟩ := cyc_par T t x _ nd c' cn sub
      have eg : (fun z => if z ∈ x :: t then z else if z ∈ seen then z else f z) = fun z => if z ∈ seen ++ (x :: t) then z else f z := by
        funext z
        by_cases h1 : z ∈ x :: t
        · rw [if_pos h1, if_pos (List.mem_append_right _ h1)]
        · rw [if_neg h1]
          by_cases h2 : z ∈ seen
          · rw [if_pos h2, if_pos (List.mem_append_left _ h2)]
          · rw [if_neg h2, if_neg (fun q => (List.mem_append.mp q).elim h2 h1)]
      rw [eg] at p1 p2
      have ih := goC_par T hc hd r (seen ++ (x :: t)) (fun z hz => hl z (List.mem_cons_of_mem _ hz)) p2 (fun z hz h1 h2 => by
        have h3 := hf z hz (fun q => h1 (List.mem_append_left _ q)) h2
        rcases List.mem_cons.mp h3 with e3 | h3
        · exact absurd (List.mem_append_right _ (e3 ▸ List.mem_cons_self)) h1
        · exact h3) (fun y hy h1 h2 z hz q => by
        rcases List.mem_append.mp q with q | q
        · exact hs y hy h1 (fun w => h2 (List.mem_append_left _ w)) z hz q
        · rw [← e] at q
          exact hd x y xl hy h.1 h1 (fun w => h2 (List.mem_append_right _ (e ▸ w))) z hz q)
      have eq : goC f cyc (x :: r) seen = cyc x :: goC f cyc r (seen ++ cyc x) := by
        show (if f x ≠ x ∧ x ∉ seen then _ else _) = _
        rw [if_pos h]
      rw [eq, e, List.map_cons, List.sum_cons]
      have : (x :: t).length - 1 = t.length := by simp
      rw [this]
      omega
    · have eq : goC f cyc (x :: r) seen = goC f cyc r seen := by
        show (if f x ≠ x ∧ x ∉ seen then _ else _) = _
        rw [if_neg h]
      rw [eq]
      refine goC_par T hc hd r seen (fun z hz => hl z (List.mem_cons_of_mem _ hz)) nd (fun z hz h1 h2 => ?_) hs
      rcases List.mem_cons.mp (hf z hz h1 h2) with e | h3
      · subst e
        exact absurd ⟨h2, h1⟩ h
      · exact h3
theorem inv_sorted : ∀ {l : List α}, l.Pairwise (fun a b => lt b a = false) → inv lt l = 0
  | [], _ => rfl
  | x :: l, h => by
    obtain ⟨h1, h2⟩ := List.pairwise_cons.mp h
    show cntB lt x l + inv lt l = 0
    have : cntB lt x l = 0 := by
      unfold cntB
      rw [List.length_eq_zero_iff, List.filter_eq_nil_iff]
      intro y hy
      rw [h1 y hy]
      exact Bool.false_ne_true
    rw [this, inv_sorted h2]
end
end Dv

namespace Dv
/-! ### the cycles of a permutation, walked -/
section
variable {α : Type} [DecidableEq α]
theorem len_sub : ∀ {a b : List α}, a.Nodup → (∀ z, z ∈ a → z ∈ b) → a.length ≤ b.length
  | [], _, _, _ => Nat.zero_le _
  | x :: a, b, nd, h => by
    obtain ⟨h1, h2⟩ := List.nodup_cons.mp nd
    have hx := h x List.mem_cons_self
    obtain ⟨p, q, rfl⟩ := List.append_of_mem hx
    have ih := len_sub (b := p ++ q) h2 fun z hz => by
      have hz2 := h z (List.mem_cons_of_mem _ hz)
      rcases List.mem_append.mp hz2 with h3 | h3
      · exact List.mem_append_left _ h3
      · rcases List.mem_cons.mp h3 with e | h3
        · rw [e] at hz; exact absurd hz h1
        · exact List.mem_append_right _ h3
    rw [List.length_append] at ih
    rw [List.length_append, List.length_cons, List.length_cons]
    omega
/-- from y on, until f leads to x -/
def walk (f : α → α) (x : α) : Nat → α → List α
  | 0, y => [y]
  | n + 1, y => if f y = x then [y] else y :: walk f x n (f y)
theorem walk_ne (f : α → α) (x : α) (n : Nat) (y : α) : ∃ t, walk f x n y = y :: t := by
  cases n with
  | zero => exact ⟨[], rfl⟩
  | succ n =>
    unfold walk
    by_cases h : f y = x
    · rw [if_pos h]; exact ⟨[], rfl⟩
    · rw [if_neg h]; exact ⟨_, rfl⟩
/-- f permutes l -/
structure PermOn (f : α → α) (l : List α) : Prop where
  nd : l.Nodup
  to : ∀ z, z ∈ l → f z ∈ l
  inj : ∀ a b, a ∈ l → b ∈ l → f a = f b → a = b
def it (f : α → α) : Nat → α → α
  | 0, x => x
  | n + 1, x => f (it f n x)
theorem it_mem {f : α → α} {l : List α} (h : PermOn f l) {x : α} (hx : x ∈ l) : ∀ n, it f n x ∈ l
  | 0 => hx
  | n + 1 => h.to _ (it_mem h hx n)
theorem it_back {f : α → α} {l : List α} (h : PermOn f l) {x : α} (hx : x ∈ l) : ∀ i k, it f (i + k) x = it f i x → it f k x = x
  | 0, k, e => by rw [Nat.zero_add] at e; exact e
  | i + 1, k, e => it_back h hx i k (h.inj _ _ (it_mem h hx _) (it_mem h hx _) (by
      have : i + 1 + k = (i + k) + 1 := by omega
      rw [this] at e
      exact e))
theorem least (p : Nat → Prop) : ∀ n, p n → ∃ m, p m ∧ m ≤ n ∧ ∀ k, k < m → ¬ p k := by
  intro n
  induction n using Nat.strongRecOn with
  | _ n ih =>
    intro hn
    by_cases h : ∃ k, k < n ∧ p k
    · obtain ⟨k, hk, pk⟩ := h
      obtain ⟨m, h1, h2, h3⟩ := ih k hk pk
      exact ⟨m, h1, by omega, h3⟩
    · exact ⟨n, hn, Nat.le_refl _, fun k hk pk => h ⟨k, hk, pk⟩⟩
/-- the length of the cycle -/
theorem period {f : α → α} {l : List α} (h : PermOn f l) {x : α} (hx : x ∈ l) : ∃ N, 0 < N ∧ N ≤ l.length ∧ it f N x = x ∧ ∀ k, 0 < k → k < N → it f k x ≠ x := by
  have e : ∃ i k, i + k ≤ l.length ∧ 0 < k ∧ it f (i + k) x = it f i x := by
    apply Classical.byContradiction
    intro no
    have nd : ((List.range (l.length + 1)).map fun n => it f n x).Nodup := by
      refine List.pairwise_map.mpr ?_
      refine List.Pairwise.imp_of_mem ?_ List.pairwise_lt_range
      intro i j hi hj hij q
      have hj := List.mem_range.mp hj
      exact no ⟨i, j - i, by omega, by omega, by rw [show i + (j - i) = j by omega]; exact q.symm⟩
    have := len_sub nd (b := l) fun z hz => by
      obtain ⟨n, _, rfl⟩ := List.mem_map.mp hz
      exact it_mem h hx n
    simp at this
    omega
  obtain ⟨i, k, h1, h2, h3⟩ := e
  obtain ⟨N, ⟨p1, p2⟩, p3, p4⟩ := least (fun n => 0 < n ∧ it f n x = x) k ⟨h2, it_back h hx i k h3⟩
  exact ⟨N, p1, by omega, p2, fun j hj1 hj2 e => p4 j hj2 ⟨hj1, e⟩⟩
theorem it_add (f : α → α) (x : α) (i : Nat) : ∀ k, it f (i + k) x = it f k (it f i x)
  | 0 => rfl
  | k + 1 => congrArg f (it_add f x i k)
/-- the way from the k-th on -/
def way (f : α → α) (x : α) (k : Nat) : Nat → List α
  | 0 => []
  | n + 1 => it f k x :: way f x (k + 1) n
theorem way_mem {f : α → α} {x z : α} : ∀ {n k : Nat}, z ∈ way f x k n ↔ ∃ j, k ≤ j ∧ j < k + n ∧ z = it f j x
  | 0, k => by
    constructor
    · intro h; cases h
    · rintro ⟨j, h1, h2, _⟩; omega
  | n + 1, k => by
    unfold way
    rw [List.mem_cons, way_mem]
    constructor
    · rintro (h | ⟨j, h1, h2, h3⟩)
      · exact ⟨k, Nat.le_refl _, by omega, h⟩
      · exact ⟨j, by omega, by omega, h3⟩
    · rintro ⟨j, h1, h2, h3⟩
      by_cases e : j = k
      · subst e; exact .inl h3
      · exact .inr ⟨j, by omega, by omega, h3⟩
theorem way_len {f : α → α} {x : α} : ∀ {n k : Nat}, (way f x k n).length = n
  | 0, _ => rfl
  | n + 1, k => by unfold way; rw [List.length_cons, way_len]
theorem walk_way {f : α → α} {x : α} {N : Nat} (hN : it f N x = x) (hm : ∀ k, 0 < k → k < N → it f k x ≠ x) : ∀ (n k fuel : Nat), k + (n + 1) = N → n ≤ fuel → walk f x fuel (it f k x) = way f x k (n + 1)
  | 0, k, fuel, e, _ => by
    have ek : f (it f k x) = x := by
      have : it f (k + 1) x = x := by rw [show k + 1 = N by omega]; exact hN
      exact this
    cases fuel with
    | zero => rfl
    | succ m =>
      unfold walk
      rw [if_pos ek]
      rfl
  | n + 1, k, fuel, e, hf => by
    cases fuel with
    | zero => omega
    | succ m =>
      have ek : f (it f k x) ≠ x := hm (k + 1) (by omega) (by omega)
      have ih := walk_way hN hm n (k + 1) m (by omega) (by omega)
      unfold walk
      rw [if_neg ek]
      show it f k x :: walk f x m (it f (k + 1) x) = _
      rw [ih]
      rfl
theorem way_cyc {f : α → α} {x : α} {N : Nat} (hN : it f N x = x) : ∀ n k, k + (n + 1) = N → CycAt f x (way f x k (n + 1))
  | 0, k, e => by
    show f (it f k x) = x
    have : it f (k + 1) x = x := by rw [show k + 1 = N by omega]; exact hN
    exact this
  | n + 1, k, e => ⟨rfl, way_cyc hN n (k + 1) (by omega)⟩
theorem it_ne {f : α → α} {l : List α} (h : PermOn f l) {x : α} (hx : x ∈ l) {N : Nat} (hm : ∀ k, 0 < k → k < N → it f k x ≠ x) {i j : Nat} (hi : i < j) (hj : j < N) : it f i x ≠ it f j x := fun e => by
  refine hm (j - i) (by omega) (by omega) (it_back h hx i (j - i) ?_)
  rw [show i + (j - i) = j by omega]
  exact e.symm
theorem way_nd {f : α → α} {l : List α} (h : PermOn f l) {x : α} (hx : x ∈ l) {N : Nat} (hm : ∀ k, 0 < k → k < N → it f k x ≠ x) : ∀ n k, k + n ≤ N → (way f x k n).Nodup
  | 0, _, _ => List.nodup_nil
  | n + 1, k, e => by
    unfold way
    refine List.nodup_cons.mpr ⟨fun q => ?_, way_nd h hx hm n (k + 1) (by omega)⟩
    obtain ⟨j, h1, h2, h3⟩ := way_mem.mp q
    exact it_ne h hx hm (by omega) (by omega) h3
/-- the cycle of x -/
def cyc (f : α → α) (l : List α) (x : α) : List α := walk f x l.length x
theorem cyc_is {f : α → α} {l : List α} (h : PermOn f l) {x : α} (hx : x ∈ l) : ∃ N, 0 < N ∧ N ≤ l.length ∧ it f N x = x ∧ (∀ k, 0 < k → k < N → it f k x ≠ x) ∧ cyc f l x = way f x 0 N := by
  obtain ⟨N, h1, h2, h3, h4⟩ := period h hx
  refine ⟨N, h1, h2, h3, h4, ?_⟩
  have := walk_way h3 h4 (N - 1) 0 l.length (by omega) (by omega)
  rw [show N - 1 + 1 = N by omega] at this
  exact this
theorem cyc_facts {f : α → α} {l : List α} (h : PermOn f l) {x : α} (hx : x ∈ l) : ∃ t, cyc f l x = x :: t ∧ CycAt f x (x :: t) ∧ (x :: t).Nodup ∧ ∀ z, z ∈ x :: t → z ∈ l := by
  obtain ⟨N, h1, h2, h3, h4, e⟩ := cyc_is h hx
  obtain ⟨n, rfl⟩ : ∃ n, N = n + 1 := ⟨N - 1, by omega⟩
  have ep : way f x 0 (n + 1) = x :: way f x 1 n := rfl
  rw [e, ep]
  refine ⟨_, rfl, ?_, ?_, fun z hz => ?_⟩
  · rw [← ep]; exact way_cyc h3 n 0 (by omega)
  · rw [← ep]; exact way_nd h hx h4 _ 0 (by omega)
  · rw [← ep] at hz
    obtain ⟨j, _, _, rfl⟩ := way_mem.mp hz
    exact it_mem h hx j
theorem it_mod {f : α → α} {x : α} {N : Nat} (hN : it f N x = x) (h0 : 0 < N) (n : Nat) : ∃ j, j < N ∧ it f n x = it f j x := by
  induction n with
  | zero => exact ⟨0, h0, rfl⟩
  | succ n ih =>
    obtain ⟨j, hj, e⟩ := ih
    by_cases h : j + 1 = N
    · exact ⟨0, h0, by show f (it f n x) = x; rw [e]; show it f (j + 1) x = x; rw [h]; exact hN⟩
    · exact ⟨j + 1, by omega, by show f (it f n x) = f (it f j x); rw [e]⟩
/-- the cycle holds what can be reached -/
theorem cyc_mem {f : α → α} {l : List α} (h : PermOn f l) {x z : α} (hx : x ∈ l) : z ∈ cyc f l x ↔ ∃ n, z = it f n x := by
  obtain ⟨N, h1, h2, h3, h4, e⟩ := cyc_is h hx
  rw [e, way_mem]
  constructor
  · rintro ⟨j, _, _, h⟩; exact ⟨j, h⟩
  · rintro ⟨n, hn⟩
    obtain ⟨j, hj, ej⟩ := it_mod h3 h1 n
    exact ⟨j, Nat.zero_le _, by omega, hn.trans ej⟩
theorem it_inv {f : α → α} {l : List α} (h : PermOn f l) {x : α} (hx : x ∈ l) (n : Nat) : ∃ k, it f k (it f n x) = x := by
  obtain ⟨N, h1, h2, h3, h4, e⟩ := cyc_is h hx
  obtain ⟨j, hj, ej⟩ := it_mod h3 h1 n
  refine ⟨N - j, ?_⟩
  rw [ej, ← it_add, show j + (N - j) = N by omega]
  exact h3
theorem cyc_dis {f : α → α} {l : List α} (h : PermOn f l) {x y : α} (hx : x ∈ l) (hy : y ∈ l) (hn : y ∉ cyc f l x) : ∀ z, z ∈ cyc f l y → z ∉ cyc f l x := fun z h1 h2 => by
  obtain ⟨a, rfl⟩ := (cyc_mem h hy).mp h1
  obtain ⟨b, hb⟩ := (cyc_mem h hx).mp h2
  obtain ⟨k, hk⟩ := it_inv h hy a
  refine hn ((cyc_mem h hx).mpr ⟨b + k, ?_⟩)
  rw [it_add, ← hb]
  exact hk.symm
/-- the sign: inversions and cycles -/
theorem sign_eq {lt : α → α → Bool} (T : Tot lt) {f : α → α} {l : List α} (h : PermOn f l) (hs : l.Pairwise fun a b => lt b a = false) :
    (inv lt (l.map f) + ((goC f (cyc f l) l []).map fun c => c.length - 1).sum) % 2 = 0 := by
  have e : (l.map fun z => if z ∈ ([] : List α) then z else f z) = l.map f := List.map_congr_left fun z _ => if_neg (fun q => by cases q)
  have ndf : (l.map f).Nodup := List.pairwise_map.mpr (List.Pairwise.imp_of_mem (fun {a b} ha hb ne e => ne (h.inj a b ha hb e)) h.nd)
  have := goC_par T (l := l) (f := f) (cyc := cyc f l) (fun x hx _ => cyc_facts h hx) (fun x y hx hy _ _ hn => cyc_dis h hx hy hn) l [] (fun _ h => h) (by rw [e]; exact ndf) (fun z hz _ _ => hz) (fun _ _ _ _ _ _ q => by cases q)
  rw [e, inv_sorted hs] at this
  exact this
end
end Dv

namespace Dv
open PySem L2 PyProof.Rows
theorem hu1 {X : Cx} {k : Nat} (hr : Room k X.A) : X.A.units + 1 < cLine := by have := hr.units; omega
/-! ### laws about permutations: what the program does -/
def labs (qs : List (Str × Str)) : List Str := qs.map Prod.fst
def fOf (qs : List (Str × Str)) (x : Str) : Str := ((qs.find? fun q => decide (q.1 = x)).map (·.2)).getD x
def dicOf (qs : List (Str × Str)) : List (Str × PyData) := qs.map fun q => (q.1, .str q.2)
structure VP (qs : List (Str × Str)) : Prop where
  nd : (labs qs).Nodup
  perm : (qs.map Prod.snd).Perm (labs qs)
  len : qs.length ≤ 13
  srt : sortedS (labs qs) = true
  tx : ∀ z ∈ labs qs, ∃ l, z = Sx l ∧ Tx l ∧ l.length ≤ 20
theorem find_fst {qs : List (Str × Str)} (nd : (labs qs).Nodup) {q : Str × Str} (h : q ∈ qs) : qs.find? (fun p => decide (p.1 = q.1)) = some q := by
  induction qs with
  | nil => cases h
  | cons p qs ih =>
    obtain ⟨h1, h2⟩ := List.nodup_cons.mp nd
    rcases List.mem_cons.mp h with e | h
    · rw [e]; simp
    · have ne : p.1 ≠ q.1 := fun e => h1 (by rw [e]; exact List.mem_map_of_mem h)
      rw [List.find?_cons_of_neg (by simpa using ne)]
      exact ih h2 h
theorem fOf_at {qs : List (Str × Str)} (v : VP qs) {q : Str × Str} (h : q ∈ qs) : fOf qs q.1 = q.2 := by
  unfold fOf
  rw [find_fst v.nd h]
  rfl
theorem fOf_map {qs : List (Str × Str)} (v : VP qs) : (labs qs).map (fOf qs) = qs.map Prod.snd := by
  unfold labs
  rw [List.map_map]
  exact List.map_congr_left fun q h => fOf_at v h
theorem VP.on {qs : List (Str × Str)} (v : VP qs) : PermOn (fOf qs) (labs qs) where
  nd := v.nd
  to z hz := by
    obtain ⟨q, hq, rfl⟩ := List.mem_map.mp hz
    rw [fOf_at v hq]
    exact v.perm.mem_iff.mp (List.mem_map_of_mem hq)
  inj a b ha hb e := inj_on (f := fOf qs) (l := labs qs) (by rw [fOf_map v]; exact (v.perm.nodup_iff).mpr v.nd) ha hb e
theorem valP_at {qs : List (Str × Str)} (v : VP qs) {z : Str} (hz : z ∈ labs qs) : valP (dicOf qs) z = some (.str (fOf qs z)) := by
  obtain ⟨q, hq, rfl⟩ := List.mem_map.mp hz
  have : valP (dicOf qs) q.1 = (qs.find? fun p => decide (p.1 = q.1)).map fun p => PyData.str p.2 := by
    unfold valP dicOf
    rw [List.find?_map]
    simp [Function.comp_def]
  rw [this, find_fst v.nd hq, fOf_at v hq]
  rfl
theorem way_snoc {α : Type} {f : α → α} {x : α} : ∀ n k, way f x k (n + 1) = way f x k n ++ [it f (k + n) x]
  | 0, k => rfl
  | n + 1, k => by
    show it f k x :: way f x (k + 1) (n + 1) = _
    rw [way_snoc n (k + 1), show k + 1 + n = k + (n + 1) by omega]
    rfl
theorem atI_last {α : Type} {xs : List α} {y : α} {i : Int} (hi : i = -1) : atI (xs ++ [y]) i = some y := by
  subst hi
  simp [atI, ixN]
  rw [if_pos (by omega)]
  have : (-1 + ((xs.length : Int) + 1)).toNat = xs.length := by omega
  simp [this]
section
variable {K : PySem.W.Frag} {Pg : Program} {w : World} {m : Sto}
theorem ev_neg1 {ρ : Rho} {P : PV} (p : P (.d (.int (-1))) m) : Ev K (tUn (rU fun i => .int (-i)) (tC (.int 1))) ρ m P := ev_un <| ev_int fun x F H Q o S q => ⟨1, o, q _ m _ F H p Step.refl S rfl⟩
def W_cycle_from : WT := fun ss m P => ∃ (a : Addr) (x : Str) (qs : List (Str × Str)), ss = [.m a, .d (.str x)] ∧ VP qs ∧ x ∈ labs qs ∧ m a = some (.dic (dicOf qs)) ∧ P (.d (.tuple ((cyc (fOf qs) (labs qs) x).map .str))) m
def t_cycle_from (K : PySem.W.Frag) (Pg : Program) (w : World) : TS :=
  (tSeq (tAsg (tLst (tCons (tVar 1) tNil)) (gName 2))
    (tSeq (tWhile (tTest (tOp (rNeU K) (tDGet (tVar 0) (tOp (rIx K) (tVar 2) (tUn (rU fun i => .int (-i)) (tC (.int 1))))) (tVar 1)))
    (tDrop (tBM K "list" rAppend (tVar 2) (tCons (tDGet (tVar 0) (tOp (rIx K) (tVar 2) (tUn (rU fun i => .int (-i)) (tC (.int 1))))) tNil))))
    (tRet (tCB (rTupleC K) (tCons (tVar 2) tNil)))))
theorem rd_cycle_from (ss : List Sl) (m : Sto) (P : PV) (h : W_cycle_from ss m P) : Wp K (t_cycle_from K Pg w) (rho ["images", "first", "cycle"] ss) m { nx := fun _ m' => P (.d .none) m', rt := P } := by
  obtain ⟨a, x, qs, rfl, v, hx, hm, p⟩ := h
  obtain ⟨N, n1, n2, n3, n4, ec⟩ := cyc_is v.on hx
  have hN : N ≤ 13 := by have := v.len; unfold labs at n2; rw [List.length_map] at n2; omega
  rw [ec] at p
  refine wp_seq <| wp_set <| ev_lstM <| ea_cons <| ev_var rfl <| ea_nil ⟨[_], rfl, by simp, fun c hc => ?_⟩
  have ac : a ≠ c := fun e => by rw [← e, hm] at hc; cases hc
  refine wp_seq <| wp_while (fun n ρ' m' => ∃ k, n + k = N ∧ k < N ∧ ρ' = [some (.m a), some (.d (.str x)), some (.m c)] ∧ m' = put m c (.lst ((way (fOf qs) x 0 (k + 1)).map .str))) N ⟨0, by omega, by omega, rfl, rfl⟩ ?_
  rintro n ρ' m' ⟨k, hk, hk2, rfl, rfl⟩
  have hmem := it_mem v.on hx k
  have last : (way (fOf qs) x 0 (k + 1)).map PyData.str = (way (fOf qs) x 0 k).map PyData.str ++ [.str (it (fOf qs) k x)] := by
    rw [way_snoc, List.map_append, Nat.zero_add]
    rfl
  have get : ∀ {ρ : Rho} {P' : PV}, ρ[0]? = some (some (.m a)) → ρ[2]? = some (some (.m c)) → P' (.d (.str (it (fOf qs) (k + 1) x))) (put m c (.lst ((way (fOf qs) x 0 (k + 1)).map .str))) → Ev K (tDGet (tVar 0) (tOp (rIx K) (tVar 2) (tUn (rU fun i => .int (-i)) (tC (.int 1))))) ρ (put m c (.lst ((way (fOf qs) x 0 (k + 1)).map .str))) P' := fun {ρ P'} e1 e2 q =>
    ev_dget <| ev_var e1 ⟨a, rfl, ev_op <| ev_var e2 <| ev_neg1 <| rx_lstM put_same (by rw [last]; exact atI_last rfl) ⟨dicOf qs, _, _, rfl, by rw [put_ne ac]; exact hm, valP_at v hmem, q⟩⟩
  refine et_test <| ev_op <| get rfl rfl <| ev_var rfl <| re_neS ⟨_, rfl, ite_b (fun q => ?_) (fun q => ?_)⟩
  · have hne : it (fOf qs) (k + 1) x ≠ x := by simpa using q
    have hkN : k + 1 < N := by
      by_cases e : k + 1 = N
      · rw [e] at hne; exact absurd n3 hne
      · omega
    refine wp_drop <| ev_bm <| ev_var rfl ⟨ty_listM put_same, ea_cons <| get rfl rfl <| ea_nil <| rm_append put_same (by rw [List.length_map, way_len]; omega) ⟨n - 1, by omega, k + 1, by omega, hkN, rfl, ?_⟩⟩
    rw [put_put, way_snoc (k + 1) 0, List.map_append, Nat.zero_add]
    rfl
  · have he : it (fOf qs) (k + 1) x = x := by simpa using q
    have hkN : k + 1 = N := by
      by_cases e : k + 1 = N
      · exact e
      · exact absurd he (n4 (k + 1) (by omega) (by omega))
    refine wp_ret <| ev_del <| ev_cb <| ea_cons <| ev_var rfl <| ea_nil <| rc_tupleM put_same ⟨c, _, put_same, ?_⟩
    rw [del_put hc, hkN]
    exact p
end
end Dv

namespace Dv
open PySem L2 PyProof.Rows
def tupS (c : List Str) : PyData := .tuple (c.map .str)
def cycs (qs : List (Str × Str)) : List (List Str) := goC (fOf qs) (cyc (fOf qs) (labs qs)) (labs qs) []
theorem goC_pos {α : Type} [DecidableEq α] {f : α → α} {cyc : α → List α} {x : α} {r seen : List α} (h1 : f x ≠ x) (h2 : x ∉ seen) : goC f cyc (x :: r) seen = cyc x :: goC f cyc r (seen ++ cyc x) := by
  show (if f x ≠ x ∧ x ∉ seen then _ else _) = _
  rw [if_pos ⟨h1, h2⟩]
theorem goC_neg {α : Type} [DecidableEq α] {f : α → α} {cyc : α → List α} {x : α} {r seen : List α} (h : ¬ (f x ≠ x ∧ x ∉ seen)) : goC f cyc (x :: r) seen = goC f cyc r seen := by
  show (if f x ≠ x ∧ x ∉ seen then _ else _) = _
  rw [if_neg h]
theorem goC_mem {α : Type} [DecidableEq α] {f : α → α} {cyc : α → List α} : ∀ {xs seen : List α} {c : List α}, c ∈ goC f cyc xs seen → ∃ x, x ∈ xs ∧ f x ≠ x ∧ c = cyc x
  | [], _, _, h => by cases h
  | x :: r, seen, c, h => by
    by_cases hh : f x ≠ x ∧ x ∉ seen
    · rw [goC_pos hh.1 hh.2] at h
      rcases List.mem_cons.mp h with e | h
      · exact ⟨x, List.mem_cons_self, hh.1, e⟩
      · obtain ⟨y, a, b, d⟩ := goC_mem h
        exact ⟨y, List.mem_cons_of_mem _ a, b, d⟩
    · rw [goC_neg hh] at h
      obtain ⟨y, a, b, d⟩ := goC_mem h
      exact ⟨y, List.mem_cons_of_mem _ a, b, d⟩
theorem goC_len {α : Type} [DecidableEq α] {f : α → α} {cyc : α → List α} : ∀ (xs seen : List α), (goC f cyc xs seen).length ≤ xs.length
  | [], _ => Nat.le_refl _
  | x :: r, seen => by
    by_cases hh : f x ≠ x ∧ x ∉ seen
    · rw [goC_pos hh.1 hh.2]
      have := goC_len (f := f) (cyc := cyc) r (seen ++ cyc x)
      simp; omega
    · rw [goC_neg hh]
      have := goC_len (f := f) (cyc := cyc) r seen
      simp; omega
theorem labs_len {qs : List (Str × Str)} : (labs qs).length = qs.length := List.length_map ..
theorem labs_drop {qs : List (Str × Str)} {i : Nat} {q : Str × Str} (h : qs[i]? = some q) : (labs qs).drop i = q.1 :: (labs qs).drop (i + 1) := by
  have hi := (List.getElem?_eq_some_iff.mp h).1
  have hl : i < (labs qs).length := by rw [labs_len]; exact hi
  rw [List.drop_eq_getElem_cons hl]
  congr 1
  have : (labs qs)[i]? = some q.1 := by unfold labs; rw [List.getElem?_map, h]; rfl
  rw [List.getElem?_eq_getElem hl] at this
  exact Option.some.inj this
section
variable {K : PySem.W.Frag} {Pg : Program} {w : World} {m : Sto}
def W_cycles_of : WT := fun ss m P => ∃ qs : List (Str × Str), ss = [.d (.tuple (qs.map pqD))] ∧ VP qs ∧ P (.d (.tuple ((cycs qs).map tupS))) m
def t_cycles_of (K : PySem.W.Frag) (Pg : Program) (w : World) : TS :=
  (tSeq (tAsg (tCB (rDictT K) (tCons (tVar 0) tNil)) (gName 1))
    (tSeq (tAsg (tLst tNil) (gName 2))
    (tSeq (tAsg (tCB (rSet0K Pg w) tNil) (gName 3))
    (tSeq (tFor (iSeqU K (tVar 0)) (gTup K 2 (gCons (gName 4) (gCons (gName 5) gNil)))
    (tIfS (tAnd (tTest (tOp (rNeU K) (tVar 4) (tVar 5))) (tTest (tOp (rNotInU K Pg w) (tVar 4) (tVar 3))))
    (tSeq (tAsg (tCall (SpD K W_cycle_from) [] E0 (tCons (tVar 1) (tCons (tVar 4) tNil))) (gName 6))
    (tSeq (tDrop (tBM K "list" rAppend (tVar 2) (tCons (tVar 6) tNil)))
    (tFor (iSeqU K (tVar 6)) (gName 7)
    (tDrop (tSAddK Pg w (tVar 3) (tCons (tVar 7) tNil))))))
    tNext))
    (tRet (tCB (rTupleC K) (tCons (tVar 2) tNil)))))))
theorem rd_cycles_of (ss : List Sl) (m : Sto) (P : PV) (h : W_cycles_of ss m P) : Wp K (t_cycles_of K Pg w) (rho ["permutation", "images", "cycles", "seen", "first", "image", "cycle", "name"] ss) m { nx := fun _ m' => P (.d .none) m', rt := P } := by
  obtain ⟨qs, rfl, v, p⟩ := h
  have hl := v.len
  refine wp_seq <| wp_set <| ev_cb <| ea_cons <| ev_var rfl <| ea_nil <| rc_dictT v.nd fun a ha => ?_
  refine wp_seq <| wp_set <| ev_lstM <| ea_nil ⟨[], rfl, by simp, fun c hc => ?_⟩
  refine wp_seq <| wp_set <| ev_cb <| ea_nil <| rc_set0 fun s hs => ?_
  have ac : a ≠ c := fun e => by rw [← e, put_same] at hc; cases hc
  have cs : c ≠ s := fun e => by rw [← e, put_same] at hs; cases hs
  have as : a ≠ s := fun e => by rw [← e, put_ne ac, put_same] at hs; cases hs
  have hc' : m c = none := by rwa [put_ne (Ne.symm ac)] at hc
  have hs' : m s = none := by rwa [put_ne (Ne.symm cs), put_ne (Ne.symm as)] at hs
  let M : List (List Str) → List Str → Sto := fun u S => put (put (put m a (.dic (dicOf qs))) c (.lst (u.map tupS))) s (setM Pg w s S)
  have Ma : ∀ u S, M u S a = some (.dic (dicOf qs)) := fun u S => by show put (put (put m a _) c _) s _ a = _; rw [put_ne as, put_ne ac, put_same]
  have Mc : ∀ u S, M u S c = some (.lst (u.map tupS)) := fun u S => by show put (put (put m a _) c _) s _ c = _; rw [put_ne cs, put_same]
  have Ms : ∀ u S, M u S s = some (setM Pg w s S) := fun u S => put_same
  have Pc : ∀ u S u', put (M u S) c (.lst (u'.map tupS)) = M u' S := fun u S u' => by
    show put (put (put (put m a _) c _) s _) c _ = _
    rw [put_comm (Ne.symm cs), put_put]
  have Ps : ∀ u S S', put (M u S) s (setM Pg w s S') = M u S' := fun u S S' => put_put
  have D : ∀ u S, del (del (del (M u S) s) c) a = m := fun u S => by
    show del (del (del (put (put (put m a _) c _) s _) s) c) a = _
    rw [del_put (by rw [put_ne (Ne.symm cs), put_ne (Ne.symm as)]; exact hs'), del_put (by rw [put_ne (Ne.symm ac)]; exact hc'), del_put ha]
  refine wp_seq <| wp_for <| ei_tup <| ev_var rfl ⟨_, rfl, fun i ρ' m' => ∃ (u : List (List Str)) (seen S : List Str) (s4 s5 s6 s7 : Option Sl), u ++ goC (fOf qs) (cyc (fOf qs) (labs qs)) ((labs qs).drop i) seen = cycs qs ∧ (∀ z, z ∈ S ↔ z ∈ seen) ∧ S.Nodup ∧ (∀ z, z ∈ S → z ∈ labs qs) ∧ u.length ≤ i ∧ i ≤ qs.length ∧ ρ' = [some (.d (.tuple (qs.map pqD))), some (.m a), some (.m c), some (.m s), s4, s5, s6, s7] ∧ m' = M u S, ⟨[], [], [], _, _, _, _, rfl, fun _ => Iff.rfl, List.nodup_nil, (fun z h => nomatch h), Nat.le_refl _, Nat.zero_le _, rfl, rfl⟩, fun _ _ _ _ => trivial, ?_, ?_⟩
  · rintro i x ρ' m' hx ⟨u, seen, S, s4, s5, s6, s7, hg, hS, nd, hsub, hul, hil, rfl, rfl⟩
    rw [List.getElem?_map, List.getElem?_map] at hx
    cases hq : qs[i]? with
    | none => rw [hq] at hx; cases hx
    | some q =>
    rw [hq] at hx
    cases hx
    have hqm := List.mem_of_getElem? hq
    have hi := (List.getElem?_eq_some_iff.mp hq).1
    have hql : q.1 ∈ labs qs := List.mem_map_of_mem hqm
    have hf := fOf_at v hqm
    rw [labs_drop hq] at hg
    have skip : ¬ (fOf qs q.1 ≠ q.1 ∧ q.1 ∉ seen) → u ++ goC (fOf qs) (cyc (fOf qs) (labs qs)) ((labs qs).drop (i + 1)) seen = cycs qs := fun h => by rw [goC_neg h] at hg; exact hg
    refine ⟨[4, 5], gt_pairD ?_⟩
    refine wp_if <| et_and <| et_test <| ev_op <| ev_var rfl <| ev_var rfl <| re_neS ⟨_, rfl, ite_b (fun h1 => ?_) (fun h1 => ?_)⟩
    · have h1 : q.1 ≠ q.2 := by simpa using h1
      refine et_test <| ev_op <| ev_var rfl <| ev_var rfl <| rni_set (Ms _ _) ⟨_, rfl, ite_b (fun h2 => ?_) (fun h2 => wp_next ?_)⟩
      · have h2 : q.1 ∉ S := by simpa using h2
        have h3 : q.1 ∉ seen := fun z => h2 ((hS _).mpr z)
        have h4 : fOf qs q.1 ≠ q.1 := by rw [hf]; exact Ne.symm h1
        rw [goC_pos h4 h3] at hg
        refine wp_seq <| wp_set <| ev_call0 <| ea_cons <| ev_var rfl <| ea_cons <| ev_var rfl <| ea_nil ⟨a, q.1, qs, rfl, v, hql, Ma _ _, ?_⟩
        obtain ⟨t, et, _, cn, csub⟩ := cyc_facts v.on hql
        refine wp_seq <| wp_drop <| ev_bm <| ev_var rfl ⟨ty_listM (Mc _ _), ea_cons <| ev_var rfl <| ea_nil <| rm_append (Mc _ _) (by rw [List.length_map]; omega) ?_⟩
        have e1 : u.map tupS ++ [PyData.tuple ((cyc (fOf qs) (labs qs) q.1).map .str)] = (u ++ [cyc (fOf qs) (labs qs) q.1]).map tupS := by rw [List.map_append]; rfl
        rw [e1, Pc]
        refine wp_forL (toD := PyData.str) <| ei_tup <| ev_var rfl ⟨_, rfl, cyc (fOf qs) (labs qs) q.1, fun j ρ' m' => ∃ (S' : List Str) (s7 : Option Sl), (∀ z, z ∈ S' ↔ z ∈ seen ++ (cyc (fOf qs) (labs qs) q.1).take j) ∧ S'.Nodup ∧ (∀ z, z ∈ S' → z ∈ labs qs) ∧ ρ' = [some (.d (.tuple (qs.map pqD))), some (.m a), some (.m c), some (.m s), some (.d (.str q.1)), some (.d (.str q.2)), some (.d (.tuple ((cyc (fOf qs) (labs qs) q.1).map .str))), s7] ∧ m' = M (u ++ [cyc (fOf qs) (labs qs) q.1]) S', rfl, ⟨S, _, fun z => by rw [List.take_zero, List.append_nil]; exact hS z, nd, hsub, rfl, rfl⟩, fun _ _ _ _ => trivial, ?_, ?_⟩
        · rintro j z ρ' m' hz ⟨S', s7, hS', nd', hsub', rfl, rfl⟩
          have hzm := List.mem_of_getElem? hz
          have hzl : z ∈ labs qs := csub z (by rw [← et]; exact hzm)
          have hlen : S'.length ≤ 13 := Nat.le_trans (len_sub nd' hsub') (by rw [labs_len]; exact hl)
          refine wp_drop <| ev_sadd <| ev_var rfl ⟨s, S', rfl, Ms _ _, ea_cons <| ev_var rfl <| ea_nil ⟨z, rfl, Ms _ _, by omega, ?_⟩⟩
          rw [Ps]
          have et2 : (cyc (fOf qs) (labs qs) q.1).take (j + 1) = (cyc (fOf qs) (labs qs) q.1).take j ++ [z] := by rw [List.take_add_one, hz]; rfl
          by_cases hin : z ∈ S'
          · rw [if_pos hin]
            refine ⟨S', _, fun y => ?_, nd', hsub', rfl, rfl⟩
            rw [et2, ← List.append_assoc, List.mem_append, ← hS' y]
            exact ⟨.inl, fun h => h.elim id fun h => by rw [List.mem_singleton.mp h]; exact hin⟩
          · rw [if_neg hin]
            refine ⟨S' ++ [z], _, fun y => ?_, ?_, fun y hy => ?_, rfl, rfl⟩
            · rw [et2, ← List.append_assoc, List.mem_append, List.mem_append, ← hS' y]
            · rw [List.nodup_append]
              exact ⟨nd', by simp, fun x hx y hy e => by rw [List.mem_singleton.mp hy] at e; rw [e] at hx; exact hin hx⟩
            · rcases List.mem_append.mp hy with h | h
              · exact hsub' y h
              · rw [List.mem_singleton.mp h]; exact hzl
        · rintro ρ' m' ⟨S', s7, hS', nd', hsub', rfl, rfl⟩
          rw [List.take_of_length_le (Nat.le_refl _)] at hS'
          exact ⟨u ++ [cyc (fOf qs) (labs qs) q.1], seen ++ cyc (fOf qs) (labs qs) q.1, S', _, _, _, _, by rw [List.append_assoc]; exact hg, hS', nd', hsub', by simp; omega, by omega, rfl, rfl⟩
      · have h2 : q.1 ∈ S := by simpa using h2
        exact ⟨u, seen, S, _, _, _, _, skip fun z => z.2 ((hS _).mp h2), hS, nd, hsub, by omega, by omega, rfl, rfl⟩
    · have h1 : q.1 = q.2 := by simpa using h1
      refine wp_next ⟨u, seen, S, _, _, _, _, skip fun z => z.1 (by rw [hf]; exact h1.symm), hS, nd, hsub, by omega, by omega, rfl, rfl⟩
  · rintro ρ' m' ⟨u, seen, S, s4, s5, s6, s7, hg, hS, nd, hsub, hul, hil, rfl, rfl⟩
    rw [List.length_map, List.length_map, ← labs_len, List.drop_length] at hg
    have hg : u = cycs qs := by rw [← hg]; simp [goC]
    refine wp_ret <| ev_del <| ev_del <| ev_del <| ev_cb <| ea_cons <| ev_var rfl <| ea_nil <| rc_tupleM (Mc _ _) ⟨s, _, Ms _ _, c, .lst (u.map tupS), ?_, a, .dic (dicOf qs), ?_, ?_⟩
    · rw [del_ne cs]; exact Mc _ _
    · rw [del_ne ac, del_ne as]; exact Ma _ _
    · rw [D, hg]
      exact p
end
end Dv

namespace Dv
open PySem L2 PyProof.Rows
def ltS (a b : Str) : Bool := decide (a.cps.toList < b.cps.toList)
theorem ltS_eq (a b : Str) : ltS a b = Spec.ltCps a.cps.toList b.cps.toList := (ltCps_eq _ _).symm
theorem str_eq {a b : Str} (h : a.cps.toList = b.cps.toList) : a = b := PySem.W.str_of_cps h
theorem ltS_tot : Tot ltS := fun a b ne => by
  rw [ltS_eq, ltS_eq]
  cases h : Spec.ltCps b.cps.toList a.cps.toList with
  | true => exact lt_asym h
  | false =>
    cases h2 : Spec.ltCps a.cps.toList b.cps.toList with
    | true => rfl
    | false => exact absurd (str_eq (ge_anti h h2)) ne
theorem ltS_irr (a : Str) : ltS a a = false := by
  rw [ltS_eq]
  exact ge_self _
theorem VP.pw {qs : List (Str × Str)} (v : VP qs) : (labs qs).Pairwise fun a b => ltS b a = false := (sorted_pw v.srt).imp fun {a b} h => by rw [ltS_eq]; exact h
def oddN (qs : List (Str × Str)) : Nat := ((cycs qs).map fun c => c.length - 1).sum
theorem VP.sign {qs : List (Str × Str)} (v : VP qs) : (inv ltS (qs.map Prod.snd) + oddN qs) % 2 = 0 := by
  have := sign_eq ltS_tot v.on v.pw
  rw [fOf_map v] at this
  exact this
theorem cycs_ne {qs : List (Str × Str)} {c : List Str} (h : c ∈ cycs qs) : ∃ x t, c = x :: t := by
  obtain ⟨x, _, _, e⟩ := goC_mem h
  obtain ⟨t, e2⟩ := walk_ne (fOf qs) x (labs qs).length x
  exact ⟨x, t, by rw [e]; exact e2⟩
theorem cycs_len (qs : List (Str × Str)) : (cycs qs).length ≤ qs.length := by
  have := goC_len (f := fOf qs) (cyc := cyc (fOf qs) (labs qs)) (labs qs) []
  rw [labs_len] at this
  exact this
def gapI (c : List Str) : Int := if c.headD "" = "" then (c.length : Int) - 1 else (c.length : Int) + 1
section
variable {K : PySem.W.Frag} {Pg : Program} {w : World} {m : Sto}
def W_is_odd : WT := fun ss m P => ∃ qs : List (Str × Str), ss = [.d (.tuple (qs.map pqD))] ∧ VP qs ∧ P (.d (.bool (decide (oddN qs % 2 = 1)))) m
def t_is_odd (K : PySem.W.Frag) (Pg : Program) (w : World) : TS :=
  (tRet (tOp (rEqU K) (tOp (rI (fun _ j => 0 < j) fun i j => .int (i % j)) (tCB (rSum K) (tCons (tLc (iSeqU K (tCall (SpD K W_cycles_of) [] E0 (tCons (tVar 0) tNil))) (gName 1) tYes (tOp (rI0 fun i j => .int (i - j)) (tCB (rLenC K) (tCons (tVar 1) tNil)) (tC (.int 1))) [1]) tNil)) (tC (.int 2))) (tC (.int 1))))
theorem sum_less : ∀ {cs : List (List Str)}, (∀ c ∈ cs, ∃ x t, c = x :: t) → (cs.map fun c => (c.length : Int) - 1).sum = (((cs.map fun c => c.length - 1).sum : Nat) : Int)
  | [], _ => rfl
  | c :: cs, h => by
    obtain ⟨x, t, rfl⟩ := h c List.mem_cons_self
    have ih := sum_less fun d hd => h d (List.mem_cons_of_mem _ hd)
    rw [List.map_cons, List.map_cons, List.sum_cons, List.sum_cons, ih]
    simp
theorem eqv_odd (n : Nat) : PyData.eqv (.int ((n : Int) % 2)) (.int 1) = decide (n % 2 = 1) := by
  show decide _ = _
  by_cases h : n % 2 = 1
  · rw [decide_eq_true h]; exact decide_eq_true (by omega)
  · rw [decide_eq_false h]; exact decide_eq_false (by omega)
theorem rd_is_odd (ss : List Sl) (m : Sto) (P : PV) (h : W_is_odd ss m P) : Wp K (t_is_odd K Pg w) (rho ["permutation", "cycle"] ss) m { nx := fun _ m' => P (.d .none) m', rt := P } := by
  obtain ⟨qs, rfl, v, p⟩ := h
  have hl := v.len
  have hc := cycs_len qs
  refine wp_ret <| ev_op <| ev_op <| ev_cb <| ea_cons <| ev_lcF (toD := tupS) List.mem_cons_self <| ei_tup <| ev_call0 <| ea_cons <| ev_var rfl <| ea_nil ⟨qs, rfl, v, _, rfl, cycs qs, fun _ => true, PyData.int ∘ fun c => (c.length : Int) - 1, rfl, trivial, by omega, fun c hc => ⟨et_yes ⟨rfl, rfl⟩, fun _ => ev_op <| ev_cb <| ea_cons <| ev_var rfl <| ea_nil <| rc_lenT <| ev_int <| rs_int ⟨by rw [List.length_map]; rfl, rfl⟩⟩, ea_nil ?_⟩
  rw [List.filter_eq_self.mpr (fun _ _ => rfl), ← List.map_map]
  refine rc_sumL <| ev_int <| rp_mod (by decide) <| ev_int <| re_eq (shaped_int _) (shaped_int _) ?_
  rw [sum_less fun c hc => cycs_ne hc, eqv_odd]
  exact p
def W_has_gap : WT := fun ss m P => ∃ (x : Str) (t : List Str), ss = [.d (tupS (x :: t))] ∧ P (.d (.bool (decide (x = "")))) m
def t_has_gap (K : PySem.W.Frag) (Pg : Program) (w : World) : TS :=
  (tRet (tOp (rEqU K) (tOp (rIx K) (tVar 0) (tC (.int 0))) (tC (.str ""))))
theorem rd_has_gap (ss : List Sl) (m : Sto) (P : PV) (h : W_has_gap ss m P) : Wp K (t_has_gap K Pg w) (rho ["cycle"] ss) m { nx := fun _ m' => P (.d .none) m', rt := P } := by
  obtain ⟨x, t, rfl, p⟩ := h
  exact wp_ret <| ev_op <| ev_op <| ev_var rfl <| ev_int <| rx_tup atI_zero <| ev_str <| re_eqS p
def gapN (qs : List (Str × Str)) : Int := ((cycs qs).map gapI).sum
def W_gap_distance : WT := fun ss m P => ∃ qs : List (Str × Str), ss = [.d (.tuple (qs.map pqD))] ∧ VP qs ∧ P (.d (.int (gapN qs))) m
def t_gap_distance (K : PySem.W.Frag) (Pg : Program) (w : World) : TS :=
  (tRet (tCB (rSum K) (tCons (tLc (iSeqU K (tCall (SpD K W_cycles_of) [] E0 (tCons (tVar 0) tNil))) (gName 1) tYes (tIf (tTr K (tCall (SpD K W_has_gap) [] E0 (tCons (tVar 1) tNil))) (tOp (rI0 fun i j => .int (i - j)) (tCB (rLenC K) (tCons (tVar 1) tNil)) (tC (.int 1))) (tOp (rAddU K) (tCB (rLenC K) (tCons (tVar 1) tNil)) (tC (.int 1)))) [1]) tNil)))
theorem rd_gap_distance (ss : List Sl) (m : Sto) (P : PV) (h : W_gap_distance ss m P) : Wp K (t_gap_distance K Pg w) (rho ["permutation", "cycle"] ss) m { nx := fun _ m' => P (.d .none) m', rt := P } := by
  obtain ⟨qs, rfl, v, p⟩ := h
  have hl := v.len
  have hc := cycs_len qs
  refine wp_ret <| ev_cb <| ea_cons <| ev_lcF (toD := tupS) List.mem_cons_self <| ei_tup <| ev_call0 <| ea_cons <| ev_var rfl <| ea_nil ⟨qs, rfl, v, _, rfl, cycs qs, fun _ => true, PyData.int ∘ gapI, rfl, trivial, by omega, fun c hc => ⟨et_yes ⟨rfl, rfl⟩, fun _ => ?_⟩, ea_nil ?_⟩
  · obtain ⟨x, t, rfl⟩ := cycs_ne hc
    refine ev_if <| et_tr <| ev_call0 <| ea_cons <| ev_var rfl <| ea_nil ⟨x, t, rfl, _, tr_bool, ite_b (fun h => ?_) (fun h => ?_)⟩
    · refine ev_op <| ev_cb <| ea_cons <| ev_var rfl <| ea_nil <| rc_lenT <| ev_int <| rs_int ⟨?_, rfl⟩
      have : gapI (x :: t) = ((x :: t).length : Int) - 1 := if_pos (of_decide_eq_true h)
      show _ = Sl.d (.int (gapI (x :: t)))
      rw [this, List.length_map]
    · refine ev_op <| ev_cb <| ea_cons <| ev_var rfl <| ea_nil <| rc_lenT <| ev_int <| ra_int ⟨?_, rfl⟩
      have : gapI (x :: t) = ((x :: t).length : Int) + 1 := if_neg (of_decide_eq_false h)
      show _ = Sl.d (.int (gapI (x :: t)))
      rw [this, List.length_map]
  · rw [List.filter_eq_self.mpr (fun _ _ => rfl), ← List.map_map]
    exact rc_sumL p
/-- a comprehension over pairs -/
theorem ev_lcP {ρ : Rho} {P : PV} {wi : TI} {j1 j2 : Nat} {tt : TT} {te : TE} {vs : List Nat} (hj1 : j1 ∈ vs) (hj2 : j2 ∈ vs) (h : EvI K wi ρ m fun xs C m1 => ∃ (ys : List (Str × Str)) (G : Str × Str → Bool) (F : Str × Str → PyData), xs = (ys.map pqD).map Sl.d ∧ C m1 ∧ ys.length ≤ 100000 ∧
      (∀ y ∈ ys, EvT K tt (((wipeR ρ vs).set j1 (some (.d (.str y.1)))).set j2 (some (.d (.str y.2)))) m1 (fun b m3 => b = G y ∧ m3 = m1) ∧ (G y = true → Ev K te (((wipeR ρ vs).set j1 (some (.d (.str y.1)))).set j2 (some (.d (.str y.2)))) m1 (fun s m4 => s = .d (F y) ∧ m4 = m1))) ∧
      P (.d (.list ((ys.filter G).map F))) m1) : Ev K (tLc wi (gTup K 2 (gCons (gName j1) (gCons (gName j2) gNil))) tt te vs) ρ m P := ev_lc fun σ F0 H R E S q => h σ F0 H R E S fun xs C m1 F1 H1 J ⟨ys, G, F, e, hC, hl, hs, p⟩ s1 S1 w => by
  have key : ∀ (i : Nat) (y : Str × Str), ys[i]? = some y → (((ys.take (i + 1)).filter G).map F) = if G y = true then ((ys.take i).filter G).map F ++ [F y] else ((ys.take i).filter G).map F := by
    intro i y hy
    rw [List.take_add_one, hy]
    cases hG : G y <;> simp [hG]
  refine q xs C m1 F1 H1 J ⟨fun i acc m' => m' = m1 ∧ acc = ((ys.take i).filter G).map F, ⟨rfl, by simp⟩, fun i acc m' z => by rw [z.1]; exact hC, fun i x acc m' hx iv => ?_, fun acc m' iv => ?_⟩ s1 S1 w
  · obtain ⟨rfl, rfl⟩ := iv
    subst e
    rw [List.getElem?_map, List.getElem?_map] at hx
    cases hy : ys[i]? with
    | none => rw [hy] at hx; cases hx
    | some y =>
      rw [hy] at hx
      cases hx
      obtain ⟨h1, h2⟩ := hs y (List.mem_of_getElem? hy)
      refine ⟨?_, [j1, j2], fun j hj => ?_, gt_pairD (h1.mono fun b m3 ⟨eb, em⟩ => ?_)⟩
      · have a1 : (((ys.take i).filter G).map F).length ≤ (ys.take i).length := by
          rw [List.length_map]
          exact List.length_filter_le _ _
        have a2 : i < ys.length := (List.getElem?_eq_some_iff.mp hy).1
        have a3 : (ys.take i).length = i := by rw [List.length_take]; omega
        omega
      · simp at hj
        rcases hj with rfl | rfl
        · exact hj1
        · exact hj2
      · subst eb em
        have kk := key i y hy
        refine ite_b (fun hG => ?_) (fun hG => ?_)
        · rw [if_pos hG] at kk
          exact (h2 hG).mono fun s m4 ⟨es, em⟩ => ⟨F y, es, em, kk.symm⟩
        · rw [if_neg (by rw [hG]; exact Bool.false_ne_true)] at kk
          exact ⟨rfl, kk.symm⟩
  · obtain ⟨rfl, rfl⟩ := iv
    have : xs.length = ys.length := by rw [e]; simp
    rw [this, List.take_length]
    exact p
def W_inverted : WT := fun ss m P => ∃ qs : List (Str × Str), ss = [.d (.tuple (qs.map pqD))] ∧ VP qs ∧ P (.d (.bool (decide (inv ltS (qs.map Prod.snd) % 2 = 1)))) m
def t_inverted (K : PySem.W.Frag) (Pg : Program) (w : World) : TS :=
  (tSeq (tAsg (tLc (iSeqU K (tVar 0)) (gTup K 2 (gCons (gName 4) (gCons (gName 5) gNil))) tYes (tVar 5) [4, 5]) (gName 1))
    (tSeq (tAsg (tC (.int 0)) (gName 2))
    (tSeq (tFor (iRng1 (tCons (tCB (rLenC K) (tCons (tVar 1) tNil)) tNil)) (gName 3)
    (tAsg (tOp (rAddU K) (tVar 2) (tCB (rLenC K) (tCons (tLc (iSeqU K (tSl (rSlU K) (tVar 1) (tPart (tVar 3)) tNoPart)) (gName 6) (tTest (tOp (rLtU) (tVar 6) (tOp (rIx K) (tVar 1) (tVar 3)))) (tC (.int 1)) [6]) tNil))) (gName 2)))
    (tRet (tOp (rEqU K) (tOp (rI (fun _ j => 0 < j) fun i j => .int (i % j)) (tVar 2) (tC (.int 2))) (tC (.int 1)))))))
theorem rd_inverted (ss : List Sl) (m : Sto) (P : PV) (h : W_inverted ss m P) : Wp K (t_inverted K Pg w) (rho ["permutation", "images", "pairs", "index", "label", "image", "later"] ss) m { nx := fun _ m' => P (.d .none) m', rt := P } := by
  obtain ⟨qs, rfl, v, p⟩ := h
  have hl := v.len
  refine wp_seq <| wp_set <| ev_lcP (by simp) (by simp) <| ei_tup <| ev_var rfl ⟨_, rfl, qs, fun _ => true, PyData.str ∘ Prod.snd, rfl, trivial, by omega, fun y hy => ⟨et_yes ⟨rfl, rfl⟩, fun _ => ev_var rfl ⟨rfl, rfl⟩⟩, ?_⟩
  rw [List.filter_eq_self.mpr (fun _ _ => rfl), ← List.map_map]
  have il : (qs.map Prod.snd).length = qs.length := List.length_map ..
  generalize qs.map Prod.snd = im at p il
  have il2 : (im.map PyData.str).length = im.length := List.length_map ..
  refine wp_seq <| wp_set <| ev_int <| wp_seq <| wp_rng <| ea_cons <| ev_cb <| ea_cons <| ev_var rfl <| ea_nil <| rc_lenL <| ea_nil ⟨im.length, fun i ρ' m' => ∃ (n : Nat) (s3 : Option Sl), n + inv ltS (im.drop i) = inv ltS im ∧ ρ' = [some (.d (.tuple (qs.map pqD))), some (.d (.list (im.map .str))), some (.d (.int (n : Nat))), s3, none, none, none] ∧ m' = m, by rw [il2], by omega, ⟨0, _, by simp, rfl, rfl⟩, ?_, ?_⟩
  · rintro i ρ' m' hi ⟨n, s3, hn, rfl, rfl⟩
    have hd : im.drop i = im[i] :: im.drop (i + 1) := List.drop_eq_getElem_cons hi
    have hat : atI (im.map PyData.str) (i : Int) = some (.str im[i]) := atI_map rfl (List.getElem?_eq_getElem hi)
    refine wp_set <| ev_op <| ev_var rfl <| ev_cb <| ea_cons <| ev_lcF (toD := PyData.str) List.mem_cons_self <| ei_lst <| ev_sl <| ev_var rfl <| eo_some <| ev_var rfl ⟨_, rfl, eo_no <| rz_lst ?_⟩
    rw [cut_from, ← List.map_drop]
    refine ⟨_, rfl, im.drop i, fun y => ltS y im[i], fun _ => .int 1, rfl, trivial, by rw [List.length_drop]; omega, fun y hy => ⟨et_test <| ev_op <| ev_var rfl <| ev_op <| ev_var rfl <| ev_var rfl <| rx_lst hat <| rl_ltS ⟨_, rfl, rfl, rfl⟩, fun _ => ev_int ⟨rfl, rfl⟩⟩, ea_nil <| rc_lenL <| ra_int ⟨n + cntB ltS im[i] (im.drop (i + 1)), some (.d (.int (i : Nat))), ?_, ?_, rfl⟩⟩
    · have : inv ltS (im.drop i) = cntB ltS im[i] (im.drop (i + 1)) + inv ltS (im.drop (i + 1)) := by rw [hd]; rfl
      omega
    · rw [List.length_map]
      have : ((im.drop i).filter fun y => ltS y im[i]).length = cntB ltS im[i] (im.drop (i + 1)) := by
        rw [hd, List.filter_cons_of_neg (by rw [ltS_irr]; exact Bool.false_ne_true)]
        rfl
      rw [this]
      simp
  · rintro ρ' m' ⟨n, s3, hn, rfl, rfl⟩
    rw [List.drop_length] at hn
    refine wp_ret <| ev_op <| ev_op <| ev_var rfl <| ev_int <| rp_mod (by decide) <| ev_int <| re_eq (shaped_int _) (shaped_int _) ?_
    rw [eqv_odd]
    have : n = inv ltS im := by rw [← hn]; simp [inv]
    rw [this]
    exact p
end
end Dv

namespace Dv
open PySem L2 PyProof.Rows
theorem goC_congr {α : Type} [DecidableEq α] {f : α → α} {cyc : α → List α} : ∀ (xs s1 s2 : List α), (∀ z, f z ≠ z → (z ∈ s1 ↔ z ∈ s2)) → goC f cyc xs s1 = goC f cyc xs s2
  | [], _, _, _ => rfl
  | x :: r, s1, s2, h => by
    by_cases h1 : f x ≠ x
    · by_cases h2 : x ∈ s1
      · rw [goC_neg (fun q => q.2 h2), goC_neg (fun q => q.2 ((h x h1).mp h2))]
        exact goC_congr r s1 s2 h
      · rw [goC_pos h1 h2, goC_pos h1 (fun q => h2 ((h x h1).mpr q))]
        rw [goC_congr r (s1 ++ cyc x) (s2 ++ cyc x) fun z hz => by rw [List.mem_append, List.mem_append, h z hz]]
    · rw [goC_neg (fun q => h1 q.1), goC_neg (fun q => h1 q.1)]
      exact goC_congr r s1 s2 h
theorem valP_put (ps : List (Str × PyData)) (k z : Str) (d : PyData) : valP (putP ps k d) z = if z = k then some d else valP ps z := by
  unfold putP
  by_cases h : (ps.any fun p => decide (p.1 = k)) = true
  · rw [if_pos h]
    induction ps with
    | nil => cases h
    | cons p ps ih =>
      by_cases e : p.1 = k
      · by_cases hz : z = k
        · subst hz; simp [valP, e]
        · have e2 : ¬ p.1 = z := fun q => hz (q.symm.trans e)
          have e3 : ¬ k = z := fun q => hz q.symm
          by_cases h2 : (ps.any fun p => decide (p.1 = k)) = true
          · have := ih h2
            rw [if_neg hz] at this ⊢
            simp only [valP, List.map_cons, if_pos e, List.find?_cons, e2, e3, decide_false] at this ⊢
            exact this
          · rw [if_neg hz]
            have hm : ps.map (fun p => if p.1 = k then (p.1, d) else p) = ps := by
              rw [List.map_congr_left (g := id)]
              · exact List.map_id _
              · intro q hq
                have : ¬ q.1 = k := fun e => h2 (List.any_eq_true.mpr ⟨q, hq, decide_eq_true e⟩)
                rw [if_neg this]; rfl
            rw [List.map_cons, if_pos e, hm]
            simp [valP, e2]
      · have h2 : (ps.any fun p => decide (p.1 = k)) = true := by
          rw [List.any_cons, decide_eq_false e, Bool.false_or] at h
          exact h
        have := ih h2
        rw [List.map_cons, if_neg e]
        by_cases hz : p.1 = z
        · have : ¬ z = k := fun q => e (hz.trans q)
          rw [if_neg this]
          simp [valP, hz]
        · simp only [valP, List.find?_cons, decide_eq_false hz] at this ⊢
          exact this
  · rw [if_neg h]
    have hn : ∀ p ∈ ps, ¬ p.1 = k := fun p hp e => h (List.any_eq_true.mpr ⟨p, hp, decide_eq_true e⟩)
    by_cases hz : z = k
    · subst hz
      rw [if_pos rfl]
      unfold valP
      rw [List.find?_append, List.find?_eq_none.mpr (fun p hp => by simpa using hn p hp)]
      simp
    · rw [if_neg hz]
      unfold valP
      rw [List.find?_append]
      have : ¬ k = z := fun q => hz q.symm
      cases hf : ps.find? (fun p => decide (p.1 = z)) <;> simp [this]
theorem putP_len (ps : List (Str × PyData)) (k : Str) (d : PyData) : (putP ps k d).length ≤ ps.length + 1 := by
  unfold putP
  by_cases h : (ps.any fun p => decide (p.1 = k)) = true
  · rw [if_pos h, List.length_map]; omega
  · rw [if_neg h]; simp
section
variable {K : PySem.W.Frag} {Pg : Program} {w : World} {m : Sto}
def W_cycles : WT := fun ss m P => ∃ qs : List (Str × Str), ss = [.d (.tuple (qs.map pqD))] ∧ VP qs ∧ P (.d (.tuple ((cycs qs).map tupS))) m
def t_cycles (K : PySem.W.Frag) (Pg : Program) (w : World) : TS :=
  (tSeq (tAsg (tCB (rDictT K) (tCons (tVar 0) tNil)) (gName 1))
    (tSeq (tAsg tDNewK (gName 2))
    (tSeq (tAsg (tLst tNil) (gName 3))
    (tSeq (tFor (iSeqU K (tCB (rSortDic K) (tCons (tVar 1) tNil))) (gName 4)
    (tSeq (tAsg (tLst tNil) (gName 5))
    (tSeq (tWhile (tB (tDNotIn (tVar 4) (tVar 2)))
    (tSeq (tAsg (tC (.bl true)) (gSub (tVar 2) (tVar 4) rSetD))
    (tSeq (tDrop (tBM K "list" rAppend (tVar 5) (tCons (tVar 4) tNil)))
    (tAsg (tDGet (tVar 1) (tVar 4)) (gName 4)))))
    (tIfS (tTest (tOp (rI0 fun i j => .bl (decide (j < i))) (tCB (rLenC K) (tCons (tVar 5) tNil)) (tC (.int 1))))
    (tDrop (tBM K "list" rAppend (tVar 3) (tCons (tCB (rTupleC K) (tCons (tVar 5) tNil)) tNil)))
    tNext))))
    (tRet (tCB (rTupleC K) (tCons (tVar 3) tNil)))))))
theorem rd_cycles (ss : List Sl) (m : Sto) (P : PV) (h : W_cycles ss m P) : Wp K (t_cycles K Pg w) (rho ["permutation", "images", "seen", "found", "label", "cycle"] ss) m { nx := fun _ m' => P (.d .none) m', rt := P } := by
  obtain ⟨qs, rfl, v, p⟩ := h
  have hl := v.len
  refine wp_seq <| wp_set <| ev_cb <| ea_cons <| ev_var rfl <| ea_nil <| rc_dictT v.nd fun a ha => ?_
  refine wp_seq <| wp_set <| ev_dnew fun b hb => ?_
  refine wp_seq <| wp_set <| ev_lstM <| ea_nil ⟨[], rfl, by simp, fun c hc => ?_⟩
  have ab : a ≠ b := fun e => by rw [← e, put_same] at hb; cases hb
  have bc : b ≠ c := fun e => by rw [← e, put_same] at hc; cases hc
  have ac : a ≠ c := fun e => by rw [← e, put_ne ab, put_same] at hc; cases hc
  have hb' : m b = none := by rwa [put_ne (Ne.symm ab)] at hb
  have hc' : m c = none := by rwa [put_ne (Ne.symm bc), put_ne (Ne.symm ac)] at hc
  let M : List (Str × PyData) → List (List Str) → Sto := fun ps u => put (put (put m a (.dic (dicOf qs))) b (.dic ps)) c (.lst (u.map tupS))
  have Ma : ∀ ps u, M ps u a = some (.dic (dicOf qs)) := fun ps u => by show put (put (put m a _) b _) c _ a = _; rw [put_ne ac, put_ne ab, put_same]
  have Mb : ∀ ps u, M ps u b = some (.dic ps) := fun ps u => by show put (put (put m a _) b _) c _ b = _; rw [put_ne bc, put_same]
  have Mc : ∀ ps u, M ps u c = some (.lst (u.map tupS)) := fun ps u => put_same
  have Pb : ∀ ps u ps', put (M ps u) b (.dic ps') = M ps' u := fun ps u ps' => by
    show put (put (put (put m a _) b _) c _) b _ = _
    rw [put_comm (Ne.symm bc), put_put]
  have Pc : ∀ ps u u', put (M ps u) c (.lst (u'.map tupS)) = M ps u' := fun ps u u' => put_put
  have D : ∀ ps u, del (del (del (M ps u) c) b) a = m := fun ps u => by
    show del (del (del (put (put (put m a _) b _) c _) c) b) a = _
    rw [del_put (by rw [put_ne (Ne.symm bc), put_ne (Ne.symm ac)]; exact hc'), del_put (by rw [put_ne (Ne.symm ab)]; exact hb'), del_put ha]
  have Na : ∀ {d : Addr} {ps u}, M ps u d = none → d ≠ a ∧ d ≠ b ∧ d ≠ c := fun {d ps u} h => ⟨(fun e => by rw [e, Ma] at h; cases h), (fun e => by rw [e, Mb] at h; cases h), (fun e => by rw [e, Mc] at h; cases h)⟩
  have hkeys : (dicOf qs).map Prod.fst = labs qs := by unfold dicOf labs; rw [List.map_map]; rfl
  refine wp_seq <| wp_forL (toD := PyData.str) <| ei_lst <| ev_cb <| ea_cons <| ev_var rfl <| ea_nil <| rc_sortDic (Ma [] []) (by unfold dicOf; rw [List.length_map]; omega) fun ys hy1 hy2 => ?_
  rw [hkeys] at hy1
  have ey : ys = labs qs := sort_one hy1 hy2 (.refl _) v.srt
  subst ey
  refine ⟨_, rfl, labs qs, fun i ρ' m' => ∃ (u : List (List Str)) (ps : List (Str × PyData)) (seen : List Str) (s4 s5 : Option Sl), u ++ goC (fOf qs) (cyc (fOf qs) (labs qs)) ((labs qs).drop i) seen = cycs qs ∧ (∀ z, (valP ps z).isSome = decide (z ∈ seen)) ∧ (∀ z, z ∈ seen → z ∈ labs qs ∧ fOf qs z ∈ seen) ∧ ps.length ≤ 20 * i ∧ u.length ≤ i ∧ ρ' = [some (.d (.tuple (qs.map pqD))), some (.m a), some (.m b), some (.m c), s4, s5] ∧ m' = M ps u, rfl, ⟨[], [], [], _, _, rfl, fun z => rfl, (fun z h => nomatch h), Nat.zero_le _, Nat.le_refl _, rfl, rfl⟩, fun _ _ _ _ => trivial, ?_, ?_⟩
  · rintro i x ρ' m' hx ⟨u, ps, seen, s4, s5, hg, hS, hcl, hpl, hul, rfl, rfl⟩
    have hi := (List.getElem?_eq_some_iff.mp hx).1
    have hi13 : i < 13 := by rw [labs_len] at hi; omega
    have hxl := List.mem_of_getElem? hx
    have hdrop : (labs qs).drop i = x :: (labs qs).drop (i + 1) := by
      rw [List.drop_eq_getElem_cons hi]
      congr 1
      rw [List.getElem?_eq_getElem hi] at hx
      exact Option.some.inj hx
    rw [hdrop] at hg
    obtain ⟨N, n1, n2, n3, n4, ec⟩ := cyc_is v.on hxl
    have hN : N ≤ 13 := by rw [labs_len] at n2; omega
    have closed : ∀ k z, z ∈ seen → it (fOf qs) k z ∈ seen := by
      intro k
      induction k with
      | zero => intro z hz; exact hz
      | succ k ih => intro z hz; exact (hcl _ (ih z hz)).2
    have fresh : x ∉ seen → ∀ k, it (fOf qs) k x ∉ seen := fun hx0 k hk => by
      obtain ⟨j, hj⟩ := it_inv v.on hxl k
      exact hx0 (hj ▸ closed j _ hk)
    refine wp_seq <| wp_set <| ev_lstM <| ea_nil ⟨[], rfl, by simp, fun d hd => ?_⟩
    obtain ⟨da, db, dc⟩ := Na hd
    by_cases hx0 : x ∈ seen
    · rw [goC_neg (fun q => q.2 hx0)] at hg
      refine wp_seq <| wp_while (fun n ρ' m' => ρ' = [some (.d (.tuple (qs.map pqD))), some (.m a), some (.m b), some (.m c), some (.d (.str x)), some (.m d)] ∧ m' = put (M ps u) d (.lst [])) 0 ⟨rfl, rfl⟩ ?_
      rintro n ρ' m' ⟨rfl, rfl⟩
      refine et_B <| ev_dnotin <| ev_var rfl <| ev_var rfl ⟨ps, x, b, rfl, rfl, by rw [put_ne (Ne.symm db)]; exact Mb _ _, _, rfl, ?_⟩
      rw [hS, decide_eq_true hx0, if_neg (by decide)]
      refine wp_if <| et_test <| ev_op <| ev_cb <| ea_cons <| ev_var rfl <| ea_nil <| rc_lenM put_same <| ev_int <| rl_gt ⟨_, rfl, ite_b (fun q => by simp at q) (fun _ => wp_del put_same <| wp_next ?_)⟩
      rw [del_put hd]
      exact ⟨u, ps, seen, _, _, hg, hS, hcl, by omega, by omega, rfl, rfl⟩
    · have fr := fresh hx0
      refine wp_seq <| wp_while (fun n ρ' m' => ∃ (k : Nat) (ps' : List (Str × PyData)), n + k = N ∧ (∀ z, (valP ps' z).isSome = decide (z ∈ seen ++ way (fOf qs) x 0 k)) ∧ ps'.length ≤ ps.length + k ∧ ρ' = [some (.d (.tuple (qs.map pqD))), some (.m a), some (.m b), some (.m c), some (.d (.str (it (fOf qs) k x))), some (.m d)] ∧ m' = put (M ps' u) d (.lst ((way (fOf qs) x 0 k).map .str))) N ⟨0, ps, by omega, fun z => by rw [hS]; simp [way], by omega, rfl, rfl⟩ ?_
      rintro n ρ' m' ⟨k, ps', hk, hS', hpl', rfl, rfl⟩
      have hmem := it_mem v.on hxl k
      refine et_B <| ev_dnotin <| ev_var rfl <| ev_var rfl ⟨ps', _, b, rfl, rfl, by rw [put_ne (Ne.symm db)]; exact Mb _ _, _, rfl, ?_⟩
      rw [hS']
      refine ite_b (fun q => ?_) (fun q => ?_)
      · have q : it (fOf qs) k x ∉ seen ++ way (fOf qs) x 0 k := by simpa using q
        have hkN : k < N := by
          by_cases e : k = N
          · refine absurd (List.mem_append_right _ (way_mem.mpr ⟨0, Nat.le_refl _, by omega, ?_⟩)) q
            rw [e, n3]; rfl
          · omega
        refine wp_seq <| wp_asg <| ev_bl ⟨[], gt_dput <| ev_var rfl ⟨b, rfl, ev_var rfl ⟨ps', _, rfl, by rw [put_ne (Ne.symm db)]; exact Mb _ _, by omega, ?_⟩⟩⟩
        rw [put_comm db, Pb]
        refine wp_seq <| wp_drop <| ev_bm <| ev_var rfl ⟨ty_listM put_same, ea_cons <| ev_var rfl <| ea_nil <| rm_append put_same (by rw [List.length_map, way_len]; omega) ?_⟩
        rw [put_put]
        refine wp_set <| ev_dget <| ev_var rfl ⟨a, rfl, ev_var rfl ⟨dicOf qs, _, _, rfl, by rw [put_ne (Ne.symm da)]; exact Ma _ _, valP_at v hmem, n - 1, by omega, k + 1, putP ps' (it (fOf qs) k x) (.bool true), by omega, fun z => ?_, ?_, rfl, ?_⟩⟩
        · rw [valP_put, way_snoc, Nat.zero_add, ← List.append_assoc]
          by_cases hz : z = it (fOf qs) k x
          · rw [if_pos hz, decide_eq_true (by rw [hz]; exact List.mem_append_right _ List.mem_cons_self)]
            rfl
          · rw [if_neg hz, hS']
            by_cases h2 : z ∈ seen ++ way (fOf qs) x 0 k
            · rw [decide_eq_true h2, decide_eq_true (List.mem_append_left _ h2)]
            · rw [decide_eq_false h2, decide_eq_false (fun q => (List.mem_append.mp q).elim h2 fun q => hz (List.mem_singleton.mp q))]
        · have := putP_len ps' (it (fOf qs) k x) (.bool true)
          omega
        · rw [way_snoc, Nat.zero_add, List.map_append]
          rfl
      · have q : it (fOf qs) k x ∈ seen ++ way (fOf qs) x 0 k := by
          rw [Bool.not_eq_false'] at q
          exact of_decide_eq_true q
        have hkN : k = N := by
          rcases List.mem_append.mp q with q | q
          · exact absurd q (fr k)
          · obtain ⟨j, _, hj, e⟩ := way_mem.mp q
            by_cases hlt : k < N
            · exact absurd e.symm (it_ne v.on hxl n4 (by omega) hlt)
            · omega
        subst hkN
        have hlenW : ((way (fOf qs) x 0 k).map PyData.str).length = k := by rw [List.length_map, way_len]
        have hcl' : ∀ z, z ∈ seen ++ way (fOf qs) x 0 k → z ∈ labs qs ∧ fOf qs z ∈ seen ++ way (fOf qs) x 0 k := fun z hz => by
          rcases List.mem_append.mp hz with hz | hz
          · exact ⟨(hcl z hz).1, List.mem_append_left _ (hcl z hz).2⟩
          · obtain ⟨j, _, hj, rfl⟩ := way_mem.mp hz
            refine ⟨it_mem v.on hxl j, List.mem_append_right _ ?_⟩
            by_cases e : j + 1 = k
            · refine way_mem.mpr ⟨0, Nat.le_refl _, by omega, ?_⟩
              show it (fOf qs) (j + 1) x = _
              rw [e]; exact n3
            · exact way_mem.mpr ⟨j + 1, by omega, by omega, rfl⟩
        refine wp_if <| et_test <| ev_op <| ev_cb <| ea_cons <| ev_var rfl <| ea_nil <| rc_lenM put_same <| ev_int <| rl_gt ⟨_, rfl, ite_b (fun q2 => ?_) (fun q2 => wp_del put_same <| wp_next ?_)⟩
        · rw [hlenW] at q2
          have hk1 : 1 < k := by have := of_decide_eq_true q2; omega
          have hnt : fOf qs x ≠ x := n4 1 (by omega) hk1
          rw [goC_pos hnt hx0, ec] at hg
          refine wp_post <| wp_drop <| ev_bm <| ev_var rfl ⟨ty_listM (by rw [put_ne (Ne.symm dc)]; exact Mc _ _), ea_cons <| ev_cb <| ea_cons <| ev_var rfl <| ea_nil <| rc_tupleM put_same <| ea_nil <| rm_append (by rw [put_ne (Ne.symm dc)]; exact Mc _ _) (by rw [List.length_map]; omega) ⟨d, .lst ((way (fOf qs) x 0 k).map .str), by rw [put_ne dc]; exact put_same, ?_⟩⟩
          have e1 : u.map tupS ++ [PyData.tuple ((way (fOf qs) x 0 k).map .str)] = (u ++ [way (fOf qs) x 0 k]).map tupS := by rw [List.map_append]; rfl
          rw [e1, put_comm dc, Pc, del_put (by show M ps' _ d = none; show put (put (put m a _) b _) c _ d = none; rw [put_ne dc, put_ne db, put_ne da]; have : put (put (put m a (.dic (dicOf qs))) b (.dic ps)) c (.lst (u.map tupS)) d = none := hd; rwa [put_ne dc, put_ne db, put_ne da] at this)]
          exact ⟨u ++ [way (fOf qs) x 0 k], ps', seen ++ way (fOf qs) x 0 k, _, _, by rw [List.append_assoc]; exact hg, hS', hcl', by omega, by simp; omega, rfl, rfl⟩
        · rw [hlenW] at q2
          have hk1 : k = 1 := by have := of_decide_eq_false q2; omega
          have htr : fOf qs x = x := by
            have : it (fOf qs) 1 x = x := by rw [← hk1]; exact n3
            exact this
          rw [goC_neg (fun q => q.1 htr)] at hg
          rw [del_put (by show put (put (put m a _) b _) c _ d = none; rw [put_ne dc, put_ne db, put_ne da]; have : put (put (put m a (.dic (dicOf qs))) b (.dic ps)) c (.lst (u.map tupS)) d = none := hd; rwa [put_ne dc, put_ne db, put_ne da] at this)]
          refine ⟨u, ps', seen ++ way (fOf qs) x 0 k, _, _, ?_, hS', hcl', by omega, by omega, rfl, rfl⟩
          rw [← hg]
          congr 1
          refine (goC_congr _ _ _ fun z hz => ?_).symm
          rw [List.mem_append]
          refine ⟨.inl, fun h => h.elim id fun h => ?_⟩
          obtain ⟨j, _, hj, e⟩ := way_mem.mp h
          have hj0 : j = 0 := by omega
          subst hj0
          exact absurd (show fOf qs z = z by rw [e]; exact htr) hz
  · rintro ρ' m' ⟨u, ps, seen, s4, s5, hg, hS, hcl, hpl, hul, rfl, rfl⟩
    rw [List.drop_length] at hg
    have hg : u = cycs qs := by rw [← hg]; simp [goC]
    refine wp_ret <| ev_del <| ev_del <| ev_del <| ev_cb <| ea_cons <| ev_var rfl <| ea_nil <| rc_tupleM (Mc _ _) ⟨c, _, Mc _ _, b, .dic ps, ?_, a, .dic (dicOf qs), ?_, ?_⟩
    · rw [del_ne bc]; exact Mb _ _
    · rw [del_ne ab, del_ne ac]; exact Ma _ _
    · rw [D, hg]
      exact p
end
end Dv

namespace Dv
open PySem L2 PyProof.Rows
theorem filt_split {α : Type} (p q : α → Bool) : ∀ l : List α, (l.filter p).length = (l.filter fun z => p z && q z).length + (l.filter fun z => p z && !q z).length
  | [] => rfl
  | x :: l => by
    have ih := filt_split p q l
    cases hp : p x <;> cases hq : q x <;> simp [List.filter_cons, hp, hq] <;> omega
def unS (f : Str → Str) (l seen : List Str) : Nat := (l.filter fun z => decide (z ∉ seen) && decide (f z ≠ z)).length
theorem cyc_nt {f : Str → Str} {l : List Str} (h : PermOn f l) {x z : Str} (hx : x ∈ l) (hn : f x ≠ x) (hz : z ∈ cyc f l x) : f z ≠ z := fun e => by
  obtain ⟨n, rfl⟩ := (cyc_mem h hx).mp hz
  obtain ⟨k, hk⟩ := it_inv h hx n
  have fix : ∀ k, it f k (it f n x) = it f n x := by
    intro k
    induction k with
    | zero => rfl
    | succ k ih => show f (it f k (it f n x)) = _; rw [ih, e]
  rw [fix] at hk
  rw [hk] at e
  exact hn e
theorem unS_cyc {f : Str → Str} {l seen : List Str} (h : PermOn f l) {x : Str} (hx : x ∈ l) (hn : f x ≠ x) (hd : ∀ z, z ∈ cyc f l x → z ∉ seen) : unS f l seen = (cyc f l x).length + unS f l (seen ++ cyc f l x) := by
  obtain ⟨t, et, _, cn, csub⟩ := cyc_facts h hx
  rw [← et] at cn csub
  unfold unS
  rw [filt_split _ (fun z => decide (z ∈ cyc f l x))]
  have e1 : (l.filter fun z => (decide (z ∉ seen) && decide (f z ≠ z)) && decide (z ∈ cyc f l x)).length = (cyc f l x).length := by
    apply Nat.le_antisymm
    · refine len_sub (h.nd.filter _) fun z hz => ?_
      have := (List.mem_filter.mp hz).2
      simp at this
      exact this.2
    · refine len_sub cn fun z hz => List.mem_filter.mpr ⟨csub z hz, ?_⟩
      have h1 := hd z hz
      have h2 := cyc_nt h hx hn hz
      simp [h1, h2, hz]
  have e2 : (l.filter fun z => (decide (z ∉ seen) && decide (f z ≠ z)) && !decide (z ∈ cyc f l x)) = l.filter fun z => decide (z ∉ seen ++ cyc f l x) && decide (f z ≠ z) := List.filter_congr fun z _ => by
    by_cases h1 : z ∈ seen <;> by_cases h2 : f z = z <;> by_cases h3 : z ∈ cyc f l x <;> simp [h1, h2, h3]
  rw [e1, e2]
theorem gap_sum {f : Str → Str} {l : List Str} (h : PermOn f l) : ∀ (xs seen : List Str), (∀ x, x ∈ xs → x ∈ l) → (∀ y, y ∈ l → f y ≠ y → y ∉ seen → ∀ z, z ∈ cyc f l y → z ∉ seen) → (∀ y, y ∈ xs → f y ≠ y → y ∉ seen → ("" : Str) ∉ cyc f l y) → (∀ z, z ∈ l → z ∉ seen → f z ≠ z → z ∈ xs) →
    ((goC f (cyc f l) xs seen).map gapI).sum = (unS f l seen : Int) + ((goC f (cyc f l) xs seen).length : Int) ∧ ∀ c, c ∈ goC f (cyc f l) xs seen → ("" : Str) ∉ c
  | [], seen, _, _, _, hf => by
    have : unS f l seen = 0 := by
      unfold unS
      rw [List.length_eq_zero_iff, List.filter_eq_nil_iff]
      intro z hz q
      simp at q
      cases hf z hz q.1 q.2
    rw [this]
    exact ⟨rfl, fun c hc => by cases hc⟩
  | x :: r, seen, hl, hd, hE, hf => by
    have xl := hl x List.mem_cons_self
    by_cases hh : f x ≠ x ∧ x ∉ seen
    · have hdis := hd x xl hh.1 hh.2
      obtain ⟨t, et, _, _, _⟩ := cyc_facts h xl
      have hno := hE x List.mem_cons_self hh.1 hh.2
      obtain ⟨i1, i2⟩ := gap_sum h r (seen ++ cyc f l x) (fun z hz => hl z (List.mem_cons_of_mem _ hz)) (fun y hy h1 h2 z hz q => by
        rcases List.mem_append.mp q with q | q
        · exact hd y hy h1 (fun w => h2 (List.mem_append_left _ w)) z hz q
        · exact cyc_dis h xl hy (fun w => h2 (List.mem_append_right _ w)) z hz q) (fun y hy h1 h2 => hE y (List.mem_cons_of_mem _ hy) h1 fun w => h2 (List.mem_append_left _ w)) (fun z hz h1 h2 => by
        rcases List.mem_cons.mp (hf z hz (fun q => h1 (List.mem_append_left _ q)) h2) with e | h3
        · exact absurd (List.mem_append_right _ (by rw [e, et]; exact List.mem_cons_self)) h1
        · exact h3)
      rw [goC_pos hh.1 hh.2]
      have eg : gapI (cyc f l x) = ((cyc f l x).length : Int) + 1 := by
        unfold gapI
        rw [if_neg]
        rw [et]
        intro e
        have e : x = "" := e
        exact hno (by rw [et, e]; exact List.mem_cons_self)
      refine ⟨?_, fun c hc => ?_⟩
      · rw [List.map_cons, List.sum_cons, i1, eg, unS_cyc h xl hh.1 hdis, List.length_cons]
        omega
      · rcases List.mem_cons.mp hc with e | hc
        · rw [e]; exact hno
        · exact i2 c hc
    · rw [goC_neg hh]
      exact gap_sum h r seen (fun z hz => hl z (List.mem_cons_of_mem _ hz)) hd (fun y hy => hE y (List.mem_cons_of_mem _ hy)) fun z hz h1 h2 => by
        rcases List.mem_cons.mp (hf z hz h1 h2) with e | h3
        · subst e; exact absurd ⟨h2, h1⟩ hh
        · exact h3
def movN (qs : List (Str × Str)) : Nat := (qs.filter fun q : Str × Str => decide (q.1 ≠ q.2) && decide (q.1 ≠ ("" : Str))).length
theorem movN_eq {qs : List (Str × Str)} (v : VP qs) : movN qs = ((labs qs).filter fun z : Str => decide (fOf qs z ≠ z) && decide (z ≠ ("" : Str))).length := by
  unfold movN labs
  rw [List.filter_map, List.length_map]
  congr 1
  refine List.filter_congr fun q hq => ?_
  have := fOf_at v hq
  show _ = (decide (fOf qs q.1 ≠ q.1) && decide (q.1 ≠ ""))
  rw [this]
  by_cases e : q.1 = q.2
  · simp [e]
  · have : ¬ q.2 = q.1 := fun z => e z.symm
    simp [e, this]
theorem filt_all {α : Type} {p : α → Bool} {l : List α} (h : ∀ x, x ∈ l → p x = true) : l.filter p = l := List.filter_eq_self.mpr h
theorem em_least {qs : List (Str × Str)} (v : VP qs) (h : ("" : Str) ∈ labs qs) : ∃ r, labs qs = ("" : Str) :: r := by
  have pw := v.pw
  cases hl : labs qs with
  | nil => rw [hl] at h; cases h
  | cons x r =>
    rw [hl] at h pw
    rcases List.mem_cons.mp h with e | h
    · rw [← e]; exact ⟨r, rfl⟩
    · have := (List.pairwise_cons.mp pw).1 _ h
      have e0 : ("" : Str).cps.toList = [] := by decide +kernel
      unfold ltS at this
      rw [e0] at this
      have hx : x.cps.toList = [] := by
        cases hc : x.cps.toList with
        | nil => rfl
        | cons a b =>
          rw [hc] at this
          simp at this
      have : x = "" := str_eq (by rw [hx, e0])
      exact ⟨r, by rw [this]⟩
theorem gap_dist {qs : List (Str × Str)} (v : VP qs) : gapN qs = (movN qs : Int) + (((cycs qs).filter fun c => decide (("" : Str) ∉ c)).length : Int) := by
  have h := v.on
  unfold gapN cycs
  by_cases he : ("" : Str) ∈ labs qs
  · obtain ⟨r, hr⟩ := em_least v he
    have nd := v.nd
    rw [hr] at nd
    obtain ⟨n1, n2⟩ := List.nodup_cons.mp nd
    have rl : ∀ x, x ∈ r → x ∈ labs qs := fun x hx => by rw [hr]; exact List.mem_cons_of_mem _ hx
    have hmv : movN qs = (r.filter fun z => decide (fOf qs z ≠ z)).length := by
      rw [movN_eq v, hr, List.filter_cons_of_neg (by simp)]
      congr 1
      refine List.filter_congr fun z hz => ?_
      have : z ≠ "" := fun e => n1 (e ▸ hz)
      simp [this]
    by_cases hf : fOf qs "" ≠ ""
    · have e1 : goC (fOf qs) (cyc (fOf qs) (labs qs)) (labs qs) [] = cyc (fOf qs) (labs qs) "" :: goC (fOf qs) (cyc (fOf qs) (labs qs)) r ([] ++ cyc (fOf qs) (labs qs) "") := by
        conv => lhs; arg 3; rw [hr]
        exact goC_pos hf (fun q => by cases q)
      obtain ⟨t, et, _, _, _⟩ := cyc_facts h he
      have hin : ("" : Str) ∈ cyc (fOf qs) (labs qs) "" := by rw [et]; exact List.mem_cons_self
      obtain ⟨i1, i2⟩ := gap_sum h r ([] ++ cyc (fOf qs) (labs qs) "") rl (fun y hy _ h2 z hz q => cyc_dis h he hy (fun w => h2 (List.mem_append_right _ w)) z hz ((List.mem_append.mp q).resolve_left fun w => by cases w)) (fun y hy _ h2 w => cyc_dis h he (rl y hy) (fun w => h2 (List.mem_append_right _ w)) "" w hin) (fun z hz h1 _ => by
        rw [hr] at hz
        rcases List.mem_cons.mp hz with e | hz
        · rw [e] at h1; exact absurd (List.mem_append_right _ hin) h1
        · exact hz)
      have hu := unS_cyc (seen := []) h he hf (fun z _ q => by cases q)
      have hu0 : unS (fOf qs) (labs qs) [] = movN qs + 1 := by
        unfold unS
        rw [hmv, hr, List.filter_cons_of_pos (by simp [hf])]
        simp
      have eg : gapI (cyc (fOf qs) (labs qs) "") = ((cyc (fOf qs) (labs qs) "").length : Int) - 1 := by
        unfold gapI
        rw [if_pos (by rw [et]; rfl)]
      rw [e1, List.map_cons, List.sum_cons, i1, eg, List.filter_cons_of_neg (by simpa using hin), filt_all (fun c hc => decide_eq_true (i2 c hc))]
      omega
    · have hf : fOf qs "" = "" := Classical.not_not.mp hf
      have e1 : goC (fOf qs) (cyc (fOf qs) (labs qs)) (labs qs) [] = goC (fOf qs) (cyc (fOf qs) (labs qs)) r [] := by
        conv => lhs; arg 3; rw [hr]
        exact goC_neg (fun q => q.1 hf)
      have fix : ∀ k, it (fOf qs) k "" = "" := by
        intro k
        induction k with
        | zero => rfl
        | succ k ih => show fOf qs (it (fOf qs) k "") = ""; rw [ih, hf]
      obtain ⟨i1, i2⟩ := gap_sum h r [] rl (fun y hy _ h2 z hz q => by cases q) (fun y hy h1 _ w => by
        obtain ⟨n, hn⟩ := (cyc_mem h (rl y hy)).mp w
        obtain ⟨k, hk⟩ := it_inv h (rl y hy) n
        rw [← hn, fix] at hk
        rw [← hk] at h1
        exact h1 hf) (fun z hz _ h2 => by
        rw [hr] at hz
        rcases List.mem_cons.mp hz with e | hz
        · rw [e] at h2; exact absurd hf h2
        · exact hz)
      have hu0 : unS (fOf qs) (labs qs) [] = movN qs := by
        unfold unS
        rw [hmv, hr, List.filter_cons_of_neg (by simp [hf])]
        simp
      rw [e1, i1, hu0, filt_all (fun c hc => decide_eq_true (i2 c hc))]
  · obtain ⟨i1, i2⟩ := gap_sum h (labs qs) [] (fun _ h => h) (fun y hy _ h2 z hz q => by cases q) (fun y hy h1 _ w => by
      obtain ⟨t, et, _, _, csub⟩ := cyc_facts h hy
      exact he (csub "" (by rw [← et]; exact w))) (fun z hz _ _ => hz)
    have hu0 : unS (fOf qs) (labs qs) [] = movN qs := by
      unfold unS
      rw [movN_eq v]
      congr 1
      refine List.filter_congr fun z hz => ?_
      have : z ≠ "" := fun e => he (e ▸ hz)
      simp [this]
    rw [i1, hu0, filt_all (fun c hc => decide_eq_true (i2 c hc))]
section
variable {K : PySem.W.Frag} {Pg : Program} {w : World} {m : Sto}
def W_distance : WT := fun ss m P => ∃ qs : List (Str × Str), ss = [.d (.tuple (qs.map pqD))] ∧ VP qs ∧ P (.d (.int (gapN qs))) m
def t_distance (K : PySem.W.Frag) (Pg : Program) (w : World) : TS :=
  (tSeq (tAsg (tLc (iSeqU K (tVar 0)) (gTup K 2 (gCons (gName 2) (gCons (gName 3) gNil))) (tAnd (tTest (tOp (rNeU K) (tVar 2) (tVar 3))) (tTest (tOp (rNeU K) (tVar 2) (tC (.str ""))))) (tVar 2) [2, 3]) (gName 1))
    (tRet (tOp (rAddU K) (tCB (rLenC K) (tCons (tVar 1) tNil)) (tCB (rLenC K) (tCons (tLc (iSeqU K (tCall (SpD K W_cycles) [] E0 (tCons (tVar 0) tNil))) (gName 4) (tTest (tOp (rNotInU K Pg w) (tC (.str "")) (tVar 4))) (tVar 4) [4]) tNil)))))
theorem cycs_sub {qs : List (Str × Str)} (v : VP qs) {c : List Str} (h : c ∈ cycs qs) : ∃ ls : List (List Nat), c = ls.map Sx ∧ (∀ l ∈ ls, Tx l ∧ l.length ≤ 20) ∧ c.length ≤ 13 := by
  obtain ⟨x, hx, _, e⟩ := goC_mem h
  obtain ⟨t, et, _, cn, csub⟩ := cyc_facts v.on hx
  rw [← et] at cn csub
  rw [← e] at cn csub
  have key : ∀ c : List Str, (∀ z ∈ c, z ∈ labs qs) → ∃ ls : List (List Nat), c = ls.map Sx ∧ ∀ l ∈ ls, Tx l ∧ l.length ≤ 20 := by
    intro c
    induction c with
    | nil => intro _; exact ⟨[], rfl, fun l h => by cases h⟩
    | cons z c ih =>
      intro hz
      obtain ⟨l, rfl, h1, h2⟩ := v.tx z (hz z List.mem_cons_self)
      obtain ⟨ls, rfl, h3⟩ := ih fun y hy => hz y (List.mem_cons_of_mem _ hy)
      exact ⟨l :: ls, rfl, fun k hk => (List.mem_cons.mp hk).elim (fun e => by rw [e]; exact ⟨h1, h2⟩) (h3 k)⟩
  obtain ⟨ls, h1, h2⟩ := key c csub
  have := len_sub cn csub
  rw [labs_len] at this
  exact ⟨ls, h1, h2, by have := v.len; omega⟩
theorem rd_distance (ss : List Sl) (m : Sto) (P : PV) (h : W_distance ss m P) : Wp K (t_distance K Pg w) (rho ["permutation", "moved", "label", "image", "cycle"] ss) m { nx := fun _ m' => P (.d .none) m', rt := P } := by
  obtain ⟨qs, rfl, v, p⟩ := h
  have hl := v.len
  have hc := cycs_len qs
  refine wp_seq <| wp_set <| ev_lcP (by simp) (by simp) <| ei_tup <| ev_var rfl ⟨_, rfl, qs, fun q => decide (q.1 ≠ q.2) && decide (q.1 ≠ ("" : Str)), PyData.str ∘ Prod.fst, rfl, trivial, by omega, fun y hy => ⟨et_and <| et_test <| ev_op <| ev_var rfl <| ev_var rfl <| re_neS ⟨_, rfl, ite_b (fun h1 => ?_) (fun h1 => ?_)⟩, fun _ => ev_var rfl ⟨rfl, rfl⟩⟩, ?_⟩
  · refine et_test <| ev_op <| ev_var rfl <| ev_str <| re_neS ⟨_, rfl, ?_, rfl⟩
    have h1 : ¬ y.1 = y.2 := by simpa using h1
    simp [h1]
  · refine ⟨?_, rfl⟩
    have h1 : y.1 = y.2 := by simpa using h1
    simp [h1]
  · refine wp_ret <| ev_op <| ev_cb <| ea_cons <| ev_var rfl <| ea_nil <| rc_lenL <| ev_cb <| ea_cons <| ev_lcF (toD := tupS) List.mem_cons_self <| ei_tup <| ev_call0 <| ea_cons <| ev_var rfl <| ea_nil ⟨qs, rfl, v, _, rfl, cycs qs, fun c => decide (("" : Str) ∉ c), tupS, rfl, trivial, by omega, fun c hc => ⟨?_, fun _ => ev_var rfl ⟨rfl, rfl⟩⟩, ea_nil <| rc_lenL <| ra_int ?_⟩
    · obtain ⟨ls, rfl, h2, _⟩ := cycs_sub v hc
      have e0 : ("" : Str) = Sx [] := by decide +kernel
      have en : (ls.map Sx).map PyData.str = ls.map nmD := (nms_str ls).symm
      refine et_test <| ev_op <| ev_str <| ev_var rfl <| ?_
      show RO K _ _ (.d (.tuple ((ls.map Sx).map .str))) _ _
      rw [en, e0]
      refine rni_tup (shaped_str ⟨by simp, by simp⟩) (shaped_names fun l hl => (h2 l hl).1).1 ⟨_, rfl, ?_, rfl⟩
      show (!anyEq (nmD []) (ls.map nmD)) = _
      rw [anyEq_names]
      have : (Sx [] ∈ ls.map Sx) ↔ ([] ∈ ls) := by
        constructor
        · intro q
          obtain ⟨k, hk, e⟩ := List.mem_map.mp q
          rw [← sx_inj e]; exact hk
        · exact fun q => List.mem_map_of_mem q
      by_cases hh : ([] : List Nat) ∈ ls
      · rw [decide_eq_true hh]
        exact (decide_eq_false (fun q => q (this.mpr hh))).symm
      · rw [decide_eq_false hh]
        exact (decide_eq_true (p := ¬ Sx [] ∈ ls.map Sx) (fun q => hh (this.mp q))).symm
    · rw [List.length_map, List.length_map]
      have := gap_dist v
      unfold movN at this
      rw [← this]
      exact p
end
end Dv

namespace Dv
open PySem L2 PyProof.Rows
theorem rg2 : ∀ N < 13, (Builtin.Range.small 0 ((N : Nat) : Int) 2 = true ∧ Builtin.Range.rangeSize 0 ((N : Nat) : Int) 2 = (((N + 1) / 2 : Nat) : Int)) := by decide +kernel
section
variable {K : PySem.W.Frag} {ρ : Rho} {m : Sto}
theorem sls3' {F : Reg} {H : Hp} {a b c : Sl} {xs : List V} (h : SlsOk K F H [a, b, c] xs) : ∃ x y z, xs = [x, y, z] ∧ SlOk K F H a x ∧ SlOk K F H b y ∧ SlOk K F H c z := by
  cases h with
  | cons h1 t =>
    obtain ⟨y, z, e, h2, h3⟩ := sls2 t
    exact ⟨_, y, z, by rw [e], h1, h2, h3⟩
theorem ei_rng3 {ta : TA} {P : List Sl → (Sto → Prop) → Sto → Prop} (h : EvA K ta ρ m fun ss m1 => ∃ N : Nat, ss = [.d (.int 0), .d (.int (N : Nat)), .d (.int 2)] ∧ N < 13 ∧ P ((List.range ((N + 1) / 2)).map fun i => .d (.int ((2 * i : Nat) : Int))) Any m1) : EvI K (iRng3 ta) ρ m P := fun σ F H R E S q =>
  h σ F H _ E S fun ss m1 vs F1 H1 ⟨N, e, hN, p⟩ s1 S1 o1 => by
    subst e
    obtain ⟨x, y, z, e, o, o', o''⟩ := sls3' o1
    cases (show x = .int 0 from o)
    cases (show y = .int (N : Nat) from o')
    cases (show z = .int 2 from o'')
    obtain ⟨r1, r2⟩ := rg2 N hN
    refine ⟨0, (N : Nat), 2, (N + 1) / 2, e, ⟨by decide, by decide, r1, r2⟩, q _ _ m1 F1 H1 _ p s1 S1 ?_⟩
    have hl : ((List.range ((N + 1) / 2)).map fun i => Sl.d (.int ((2 * i : Nat) : Int))).length = (N + 1) / 2 := by simp
    rw [hl]
    refine (walk_rangeC (lo := 0) (c := 2) (n := (N + 1) / 2)).mono (fun _ _ => trivial) fun j H2 x H3 hj _ ⟨e3, hx⟩ m2 F2 _ st S2 => ?_
    subst e3
    refine ⟨F2, Step.refl, S2, .d (.int ((2 * j : Nat) : Int)), ?_, ?_⟩
    · rw [List.getElem?_map, List.getElem?_range hj]; rfl
    · rw [hx]
      exact congrArg V.int (show (0 : Int) + (j : Int) * 2 = ((2 * j : Nat) : Int) by omega)
end
/-! ### the permutation that the law makes -/
def menuS : List Str := (["a", "b", "B", "ab", "zz", "C", "x", "aa", "Aa", "q", "r", "Zz"] : List Str) ++ (["abc", "abd", "Abcdef", "abcdef", "A", "abcd"] : List Str)
theorem menu_ok : (("" : Str) :: menuS).all (fun z => decide (z.cps.toList.length ≤ 20) && z.cps.toList.all fun c => decide (c < 1114112)) = true := by decide +kernel
theorem menu_nd : (("" : Str) :: menuS).Nodup := by decide +kernel
theorem menu_tx {z : Str} (h : z ∈ ("" : Str) :: menuS) : ∃ l, z = Sx l ∧ Tx l ∧ l.length ≤ 20 := by
  have := List.all_eq_true.mp menu_ok z h
  simp only [Bool.and_eq_true, decide_eq_true_eq, List.all_eq_true] at this
  exact ⟨z.cps.toList, (sx_of z).symm, ⟨by omega, this.2⟩, this.1⟩
theorem nodup_at {α : Type} {xs : List α} (nd : xs.Nodup) {i j : Nat} (hi : i < xs.length) (hj : j < xs.length) (e : xs[i] = xs[j]) : i = j := by
  have p := List.pairwise_iff_getElem.mp nd
  rcases Nat.lt_trichotomy i j with h | h | h
  · exact absurd e (p i j hi hj h)
  · exact h
  · exact absurd e.symm (p j i hj hi h)
/-- the dict holds the pairs Z -/
def Has (ps : List (Str × PyData)) (Z : List (Str × Str)) : Prop := ∀ q, q ∈ Z → valP ps q.1 = some (.str q.2)
theorem has_put {ps : List (Str × PyData)} {Z : List (Str × Str)} {k v : Str} (h : Has ps Z) (hn : k ∉ Z.map Prod.fst) : Has (putP ps k (.str v)) (Z ++ [(k, v)]) := fun q hq => by
  rw [valP_put]
  rcases List.mem_append.mp hq with hq | hq
  · rw [if_neg (fun e => hn (by rw [← e]; exact List.mem_map_of_mem hq))]
    exact h q hq
  · rw [List.mem_singleton.mp hq, if_pos rfl]
theorem has_over {ps : List (Str × PyData)} {Z : List (Str × Str)} {k v : Str} (h : Has ps Z) (hn : k ∉ Z.map Prod.fst) : Has (putP ps k (.str v)) Z := fun q hq => has_put h hn q (List.mem_append_left _ hq)
theorem has_take {ps : List (Str × PyData)} {Z : List (Str × Str)} {i : Nat} {q : Str × Str} (nd : (Z.map Prod.fst).Nodup) (hi : Z[i]? = some q) (h : Has ps (Z.take i)) : Has (putP ps q.1 (.str q.2)) (Z.take (i + 1)) := by
  rw [List.take_add_one, hi]
  refine has_put h fun z => ?_
  obtain ⟨p, hp, e⟩ := List.mem_map.mp z
  obtain ⟨j, hj⟩ := List.mem_iff_getElem?.mp hp
  rw [List.getElem?_take] at hj
  by_cases hji : j < i
  · rw [if_pos hji] at hj
    have a1 : (Z.map Prod.fst)[j]? = some q.1 := by rw [List.getElem?_map, hj, ← e]; rfl
    have a2 : (Z.map Prod.fst)[i]? = some q.1 := by rw [List.getElem?_map, hi]; rfl
    have b1 := List.getElem?_eq_some_iff.mp a1
    have b2 := List.getElem?_eq_some_iff.mp a2
    have := nodup_at nd b1.1 b2.1 (b1.2.trans b2.2.symm)
    omega
  · rw [if_neg hji] at hj; cases hj
/-- the dict maps L onto itself -/
def OnTo (ps : List (Str × PyData)) (L : List Str) : Prop := ∃ Z : List (Str × Str), Has ps Z ∧ (Z.map Prod.fst).Perm L ∧ (Z.map Prod.snd).Perm L
theorem onTo_vp {ps : List (Str × PyData)} {L ys : List Str} (h : OnTo ps L) (nd : L.Nodup) (hl : L.length ≤ 13) (tx : ∀ z ∈ L, ∃ l, z = Sx l ∧ Tx l ∧ l.length ≤ 20) (hy : ys.Perm L) (hs : sortedS ys = true) : ∃ g : Str → Str, (∀ z, z ∈ L → valP ps z = some (.str (g z))) ∧ VP (ys.map fun z => (z, g z)) := by
  obtain ⟨Z, hz, p1, p2⟩ := h
  have zn : (Z.map Prod.fst).Nodup := p1.nodup_iff.mpr nd
  have hg : ∀ q, q ∈ Z → fOf Z q.1 = q.2 := fun q hq => by
    unfold fOf
    rw [find_fst zn hq]
    rfl
  have el : labs (ys.map fun z => (z, fOf Z z)) = ys := by
    unfold labs
    rw [List.map_map]
    exact List.map_id _
  refine ⟨fOf Z, fun z hz2 => ?_, ?_⟩
  · obtain ⟨q, hq, rfl⟩ := List.mem_map.mp (p1.mem_iff.mpr hz2)
    rw [hz q hq, hg q hq]
  · refine ⟨by rw [el]; exact hy.nodup_iff.mpr nd, ?_, by rw [List.length_map, hy.length_eq]; exact hl, by rw [el]; exact hs, fun z hz2 => tx z (hy.mem_iff.mp (by rw [el] at hz2; exact hz2))⟩
    rw [el, List.map_map]
    have e1 : (Z.map Prod.fst).map (fOf Z) = Z.map Prod.snd := by
      rw [List.map_map]
      exact List.map_congr_left fun q hq => hg q hq
    have a1 : (ys.map (Prod.snd ∘ fun z => (z, fOf Z z))).Perm ((Z.map Prod.fst).map (fOf Z)) := (hy.trans p1.symm).map (fOf Z)
    rw [e1] at a1
    exact (a1.trans p2).trans hy.symm
theorem wp_seqJ' {K : PySem.W.Frag} {ρ : Rho} {m : Sto} {k : Ko} {t1 t2 : TS} (I : Rho → Sto → Prop) (h1 : Wp K t1 ρ m { k with nx := I }) (h2 : ∀ ρ' m', I ρ' m' → Wp K t2 ρ' m' k) : Wp K (tSeq t1 t2) ρ m k :=
  wp_seq <| h1.mono (fun ρ' m' i => h2 ρ' m' i) (fun _ _ p => p) (fun _ _ p => p) (fun _ _ p => p)
section
variable {K : PySem.W.Frag} {Pg : Program} {w : World} {m : Sto}
def W_permutation : WT := fun ss m P => ∃ (a : Addr) (u : List PyData) (n : Nat), ss = [.m a, .d (.int 12)] ∧ m a = some (.lst u) ∧ SrcL u n ∧ n ≤ 400000 ∧ ∀ (qs : List (Str × Str)) (u' : List PyData), VP qs → ("" : Str) ∈ labs qs → SrcL u' (n + 100) → P (.d (.tuple (qs.map pqD))) (put m a (.lst u'))
def t_permutation (K : PySem.W.Frag) (Pg : Program) (w : World) : TS :=
  (tSeq (tAsg (tCall (SpD K W_draw) [] E0 (tCons (tVar 0) (tCons (tOp (rAddU K) (tVar 1) (tC (.int 1))) tNil))) (gName 2))
    (tSeq (tAsg (tLst (tCons (tC (.str "a")) (tCons (tC (.str "b")) (tCons (tC (.str "B")) (tCons (tC (.str "ab")) (tCons (tC (.str "zz")) (tCons (tC (.str "C")) (tCons (tC (.str "x")) (tCons (tC (.str "aa")) (tCons (tC (.str "Aa")) (tCons (tC (.str "q")) (tCons (tC (.str "r")) (tCons (tC (.str "Zz")) tNil))))))))))))) (gName 3))
    (tSeq (tAsg (tOp (rAddU K) (tVar 3) (tLst (tCons (tC (.str "abc")) (tCons (tC (.str "abd")) (tCons (tC (.str "Abcdef")) (tCons (tC (.str "abcdef")) (tCons (tC (.str "A")) (tCons (tC (.str "abcd")) tNil)))))))) (gName 3))
    (tSeq (tAsg (tOp (rAddU K) (tLst (tCons (tC (.str "")) tNil)) (tSl (rSlU K) (tCall (SpD K W_shuffled) [] E0 (tCons (tVar 0) (tCons (tVar 3) tNil))) tNoPart (tPart (tVar 2)))) (gName 4))
    (tSeq (tAsg (tCall (SpD K W_shuffled) [] E0 (tCons (tVar 0) (tCons (tVar 4) tNil))) (gName 5))
    (tSeq (tAsg (tCall (SpD K W_draw) [] E0 (tCons (tVar 0) (tCons (tC (.int 5)) tNil))) (gName 6))
    (tSeq (tAsg tDNewK (gName 7))
    (tSeq (tFor (iRng1 (tCons (tCB (rLenC K) (tCons (tVar 4) tNil)) tNil)) (gName 8)
    (tAsg (tOp (rIx K) (tVar 5) (tVar 8)) (gSub (tVar 7) (tOp (rIx K) (tVar 4) (tVar 8)) rSetD)))
    (tSeq (tIfS (tTest (tOp (rEqU K) (tVar 6) (tC (.int 1))))
    (tFor (iRng1 (tCons (tCB (rLenC K) (tCons (tVar 5) tNil)) tNil)) (gName 8)
    (tAsg (tOp (rIx K) (tVar 5) (tVar 8)) (gSub (tVar 7) (tOp (rIx K) (tVar 5) (tOp (rI0 fun i j => .int (i - j)) (tVar 8) (tC (.int 1)))) rSetD)))
    tNext)
    (tSeq (tIfS (tTest (tOp (rI0 fun i j => .bl (decide (j < i))) (tVar 6) (tC (.int 1))))
    (tSeq (tFor (iSeqU K (tVar 4)) (gName 9)
    (tAsg (tVar 9) (gSub (tVar 7) (tVar 9) rSetD)))
    (tFor (iRng3 (tCons (tC (.int 0)) (tCons (tOp (rI0 fun i j => .int (i - j)) (tCB (rLenC K) (tCons (tVar 5) tNil)) (tC (.int 1))) (tCons (tC (.int 2)) tNil)))) (gName 8)
    (tIfS (tOr (tTest (tOp (rEqU K) (tVar 6) (tC (.int 2)))) (tAnd (tTest (tOp (rEqU K) (tVar 6) (tC (.int 3)))) (tTest (tOp (rI0 fun i j => .bl (decide (i < j))) (tVar 8) (tC (.int 4))))))
    (tSeq (tAsg (tOp (rIx K) (tVar 5) (tOp (rAddU K) (tVar 8) (tC (.int 1)))) (gSub (tVar 7) (tOp (rIx K) (tVar 5) (tVar 8)) rSetD))
    (tAsg (tOp (rIx K) (tVar 5) (tVar 8)) (gSub (tVar 7) (tOp (rIx K) (tVar 5) (tOp (rAddU K) (tVar 8) (tC (.int 1)))) rSetD)))
    tNext)))
    tNext)
    (tRet (tCB (rTupleC K) (tCons (tLc (iSeqU K (tCB (rSortS K) (tCons (tVar 4) tNil))) (gName 9) tYes (tTupZ (tCons (tVar 9) (tCons (tDGet (tVar 7) (tVar 9)) tNil))) [9]) tNil)))))))))))))
theorem rd_permutation (ss : List Sl) (m : Sto) (P : PV) (h : W_permutation ss m P) : Wp K (t_permutation K Pg w) (rho ["source", "most", "many", "menu", "labels", "images", "way", "mapping", "index", "label"] ss) m { nx := fun _ m' => P (.d .none) m', rt := P } := by
  obtain ⟨a, u, n, rfl, hm, hu, hn, p⟩ := h
  refine wp_seq <| wp_set <| ev_call0 <| ea_cons <| ev_var rfl <| ea_cons <| ev_op <| ev_var rfl <| ev_int <| ra_int <| ea_nil ⟨a, _, u, n, rfl, by decide, by decide, hm, hu, by omega, fun my u1 hmy hu1 => ?_⟩
  refine wp_seq <| wp_set <| ev_lst <| ea_cons <| ev_str <| ea_cons <| ev_str <| ea_cons <| ev_str <| ea_cons <| ev_str <| ea_cons <| ev_str <| ea_cons <| ev_str <| ea_cons <| ev_str <| ea_cons <| ev_str <| ea_cons <| ev_str <| ea_cons <| ev_str <| ea_cons <| ev_str <| ea_cons <| ev_str <| ea_nil ⟨[_, _, _, _, _, _, _, _, _, _, _, _], rfl, by simp, ?_⟩
  refine wp_seq <| wp_set <| ev_op <| ev_var rfl <| ev_lst <| ea_cons <| ev_str <| ea_cons <| ev_str <| ea_cons <| ev_str <| ea_cons <| ev_str <| ea_cons <| ev_str <| ea_cons <| ev_str <| ea_nil ⟨[_, _, _, _, _, _], rfl, by simp, ra_lst (by simp) ?_⟩
  have em : [PyData.str "a", .str "b", .str "B", .str "ab", .str "zz", .str "C", .str "x", .str "aa", .str "Aa", .str "q", .str "r", .str "Zz"] ++ [.str "abc", .str "abd", .str "Abcdef", .str "abcdef", .str "A", .str "abcd"] = menuS.map .str := rfl
  rw [em]
  have ml : (menuS.map PyData.str).length = 18 := rfl
  refine wp_seq <| wp_set <| ev_op <| ev_lst <| ea_cons <| ev_str <| ea_nil ⟨[_], rfl, by simp, ev_sl <| ev_call0 <| ea_cons <| ev_var rfl <| ea_cons <| ev_var rfl <| ea_nil ⟨a, _, u1, n + 1, rfl, put_same, hu1, by rw [ml]; omega, by rw [ml]; omega, fun es u2 hes hu2 => ?_⟩⟩
  obtain ⟨ms, hms, rfl⟩ := perm_map (f := PyData.str) hes rfl
  rw [put_put]
  rw [ml] at hu2
  refine eo_no <| eo_some <| ev_var rfl ⟨_, rfl, rz_lst ?_⟩
  have msl : ms.length = 18 := hms.length_eq
  rw [cut_to, ← List.map_take]
  refine ra_lst (by simp; omega) ?_
  have eL : [PyData.str ""] ++ (ms.take my).map .str = (("" : Str) :: ms.take my).map .str := rfl
  rw [eL]
  have Lsub : ∀ z, z ∈ ("" : Str) :: ms.take my → z ∈ ("" : Str) :: menuS := fun z hz => by
    rcases List.mem_cons.mp hz with e | hz
    · rw [e]; exact List.mem_cons_self
    · exact List.mem_cons_of_mem _ (hms.mem_iff.mp (List.mem_of_mem_take hz))
  have Lnd : (("" : Str) :: ms.take my).Nodup := by
    have h1 : (("" : Str) :: ms).Nodup := (List.Perm.cons (("" : Str)) hms).nodup_iff.mpr menu_nd
    exact h1.sublist ((List.take_sublist my ms).cons₂ _)
  have Ll : (("" : Str) :: ms.take my).length ≤ 13 := by simp; omega
  have L0 : 0 < (("" : Str) :: ms.take my).length := by simp
  have Le : ("" : Str) ∈ ("" : Str) :: ms.take my := List.mem_cons_self
  generalize ("" : Str) :: ms.take my = L at Lsub Lnd Ll L0 Le
  have lL : (L.map PyData.str).length = L.length := List.length_map ..
  refine wp_seq <| wp_set <| ev_call0 <| ea_cons <| ev_var rfl <| ea_cons <| ev_var rfl <| ea_nil ⟨a, _, u2, _, rfl, put_same, hu2, by rw [lL]; omega, by rw [lL]; omega, fun es2 u3 hes2 hu3 => ?_⟩
  obtain ⟨I, hI, rfl⟩ := perm_map (f := PyData.str) hes2 rfl
  rw [put_put]
  rw [lL] at hu3
  have lI : I.length = L.length := hI.length_eq
  have lI2 : (I.map PyData.str).length = L.length := by rw [List.length_map, lI]
  have Ind : I.Nodup := hI.nodup_iff.mpr Lnd
  refine wp_seq <| wp_set <| ev_call0 <| ea_cons <| ev_var rfl <| ea_cons <| ev_int <| ea_nil ⟨a, _, u3, _, rfl, by decide, by decide, put_same, hu3, by omega, fun wy u4 hwy hu4 => ?_⟩
  rw [put_put]
  have fin : ∀ qs, VP qs → ("" : Str) ∈ labs qs → P (.d (.tuple (qs.map pqD))) (put m a (.lst u4)) := fun qs hq he => p qs u4 hq he (hu4.mono (by omega))
  generalize put m a (.lst u4) = m1 at fin
  refine wp_seq <| wp_set <| ev_dnew fun b hb => ?_
  have atS : ∀ {xs : List Str} {i : Int} {k : Nat} {x : Str}, i = (k : Int) → xs[k]? = some x → atI (xs.map PyData.str) i = some (.str x) := fun h1 h2 => atI_map h1 h2
  let R : Option Sl → Option Sl → Rho := fun s8 s9 => [some (.m a), some (.d (.int 12)), some (.d (.int (my : Nat))), some (.d (.list (menuS.map .str))), some (.d (.list (L.map .str))), some (.d (.list (I.map .str))), some (.d (.int (wy : Nat))), some (.m b), s8, s9]
  have zfst : (L.zip I).map Prod.fst = L := List.map_fst_zip (by omega)
  have zsnd : (L.zip I).map Prod.snd = I := List.map_snd_zip (by omega)
  refine wp_seqJ' (fun ρ' m' => ∃ ps s8, ps.length ≤ 13 ∧ Has ps (L.zip I) ∧ ρ' = R s8 none ∧ m' = put m1 b (.dic ps)) ?_ ?_
  · refine wp_rng <| ea_cons <| ev_cb <| ea_cons <| ev_var rfl <| ea_nil <| rc_lenL <| ea_nil ⟨L.length, fun i ρ' m' => ∃ ps s8, ps.length ≤ i ∧ Has ps ((L.zip I).take i) ∧ ρ' = R s8 none ∧ m' = put m1 b (.dic ps), by rw [lL], by omega, ⟨[], _, Nat.le_refl _, fun q hq => (by cases hq), rfl, rfl⟩, ?_, ?_⟩
    · rintro i ρ' m' hi ⟨ps, s8, hl, hh, rfl, rfl⟩
      have hx : L[i]? = some L[i] := List.getElem?_eq_getElem hi
      have hy : I[i]? = some (I[i]'(by omega)) := List.getElem?_eq_getElem (by omega)
      have hzi : (L.zip I)[i]? = some (L[i], I[i]'(by omega)) := List.getElem?_zip_eq_some.mpr ⟨hx, hy⟩
      refine wp_asg <| ev_op <| ev_var rfl <| ev_var rfl <| rx_lst (atS rfl hy) ⟨[], gt_dput <| ev_var rfl ⟨b, rfl, ev_op <| ev_var rfl <| ev_var rfl <| rx_lst (atS rfl hx) ⟨ps, _, rfl, put_same, by omega, _, some (.d (.int (i : Nat))), ?_, has_take (by rw [zfst]; exact Lnd) hzi hh, rfl, ?_⟩⟩⟩
      · exact Nat.le_trans (putP_len _ _ _) (by omega)
      · rw [put_put]
    · rintro ρ' m' ⟨ps, s8, hl, hh, rfl, rfl⟩
      rw [List.take_of_length_le (by rw [List.length_zip]; omega)] at hh
      exact ⟨ps, s8, by omega, hh, rfl, rfl⟩
  rintro ρ' m' ⟨ps, s8, hpl, hh, rfl, rfl⟩
  have tx : ∀ z ∈ L, ∃ l, z = Sx l ∧ Tx l ∧ l.length ≤ 20 := fun z hz => menu_tx (Lsub z hz)
  have last : ∀ ps s8 s9, OnTo ps L → Wp K (tRet (tCB (rTupleC K) (tCons (tLc (iSeqU K (tCB (rSortS K) (tCons (tVar 4) tNil))) (gName 9) tYes (tTupZ (tCons (tVar 9) (tCons (tDGet (tVar 7) (tVar 9)) tNil))) [9]) tNil))) (R s8 s9) (put m1 b (.dic ps)) { nx := fun _ m' => P (.d .none) m', rt := P } := by
    intro ps s8 s9 ho
    refine wp_ret <| ev_del <| ev_cb <| ea_cons <| ev_lcF (toD := PyData.str) List.mem_cons_self <| ei_lst <| ev_cb <| ea_cons <| ev_var rfl <| ea_nil <| rc_sortS strs_lst fun ys hy1 hy2 => ?_
    obtain ⟨g, g1, g2⟩ := onTo_vp ho Lnd Ll tx hy1 hy2
    refine ⟨_, rfl, ys, fun _ => true, pqD ∘ fun z => (z, g z), rfl, trivial, by rw [hy1.length_eq]; omega, fun z hz => ⟨et_yes ⟨rfl, rfl⟩, fun _ => ev_tup <| ea_cons <| ev_var rfl <| ea_cons <| ev_dget <| ev_var rfl ⟨b, rfl, ev_var rfl ⟨ps, z, _, rfl, put_same, g1 z (hy1.mem_iff.mp hz), ea_nil ⟨[_, _], rfl, by simp, rfl, rfl⟩⟩⟩⟩, ea_nil <| rc_tupleL ⟨b, _, put_same, ?_⟩⟩
    rw [del_put hb, List.filter_eq_self.mpr (fun _ _ => rfl), ← List.map_map]
    refine fin _ g2 ?_
    have el : labs (ys.map fun z => (z, g z)) = ys := by unfold labs; rw [List.map_map]; exact List.map_id _
    rw [el]
    exact hy1.mem_iff.mpr Le
  have o0 : OnTo ps L := ⟨L.zip I, hh, by rw [zfst], by rw [zsnd]; exact hI⟩
  refine wp_seqJ' (fun ρ' m' => ∃ ps s8, ps.length ≤ 40 ∧ OnTo ps L ∧ ρ' = R s8 none ∧ m' = put m1 b (.dic ps)) ?_ ?_
  · refine wp_if <| et_test <| ev_op <| ev_var rfl <| ev_int <| re_eq (shaped_int _) (shaped_int _) ⟨_, rfl, ite_b (fun _ => ?_) (fun _ => wp_next ⟨ps, s8, by omega, o0, rfl, rfl⟩)⟩
    obtain ⟨ini, lst, hil⟩ : ∃ ini lst, I = ini ++ [lst] := by
      rcases List.eq_nil_or_concat I with e | ⟨ini, lst, e⟩
      · rw [e] at lI; simp at lI; omega
      · exact ⟨ini, lst, by simpa using e⟩
    have hB : (lst :: ini).Perm I := by rw [hil]; exact (List.perm_append_comm (l₁ := [lst]) (l₂ := ini))
    have lB : (lst :: ini).length = I.length := hB.length_eq
    have bfst : ((lst :: ini).zip I).map Prod.fst = lst :: ini := List.map_fst_zip (by omega)
    have bsnd : ((lst :: ini).zip I).map Prod.snd = I := List.map_snd_zip (by omega)
    refine wp_rng <| ea_cons <| ev_cb <| ea_cons <| ev_var rfl <| ea_nil <| rc_lenL <| ea_nil ⟨I.length, fun i ρ' m' => ∃ ps s8, ps.length ≤ 13 + i ∧ Has ps (((lst :: ini).zip I).take i) ∧ ρ' = R s8 none ∧ m' = put m1 b (.dic ps), by rw [List.length_map], by omega, ⟨ps, _, by omega, fun q hq => (by cases hq), rfl, rfl⟩, ?_, ?_⟩
    · rintro i ρ' m' hi ⟨ps, s8, hl, hh, rfl, rfl⟩
      have hx : (lst :: ini)[i]? = some ((lst :: ini)[i]'(by omega)) := List.getElem?_eq_getElem (by omega)
      have hy : I[i]? = some I[i] := List.getElem?_eq_getElem hi
      have hzi : ((lst :: ini).zip I)[i]? = some ((lst :: ini)[i]'(by omega), I[i]) := List.getElem?_zip_eq_some.mpr ⟨hx, hy⟩
      have hk : atI (I.map PyData.str) ((i : Int) - 1) = some (.str ((lst :: ini)[i]'(by omega))) := by
        have eI : I.map PyData.str = ini.map PyData.str ++ [PyData.str lst] := by rw [hil, List.map_append]; rfl
        cases i with
        | zero =>
          show _ = some (PyData.str lst)
          rw [eI]
          exact atI_last (by simp)
        | succ k =>
          have hk2 : k < ini.length := by have := congrArg List.length hil; simp at this; omega
          have e2 : I[k]? = ini[k]? := by
            conv => lhs; rw [hil]
            exact List.getElem?_append_left hk2
          show _ = some (PyData.str (ini[k]'hk2))
          exact atS (k := k) (by omega) (e2.trans (List.getElem?_eq_getElem hk2))
      refine wp_asg <| ev_op <| ev_var rfl <| ev_var rfl <| rx_lst (atS rfl hy) ⟨[], gt_dput <| ev_var rfl ⟨b, rfl, ev_op <| ev_var rfl <| ev_op <| ev_var rfl <| ev_int <| rs_int <| rx_lst hk ⟨ps, _, rfl, put_same, by omega, _, some (.d (.int (i : Nat))), ?_, has_take (by rw [bfst]; exact hB.nodup_iff.mpr Ind) hzi hh, rfl, ?_⟩⟩⟩
      · exact Nat.le_trans (putP_len _ _ _) (by omega)
      · rw [put_put]
    · rintro ρ' m' ⟨ps, s8, hl, hh, rfl, rfl⟩
      rw [List.take_of_length_le (by rw [List.length_zip]; omega)] at hh
      exact ⟨ps, s8, by omega, ⟨_, hh, by rw [bfst]; exact hB.trans hI, by rw [bsnd]; exact hI⟩, rfl, rfl⟩
  rintro ρ' m' ⟨ps, s8, hpl, ho, rfl, rfl⟩
  refine wp_seqJ' (fun ρ' m' => ∃ ps s8 s9, OnTo ps L ∧ ρ' = R s8 s9 ∧ m' = put m1 b (.dic ps)) ?_ ?_
  · refine wp_if <| et_test <| ev_op <| ev_var rfl <| ev_int <| rl_gt ⟨_, rfl, ite_b (fun _ => ?_) (fun _ => wp_next ⟨ps, s8, none, ho, rfl, rfl⟩)⟩
    refine wp_seqJ' (fun ρ' m' => ∃ ps s9, ps.length ≤ 60 ∧ (∀ z, z ∈ L → valP ps z = some (.str z)) ∧ ρ' = R s8 s9 ∧ m' = put m1 b (.dic ps)) ?_ ?_
    · refine wp_forL (toD := PyData.str) <| ei_lst <| ev_var rfl ⟨_, rfl, L, fun i ρ' m' => ∃ ps s9, ps.length ≤ 40 + i ∧ Has ps ((L.map fun z => (z, z)).take i) ∧ ρ' = R s8 s9 ∧ m' = put m1 b (.dic ps), rfl, ⟨ps, none, by omega, fun q hq => (by cases hq), rfl, rfl⟩, fun _ _ _ _ => trivial, ?_, ?_⟩
      · rintro i z ρ' m' hz ⟨ps, s9, hl, hh, rfl, rfl⟩
        have hzi : (L.map fun z => (z, z))[i]? = some (z, z) := by rw [List.getElem?_map, hz]; rfl
        have hi := (List.getElem?_eq_some_iff.mp hz).1
        refine wp_asg <| ev_var rfl ⟨[], gt_dput <| ev_var rfl ⟨b, rfl, ev_var rfl ⟨ps, _, rfl, put_same, by omega, _, some (.d (.str z)), ?_, has_take (by rw [List.map_map]; exact (List.map_id L).symm ▸ Lnd) hzi hh, rfl, ?_⟩⟩⟩
        · exact Nat.le_trans (putP_len _ _ _) (by omega)
        · rw [put_put]
      · rintro ρ' m' ⟨ps, s9, hl, hh, rfl, rfl⟩
        rw [List.take_of_length_le (by rw [List.length_map]; exact Nat.le_refl _)] at hh
        exact ⟨ps, s9, by omega, fun z hz => hh (z, z) (List.mem_map_of_mem hz), rfl, rfl⟩
    rintro ρ' m' ⟨ps, s9, hpl, hid, rfl, rfl⟩
    have i0 : I.length - 1 < 13 := by omega
    refine wp_for <| ei_rng3 <| ea_cons <| ev_int <| ea_cons <| ev_op <| ev_cb <| ea_cons <| ev_var rfl <| ea_nil <| rc_lenL <| ev_int <| rs_int <| ea_cons <| ev_int <| ea_nil ⟨I.length - 1, by rw [List.length_map]; congr 3; simp; omega, i0, fun i ρ' m' => ∃ (ps : List (Str × PyData)) (s8 : Option Sl) (Z : List (Str × Str)), ps.length ≤ 60 + 2 * i ∧ Has ps Z ∧ Z.map Prod.fst = I.take (2 * i) ∧ (Z.map Prod.snd).Perm (I.take (2 * i)) ∧ (∀ z, z ∈ I.drop (2 * i) → valP ps z = some (.str z)) ∧ ρ' = R s8 s9 ∧ m' = put m1 b (.dic ps), ⟨ps, _, [], by omega, fun q hq => (by cases hq), rfl, .refl _, fun z hz => hid z (hI.mem_iff.mp (List.mem_of_mem_drop hz)), rfl, rfl⟩, fun _ _ _ _ => trivial, ?_, ?_⟩
    · rintro i x ρ' m' hx ⟨ps, s8, Z, hl, hh, z1, z2, hrest, rfl, rfl⟩
      have hi : i < (I.length - 1 + 1) / 2 := by
        have := (List.getElem?_eq_some_iff.mp hx).1
        simpa using this
      rw [List.getElem?_map, List.getElem?_range hi] at hx
      cases hx
      have j0 : 2 * i < I.length := by omega
      have j1 : 2 * i + 1 < I.length := by omega
      have d0 : I.drop (2 * i) = I[2 * i] :: I[2 * i + 1] :: I.drop (2 * i + 2) := by
        rw [List.drop_eq_getElem_cons j0, List.drop_eq_getElem_cons j1]
      have t2 : I.take (2 * i + 2) = I.take (2 * i) ++ [I[2 * i], I[2 * i + 1]] := by
        rw [show 2 * i + 2 = (2 * i + 1) + 1 by omega, List.take_add_one, List.take_add_one, List.getElem?_eq_getElem j0, List.getElem?_eq_getElem j1, List.append_assoc]
        rfl
      have ndd : (I.take (2 * i) ++ (I[2 * i] :: I[2 * i + 1] :: I.drop (2 * i + 2))).Nodup := by rw [← d0, List.take_append_drop]; exact Ind
      obtain ⟨k1, k2, k3⟩ := List.nodup_append.mp ndd
      obtain ⟨k4, k5⟩ := List.nodup_cons.mp k2
      obtain ⟨k6, k7⟩ := List.nodup_cons.mp k5
      have hxy : I[2 * i] ≠ I[2 * i + 1] := fun e => k4 (by rw [e]; exact List.mem_cons_self)
      have hx0 : I[2 * i] ∉ Z.map Prod.fst := fun q => k3 _ (z1 ▸ q) _ List.mem_cons_self rfl
      have hy0 : I[2 * i + 1] ∉ Z.map Prod.fst := fun q => k3 _ (z1 ▸ q) _ (List.mem_cons_of_mem _ List.mem_cons_self) rfl
      have at0 : atI (I.map PyData.str) ((2 * i : Nat) : Int) = some (.str I[2 * i]) := atS rfl (List.getElem?_eq_getElem j0)
      have at1 : atI (I.map PyData.str) (((2 * i : Nat) : Int) + 1) = some (.str I[2 * i + 1]) := atS (k := 2 * i + 1) (by omega) (List.getElem?_eq_getElem j1)
      refine ⟨[8], gt_name ?_⟩
      have keep : ∃ (ps' : List (Str × PyData)) (s8' : Option Sl) (Z' : List (Str × Str)), ps'.length ≤ 60 + 2 * (i + 1) ∧ Has ps' Z' ∧ Z'.map Prod.fst = I.take (2 * (i + 1)) ∧ (Z'.map Prod.snd).Perm (I.take (2 * (i + 1))) ∧ (∀ z, z ∈ I.drop (2 * (i + 1)) → valP ps' z = some (.str z)) ∧ (R s8 s9).set 8 (some (.d (.int ((2 * i : Nat) : Int)))) = R s8' s9 ∧ put m1 b (.dic ps) = put m1 b (.dic ps') := by
        refine ⟨ps, _, Z ++ [(I[2 * i], I[2 * i]), (I[2 * i + 1], I[2 * i + 1])], by omega, fun q hq => ?_, ?_, ?_, fun z hz => hrest z ?_, rfl, rfl⟩
        · rcases List.mem_append.mp hq with hq | hq
          · exact hh q hq
          · simp at hq
            rcases hq with rfl | rfl
            · exact hrest _ (by rw [d0]; exact List.mem_cons_self)
            · exact hrest _ (by rw [d0]; exact List.mem_cons_of_mem _ List.mem_cons_self)
        · rw [show 2 * (i + 1) = 2 * i + 2 by omega, t2, List.map_append, z1]; rfl
        · rw [show 2 * (i + 1) = 2 * i + 2 by omega, t2, List.map_append]; exact z2.append_right _
        · rw [d0]; rw [show 2 * (i + 1) = 2 * i + 2 by omega] at hz; exact List.mem_cons_of_mem _ (List.mem_cons_of_mem _ hz)
      have swap : Wp K (tSeq (tAsg (tOp (rIx K) (tVar 5) (tOp (rAddU K) (tVar 8) (tC (.int 1)))) (gSub (tVar 7) (tOp (rIx K) (tVar 5) (tVar 8)) rSetD))
          (tAsg (tOp (rIx K) (tVar 5) (tVar 8)) (gSub (tVar 7) (tOp (rIx K) (tVar 5) (tOp (rAddU K) (tVar 8) (tC (.int 1)))) rSetD))) ((R s8 s9).set 8 (some (.d (.int ((2 * i : Nat) : Int))))) (put m1 b (.dic ps)) { nx := fun ρ' m' => ∃ (ps : List (Str × PyData)) (s8 : Option Sl) (Z : List (Str × Str)), ps.length ≤ 60 + 2 * (i + 1) ∧ Has ps Z ∧ Z.map Prod.fst = I.take (2 * (i + 1)) ∧ (Z.map Prod.snd).Perm (I.take (2 * (i + 1))) ∧ (∀ z, z ∈ I.drop (2 * (i + 1)) → valP ps z = some (.str z)) ∧ ρ' = R s8 s9 ∧ m' = put m1 b (.dic ps), rt := P } := by
        refine wp_seq <| wp_asg <| ev_op <| ev_var rfl <| ev_op <| ev_var rfl <| ev_int <| ra_int <| rx_lst at1 ⟨[], gt_dput <| ev_var rfl ⟨b, rfl, ev_op <| ev_var rfl <| ev_var rfl <| rx_lst at0 ⟨ps, _, rfl, put_same, by omega, ?_⟩⟩⟩
        rw [put_put]
        have q1 := putP_len ps I[2 * i] (.str I[2 * i + 1])
        refine wp_asg <| ev_op <| ev_var rfl <| ev_var rfl <| rx_lst at0 ⟨[], gt_dput <| ev_var rfl ⟨b, rfl, ev_op <| ev_var rfl <| ev_op <| ev_var rfl <| ev_int <| ra_int <| rx_lst at1 ⟨_, _, rfl, put_same, by omega, ?_⟩⟩⟩
        rw [put_put]
        have q2 := putP_len (putP ps I[2 * i] (.str I[2 * i + 1])) I[2 * i + 1] (.str I[2 * i])
        refine ⟨_, _, Z ++ [(I[2 * i], I[2 * i + 1])] ++ [(I[2 * i + 1], I[2 * i])], by omega, has_put (has_put hh hx0) ?_, ?_, ?_, fun z hz => ?_, rfl, rfl⟩
        · rw [List.map_append]
          exact fun q => (List.mem_append.mp q).elim hy0 fun q => hxy (List.mem_singleton.mp q).symm
        · rw [show 2 * (i + 1) = 2 * i + 2 by omega, t2, List.map_append, List.map_append, z1, List.append_assoc]; rfl
        · rw [show 2 * (i + 1) = 2 * i + 2 by omega, t2, List.map_append, List.map_append, List.append_assoc]
          exact z2.append (List.Perm.swap _ _ _)
        · rw [show 2 * (i + 1) = 2 * i + 2 by omega] at hz
          have n1 : z ≠ I[2 * i + 1] := fun e => k6 (e ▸ hz)
          have n2 : z ≠ I[2 * i] := fun e => k4 (by rw [← e]; exact List.mem_cons_of_mem _ hz)
          rw [valP_put, if_neg n1, valP_put, if_neg n2]
          exact hrest z (by rw [d0]; exact List.mem_cons_of_mem _ (List.mem_cons_of_mem _ hz))
      refine wp_if <| et_or <| et_test <| ev_op <| ev_var rfl <| ev_int <| re_eq (shaped_int _) (shaped_int _) ⟨_, rfl, ite_b (fun _ => ?_) (fun _ => ?_)⟩
      · rw [if_pos rfl]; exact swap.mono (fun _ _ p => p) (fun _ _ p => p) (fun _ _ p => p.elim) (fun _ _ p => p.elim)
      · refine et_and <| et_test <| ev_op <| ev_var rfl <| ev_int <| re_eq (shaped_int _) (shaped_int _) ⟨_, rfl, ite_b (fun _ => ?_) (fun _ => wp_next keep)⟩
        exact et_test <| ev_op <| ev_var rfl <| ev_int <| rl_lt ⟨_, rfl, ite_b (fun _ => by show Wp K _ _ _ _; exact swap.mono (fun _ _ p => p) (fun _ _ p => p) (fun _ _ p => p.elim) (fun _ _ p => p.elim)) (fun _ => wp_next keep)⟩
    · rintro ρ' m' ⟨ps, s8, Z, hl, hh, z1, z2, hrest, rfl, rfl⟩
      rw [List.length_map, List.length_range] at z1 z2 hrest
      refine ⟨ps, s8, s9, ⟨Z ++ (I.drop (2 * ((I.length - 1 + 1) / 2))).map fun z => (z, z), fun q hq => ?_, ?_, ?_⟩, rfl, rfl⟩
      · rcases List.mem_append.mp hq with hq | hq
        · exact hh q hq
        · obtain ⟨z, hz, rfl⟩ := List.mem_map.mp hq
          exact hrest z hz
      · rw [List.map_append, List.map_map, z1]
        have : (I.drop (2 * ((I.length - 1 + 1) / 2))).map (Prod.fst ∘ fun z => (z, z)) = I.drop (2 * ((I.length - 1 + 1) / 2)) := List.map_id _
        rw [this, List.take_append_drop]
        exact hI
      · rw [List.map_append, List.map_map]
        have : (I.drop (2 * ((I.length - 1 + 1) / 2))).map (Prod.snd ∘ fun z => (z, z)) = I.drop (2 * ((I.length - 1 + 1) / 2)) := List.map_id _
        rw [this]
        refine (z2.append_right _).trans ?_
        rw [List.take_append_drop]
        exact hI
  rintro ρ' m' ⟨ps, s8, s9, ho, rfl, rfl⟩
  exact last ps s8 s9 ho
end
end Dv

namespace Dv
open PySem L2 PyProof.Rows
open PySem.Calls
/-! ### xs[::-1] of a tuple -/
section
variable {prog : Program} {w : World} {A : Around} {E : Value → Shared → Prop} {s : Shared}
theorem places_rev (n : Nat) : Builtin.Slice.slicePlaces ((n : Int) - 1) (-1) (-1) = n := by
  unfold Builtin.Slice.slicePlaces
  have h1 : ¬ ((-1 : Int) > 0) := by decide
  rw [if_neg h1]
  by_cases h : (n : Int) - 1 > -1
  · rw [if_pos h]
    have e : ((n : Int) - 1 - -1 - 1) / (- -1) + 1 = (n : Int) := by
      rw [show (- -1 : Int) = 1 by decide, Int.ediv_one]
      omega
    rw [e]; rfl
  · rw [if_neg h]
    have : n = 0 := by omega
    rw [this]; rfl
theorem sliceApplied_rev {sl : Addr} {vk : Value} {n : Nat} {Q : Int × Int × Nat → Shared → Prop} (hs : s.heap.IsSliceOf sl .none .none vk) (pk : IsPart vk (some (-1)))
    (h : Q ((n : Int) - 1, -1, n) s) : wpAny (model prog w) A (Builtin.Slice.sliceApplied (.ref sl) (pure (n : Int))) Q E s := by
  obtain ⟨os, hos, hcs, hds⟩ := id hs
  unfold Builtin.Slice.sliceApplied Builtin.Slice.sliceFields
  refine wpAny_bind (wpAny_bind (wpAny_field hos hds (x := .none) rfl (wpAny_bind (wpAny_field hos hds (x := .none) rfl (wpAny_bind (wpAny_field hos hds (x := vk) rfl (wpAny_pure ?_)))))))
  refine wpAny_bind (HT.slicePart_ pk ?_)
  show wpAny _ _ (if ((-1 : Int) == 0) = true then _ else _) _ _ s
  rw [if_neg (by decide)]
  refine wpAny_bind (HT.slicePart_ .none (wpAny_bind (HT.slicePart_ .none (wpAny_bind (wpAny_pure ?_)))))
  show wpAny _ _ (pure ((n : Int) - 1, (-1 : Int), Builtin.Slice.slicePlaces ((n : Int) - 1) (-1) (-1))) _ _ s
  rw [places_rev]
  exact wpAny_pure h
theorem fm_congr {α β : Type} {f g : α → Option β} : ∀ {l : List α}, (∀ x, x ∈ l → f x = g x) → l.filterMap f = l.filterMap g
  | [], _ => rfl
  | x :: l, h => by
    rw [List.filterMap_cons, List.filterMap_cons, h x List.mem_cons_self, fm_congr fun y hy => h y (List.mem_cons_of_mem _ hy)]
theorem pick_rev (xs : Array Value) : ((List.range xs.size).filterMap fun (m : Nat) => xs[(((xs.size : Int) - 1) + (m : Int) * (-1)).toNat]?).toArray = xs.toList.reverse.toArray := by
  have e : (List.range xs.size).filterMap (fun (m : Nat) => xs[(((xs.size : Int) - 1) + (m : Int) * (-1)).toNat]?) = (List.range xs.size).filterMap ((fun k => xs[k]?) ∘ fun k => xs.size - 1 - k) := fm_congr fun m hm => by
    have := List.mem_range.mp hm
    have e2 : (((xs.size : Int) - 1) + (m : Int) * (-1)).toNat = xs.size - 1 - m := by omega
    show xs[_]? = xs[_]?
    rw [e2]
  rw [e, ← List.filterMap_map, PySem.W.krv_range, List.filterMap_reverse, PySem.W.krv_all]
theorem getItem_tuple_rev {t sl : Addr} {items : Array Value} {vk : Value} {Q : Value → Shared → Prop} (ht : IsTup s.heap t items) (hs : s.heap.IsSliceOf sl .none .none vk) (pk : IsPart vk (some (-1)))
    (h : Q (.ref s.heap.objs.size) { s with heap := s.heap.push { cls := .type "tuple", data := .seq items.toList.reverse.toArray } })
    (hsz : items.size ≤ sizeLine) : wpAny (model prog w) A (getItem (.ref t) (.ref sl)) Q E s := by
  have htake : sizeOk (.seq items.toList.reverse.toArray) := by
    show items.toList.reverse.toArray.size ≤ sizeLine
    rw [List.size_toArray, List.length_reverse, Array.length_toList]
    omega
  obtain ⟨os, hos, hcs, hds⟩ := id hs
  have hTs : s.TypeIs (.ref sl) "slice" := ⟨os, hos, hcs⟩
  unfold getItem
  try with_reducible refine wpAny_holding ?_
  first | refine wpAny_bind (wpAny_pure ?_) | skip
  refine wpAny_bind (wpAny_sequenceKey ht.typeIs (by decide) ?_)
  refine wpAny_bind (wpAny_callSpecial?_slot (name := Str.ofString "__getitem__") ht.typeIs PyProof.Rows.slot_tuple_getitem
    (wpAny_call_entry PyProof.Rows.slot_tuple_getitem ht.typeIs entry_tuple_getitem ?_ (args_tuple_getitem _ _)))
  show wpAny _ _ (Builtin.Tuple.tupleItemsOf (.ref t) >>= _) _ _ s
  refine wpAny_bind (PyProof.Rows.tupleItemsOf_ ht ?_)
  refine wpAny_bind (wpAny_typeOf hTs ?_)
  rw [if_pos (by decide)]
  refine wpAny_bind (sliceApplied_rev hs pk ?_)
  have hno : ¬ ((((items.size : Int) - 1) == 0 && (-1 : Int) == 1 && items.size == items.size) = true) := by
    intro q
    rw [Bool.and_eq_true, Bool.and_eq_true] at q
    exact absurd q.1.2 (by decide)
  show wpAny _ _ (if ((((items.size : Int) - 1) == 0 && (-1 : Int) == 1 && items.size == items.size) = true) then _ else _) _ _ s
  rw [if_neg hno, pick_rev]
  first
    | exact wpAny_bind (m := Builtin.Tuple.tupleExact _) (wpAny_newObj_type (wpAny_pure ⟨_, rfl, wpAny_pure h⟩) htake)
    | exact wpAny_bind (m := Builtin.Tuple.tupleExact _) (wpAny_newObj_type (wpAny_bind (wpAny_pure (wpAny_pure ⟨_, rfl, wpAny_pure h⟩))) htake)
    | exact wpAny_bind (wpAny_bind (m := Builtin.Tuple.tupleExact _) (wpAny_newObj_type (wpAny_pure (wpAny_pure ⟨_, rfl, wpAny_pure h⟩)) htake))
    | exact wpAny_bind (wpAny_bind (m := Builtin.Tuple.tupleExact _) (wpAny_newObj_type (wpAny_pure ⟨_, rfl, wpAny_pure h⟩) htake))
end
def tRevT (K : PySem.W.Frag) (te : TE) : TE := fun σ H Q => te σ H fun x H1 => ∃ a xs, x = .ref a ∧ SqT K H1 a xs ∧ ∀ p ob, H1 p = none → ob.dict = none → Q (.ref p) (upd H1 p (.frz ob (.tup xs.reverse)))
theorem pe_revT {X : Cx} {e : Expr} {te : TE} {k : Nat} {p1 p2 p3 pos : Pos} (he : PE X e te) : PE X (.Subscript e (.Slice none none (some (.UnaryOp .USub (.Constant (.int 1) k p1) p2)) p3) pos) (tRevT X.K te) := by
  refine ⟨fun pins s σ H Q I h => ?_⟩
  refine Subscript_ (thn (he.run pins s σ H _ I h) fun v s1 ⟨x, H1, I1, r1, q1⟩ => ?_)
  obtain ⟨a, xs, ex, hx, q⟩ := q1
  subst ex
  cases r1
  have hst : PO X (some (.UnaryOp .USub (.Constant (.int 1) k p1) p2)) (tPart (tUn (rU fun i => .int (-i)) (tC (.int 1)))) := po_some (pe_un un_neg pe_int)
  refine wpAny_Slice (thn (po_none.run pins s1 σ H1 (fun o H2 => o = none ∧ H2 = H1) I1 ⟨rfl, rfl⟩) fun vl s2 ⟨l, H2, I2, pl, el, e2⟩ => ?_)
  subst el e2
  refine thn (po_none.run pins s2 σ H2 (fun o H3 => o = none ∧ H3 = H2) I2 ⟨rfl, rfl⟩) fun vu s3 ⟨u, H3, I3, pu, eu, e3⟩ => ?_
  subst eu e3
  refine thn (hst.run pins s3 σ H3 (fun o H4 => o = some (-1) ∧ H4 = H3) I3 ⟨1, rfl, -1, rfl, rfl, rfl⟩) fun vs s4 ⟨o, H4, I4, ps, eo, e4⟩ => ?_
  subst eo e4
  cases pl
  cases pu
  have I5 : Inv X pins σ H4 { s4 with heap := s4.heap.push { cls := .type "slice", data := .fields #[.none, .none, vs] } } := I4.kept (t' := s4.toks) fun b ob q => Heap.get?_push_of_some _ q
  obtain ⟨its, r, ht, hz⟩ := I5.tuple hx
  have hlen := r.length
  show wpAny (model X.prog X.w) X.A (subscriptTail e (.Slice none none (some (.UnaryOp .USub (.Constant (.int 1) k p1) p2)) p3) (.ref a) (.ref s4.heap.objs.size)) (EP X pins σ Q) X.xe { s4 with heap := s4.heap.push { cls := .type "slice", data := .fields #[.none, .none, vs] } }
  refine tail_any (ops := [.ref a, .ref s4.heap.objs.size]) ht.typeIs (PyProof.Rows.slot_tuple_getitem.lookup) ?_ (by with_unfolding_all rfl)
  refine getItem_tuple_rev ht (Heap.IsSliceOf.new _ .none .none vs) ps ?_ (by rw [List.size_toArray]; omega)
  refine ⟨.ref _, _, inv_tupZ (tk := s4.toks) I5 (fun _ _ a => a) (xs := xs.reverse) (by rw [List.length_reverse]; exact hz) r.reverse, rfl, ?_⟩
  exact q _ _ (I5.hok.fresh (Nat.le_refl _)) rfl
section
variable {K : PySem.W.Frag} {ρ : Rho} {m : Sto} {P : PV} {te td ty : TE}
theorem imAll_rev {F : Reg} {H : Hp} {ds : List PyData} {vs : List V} (h : ImAll K F H ds vs) : ImAll K F H ds.reverse vs.reverse := by
  have hl := imAll_len h
  have key : ∀ (ds : List PyData) (vs : List V), ds.length = vs.length → (∀ (j : Nat) (d : PyData) (v : V), ds[j]? = some d → vs[j]? = some v → Im K F H d v) → ImAll K F H ds vs := by
    intro ds
    induction ds with
    | nil => intro vs e _; exact List.length_eq_zero_iff.mp e.symm
    | cons d ds ih =>
      intro vs e hj
      cases vs with
      | nil => cases e
      | cons v vs => exact ⟨v, vs, rfl, hj 0 d v rfl rfl, ih vs (Nat.succ.inj e) fun j d' v' h1 h2 => hj (j + 1) d' v' h1 h2⟩
  refine key _ _ (by rw [List.length_reverse, List.length_reverse]; exact hl) fun j d v h1 h2 => ?_
  have hj := (List.getElem?_eq_some_iff.mp h1).1
  rw [List.length_reverse] at hj
  rw [List.getElem?_reverse hj] at h1
  rw [List.getElem?_reverse (by omega), ← hl] at h2
  obtain ⟨v2, e2, i2⟩ := imAll_get h h1
  rw [h2] at e2
  cases e2
  exact i2
theorem ev_revT (h : Ev K te ρ m fun s m1 => ∃ ds, s = .d (.tuple ds) ∧ P (.d (.tuple ds.reverse)) m1) : Ev K (tRevT K te) ρ m P := fun σ F H Q E S q =>
  h σ F H _ E S fun s m1 x F1 H1 ⟨ds, e, p⟩ s1 S1 o1 => by
    subst e
    obtain ⟨l, vs, e, hl, i⟩ := im_tup o1
    refine ⟨l, vs, e, hl, fun c ob hc hd => q _ m1 _ _ _ p (s1.trans (step_new S1 hc)) (sto_new S1 hc) ⟨c, _, rfl, .inl ⟨.inl rfl, ob, upd_same, hd⟩, imAll_fix (step_new S1 hc).fix _ _ (imAll_rev i)⟩⟩
theorem ev_revL (h : Ev K te ρ m fun s m1 => ∃ ds, s = .d (.list ds) ∧ P (.d (.list ds.reverse)) m1) : Ev K (tRevL K te) ρ m P := fun σ F H Q E S q =>
  h σ F H _ E S fun s m1 x F1 H1 ⟨ds, e, p⟩ s1 S1 o1 => by
    subst e
    obtain ⟨l, vs, e, hl, i⟩ := im_lst o1
    exact ⟨l, vs, e, SqL.of hl, fun c hc => q _ m1 _ _ _ p (s1.trans (step_new S1 hc)) (sto_new S1 hc) ⟨c, _, rfl, .inl rfl, upd_same, imAll_fix (step_new S1 hc).fix _ _ (imAll_rev i)⟩⟩
/-! ### a dict that is walked -/
theorem mu_dicF {F : Reg} {H : Hp} (S : StoOk K m F H) {a : Addr} {ob : Obj} {kvs : List (Key × V)} {ps : List (Str × PyData)} (h : m a = some (.dicF ob kvs ps)) : H a = some (.frz ob (.dK kvs)) ∧ DicR K F H ps kvs := (S.mu a _ h).1
theorem wp_lock {t : TS} {k : Ko} {a : Addr} {ps : List (Str × PyData)} (hm : m a = some (.dic ps)) (h : ∀ ob kvs, Wp K t ρ (put m a (.dicF ob kvs ps)) { nx := fun ρ' m' => m' a = some (.dicF ob kvs ps) ∧ k.nx ρ' (put m' a (.dic ps)), ct := fun ρ' m' => m' a = some (.dicF ob kvs ps) ∧ k.ct ρ' (put m' a (.dic ps)), bk := fun ρ' m' => m' a = some (.dicF ob kvs ps) ∧ k.bk ρ' (put m' a (.dic ps)), rt := fun s m' => m' a = some (.dicF ob kvs ps) ∧ k.rt s (put m' a (.dic ps)) }) : Wp K (tLock t) ρ m k := fun D σ F H E S q1 q2 q3 q4 => by
  obtain ⟨kvs, hk, r⟩ := mu_dic S hm
  refine ⟨a, .dK kvs, hk, True.intro, fun od => ?_⟩
  have st1 : Step m F H (put m a (.dicF od kvs ps)) F (upd H a (.frz od (.dK kvs))) := step_mut S hm
  have r1 : DicR K F (upd H a (.frz od (.dK kvs))) ps kvs := Paired.mapP r fun _ _ z => ⟨z.1, im_fix st1.fix _ _ z.2⟩
  have S1 : StoOk K (put m a (.dicF od kvs ps)) F (upd H a (.frz od (.dK kvs))) := sto_put S (S.mu a _ hm).2 ⟨upd_same, r1⟩
  have back : ∀ {m' : Sto} {F' : Reg} {H' : Hp}, m' a = some (.dicF od kvs ps) → Step (put m a (.dicF od kvs ps)) F (upd H a (.frz od (.dK kvs))) m' F' H' → StoOk K m' F' H' → H' a = some (.frz od (.dK kvs)) ∧ Step m F H (put m' a (.dic ps)) F' (upd H' a (.dK kvs)) ∧ StoOk K (put m' a (.dic ps)) F' (upd H' a (.dK kvs)) ∧ Step m' F' H' (put m' a (.dic ps)) F' (upd H' a (.dK kvs)) := fun {m' F' H'} e st S' => by
    obtain ⟨h1, r2⟩ := mu_dicF S' e
    have st2 : Step m' F' H' (put m' a (.dic ps)) F' (upd H' a (.dK kvs)) := step_mut S' e
    exact ⟨h1, (st1.trans st).trans st2, sto_put S' (S'.mu a _ e).2 ⟨kvs, upd_same, Paired.mapP r2 fun _ _ z => ⟨z.1, im_fix st2.fix _ _ z.2⟩⟩, st2⟩
  refine h od kvs _ σ F _ (envOk_step st1 E) S1 (fun ρ' m' σ' F' H' ⟨e, p⟩ st S' E' => ?_) (fun s m' v F' H' ⟨e, p⟩ st S' o => ?_) (fun ρ' m' σ' F' H' ⟨e, p⟩ st S' E' => ?_) (fun ρ' m' σ' F' H' ⟨e, p⟩ st S' E' => ?_)
  · obtain ⟨b1, b2, b3, b4⟩ := back e st S'
    exact ⟨b1, q1 ρ' _ σ' F' _ p b2 b3 (envOk_step b4 E')⟩
  · obtain ⟨b1, b2, b3, b4⟩ := back e st S'
    exact ⟨b1, q2 s _ v F' _ p b2 b3 (slOk_step b4 o)⟩
  · obtain ⟨b1, b2, b3, b4⟩ := back e st S'
    exact ⟨b1, q3 ρ' _ σ' F' _ p b2 b3 (envOk_step b4 E')⟩
  · obtain ⟨b1, b2, b3, b4⟩ := back e st S'
    exact ⟨b1, q4 ρ' _ σ' F' _ p b2 b3 (envOk_step b4 E')⟩
theorem ev_dgetF (h : Ev K td ρ m fun s m1 => ∃ a, s = .m a ∧ Ev K ty ρ m1 fun s' m2 => ∃ (ob : Obj) (kvs : List (Key × V)) (ps : List (Str × PyData)) (k : Str) (d : PyData), s' = .d (.str k) ∧ m2 a = some (.dicF ob kvs ps) ∧ valP ps k = some d ∧ P (.d d) m2) : Ev K (tDGet td ty) ρ m P := fun σ F H Q E S q =>
  h σ F H _ E S fun s m1 x F1 H1 ⟨a, e, h1⟩ s1 S1 o1 => h1 σ F1 H1 _ (envOk_step s1 E) S1 fun s' m2 y F2 H2 ⟨ob, kvs, ps, k, d, e2, hm, hv, p⟩ s2 S2 o2 => by
    subst e e2
    cases (show x = .ref a from o1)
    cases (show y = .str k from o2)
    obtain ⟨hk, r⟩ := mu_dicF S2 hm
    obtain ⟨v, hv2, iv⟩ := (dic_val r).1 d hv
    exact ⟨a, v, rfl, hv2 ▸ .inl ⟨kvs, .inr k, .inr ⟨ob, hk⟩, rfl, rfl⟩, q _ m2 _ F2 H2 p (s1.trans s2) S2 iv⟩
theorem ei_dicF {P : List Sl → (Sto → Prop) → Sto → Prop} (h : Ev K td ρ m fun s m1 => ∃ (a : Addr) (ob : Obj) (kvs : List (Key × V)) (ps : List (Str × PyData)), s = .m a ∧ m1 a = some (.dicF ob kvs ps) ∧ P ((ps.map fun p => PyData.str p.1).map .d) (fun m' => m' a = some (.dicF ob kvs ps)) m1) : EvI K (iKeys td) ρ m P := fun σ F H R E S q =>
  h σ F H _ E S fun s m1 x F1 H1 ⟨a, ob, kvs, ps, e, hm, p⟩ s1 S1 o1 => by
    subst e
    cases (show x = .ref a from o1)
    obtain ⟨hk, r⟩ := mu_dicF S1 hm
    have hl : kvs.length = ps.length := (paired_len r).symm
    refine ⟨a, ob, rfl, .inl ⟨kvs, hk, q _ _ m1 F1 H1 _ p s1 S1 ⟨?_, ?_, ?_⟩⟩⟩
    · rintro i H2 hi ⟨m2, F2, c, st, S2⟩
      exact ⟨(mu_dicF S2 c).1, by rw [List.length_map, List.length_map] at hi; omega⟩
    · rintro H2 ⟨m2, F2, c, st, S2⟩
      exact ⟨(mu_dicF S2 c).1, by rw [List.length_map, List.length_map]; omega⟩
    · rintro i H2 x H3 hi _ ⟨e3, k, v, hx, ex⟩ m2 F2 c st S2
      subst e3
      have hi2 : i < ps.length := by simpa using hi
      refine ⟨F2, Step.refl, S2, .d (.str ps[i].1), ?_, ?_⟩
      · rw [List.getElem?_map, List.getElem?_map, List.getElem?_eq_getElem hi2]; rfl
      · have key : ∀ {ps : List (Str × PyData)} {kvs : List (Key × V)}, DicR K F1 H1 ps kvs → ∀ {i : Nat} {k : Key} {v : V} {q : Str × PyData}, kvs[i]? = some (k, v) → ps[i]? = some q → k = Sum.inr q.1 := by
          intro ps kvs r
          induction r with
          | nil => intro i k v q h; cases h
          | cons a b ih =>
            intro i k v q h1 h2
            cases i with
            | zero => cases h1; cases h2; exact a.1
            | succ i => exact ih h1 h2
        have := key r hx (List.getElem?_eq_getElem hi2)
        rw [ex, this]
        rfl
end
/-! ### a def with a keyword-only default -/
structure FunAtK (K : PySem.W.Frag) (mg : Str → Option Value) (name : Str) (st : Stmt) (ps : List Str) (dvs : List V) : Prop where
  ex : ∃ f fd ds, mg name = some (.ref f) ∧ Fun K name name st f fd ∧ Vals dvs ds ∧ Binds K fd ps ds
structure DfnK (Pg : Program) (w : World) (K : PySem.W.Frag) (mg : Str → Option Value) (base : Heap) (k : Nat) (name : Str) (ps : List Str) (dvs : List V) (W : WT) : Prop where
  ex : ∃ f fd ds, mg name = some (.ref f) ∧ PySem.W.keepIn K (.ref f) = true ∧ Vals dvs ds ∧ Binds K fd ps ds ∧ DF Pg w K mg base CX0 k f fd ps (SpD K W)
theorem funAtK_mk {K : PySem.W.Frag} {h : Heap} {mg : Str → Option Value} {x : Str} {st : Stmt} {f D : Addr} {oc : Value} {od an : Option Addr} {osl : Array (Option Value)} {doc pm cdv ct : Value} {ps : List Str} {n : Nat} {kw : Str} {v : V} {u : Value} (X : K.In h) (G : h.Ns mainGlobals mg)
    (a : PySem.W.nsIn K mainGlobals x = some (some (.ref f))) (l : K.lookup f = some ⟨oc, od, .func (PySem.W.fnOf x x (defArgs st) (defBody st) (defScope st) .none (.ref D) doc pm an cdv ct), osl⟩) (c : PySem.W.codeIn K cdv x = true) (k : PySem.W.keepIn K (.ref f) = true)
    (hkw : PySem.W.nsIn K D kw = some (some u)) (hv : L2.RelV v u) (hn : n + 1 = ps.length)
    (hb : ∀ (D : Addr) (doc pm : Value) (an : Option Addr) (cdv ct : Value) (us ks : List Value), us.length = n → ks.length = 1 →
      KwChain D ([kw].zip ks) (bindArgs (PySem.W.fnOf x x (defArgs st) (defBody st) (defScope st) .none (.ref D) doc pm an cdv ct) ⟨us, []⟩) (ps.zip (us ++ ks))) : FunAtK K mg x st ps [v] := by
  have F : FunD K x x (defArgs st) (defBody st) (defScope st) [] [(kw, v)] f (PySem.W.fnOf x x (defArgs st) (defBody st) (defScope st) .none (.ref D) doc pm an cdv ct) :=
    ⟨⟨oc, od, .none, .ref D, doc, pm, an, cdv, ct, osl, rfl, l, c, .inl ⟨rfl, rfl⟩, .inr ⟨D, rfl, fun q hq => by
      rw [List.mem_singleton.mp hq]
      exact ⟨u, hkw, hv⟩⟩⟩, k⟩
  obtain ⟨ds, d1, d2⟩ := F.binds0 (ps := ps) n (by simp) (by simpa using hn) fun D doc pm an cdv ct us ks h1 h2 => hb D doc pm an cdv ct us ks h1 h2
  exact ⟨f, _, ds, PySem.W.mg_of X G a, fun_mk l c k, d1, d2⟩
section
variable {Pg : Program} {w : World} {K : PySem.W.Frag} {mg : Str → Option Value} {base : Heap}
theorem dfnK_mk {k : Nat} {name : Str} {st : Stmt} {N ps : List Str} {dvs : List V} {W : WT} {t : TS} (A : FunAtK K mg name st ps dvs) (S : FnScope N ps (defScope st)) (len : ∀ ss m P, W ss m P → ss.length = ps.length)
    (der : ∀ (f : Addr) (cdv : Value) (A : Around) (outer : List Env) (s : Shared) (H : Hp) (E : XK), (A.deeper (envOfC name (defScope st) s.heap.objs.size f cdv)).guards = some [] → Room k (A.deeper (envOfC name (defScope st) s.heap.objs.size f cdv)) →
      PSs (cxOf CX0 Pg w K mg base N name (defScope st) f cdv A outer s H E).nox (defBody st) t)
    (rd : ∀ ss m P, W ss m P → Wp K t (rho N ss) m { nx := fun _ m' => P (.d .none) m', rt := P }) : DfnK Pg w K mg base (k + 1) name ps dvs W := by
  obtain ⟨f, fd, ds, hm, hF, hv, hb⟩ := A.ex
  exact ⟨f, fd, ds, hm, hF.kp, hv, hb, df_data hF S len (der f) rd⟩
variable {X : Cx}
theorem pe_fnK {j k : Nat} {x : Str} {ps : List Str} {dvs : List V} {W : WT} {p pos : Pos} {e : Expr} {es : List Expr} {t : TA} (D : DfnK X.prog X.w X.K X.mg X.base j x ps dvs W) (hgd : X.A.guards = some []) (hr : Room k X.A) (h : j ≤ k) (hg : Gl X x) (ha : PA X (e :: es) t)
    (hdb : (x == ("__debug__" : Str)) = false := by decide) (he : starEach (e :: es) X.env = (false, eval e X.env) :: starEach es X.env := by rfl) (hpl : (backTo pos (starEach es X.env)).any (·.1) = false := by rfl) :
    PE X (.Call (.Name x p) (e :: es) [] pos) (tCall (SpD X.K W) dvs E0 t) := by
  obtain ⟨f, fd, ds, hm, hk, hv, hb, F⟩ := D.ex
  exact pe_dcall F hgd (hr.mono h) hg hm hk hb hv pass0 ha hdb he hpl
end
end Dv

namespace Dv
open PySem L2 PyProof.Rows
/-! ### moves on floors, seen otherwise -/
abbrev Fl := List (List (List Nat))
theorem crL_split {α : Type} (a b : List α) (x : α) : crL a.length (a ++ x :: b) = b ++ x :: a := by
  have h : (a ++ x :: b)[a.length]? = some x := by simp
  rw [crL_at h]
  simp
theorem split_at {α : Type} {xs : List α} {k : Nat} {x : α} (h : xs[k]? = some x) : ∃ a b, xs = a ++ x :: b ∧ a.length = k := by
  have hk := (List.getElem?_eq_some_iff.mp h).1
  refine ⟨xs.take k, xs.drop (k + 1), ?_, by rw [List.length_take]; omega⟩
  have := (List.getElem?_eq_some_iff.mp h).2
  rw [← this, ← List.drop_eq_getElem_cons hk, List.take_append_drop]
theorem crL_inv {α : Type} {xs : List α} {k : Nat} (h : k < xs.length) : crL (xs.length - 1 - k) (crL k xs) = xs := by
  obtain ⟨a, b, e, ea⟩ := split_at (List.getElem?_eq_getElem h)
  generalize xs[k] = x at e
  subst e ea
  rw [crL_split, show (a ++ x :: b).length - 1 - a.length = b.length by simp, crL_split]
theorem crL_rev {α : Type} {xs : List α} {k : Nat} (h : k < xs.length) : crL (xs.length - 1 - k) xs.reverse = (crL k xs).reverse := by
  obtain ⟨a, b, e, ea⟩ := split_at (List.getElem?_eq_getElem h)
  generalize xs[k] = x at e
  subst e ea
  rw [crL_split]
  have e1 : (a ++ x :: b).reverse = b.reverse ++ x :: a.reverse := by simp
  have e2 : (b ++ x :: a).reverse = a.reverse ++ x :: b.reverse := by simp
  rw [e1, e2, show (a ++ x :: b).length - 1 - a.length = b.reverse.length by simp, crL_split]
/-- where a thing goes -/
theorem crL_pos {α : Type} {xs : List α} {k p : Nat} {x : α} (hk : k < xs.length) (hp : xs[p]? = some x) : ∃ p', (crL k xs)[p']? = some x ∧ p' < xs.length ∧ (p < k ↔ xs.length - 1 - k < p') ∧ (k < p ↔ p' < xs.length - 1 - k) := by
  obtain ⟨a, b, e, ea⟩ := split_at (List.getElem?_eq_getElem hk)
  generalize xs[k] = y at e
  subst e ea
  rw [crL_split]
  have hl : (a ++ y :: b).length = a.length + b.length + 1 := by simp; omega
  have hpl := (List.getElem?_eq_some_iff.mp hp).1
  rw [hl] at hpl
  by_cases h1 : p < a.length
  · rw [List.getElem?_append_left h1] at hp
    refine ⟨b.length + 1 + p, ?_, by omega, ⟨fun _ => by omega, fun _ => h1⟩, ⟨fun h => by omega, fun h => by omega⟩⟩
    rw [List.getElem?_append_right (by omega), show b.length + 1 + p - b.length = p + 1 by omega]
    exact hp
  · rw [List.getElem?_append_right (by omega)] at hp
    by_cases h2 : p = a.length
    · subst h2
      rw [Nat.sub_self] at hp
      refine ⟨b.length, ?_, by omega, ⟨fun h => by omega, fun h => by omega⟩, ⟨fun h => by omega, fun h => by omega⟩⟩
      rw [List.getElem?_append_right (Nat.le_refl _), Nat.sub_self]
      exact hp
    · rw [show p - a.length = (p - a.length - 1) + 1 by omega] at hp
      have hp : b[p - a.length - 1]? = some x := hp
      refine ⟨p - a.length - 1, ?_, by omega, ⟨fun h => by omega, fun h => by omega⟩, ⟨fun h => by omega, fun h => by omega⟩⟩
      rw [List.getElem?_append_left (by omega)]
      exact hp
theorem crL_at' {α : Type} {xs : List α} {k : Nat} {x : α} (h : xs[k]? = some x) : (crL k xs)[xs.length - 1 - k]? = some x := by
  obtain ⟨a, b, e, ea⟩ := split_at h
  subst e ea
  rw [crL_split, show (a ++ x :: b).length - 1 - a.length = b.length by simp, List.getElem?_append_right (Nat.le_refl _), Nat.sub_self]
  rfl
/-! the shape of floors -/
theorem VF.wide {fl : Fl} (v : VF fl) {i j : Nat} {l : List Nat} (h : At fl i j l) : ∃ C, i < fl.length ∧ j < C ∧ C ≤ 12 ∧ ∀ r ∈ fl, r.length = C := by
  obtain ⟨r, h1, h2⟩ := h
  obtain ⟨c, c0, c1, hc⟩ := v.cols
  have := (List.getElem?_eq_some_iff.mp h2).1
  have e := hc r (List.mem_of_getElem? h1)
  exact ⟨c, (List.getElem?_eq_some_iff.mp h1).1, by omega, c1, hc⟩
theorem flat_perm {α : Type} {a b : List (List α)} (h : a.Perm b) : a.flatten.Perm b.flatten := h.flatten
theorem crF_flat {α : Type} (i j : Nat) (fl : List (List α)) : (crF i j fl).flatten.Perm fl.flatten := by
  unfold crF
  have h1 : ∀ g : List (List α), (g.map (crL j)).flatten.Perm g.flatten := by
    intro g
    induction g with
    | nil => exact .refl _
    | cons r g ih => exact List.Perm.append crL_perm ih
  exact (h1 _).trans (flat_perm crL_perm)
theorem crF_len {fl : Fl} {i j : Nat} (hi : i < fl.length) : (crF i j fl).length = fl.length := by unfold crF; rw [List.length_map, crL_len hi]
theorem crF_row {fl : Fl} {i j C : Nat} (hj : j < C) (hC : ∀ r ∈ fl, r.length = C) : ∀ r ∈ crF i j fl, r.length = C := fun r hr => by
  obtain ⟨q, hq, rfl⟩ := List.mem_map.mp hr
  have := hC q (crL_mem hq)
  rw [crL_len (by omega)]; exact this
theorem VF.crF {fl : Fl} (v : VF fl) {i j : Nat} {l : List Nat} (h : At fl i j l) : VF (crF i j fl) := by
  obtain ⟨C, hi, hj, h12, hC⟩ := v.wide h
  refine ⟨fun e => ?_, by rw [crF_len hi]; exact v.most, ⟨C, by omega, h12, crF_row hj hC⟩, fun r hr l hl => ?_, (crF_flat i j fl).nodup_iff.mpr v.nd⟩
  · have := crF_len (j := j) hi
    rw [e] at this
    simp at this
    omega
  · have : l ∈ fl.flatten := (crF_flat i j fl).mem_iff.mp (List.mem_flatten.mpr ⟨r, hr, hl⟩)
    obtain ⟨q, hq, hl2⟩ := List.mem_flatten.mp this
    exact v.ok q hq l hl2
/-- where an item goes -/
theorem crF_at {fl : Fl} (v : VF fl) {i j a b : Nat} {l x : List Nat} (h : At fl i j l) (g : At fl a b x) : ∃ C a' b', (∀ r ∈ fl, r.length = C) ∧ At (Dv.crF i j fl) a' b' x ∧ (a < i ↔ fl.length - 1 - i < a') ∧ (i < a ↔ a' < fl.length - 1 - i) ∧ (b < j ↔ C - 1 - j < b') ∧ (j < b ↔ b' < C - 1 - j) := by
  obtain ⟨C, hi, hj, h12, hC⟩ := v.wide h
  obtain ⟨r, h1, h2⟩ := g
  obtain ⟨a', p1, p2, p3, p4⟩ := crL_pos hi h1
  have hr := hC r (List.mem_of_getElem? h1)
  obtain ⟨b', q1, q2, q3, q4⟩ := crL_pos (k := j) (by omega) h2
  rw [hr] at q3 q4
  refine ⟨C, a', b', hC, ⟨crL j r, ?_, q1⟩, p3, p4, q3, q4⟩
  show ((crL i fl).map (crL j))[a']? = _
  rw [List.getElem?_map, p1]
  rfl
theorem crF_self {fl : Fl} (v : VF fl) {i j C : Nat} {l : List Nat} (h : At fl i j l) (hC : ∀ r ∈ fl, r.length = C) : At (Dv.crF i j fl) (fl.length - 1 - i) (C - 1 - j) l := by
  obtain ⟨r, h1, h2⟩ := h
  have hr := hC r (List.mem_of_getElem? h1)
  refine ⟨crL j r, ?_, by rw [← hr]; exact crL_at' h2⟩
  show ((crL i fl).map (crL j))[_]? = _
  rw [List.getElem?_map, crL_at' h1]
  rfl
theorem crF_inv {fl : Fl} {i j C : Nat} (hi : i < fl.length) (hj : j < C) (hC : ∀ r ∈ fl, r.length = C) : Dv.crF (fl.length - 1 - i) (C - 1 - j) (Dv.crF i j fl) = fl := by
  unfold Dv.crF
  rw [crL_map, List.map_map, crL_inv hi]
  have : fl.map (crL (C - 1 - j) ∘ crL j) = fl.map id := List.map_congr_left fun r hr => by
    have e := hC r hr
    show crL (C - 1 - j) (crL j r) = r
    rw [← e, crL_inv (by omega)]
  rw [this, List.map_id]
/-- the floor after the move about an item -/
noncomputable def crX (fl : Fl) (l : List Nat) : Fl := (Classical.epsilon fun g => (∃ i j, At fl i j l ∧ g = Dv.crF i j fl))
theorem crX_at {fl : Fl} (v : VF fl) {i j : Nat} {l : List Nat} (h : At fl i j l) : crX fl l = Dv.crF i j fl := by
  obtain ⟨i', j', h', e⟩ := Classical.epsilon_spec (p := fun g => ∃ i j, At fl i j l ∧ g = Dv.crF i j fl) ⟨_, i, j, h, rfl⟩
  obtain ⟨rfl, rfl⟩ := at_one v.nd h h'
  exact e
noncomputable def plF (fl : Fl) : List (List Nat) → Fl
  | [] => fl
  | l :: ls => plF (crX fl l) ls
theorem plF_app (fl : Fl) : ∀ a b, plF fl (a ++ b) = plF (plF fl a) b := by
  intro a
  induction a generalizing fl with
  | nil => intro b; rfl
  | cons x a ih => intro b; exact ih _ b
theorem crX_ok {fl : Fl} (v : VF fl) {l : List Nat} (h : l ∈ fl.flatten) : VF (crX fl l) ∧ (crX fl l).flatten.Perm fl.flatten ∧ (crX fl l).length = fl.length ∧ (∀ C, (∀ r ∈ fl, r.length = C) → ∀ r ∈ crX fl l, r.length = C) := by
  obtain ⟨i, j, g⟩ := at_of h
  rw [crX_at v g]
  obtain ⟨C, hi, hj, h12, hC⟩ := v.wide g
  refine ⟨v.crF g, crF_flat i j fl, crF_len hi, fun C' hC' => ?_⟩
  have : C' = C := by
    cases fl with
    | nil => exact absurd rfl v.pos
    | cons r fl => rw [← hC' r List.mem_cons_self, hC r List.mem_cons_self]
  rw [this]
  exact crF_row hj hC
theorem plF_ok : ∀ (ls : List (List Nat)) {fl : Fl}, VF fl → (∀ l ∈ ls, l ∈ fl.flatten) → VF (plF fl ls) ∧ (plF fl ls).flatten.Perm fl.flatten ∧ (plF fl ls).length = fl.length ∧ (∀ C, (∀ r ∈ fl, r.length = C) → ∀ r ∈ plF fl ls, r.length = C)
  | [], fl, v, _ => ⟨v, .refl _, rfl, fun _ h => h⟩
  | l :: ls, fl, v, h => by
    obtain ⟨a1, a2, a3, a4⟩ := crX_ok v (h l List.mem_cons_self)
    obtain ⟨b1, b2, b3, b4⟩ := plF_ok ls a1 fun x hx => a2.mem_iff.mpr (h x (List.mem_cons_of_mem _ hx))
    exact ⟨b1, b2.trans a2, b3.trans a3, fun C hC => b4 C (a4 C hC)⟩
theorem crX_inv {fl : Fl} (v : VF fl) {l : List Nat} (h : l ∈ fl.flatten) : crX (crX fl l) l = fl := by
  obtain ⟨i, j, g⟩ := at_of h
  obtain ⟨C, hi, hj, h12, hC⟩ := v.wide g
  rw [crX_at v g, crX_at (v.crF g) (crF_self v g hC), crF_inv hi hj hC]
theorem plF_back : ∀ (ls : List (List Nat)) {fl : Fl}, VF fl → (∀ l ∈ ls, l ∈ fl.flatten) → plF (plF fl ls) ls.reverse = fl
  | [], fl, _, _ => rfl
  | l :: ls, fl, v, h => by
    obtain ⟨a1, a2, _, _⟩ := crX_ok v (h l List.mem_cons_self)
    have ih := plF_back ls a1 fun x hx => a2.mem_iff.mpr (h x (List.mem_cons_of_mem _ hx))
    rw [List.reverse_cons, plF_app]
    show crX (plF (plF (crX fl l) ls) ls.reverse) l = fl
    rw [ih, crX_inv v (h l List.mem_cons_self)]
/-! columns -/
def colG (C : Nat) (fl : Fl) : Fl := (List.range C).map fun j => fl.map fun r => r.getD j []
def wid (fl : Fl) : Nat := (fl.getD 0 []).length
def colF (fl : Fl) : Fl := colG (wid fl) fl
theorem wid_eq {fl : Fl} (v : VF fl) {C : Nat} (hC : ∀ r ∈ fl, r.length = C) : wid fl = C := by
  cases fl with
  | nil => exact absurd rfl v.pos
  | cons r fl => exact hC r List.mem_cons_self
theorem VF.wid {fl : Fl} (v : VF fl) : (∀ r ∈ fl, r.length = Dv.wid fl) ∧ 0 < Dv.wid fl ∧ Dv.wid fl ≤ 12 := by
  obtain ⟨c, c0, c1, hc⟩ := v.cols
  rw [wid_eq v hc]
  exact ⟨hc, c0, c1⟩
theorem col_at {fl : Fl} {C : Nat} (hC : ∀ r ∈ fl, r.length = C) {i j : Nat} {l : List Nat} : At (colG C fl) j i l ↔ At fl i j l := by
  constructor
  · rintro ⟨r, h1, h2⟩
    unfold colG at h1
    rw [List.getElem?_map] at h1
    have hj : j < C := by
      cases hr : (List.range C)[j]? with
      | none => rw [hr] at h1; cases h1
      | some x => have := (List.getElem?_eq_some_iff.mp hr).1; simpa using this
    rw [List.getElem?_range hj] at h1
    cases h1
    rw [List.getElem?_map] at h2
    cases hq : fl[i]? with
    | none => rw [hq] at h2; cases h2
    | some q =>
      rw [hq] at h2
      have h2 : q.getD j [] = l := Option.some.inj h2
      have := hC q (List.mem_of_getElem? hq)
      have hjq : j < q.length := by omega
      rw [List.getD_eq_getElem?_getD, List.getElem?_eq_getElem hjq] at h2
      exact ⟨q, hq, by rw [List.getElem?_eq_getElem hjq]; exact congrArg some h2⟩
  · rintro ⟨r, h1, h2⟩
    have hr := hC r (List.mem_of_getElem? h1)
    have hj := (List.getElem?_eq_some_iff.mp h2).1
    refine ⟨fl.map fun r => r.getD j [], ?_, ?_⟩
    · unfold colG
      rw [List.getElem?_map, List.getElem?_range (by omega)]; rfl
    · rw [List.getElem?_map, h1]
      show some (r.getD j []) = _
      rw [List.getD_eq_getElem?_getD, h2]; rfl
theorem nodup_grid {g : Fl} (h : ∀ i j i' j' l, At g i j l → At g i' j' l → i = i' ∧ j = j') : g.flatten.Nodup := by
  unfold List.Nodup
  rw [List.pairwise_flatten]
  constructor
  · intro r hr
    obtain ⟨i, hi⟩ := List.mem_iff_getElem?.mp hr
    rw [List.pairwise_iff_getElem]
    intro a b ha hb hab e
    have := h i a i b r[a] ⟨r, hi, List.getElem?_eq_getElem ha⟩ ⟨r, hi, by rw [e]; exact List.getElem?_eq_getElem hb⟩
    omega
  · rw [List.pairwise_iff_getElem]
    intro a b ha hb hab x hx y hy e
    subst e
    obtain ⟨p, hp⟩ := List.mem_iff_getElem?.mp hx
    obtain ⟨q, hq⟩ := List.mem_iff_getElem?.mp hy
    have := h a p b q x ⟨g[a], List.getElem?_eq_getElem ha, hp⟩ ⟨g[b], List.getElem?_eq_getElem hb, hq⟩
    omega
theorem VF.colF {fl : Fl} (v : VF fl) : VF (Dv.colF fl) := by
  obtain ⟨hC, c0, c1⟩ := v.wid
  refine ⟨fun e => ?_, ?_, ⟨fl.length, List.length_pos_iff.mpr v.pos, v.most, fun r hr => ?_⟩, fun r hr l hl => ?_, nodup_grid fun i j i' j' l h h' => ?_⟩
  · have := congrArg List.length e
    unfold Dv.colF colG at this
    simp at this
    omega
  · unfold Dv.colF colG; simpa using c1
  · unfold Dv.colF colG at hr
    obtain ⟨j, _, rfl⟩ := List.mem_map.mp hr
    exact List.length_map ..
  · obtain ⟨j, hj⟩ := List.mem_iff_getElem?.mp hr
    obtain ⟨i, hi⟩ := List.mem_iff_getElem?.mp hl
    obtain ⟨q, q1, q2⟩ := (col_at hC).mp (⟨r, hj, hi⟩ : At (colG (Dv.wid fl) fl) j i l)
    exact v.ok q (List.mem_of_getElem? q1) l (List.mem_of_getElem? q2)
  · have := at_one v.nd ((col_at hC).mp h) ((col_at hC).mp h')
    omega
theorem range_get {r : List (List Nat)} : (List.range r.length).map (fun q => r.getD q []) = r := by
  apply List.ext_getElem
  · simp
  · intro i h1 h2
    rw [List.getElem_map, List.getElem_range, List.getD_eq_getElem?_getD, List.getElem?_eq_getElem h2]
    rfl
theorem crF_col {fl : Fl} {C : Nat} (hC : ∀ r ∈ fl, r.length = C) {i j : Nat} (hi : i < fl.length) (hj : j < C) : colG C (Dv.crF i j fl) = Dv.crF j i (colG C fl) := by
  have hl : (crL j (List.range C)).length = C := by rw [crL_len (by simpa using hj)]; simp
  have one : ∀ r ∈ fl, ∀ n, n < C → (crL j r).getD n [] = r.getD ((crL j (List.range C)).getD n 0) [] := fun r hr n hn => by
    have e := hC r hr
    have e2 : crL j r = (crL j (List.range C)).map fun q => r.getD q [] := by
      rw [← crL_map, ← e, range_get]
    rw [e2, List.getD_eq_getElem?_getD, List.getElem?_map, List.getD_eq_getElem?_getD (l := crL j (List.range C)), List.getElem?_eq_getElem (by omega)]
    rfl
  have e1 : colG C (Dv.crF i j fl) = (List.range C).map fun n => crL i (fl.map fun r => r.getD ((crL j (List.range C)).getD n 0) []) := by
    unfold colG
    refine List.map_congr_left fun n hn => ?_
    have hn := List.mem_range.mp hn
    unfold Dv.crF
    rw [List.map_map, crL_map]
    refine List.map_congr_left fun r hr => ?_
    exact one r (crL_mem hr) n hn
  have e2 : Dv.crF j i (colG C fl) = (crL j (List.range C)).map fun q => crL i (fl.map fun r => r.getD q []) := by
    unfold Dv.crF colG
    rw [crL_map, List.map_map]
    rfl
  rw [e1, e2]
  apply List.ext_getElem
  · simp [hl]
  · intro n h1 h2
    have hn : n < C := by simpa using h1
    rw [List.getElem_map, List.getElem_range, List.getElem_map, List.getD_eq_getElem?_getD, List.getElem?_eq_getElem (by omega)]
    rfl
theorem crX_col {fl : Fl} (v : VF fl) {l : List Nat} (h : l ∈ fl.flatten) : colF (crX fl l) = crX (colF fl) l := by
  obtain ⟨i, j, g⟩ := at_of h
  obtain ⟨C, hi, hj, h12, hC⟩ := v.wide g
  have w1 := wid_eq v hC
  have v2 := v.crF g
  have w2 := wid_eq v2 (crF_row hj hC)
  rw [crX_at v g, crX_at v.colF (i := j) (j := i) (by unfold colF; rw [w1]; exact (col_at hC).mpr g)]
  unfold colF
  rw [w1, w2, crF_col hC hi hj]
theorem col_flat {fl : Fl} (v : VF fl) {l : List Nat} (h : l ∈ fl.flatten) : l ∈ (colF fl).flatten := by
  obtain ⟨i, j, g⟩ := at_of h
  exact ((col_at v.wid.1).mpr g).mem
theorem plF_col : ∀ (ls : List (List Nat)) {fl : Fl}, VF fl → (∀ l ∈ ls, l ∈ fl.flatten) → colF (plF fl ls) = plF (colF fl) ls
  | [], _, _, _ => rfl
  | l :: ls, fl, v, h => by
    obtain ⟨a1, a2, _, _⟩ := crX_ok v (h l List.mem_cons_self)
    have ih := plF_col ls a1 fun x hx => a2.mem_iff.mpr (h x (List.mem_cons_of_mem _ hx))
    show colF (plF (crX fl l) ls) = plF (crX (colF fl) l) ls
    rw [ih, crX_col v (h l List.mem_cons_self)]
/-! mirrored -/
def mirF (fl : Fl) : Fl := fl.reverse.map List.reverse
theorem mir_at {fl : Fl} {C : Nat} (hC : ∀ r ∈ fl, r.length = C) {i j : Nat} {l : List Nat} (hi : i < fl.length) (hj : j < C) : At (mirF fl) (fl.length - 1 - i) (C - 1 - j) l ↔ At fl i j l := by
  unfold mirF At
  rw [List.getElem?_map, List.getElem?_reverse (by omega), show fl.length - 1 - (fl.length - 1 - i) = i by omega]
  cases hq : fl[i]? with
  | none =>
    constructor
    · rintro ⟨r, h1, _⟩; cases h1
    · rintro ⟨r, h1, _⟩; cases h1
  | some q =>
    have e := hC q (List.mem_of_getElem? hq)
    have key : q.reverse[C - 1 - j]? = q[j]? := by
      rw [List.getElem?_reverse (by omega), show q.length - 1 - (C - 1 - j) = j by omega]
    constructor
    · rintro ⟨r, h1, h2⟩
      cases h1
      rw [key] at h2
      exact ⟨q, rfl, h2⟩
    · rintro ⟨r, h1, h2⟩
      cases h1
      exact ⟨q.reverse, rfl, by rw [key]; exact h2⟩
theorem rev_flat (fl : Fl) : (mirF fl).flatten.Perm fl.flatten := by
  unfold mirF
  have h1 : ∀ g : Fl, (g.map List.reverse).flatten.Perm g.flatten := by
    intro g
    induction g with
    | nil => exact .refl _
    | cons r g ih => exact List.Perm.append (List.reverse_perm r) ih
  exact (h1 _).trans (flat_perm (List.reverse_perm fl))
theorem VF.mirF {fl : Fl} (v : VF fl) : VF (Dv.mirF fl) := by
  obtain ⟨c, c0, c1, hc⟩ := v.cols
  refine ⟨fun e => ?_, by unfold Dv.mirF; simpa using v.most, ⟨c, c0, c1, fun r hr => ?_⟩, fun r hr l hl => ?_, (rev_flat fl).nodup_iff.mpr v.nd⟩
  · have := congrArg List.length e
    unfold Dv.mirF at this
    simp at this
    exact v.pos this
  · unfold Dv.mirF at hr
    obtain ⟨q, hq, rfl⟩ := List.mem_map.mp hr
    rw [List.length_reverse]
    exact hc q (List.mem_reverse.mp hq)
  · have : l ∈ fl.flatten := (rev_flat fl).mem_iff.mp (List.mem_flatten.mpr ⟨r, hr, hl⟩)
    obtain ⟨q, hq, hl2⟩ := List.mem_flatten.mp this
    exact v.ok q hq l hl2
theorem crF_mir {fl : Fl} {C : Nat} (hC : ∀ r ∈ fl, r.length = C) {i j : Nat} (hi : i < fl.length) (hj : j < C) : mirF (Dv.crF i j fl) = Dv.crF (fl.length - 1 - i) (C - 1 - j) (mirF fl) := by
  unfold mirF Dv.crF
  rw [← List.map_reverse, ← crL_rev hi, crL_map, List.map_map, List.map_map]
  refine List.map_congr_left fun r hr => ?_
  have e := hC r (List.mem_reverse.mp (crL_mem hr))
  show (crL j r).reverse = crL (C - 1 - j) r.reverse
  rw [← e, crL_rev (by omega)]
theorem crX_mir {fl : Fl} (v : VF fl) {l : List Nat} (h : l ∈ fl.flatten) : mirF (crX fl l) = crX (mirF fl) l := by
  obtain ⟨i, j, g⟩ := at_of h
  obtain ⟨C, hi, hj, h12, hC⟩ := v.wide g
  rw [crX_at v g, crX_at v.mirF ((mir_at hC hi hj).mpr g), crF_mir hC hi hj]
theorem plF_mir : ∀ (ls : List (List Nat)) {fl : Fl}, VF fl → (∀ l ∈ ls, l ∈ fl.flatten) → mirF (plF fl ls) = plF (mirF fl) ls
  | [], _, _, _ => rfl
  | l :: ls, fl, v, h => by
    obtain ⟨a1, a2, _, _⟩ := crX_ok v (h l List.mem_cons_self)
    have ih := plF_mir ls a1 fun x hx => a2.mem_iff.mpr (h x (List.mem_cons_of_mem _ hx))
    show mirF (plF (crX fl l) ls) = plF (crX (mirF fl) l) ls
    rw [ih, crX_mir v (h l List.mem_cons_self)]
/-! renamed -/
def rnL : List Nat → List Nat
  | [] => []
  | c :: t => if t.length < 5 then c :: 121 :: t else (c :: t).take 5 ++ [121]
theorem rnL_s {c : Nat} {t : List Nat} (h : t.length < 5) : rnL (c :: t) = c :: 121 :: t := if_pos h
def rnF (fl : Fl) : Fl := fl.map (List.map rnL)
theorem rn_inj {a b : List Nat} (ha : a.length < 6) (hb : b.length < 6) (na : a ≠ []) (nb : b ≠ []) (h : rnL a = rnL b) : a = b := by
  cases a with
  | nil => exact absurd rfl na
  | cons c t =>
    cases b with
    | nil => exact absurd rfl nb
    | cons d u =>
      simp at ha hb
      rw [rnL_s (by omega), rnL_s (by omega)] at h
      obtain ⟨h1, h2⟩ := List.cons.inj h
      obtain ⟨_, h3⟩ := List.cons.inj h2
      rw [h1, h3]
theorem rn_at {fl : Fl} {i j : Nat} {l : List Nat} (h : At fl i j l) : At (rnF fl) i j (rnL l) := by
  obtain ⟨r, h1, h2⟩ := h
  exact ⟨r.map rnL, by unfold rnF; rw [List.getElem?_map, h1]; rfl, by rw [List.getElem?_map, h2]; rfl⟩
theorem rn_at' {fl : Fl} {i j : Nat} {l : List Nat} (h : At (rnF fl) i j l) : ∃ x, At fl i j x ∧ l = rnL x := by
  obtain ⟨r, h1, h2⟩ := h
  unfold rnF at h1
  rw [List.getElem?_map] at h1
  cases hq : fl[i]? with
  | none => rw [hq] at h1; cases h1
  | some q =>
    rw [hq] at h1
    cases h1
    rw [List.getElem?_map] at h2
    cases hx : q[j]? with
    | none => rw [hx] at h2; cases h2
    | some x =>
      rw [hx] at h2
      exact ⟨x, ⟨q, hq, hx⟩, (Option.some.inj h2).symm⟩
theorem VF.rnF {fl : Fl} (v : VF fl) (hs : ∀ r ∈ fl, ∀ l ∈ r, l.length < 6) : VF (Dv.rnF fl) := by
  obtain ⟨c, c0, c1, hc⟩ := v.cols
  refine ⟨fun e => ?_, by unfold Dv.rnF; simpa using v.most, ⟨c, c0, c1, fun r hr => ?_⟩, fun r hr l hl => ?_, nodup_grid fun i j i' j' l h h' => ?_⟩
  · have := congrArg List.length e
    unfold Dv.rnF at this
    simp at this
    exact v.pos this
  · unfold Dv.rnF at hr
    obtain ⟨q, hq, rfl⟩ := List.mem_map.mp hr
    rw [List.length_map]
    exact hc q hq
  · unfold Dv.rnF at hr
    obtain ⟨q, hq, rfl⟩ := List.mem_map.mp hr
    obtain ⟨x, hx, rfl⟩ := List.mem_map.mp hl
    have o := v.ok q hq x hx
    have s := hs q hq x hx
    cases x with
    | nil => cases o
    | cons d t =>
      simp at s
      rw [rnL_s (by omega)]
      simp [okL] at o ⊢
      refine ⟨by omega, o.2.1, rfl, o.2.2⟩
  · obtain ⟨x, h1, e1⟩ := rn_at' h
    obtain ⟨y, h2, e2⟩ := rn_at' h'
    have mem : ∀ {a b : Nat} {z : List Nat}, At fl a b z → z.length < 6 ∧ z ≠ [] := fun {a b z} ⟨q, q1, q2⟩ => ⟨hs q (List.mem_of_getElem? q1) z (List.mem_of_getElem? q2), okL_ne (v.ok q (List.mem_of_getElem? q1) z (List.mem_of_getElem? q2))⟩
    have := rn_inj (mem h1).1 (mem h2).1 (mem h1).2 (mem h2).2 (e1.symm.trans e2)
    subst this
    have := at_one v.nd h1 h2
    omega
theorem crF_rn {fl : Fl} (i j : Nat) : rnF (Dv.crF i j fl) = Dv.crF i j (rnF fl) := by
  unfold rnF Dv.crF
  rw [crL_map, List.map_map, List.map_map]
  refine List.map_congr_left fun r _ => ?_
  exact crL_map.symm
end Dv

namespace Dv
open PySem L2 PyProof.Rows
open PySem.W (AllAlike Sortable dataLe)
/-! ### rows sorted, then sorted -/
theorem alike_nm7 (xs ys : List (List Nat)) : PySem.W.alikeAll (xs.map nmD) (ys.map nmD) = true := by
  induction xs generalizing ys with
  | nil => rfl
  | cons x xs ih =>
    cases ys with
    | nil => rfl
    | cons y ys =>
      have := ih ys
      simp [PySem.W.alikeAll, PySem.W.alike, this]
theorem depth_nm7 (r : List (List Nat)) : PyData.depthAll (r.map nmD) = 0 := by
  induction r with
  | nil => rfl
  | cons z zs ih => rw [List.map_cons, PyData.depthAll, ih]; rfl
def lnD (r : List (List Nat)) : PyData := .list ((srt r).map nmD)
def lnS (ls : Fl) : List PyData := (ls.map lnD).mergeSort (dataLe false id)
theorem ln_alike (ls : Fl) : AllAlike (ls.map lnD) := fun d hd e he => by
  obtain ⟨a, _, rfl⟩ := List.mem_map.mp hd
  obtain ⟨b, _, rfl⟩ := List.mem_map.mp he
  show PySem.W.alike (.list _) (.list _) = true
  simp [PySem.W.alike, alike_nm7]
theorem ln_sortable (ls : Fl) : Sortable (ls.map lnD) := .inr fun d hd => by
  obtain ⟨a, _, rfl⟩ := List.mem_map.mp hd
  exact ⟨fun e => (nomatch e), fun xs e => (nomatch e)⟩
theorem ln_depth (ls : Fl) : ∀ d, d ∈ ls.map lnD → d.depth ≤ 20 := fun d hd => by
  obtain ⟨a, _, rfl⟩ := List.mem_map.mp hd
  show PyData.depth (.list _) ≤ 20
  rw [PyData.depth, depth_nm7]
  decide
theorem lnS_len (ls : Fl) : (lnS ls).length = ls.length := by
  unfold lnS
  rw [(List.mergeSort_perm _ _).length_eq, List.length_map]
theorem nxa_all7 {k n : Nat} {ds : List PyData} (h : ∀ d, d ∈ ds → Nx k n d) : NxA k (ds.length * (n + 1)) ds := by
  have := nxa_map (f := id) h
  rwa [List.map_id] at this
theorem nx_lnS {fl : Fl} (v : VF fl) : ∃ n, Nx 2 n (.list (lnS fl)) := by
  refine ⟨_, nx_lst (nxa_all7 (k := 1) (n := 12 * 2001) fun d hd => ?_)⟩
  have := (List.mergeSort_perm _ _).mem_iff.mp hd
  obtain ⟨r, hr, rfl⟩ := List.mem_map.mp this
  obtain ⟨a1, a2⟩ := vf_small v r hr
  have hp := srt_perm r
  exact (nx_lst (nxa_map (k := 0) (n := 2000) fun l hl => nx_str (a2 l (hp.mem_iff.mp hl)))).mono (Nat.le_refl _) (Nat.mul_le_mul_right _ (by rw [hp.length_eq]; exact a1))
/-- rows as they are ordered -/
theorem row_anti : ∀ (a b : List (List Nat)), a.length = b.length → PyProof.Rows.lexLt itemOrd (PySem.W.keyToksAll (a.map nmD)) (PySem.W.keyToksAll (b.map nmD)) = false → PyProof.Rows.lexLt itemOrd (PySem.W.keyToksAll (b.map nmD)) (PySem.W.keyToksAll (a.map nmD)) = false → a = b
  | [], [], _, _, _ => rfl
  | [], _ :: _, h, _, _ => by cases h
  | _ :: _, [], h, _, _ => by cases h
  | x :: a, y :: b, h, h1, h2 => by
    rw [List.map_cons, List.map_cons, PySem.W.dataLt_cons (by simp [PySem.W.alike])] at h1 h2
    rw [eqv_nm] at h1 h2
    by_cases e : x = y
    · subst e
      rw [decide_eq_true rfl, if_pos rfl] at h1 h2
      rw [row_anti a b (Nat.succ.inj h) h1 h2]
    · have e2 : ¬ y = x := fun q => e q.symm
      rw [decide_eq_false e, if_neg Bool.false_ne_true, dataLt_strs] at h1
      rw [decide_eq_false e2, if_neg Bool.false_ne_true, dataLt_strs] at h2
      exact absurd (ge_anti h2 h1) e
theorem pwG_unique {α : Type} {R : α → α → Prop} : ∀ {xs ys : List α}, xs.Pairwise R → ys.Pairwise R → xs.Perm ys → (∀ a, a ∈ xs → ∀ b, b ∈ xs → R a b → R b a → a = b) → xs = ys
  | [], ys, _, _, p, _ => by rw [List.nil_perm.mp p]
  | x :: xs, [], _, _, p, _ => by cases List.perm_nil.mp p
  | x :: xs, y :: ys, hx, hy, p, an => by
    obtain ⟨x1, x2⟩ := List.pairwise_cons.mp hx
    obtain ⟨y1, y2⟩ := List.pairwise_cons.mp hy
    have e : x = y := by
      have m1 : x ∈ y :: ys := p.mem_iff.mp List.mem_cons_self
      have m2 : y ∈ x :: xs := p.mem_iff.mpr List.mem_cons_self
      rcases List.mem_cons.mp m1 with e | e
      · exact e
      · rcases List.mem_cons.mp m2 with e2 | e2
        · exact e2.symm
        · exact an x List.mem_cons_self y m2 (x1 y e2) (y1 x e)
    subst e
    rw [pwG_unique x2 y2 ((List.perm_cons x).mp p) fun a ha b hb => an a (List.mem_cons_of_mem _ ha) b (List.mem_cons_of_mem _ hb)]
theorem lnS_perm {a b : Fl} {C : Nat} (p : (a.map lnD).Perm (b.map lnD)) (hC : ∀ r ∈ a, r.length = C) : lnS a = lnS b := by
  have T := PySem.W.sortLe_total (PyProof.Rows.listOrd PyProof.Rows.itemOrd) false fun b : PyData => PySem.W.keyToks (id b)
  refine pwG_unique (R := fun x y => dataLe false id x y = true) (PySem.W.sort_pairwise T _) (PySem.W.sort_pairwise T _) (((List.mergeSort_perm _ _).trans p).trans (List.mergeSort_perm _ _).symm) fun x hx y hy h1 h2 => ?_
  obtain ⟨r, hr, rfl⟩ := List.mem_map.mp ((List.mergeSort_perm _ _).mem_iff.mp hx)
  obtain ⟨q, hq, rfl⟩ := List.mem_map.mp ((List.mergeSort_perm _ _).mem_iff.mp hy)
  rw [PySem.W.dataLe_eq] at h1 h2
  have h1 : PySem.W.dataLt (lnD q) (lnD r) = false := by simpa using h1
  have h2 : PySem.W.dataLt (lnD r) (lnD q) = false := by simpa using h2
  unfold lnD at h1 h2
  rw [PySem.W.dataLt_list] at h1 h2
  have := row_anti (srt r) (srt q) (by rw [(srt_perm r).length_eq, (srt_perm q).length_eq, hC r hr, hC q hq]) h2 h1
  unfold lnD
  rw [this]
theorem lnS_crX {fl : Fl} (v : VF fl) {l : List Nat} (h : l ∈ fl.flatten) : lnS (crX fl l) = lnS fl := by
  obtain ⟨i, j, g⟩ := at_of h
  obtain ⟨C, hi, hj, h12, hC⟩ := v.wide g
  rw [crX_at v g]
  refine lnS_perm (C := C) ?_ (crF_row hj hC)
  have e : (Dv.crF i j fl).map lnD = (crL i fl).map lnD := by
    unfold Dv.crF
    rw [List.map_map]
    refine List.map_congr_left fun r _ => ?_
    show lnD (crL j r) = lnD r
    unfold lnD
    rw [srt_congr crL_perm]
  rw [e]
  exact crL_perm.map lnD
theorem lnS_plF : ∀ (ls : List (List Nat)) {fl : Fl}, VF fl → (∀ l ∈ ls, l ∈ fl.flatten) → lnS (plF fl ls) = lnS fl
  | [], _, _, _ => rfl
  | l :: ls, fl, v, h => by
    obtain ⟨a1, a2, _, _⟩ := crX_ok v (h l List.mem_cons_self)
    have ih := lnS_plF ls a1 fun x hx => a2.mem_iff.mpr (h x (List.mem_cons_of_mem _ hx))
    show lnS (plF (crX fl l) ls) = _
    rw [ih, lnS_crX v (h l List.mem_cons_self)]
theorem nx_fl {fl : Fl} (v : VF fl) : Nx 2 (12 * (12 * 2001 + 1)) (flD fl) := nx_floor (vf_small v) v.most
theorem cutS_to7 {l : List Nat} {p : Nat} : cutS (Sx l) none (some (p : Int)) = Sx (l.take p) := by
  unfold cutS HT.sIx
  have h1 : ¬ ((p : Int) < 0) := by omega
  simp only [h1, if_false]
  rcases Nat.le_total p l.length with h | h
  · simp [sx_len, h]
  · simp [sx_len, h, List.take_of_length_le h]
section
variable {K : PySem.W.Frag} {Pg : Program} {w : World} {m : Sto}
def W_locate_leader7 : WT := fun ss m P => ∃ (fl : Fl) (i j : Nat) (l : List Nat), ss = [.d (flD fl), .d (nmD l)] ∧ VF fl ∧ At fl i j l ∧ upN l = true ∧ P (.d (.tuple [.int (i : Nat), .int (j : Nat)])) m
def t_locate_leader7 (K : PySem.W.Frag) (Pg : Program) (w : World) : TS :=
  (tSeq (tAsg (tCall (SpD K W_locate) [] E0 (tCons (tVar 0) (tCons (tVar 1) tNil))) (gName 2))
    (tSeq (tIfS (tNot (tTr K (tCall (SpD K W_is_leader) [] E0 (tCons (tVar 1) tNil))))
    tNever
    tNext)
    (tRet (tVar 2))))
theorem rd_locate_leader7 (ss : List Sl) (m : Sto) (P : PV) (h : W_locate_leader7 ss m P) : Wp K (t_locate_leader7 K Pg w) (rho ["floor", "name", "place"] ss) m { nx := fun _ m' => P (.d .none) m', rt := P } := by
  obtain ⟨fl, i, j, l, rfl, v, ⟨r, h1, h2⟩, hu, p⟩ := h
  have hT := (v.short.2 r (List.mem_of_getElem? h1)).2 l (List.mem_of_getElem? h2)
  refine wp_seq <| wp_set <| ev_call0 <| ea_cons <| ev_var rfl <| ea_cons <| ev_var rfl <| ea_nil ⟨fl, i, j, r, l, rfl, v.short, v.nd, h1, h2, ?_⟩
  cases l with
  | nil => cases hu
  | cons c t =>
    have ht : t.length ≤ 2000 := by have := hT.1; simp at this; omega
    have hu : isUp c = true := hu
    refine wp_seq <| wp_if <| et_not <| et_tr <| ev_call0 <| ea_cons <| ev_var rfl <| ea_nil ⟨c, t, rfl, ht, _, tr_bool, ite_b (fun h => by rw [hu] at h; cases h) (fun _ => wp_next <| wp_ret <| ev_var rfl p)⟩
def W_check_leaders : WT := fun ss m P => ∃ (fl : Fl) (ls : List (List Nat)), ss = [.d (flD fl), .d (.tuple (ls.map nmD))] ∧ VF fl ∧ (∀ l ∈ ls, l ∈ fl.flatten ∧ upN l = true) ∧ P (.d .none) m
def t_check_leaders (K : PySem.W.Frag) (Pg : Program) (w : World) : TS :=
  (tFor (iSeqU K (tVar 1)) (gName 2)
    (tDrop (tCall (SpD K W_locate_leader7) [] E0 (tCons (tVar 0) (tCons (tVar 2) tNil)))))
theorem rd_check_leaders (ss : List Sl) (m : Sto) (P : PV) (h : W_check_leaders ss m P) : Wp K (t_check_leaders K Pg w) (rho ["floor", "names", "name"] ss) m { nx := fun _ m' => P (.d .none) m', rt := P } := by
  obtain ⟨fl, ls, rfl, v, hl, p⟩ := h
  refine wp_forL (toD := nmD) <| ei_tup <| ev_var rfl ⟨_, rfl, ls, fun _ ρ' m' => ∃ s2, ρ' = [some (.d (flD fl)), some (.d (.tuple (ls.map nmD))), s2] ∧ m' = m, rfl, ⟨_, rfl, rfl⟩, fun _ _ _ _ => trivial, ?_, ?_⟩
  · rintro k l ρ' m' hk ⟨s2, rfl, rfl⟩
    obtain ⟨h1, h2⟩ := hl l (List.mem_of_getElem? hk)
    obtain ⟨i, j, g⟩ := at_of h1
    exact wp_drop <| ev_call0 <| ea_cons <| ev_var rfl <| ea_cons <| ev_var rfl <| ea_nil ⟨fl, i, j, l, rfl, v, g, h2, _, rfl, rfl⟩
  · rintro ρ' m' ⟨s2, rfl, rfl⟩
    exact p
def W_cross7 : WT := fun ss m P => ∃ (fl : Fl) (l : List Nat), ss = [.d (flD fl), .d (nmD l)] ∧ VF fl ∧ l ∈ fl.flatten ∧ upN l = true ∧ P (.d (flD (crX fl l))) m
def t_cross7 (K : PySem.W.Frag) (Pg : Program) (w : World) : TS :=
  (tSeq (tAsg (tCall (SpD K W_locate_leader7) [] E0 (tCons (tVar 0) (tCons (tVar 1) tNil))) (gTup K 2 (gCons (gName 2) (gCons (gName 3) gNil))))
    (tRet (tCB (rTupleC K) (tCons (tLc (iSeqU K (tCall (SpD K W_crossed) [] E0 (tCons (tVar 0) (tCons (tVar 2) tNil)))) (gName 4) tYes (tCall (SpD K W_crossed) [] E0 (tCons (tVar 4) (tCons (tVar 3) tNil))) [4]) tNil))))
theorem rd_cross7 (ss : List Sl) (m : Sto) (P : PV) (h : W_cross7 ss m P) : Wp K (t_cross7 K Pg w) (rho ["floor", "name", "row", "column", "names"] ss) m { nx := fun _ m' => P (.d .none) m', rt := P } := by
  obtain ⟨fl, l, rfl, v, hl, hu, p⟩ := h
  obtain ⟨i, j, g⟩ := at_of hl
  rw [crX_at v g] at p
  obtain ⟨C, hi, hj, h12, hC⟩ := v.wide g
  have hm := v.most
  refine wp_seq <| wp_asg <| ev_call0 <| ea_cons <| ev_var rfl <| ea_cons <| ev_var rfl <| ea_nil ⟨fl, i, j, l, rfl, v, g, hu, [2, 3], gt_pair ?_⟩
  refine wp_ret <| ev_cb <| ea_cons <| ev_lcF (toD := rwD) List.mem_cons_self <| ei_tup <| ev_call0 <| ea_cons <| ev_var rfl <| ea_cons <| ev_var rfl <| ea_nil ⟨fl.map rwD, i, rfl, by rw [List.length_map]; exact hi, by rw [List.length_map]; omega, _, rfl, crL i fl, fun _ => true, fun r => rwD (crL j r), ?_, trivial, ?_, fun q hq => ⟨et_yes ⟨rfl, rfl⟩, fun _ => ?_⟩, ?_⟩
  · rw [crL_map]
  · rw [crL_len hi]; omega
  · have hqc := hC q (crL_mem hq)
    refine ev_call0 <| ea_cons <| ev_var rfl <| ea_cons <| ev_var rfl <| ea_nil ⟨q.map nmD, j, rfl, by rw [List.length_map]; omega, by rw [List.length_map]; omega, ?_, rfl⟩
    rw [crL_map]
  · refine ea_nil <| rc_tupleL ?_
    rw [List.filter_eq_self.mpr (fun _ _ => rfl)]
    have e : (crL i fl).map (fun r => rwD (crL j r)) = (Dv.crF i j fl).map rwD := by unfold Dv.crF; rw [List.map_map]; rfl
    rw [e]
    exact p
def W_play : WT := fun ss m P => ∃ (fl : Fl) (ls : List (List Nat)), ss = [.d (flD fl), .d (.tuple (ls.map nmD)), .d (.bool false)] ∧ VF fl ∧ (∀ l ∈ ls, l ∈ fl.flatten ∧ upN l = true) ∧ P (.d (flD (plF fl ls))) m
def t_play (K : PySem.W.Frag) (Pg : Program) (w : World) : TS :=
  (tSeq (tDrop (tCall (SpD K W_check_leaders) [] E0 (tCons (tVar 0) (tCons (tVar 1) tNil))))
    (tSeq (tAsg (tVar 0) (gName 3))
    (tSeq (tFor (iSeqU K (tIf (tTr K (tVar 2)) (tRevT K (tVar 1)) (tVar 1))) (gName 4)
    (tAsg (tCall (SpD K W_cross7) [] E0 (tCons (tVar 3) (tCons (tVar 4) tNil))) (gName 3)))
    (tRet (tVar 3)))))
theorem rd_play (ss : List Sl) (m : Sto) (P : PV) (h : W_play ss m P) : Wp K (t_play K Pg w) (rho ["floor", "names", "reverse", "played", "name"] ss) m { nx := fun _ m' => P (.d .none) m', rt := P } := by
  obtain ⟨fl, ls, rfl, v, hl, p⟩ := h
  refine wp_seq <| wp_drop <| ev_call0 <| ea_cons <| ev_var rfl <| ea_cons <| ev_var rfl <| ea_nil ⟨fl, ls, rfl, v, hl, ?_⟩
  refine wp_seq <| wp_set <| ev_var rfl ?_
  refine wp_seq <| wp_forL (toD := nmD) <| ei_tup <| ev_if <| et_tr <| ev_var rfl ⟨false, tr_bool, ite_b (fun q => by cases q) (fun _ => ev_var rfl ⟨_, rfl, ls, fun k ρ' m' => ∃ s4, ρ' = [some (.d (flD fl)), some (.d (.tuple (ls.map nmD))), some (.d (.bool false)), some (.d (flD (plF fl (ls.take k)))), s4] ∧ m' = m, rfl, ⟨_, rfl, rfl⟩, fun _ _ _ _ => trivial, ?_, ?_⟩)⟩
  · rintro k l ρ' m' hk ⟨s4, rfl, rfl⟩
    obtain ⟨h1, h2⟩ := hl l (List.mem_of_getElem? hk)
    obtain ⟨b1, b2, _, _⟩ := plF_ok (ls.take k) v fun x hx => (hl x (List.mem_of_mem_take hx)).1
    refine wp_set <| ev_call0 <| ea_cons <| ev_var rfl <| ea_cons <| ev_var rfl <| ea_nil ⟨_, l, rfl, b1, b2.mem_iff.mpr h1, h2, some (.d (nmD l)), ?_, rfl⟩
    have e : plF fl (ls.take (k + 1)) = crX (plF fl (ls.take k)) l := by
      rw [List.take_add_one, hk]
      exact plF_app fl _ [l]
    rw [e]
    rfl
  · rintro ρ' m' ⟨s4, rfl, rfl⟩
    rw [List.take_length]
    exact wp_ret <| ev_var rfl p
def W_transposed : WT := fun ss m P => ∃ fl : Fl, ss = [.d (flD fl)] ∧ VF fl ∧ P (.d (flD (colF fl))) m
def t_transposed (K : PySem.W.Frag) (Pg : Program) (w : World) : TS :=
  (tRet (tCB (rTupleC K) (tCons (tLc (iRng1 (tCons (tCB (rLenC K) (tCons (tOp (rIx K) (tVar 0) (tC (.int 0))) tNil)) tNil)) (gName 1) tYes (tCB (rTupleC K) (tCons (tLc (iSeqU K (tVar 0)) (gName 2) tYes (tOp (rIx K) (tVar 2) (tVar 1)) [2]) tNil)) [1]) tNil)))
theorem row0 {fl : Fl} (v : VF fl) : atI (fl.map rwD) 0 = some (rwD (fl.getD 0 [])) := by
  cases fl with
  | nil => exact absurd rfl v.pos
  | cons r fl => exact atI_zero
theorem rd_transposed (ss : List Sl) (m : Sto) (P : PV) (h : W_transposed ss m P) : Wp K (t_transposed K Pg w) (rho ["floor", "column", "cells"] ss) m { nx := fun _ m' => P (.d .none) m', rt := P } := by
  obtain ⟨fl, rfl, v, p⟩ := h
  obtain ⟨hC, c0, c1⟩ := v.wid
  have hm := v.most
  refine wp_ret <| ev_cb <| ea_cons <| ev_lcR List.mem_cons_self <| ea_cons <| ev_cb <| ea_cons <| ev_op <| ev_var rfl <| ev_int <| rx_tup (row0 v) <| ea_nil <| rc_lenT <| ea_nil ⟨wid fl, fun j => rwD (fl.map fun r => r.getD j []), by rw [List.length_map]; rfl, by omega, fun j hj => ?_, ?_⟩
  · refine ev_cb <| ea_cons <| ev_lcF (toD := rwD) List.mem_cons_self <| ei_tup <| ev_var rfl ⟨_, rfl, fl, fun _ => true, nmD ∘ fun r => r.getD j [], rfl, trivial, by omega, fun r hr => ⟨et_yes ⟨rfl, rfl⟩, fun _ => ?_⟩, ea_nil <| rc_tupleL ⟨?_, rfl⟩⟩
    · have hr := hC r hr
      have hq : r[j]? = some (r.getD j []) := by
        rw [List.getD_eq_getElem?_getD, List.getElem?_eq_getElem (by omega)]; rfl
      exact ev_op <| ev_var rfl <| ev_var rfl <| rx_tup (atI_map rfl hq) ⟨rfl, rfl⟩
    · rw [List.filter_eq_self.mpr (fun _ _ => rfl), ← List.map_map]
  · refine ea_nil <| rc_tupleL ?_
    have e : (List.range (wid fl)).map (fun j => rwD (fl.map fun r => r.getD j [])) = (colF fl).map rwD := by unfold colF colG; rw [List.map_map]; rfl
    rw [e]
    exact p
def W_mirrored : WT := fun ss m P => ∃ fl : Fl, ss = [.d (flD fl)] ∧ VF fl ∧ P (.d (flD (mirF fl))) m
def t_mirrored (K : PySem.W.Frag) (Pg : Program) (w : World) : TS :=
  (tRet (tCB (rTupleC K) (tCons (tLc (iSeqU K (tRevT K (tVar 0))) (gName 1) tYes (tRevT K (tVar 1)) [1]) tNil)))
theorem rd_mirrored (ss : List Sl) (m : Sto) (P : PV) (h : W_mirrored ss m P) : Wp K (t_mirrored K Pg w) (rho ["floor", "cells"] ss) m { nx := fun _ m' => P (.d .none) m', rt := P } := by
  obtain ⟨fl, rfl, v, p⟩ := h
  have hm := v.most
  refine wp_ret <| ev_cb <| ea_cons <| ev_lcF (toD := rwD) List.mem_cons_self <| ei_tup <| ev_revT <| ev_var rfl ⟨_, rfl, _, rfl, fl.reverse, fun _ => true, rwD ∘ List.reverse, by rw [← List.map_reverse], trivial, by rw [List.length_reverse]; omega, fun r hr => ⟨et_yes ⟨rfl, rfl⟩, fun _ => ev_revT <| ev_var rfl ⟨_, rfl, ?_, rfl⟩⟩, ea_nil <| rc_tupleL ?_⟩
  · rw [← List.map_reverse]; rfl
  · rw [List.filter_eq_self.mpr (fun _ _ => rfl), ← List.map_map]
    exact p
def W_renamed : WT := fun ss m P => ∃ fl : Fl, ss = [.d (flD fl)] ∧ fl.length ≤ 12 ∧ (∀ r ∈ fl, r.length ≤ 12) ∧ (∀ r ∈ fl, ∀ l ∈ r, l ≠ [] ∧ l.length ≤ 6) ∧ P (.d (flD (rnF fl))) m
def t_renamed (K : PySem.W.Frag) (Pg : Program) (w : World) : TS :=
  (tSeq (tAsg (tLst tNil) (gName 1))
    (tSeq (tFor (iSeqU K (tVar 0)) (gName 2)
    (tDrop (tBM K "list" rAppend (tVar 1) (tCons (tCB (rTupleC K) (tCons (tLc (iSeqU K (tVar 2)) (gName 3) tYes (tIf (tTest (tOp (rI0 fun i j => .bl (decide (i < j))) (tCB (rLenC K) (tCons (tVar 3) tNil)) (tC (.int 6)))) (tOp (rAddU K) (tOp (rAddU K) (tOp (rIx K) (tVar 3) (tC (.int 0))) (tC (.str "y"))) (tSl (rSlU K) (tVar 3) (tPart (tC (.int 1))) tNoPart)) (tOp (rAddU K) (tSl (rSlU K) (tVar 3) tNoPart (tPart (tC (.int 5)))) (tC (.str "y")))) [3]) tNil)) tNil))))
    (tRet (tCB (rTupleC K) (tCons (tVar 1) tNil)))))
theorem yS : ("y" : Str) = Sx [121] := by decide +kernel
theorem rd_renamed (ss : List Sl) (m : Sto) (P : PV) (h : W_renamed ss m P) : Wp K (t_renamed K Pg w) (rho ["floor", "found", "cells", "name"] ss) m { nx := fun _ m' => P (.d .none) m', rt := P } := by
  obtain ⟨fl, rfl, hm, hr12, hok, p⟩ := h
  refine wp_seq <| wp_set <| ev_lstM <| ea_nil ⟨[], rfl, by simp, fun a ha => ?_⟩
  refine wp_seq <| wp_forL (toD := rwD) <| ei_tup <| ev_var rfl ⟨_, rfl, fl, fun k ρ' m' => ∃ s2, ρ' = [some (.d (flD fl)), some (.m a), s2, none] ∧ m' = put m a (.lst ((rnF (fl.take k)).map rwD)), rfl, ⟨_, rfl, rfl⟩, fun _ _ _ _ => trivial, ?_, ?_⟩
  · rintro k r ρ' m' hk ⟨s2, rfl, rfl⟩
    have hrm := List.mem_of_getElem? hk
    have hkl := (List.getElem?_eq_some_iff.mp hk).1
    refine wp_drop <| ev_bm <| ev_var rfl ⟨ty_listM put_same, ea_cons <| ev_cb <| ea_cons <| ev_lcF (toD := nmD) List.mem_cons_self <| ei_tup <| ev_var rfl ⟨_, rfl, r, fun _ => true, nmD ∘ rnL, rfl, trivial, by have := hr12 r hrm; omega, fun l hl => ⟨et_yes ⟨rfl, rfl⟩, fun _ => ?_⟩, ea_nil <| rc_tupleL <| ea_nil <| rm_append put_same (by unfold rnF; rw [List.length_map, List.length_map, List.length_take]; omega) ?_⟩⟩
    · obtain ⟨n1, n2⟩ := hok r hrm l hl
      cases l with
      | nil => exact absurd rfl n1
      | cons c t =>
        have hz : (Sx (c :: t)).length ≤ 100000 := by rw [sx_len]; omega
        have hs1 : ∀ x y : List Nat, x.length ≤ 100 → y.length ≤ 100 → (Sx x).length + (Sx y).length ≤ 100000 := fun x y h1 h2 => by rw [sx_len, sx_len]; omega
        simp only [List.length_cons] at n2
        refine ev_if <| et_test <| ev_op <| ev_cb <| ea_cons <| ev_var rfl <| ea_nil <| rc_lenS hz <| ev_int <| rl_lt ⟨_, rfl, ite_b (fun h => ?_) (fun h => ?_)⟩
        · have h := of_decide_eq_true h
          rw [sx_len] at h
          simp only [List.length_cons] at h
          refine ev_op <| ev_op <| ev_op <| ev_var rfl <| ev_int <| rx_str hz atI_zero <| ev_str ?_
          rw [yS]
          refine ra_str (hs1 [c] [121] (by simp) (by simp)) <| ev_sl <| ev_var rfl <| eo_some <| ev_int ⟨_, rfl, eo_no <| rz_str hz ?_⟩
          rw [cutS_tail, sx_app [c] [121]]
          refine ra_str (hs1 _ _ (by simp) (by omega)) ⟨?_, rfl⟩
          rw [sx_app]
          show _ = Sl.d (nmD (rnL (c :: t)))
          rw [rnL_s (by omega)]
          rfl
        · have h := of_decide_eq_false h
          rw [sx_len] at h
          simp only [List.length_cons] at h
          refine ev_op <| ev_sl <| ev_var rfl <| eo_no <| eo_some <| ev_int ⟨_, rfl, rz_str hz ?_⟩
          refine ev_str ?_
          rw [yS, show (5 : Int) = ((5 : Nat) : Int) from rfl, cutS_to7]
          refine ra_str (hs1 _ _ (by simp; omega) (by simp)) ⟨?_, rfl⟩
          rw [sx_app]
          show _ = Sl.d (nmD (rnL (c :: t)))
          have e : rnL (c :: t) = (c :: t).take 5 ++ [121] := if_neg (by omega)
          rw [e]
    · rw [put_put, List.filter_eq_self.mpr (fun _ _ => rfl), ← List.map_map]
      refine ⟨_, rfl, ?_⟩
      have e : rnF (fl.take (k + 1)) = rnF (fl.take k) ++ [r.map rnL] := by
        unfold rnF
        rw [List.take_add_one, hk, List.map_append]
        rfl
      rw [e, List.map_append]
      rfl
  · rintro ρ' m' ⟨s2, rfl, rfl⟩
    rw [List.take_length]
    refine wp_ret <| ev_del <| ev_cb <| ea_cons <| ev_var rfl <| ea_nil <| rc_tupleM put_same ⟨a, _, put_same, ?_⟩
    rw [del_put ha]
    exact p
def W_lines : WT := fun ss m P => ∃ fl : Fl, ss = [.d (flD fl)] ∧ VF fl ∧ P (.d (.list (lnS fl))) m
def t_lines (K : PySem.W.Frag) (Pg : Program) (w : World) : TS :=
  (tRet (tCB (rSortD K) (tCons (tLc (iSeqU K (tVar 0)) (gName 1) tYes (tCB (rSortD K) (tCons (tVar 1) tNil)) [1]) tNil)))
theorem rd_lines (ss : List Sl) (m : Sto) (P : PV) (h : W_lines ss m P) : Wp K (t_lines K Pg w) (rho ["floor", "cells"] ss) m { nx := fun _ m' => P (.d .none) m', rt := P } := by
  obtain ⟨fl, rfl, v, p⟩ := h
  have hm := v.most
  refine wp_ret <| ev_cb <| ea_cons <| ev_lcF (toD := rwD) List.mem_cons_self <| ei_tup <| ev_var rfl ⟨_, rfl, fl, fun _ => true, lnD, rfl, trivial, by omega, fun r hr => ⟨et_yes ⟨rfl, rfl⟩, fun _ => ev_cb <| ea_cons <| ev_var rfl <| ea_nil <| rc_sortN seq_tup ⟨rfl, rfl⟩⟩, ea_nil ?_⟩
  rw [List.filter_eq_self.mpr (fun _ _ => rfl)]
  exact rc_sortD seq_lst (ln_alike fl) (ln_sortable fl) (ln_depth fl) p
end
end Dv

namespace Dv
open PySem L2 PyProof.Rows
/-! ### the four quadrants cross over -/
def prI (a b : Nat) : PyData := .tuple [.int (a : Nat), .int (b : Nat)]
/-- the dict holds the places of those before the k-th cell -/
def HasP (ps : List (Str × PyData)) (fl : Fl) (p : Nat → Nat → Prop) : Prop := ∀ a b x, At fl a b x → p a b → valP ps (Sx x) = some (prI a b)
theorem hasP_put {ps : List (Str × PyData)} {fl : Fl} (nd : fl.flatten.Nodup) {p : Nat → Nat → Prop} {i j : Nat} {x : List Nat} (h : HasP ps fl p) (g : At fl i j x) : HasP (putP ps (Sx x) (prI i j)) fl (fun a b => p a b ∨ (a = i ∧ b = j)) := fun a b y gy q => by
  rw [valP_put]
  by_cases e : y = x
  · subst e
    obtain ⟨rfl, rfl⟩ := at_one nd g gy
    rw [if_pos rfl]
  · rw [if_neg (fun z => e (sx_inj z))]
    rcases q with q | ⟨rfl, rfl⟩
    · exact h a b y gy q
    · obtain ⟨r, h1, h2⟩ := g
      obtain ⟨r', h3, h4⟩ := gy
      rw [h1] at h3
      cases h3
      rw [h2] at h4
      cases h4
      exact absurd rfl e
theorem HasP.mono {ps : List (Str × PyData)} {fl : Fl} {p q : Nat → Nat → Prop} (h : HasP ps fl p) (hq : ∀ a b x, At fl a b x → q a b → p a b) : HasP ps fl q := fun a b x g z => h a b x g (hq a b x g z)
/-- its keys are names of the floor -/
def KeysIn (ps : List (Str × PyData)) (fl : Fl) : Prop := ∀ p, p ∈ ps → ∃ x, p.1 = Sx x ∧ x ∈ fl.flatten
theorem keysIn_put {ps : List (Str × PyData)} {fl : Fl} {x : List Nat} {d : PyData} (h : KeysIn ps fl) (hx : x ∈ fl.flatten) : KeysIn (putP ps (Sx x) d) fl := fun p hp => by
  unfold putP at hp
  split at hp
  · obtain ⟨q, hq, rfl⟩ := List.mem_map.mp hp
    obtain ⟨y, h1, h2⟩ := h q hq
    refine ⟨y, ?_, h2⟩
    split <;> exact h1
  · rcases List.mem_append.mp hp with hp | hp
    · exact h p hp
    · rw [List.mem_singleton.mp hp]
      exact ⟨x, rfl, hx⟩
theorem sgn {a i a' i' : Nat} (h1 : a < i ↔ i' < a') (h2 : i < a ↔ a' < i') : decide ((0 : Int) < (a : Int) - (i : Int)) = decide ((a' : Int) - (i' : Int) < 0) ∧ decide ((a : Int) - (i : Int) < 0) = decide ((0 : Int) < (a' : Int) - (i' : Int)) := by
  rw [decide_eq_decide, decide_eq_decide]
  constructor <;> omega
section
variable {K : PySem.W.Frag} {Pg : Program} {w : World} {m : Sto}
def W_quadrants : WT := fun ss m P => ∃ (fl : Fl) (l : List Nat), ss = [.d (flD fl), .d (flD (crX fl l)), .d (nmD l)] ∧ VF fl ∧ l ∈ fl.flatten ∧ P (.d (.bool true)) m
def t_quadrants (K : PySem.W.Frag) (Pg : Program) (w : World) : TS :=
  (tSeq (tAsg tDNewK (gName 3))
    (tSeq (tAsg tDNewK (gName 4))
    (tSeq (tFor (iRng1 (tCons (tCB (rLenC K) (tCons (tVar 0) tNil)) tNil)) (gName 5)
    (tFor (iRng1 (tCons (tCB (rLenC K) (tCons (tOp (rIx K) (tVar 0) (tC (.int 0))) tNil)) tNil)) (gName 6)
    (tSeq (tAsg (tTupZ (tCons (tVar 5) (tCons (tVar 6) tNil))) (gSub (tVar 3) (tOp (rIx K) (tOp (rIx K) (tVar 0) (tVar 5)) (tVar 6)) rSetD))
    (tAsg (tTupZ (tCons (tVar 5) (tCons (tVar 6) tNil))) (gSub (tVar 4) (tOp (rIx K) (tOp (rIx K) (tVar 1) (tVar 5)) (tVar 6)) rSetD)))))
    (tSeq (tLock (tFor (iKeys (tVar 3)) (gName 7)
    (tFor (iRng1 (tCons (tC (.int 2)) tNil)) (gName 8)
    (tSeq (tAsg (tOp (rI0 fun i j => .int (i - j)) (tOp (rIx K) (tDGet (tVar 3) (tVar 7)) (tVar 8)) (tOp (rIx K) (tDGet (tVar 3) (tVar 2)) (tVar 8))) (gName 9))
    (tSeq (tAsg (tOp (rI0 fun i j => .int (i - j)) (tOp (rIx K) (tDGet (tVar 4) (tVar 7)) (tVar 8)) (tOp (rIx K) (tDGet (tVar 4) (tVar 2)) (tVar 8))) (gName 10))
    (tIfS (tOr (tTest (tOp (rNeU K) (tOp (rI0 fun i j => .bl (decide (j < i))) (tVar 9) (tC (.int 0))) (tOp (rI0 fun i j => .bl (decide (i < j))) (tVar 10) (tC (.int 0))))) (tTest (tOp (rNeU K) (tOp (rI0 fun i j => .bl (decide (i < j))) (tVar 9) (tC (.int 0))) (tOp (rI0 fun i j => .bl (decide (j < i))) (tVar 10) (tC (.int 0))))))
    (tRet (tC (.bl false)))
    tNext))))))
    (tRet (tC (.bl true)))))))
theorem rd_quadrants (ss : List Sl) (m : Sto) (P : PV) (h : W_quadrants ss m P) : Wp K (t_quadrants K Pg w) (rho ["before", "after", "name", "here", "there", "row", "column", "item", "side", "first", "second"] ss) m { nx := fun _ m' => P (.d .none) m', rt := P } := by
  obtain ⟨fl, l, rfl, v, hl, p⟩ := h
  obtain ⟨i, j, g⟩ := at_of hl
  obtain ⟨C, hi, hj, h12, hC⟩ := v.wide g
  have hw := wid_eq v hC
  rw [crX_at v g]
  have v2 := v.crF g
  have self2 := crF_self v g hC
  have len2 : (Dv.crF i j fl).length = fl.length := crF_len hi
  have hC2 := crF_row hj hC (i := i)
  have move : ∀ a b x, At fl a b x → ∃ a' b', At (Dv.crF i j fl) a' b' x ∧ (a < i ↔ fl.length - 1 - i < a') ∧ (i < a ↔ a' < fl.length - 1 - i) ∧ (b < j ↔ C - 1 - j < b') ∧ (j < b ↔ b' < C - 1 - j) := fun a b x gx => by
    obtain ⟨C', a', b', e, r⟩ := crF_at v g gx
    have : C' = C := by rw [← wid_eq v e, hw]
    subst this
    exact ⟨a', b', r⟩
  generalize hgl : Dv.crF i j fl = gl at v2 self2 len2 hC2 move
  have hm := v.most
  refine wp_seq <| wp_set <| ev_dnew fun a ha => ?_
  refine wp_seq <| wp_set <| ev_dnew fun b hb => ?_
  have ab : a ≠ b := fun e => by rw [← e, put_same] at hb; cases hb
  have hb' : m b = none := by rwa [put_ne (Ne.symm ab)] at hb
  let M : List (Str × PyData) → List (Str × PyData) → Sto := fun ps qs => put (put m a (.dic ps)) b (.dic qs)
  have Ma : ∀ ps qs, M ps qs a = some (.dic ps) := fun ps qs => by show put (put m a _) b _ a = _; rw [put_ne ab, put_same]
  have Mb : ∀ ps qs, M ps qs b = some (.dic qs) := fun ps qs => put_same
  have Pa : ∀ ps qs ps', put (M ps qs) a (.dic ps') = M ps' qs := fun ps qs ps' => by
    show put (put (put m a _) b _) a _ = _
    rw [put_comm (Ne.symm ab), put_put]
  have Pb : ∀ ps qs qs', put (M ps qs) b (.dic qs') = M ps qs' := fun ps qs qs' => put_put
  let R : Option Sl → Option Sl → Option Sl → Option Sl → Option Sl → Option Sl → Rho := fun s5 s6 s7 s8 s9 s10 => [some (.d (flD fl)), some (.d (flD gl)), some (.d (nmD l)), some (.m a), some (.m b), s5, s6, s7, s8, s9, s10]
  let D : List (Str × PyData) → List (Str × PyData) → (Nat → Nat → Prop) → Prop := fun ps qs p => HasP ps fl p ∧ HasP qs gl p ∧ KeysIn ps fl
  refine wp_seqJ' (fun ρ' m' => ∃ ps qs s5 s6, ρ' = R s5 s6 none none none none ∧ m' = M ps qs ∧ D ps qs (fun _ _ => True)) ?_ ?_
  · refine wp_rng <| ea_cons <| ev_cb <| ea_cons <| ev_var rfl <| ea_nil <| rc_lenT <| ea_nil ⟨fl.length, fun k ρ' m' => ∃ ps qs s5 s6, ρ' = R s5 s6 none none none none ∧ m' = M ps qs ∧ ps.length ≤ 20 * k ∧ qs.length ≤ 20 * k ∧ D ps qs (fun a _ => a < k), by rw [List.length_map], by omega, ⟨[], [], _, _, rfl, rfl, Nat.zero_le _, Nat.zero_le _, fun a b x _ q => absurd q (Nat.not_lt_zero _), fun a b x _ q => absurd q (Nat.not_lt_zero _), fun p hp => nomatch hp⟩, ?_, ?_⟩
    · rintro k ρ' m' hk ⟨ps, qs, s5, s6, rfl, rfl, lp, lq, d1, d2, d3⟩
      refine wp_rng <| ea_cons <| ev_cb <| ea_cons <| ev_op <| ev_var rfl <| ev_int <| rx_tup (row0 v) <| ea_nil <| rc_lenT <| ea_nil ⟨C, fun n ρ' m' => ∃ ps qs s6, ρ' = R (some (.d (.int (k : Nat)))) s6 none none none none ∧ m' = M ps qs ∧ ps.length ≤ 20 * k + n ∧ qs.length ≤ 20 * k + n ∧ D ps qs (fun a b => a < k ∨ (a = k ∧ b < n)), by rw [List.length_map]; exact congrArg (fun z : Nat => [Sl.d (.int (z : Int))]) hw, by omega, ⟨ps, qs, _, rfl, rfl, by omega, by omega, d1.mono fun a b x _ q => q.resolve_right fun q => absurd q.2 (Nat.not_lt_zero _), d2.mono fun a b x _ q => q.resolve_right fun q => absurd q.2 (Nat.not_lt_zero _), d3⟩, ?_, ?_⟩
      · rintro n ρ' m' hn ⟨ps, qs, s6, rfl, rfl, lp, lq, d1, d2, d3⟩
        have cell : ∀ {f : Fl}, f.length = fl.length → (∀ r ∈ f, r.length = C) → ∃ r x, f[k]? = some r ∧ r[n]? = some x := fun {f} e1 e2 => by
          have hk' : k < f.length := by omega
          have hr := e2 f[k] (List.getElem_mem hk')
          exact ⟨f[k], f[k][n]'(by omega), List.getElem?_eq_getElem hk', List.getElem?_eq_getElem (by omega)⟩
        obtain ⟨r, x, r1, r2⟩ := cell rfl hC
        obtain ⟨r', y, r3, r4⟩ := cell len2 hC2
        refine wp_seq <| wp_asg <| ev_tup <| ea_cons <| ev_var rfl <| ea_cons <| ev_var rfl <| ea_nil ⟨[_, _], rfl, by simp, [], gt_dput <| ev_var rfl ⟨a, rfl, ev_op <| ev_op <| ev_var rfl <| ev_var rfl <| rx_tup (atI_map rfl r1) <| ev_var rfl <| rx_tup (atI_map rfl r2) ⟨ps, Sx x, rfl, Ma _ _, by omega, ?_⟩⟩⟩
        rw [Pa]
        refine wp_asg <| ev_tup <| ea_cons <| ev_var rfl <| ea_cons <| ev_var rfl <| ea_nil ⟨[_, _], rfl, by simp, [], gt_dput <| ev_var rfl ⟨b, rfl, ev_op <| ev_op <| ev_var rfl <| ev_var rfl <| rx_tup (atI_map rfl r3) <| ev_var rfl <| rx_tup (atI_map rfl r4) ⟨qs, Sx y, rfl, Mb _ _, by omega, ?_⟩⟩⟩
        rw [Pb]
        refine ⟨_, _, _, rfl, rfl, Nat.le_trans (putP_len _ _ _) (by omega), Nat.le_trans (putP_len _ _ _) (by omega), ?_, ?_, keysIn_put d3 (At.mem ⟨r, r1, r2⟩)⟩
        · exact (hasP_put v.nd d1 ⟨r, r1, r2⟩).mono fun a b z _ q => by
            rcases q with q | ⟨q1, q2⟩
            · exact .inl (.inl q)
            · by_cases e : b = n
              · exact .inr ⟨q1, e⟩
              · exact .inl (.inr ⟨q1, by omega⟩)
        · exact (hasP_put v2.nd d2 ⟨r', r3, r4⟩).mono fun a b z _ q => by
            rcases q with q | ⟨q1, q2⟩
            · exact .inl (.inl q)
            · by_cases e : b = n
              · exact .inr ⟨q1, e⟩
              · exact .inl (.inr ⟨q1, by omega⟩)
      · rintro ρ' m' ⟨ps, qs, s6, rfl, rfl, lp, lq, d1, d2, d3⟩
        have inC : ∀ {f : Fl} {a b : Nat} {z : List Nat}, (∀ r ∈ f, r.length = C) → At f a b z → b < C := fun {f a b z} e ⟨r, q1, q2⟩ => by
          have := e r (List.mem_of_getElem? q1)
          have := (List.getElem?_eq_some_iff.mp q2).1
          omega
        refine ⟨ps, qs, _, _, rfl, rfl, by omega, by omega, d1.mono fun a b z gz q => ?_, d2.mono fun a b z gz q => ?_, d3⟩
        · by_cases e : a = k
          · exact .inr ⟨e, inC hC gz⟩
          · exact .inl (by omega)
        · by_cases e : a = k
          · exact .inr ⟨e, inC hC2 gz⟩
          · exact .inl (by omega)
    · rintro ρ' m' ⟨ps, qs, s5, s6, rfl, rfl, lp, lq, d1, d2, d3⟩
      have inR : ∀ {f : Fl} {a b : Nat} {z : List Nat}, f.length = fl.length → At f a b z → a < fl.length := fun {f a b z} e ⟨r, q1, q2⟩ => by
        have := (List.getElem?_eq_some_iff.mp q1).1
        omega
      exact ⟨ps, qs, _, _, rfl, rfl, d1.mono fun a b z gz _ => inR rfl gz, d2.mono fun a b z gz _ => inR len2 gz, d3⟩
  rintro ρ' m' ⟨ps, qs, s5, s6, rfl, rfl, d1, d2, d3⟩
  refine wp_seq <| wp_lock (Ma ps qs) fun ob kvs => ?_
  let N : Sto := put (M ps qs) a (.dicF ob kvs ps)
  have Na : N a = some (.dicF ob kvs ps) := put_same
  have Nb : N b = some (.dic qs) := by show put (M ps qs) a _ b = _; rw [put_ne (Ne.symm ab)]; exact Mb _ _
  have back : put N a (.dic ps) = M ps qs := by
    show put (put (M ps qs) a _) a _ = _
    rw [put_put, Pa]
  have fin : del (del (M ps qs) b) a = m := by
    show del (del (put (put m a _) b _) b) a = _
    rw [del_put (by rw [put_ne (Ne.symm ab)]; exact hb'), del_put ha]
  refine wp_forL (toD := fun p : Str × PyData => PyData.str p.1) <| ei_dicF <| ev_var rfl ⟨a, ob, kvs, ps, rfl, Na, ps, fun _ ρ' m' => ∃ s7 s8 s9 s10, ρ' = R s5 s6 s7 s8 s9 s10 ∧ m' = N, rfl, ⟨_, _, _, _, rfl, rfl⟩, fun _ _ m' ⟨_, _, _, _, _, e⟩ => by rw [e]; exact Na, ?_, ?_⟩
  · rintro k q ρ' m' hk ⟨s7, s8, s9, s10, rfl, rfl⟩
    obtain ⟨x, ex, hx⟩ := d3 q (List.mem_of_getElem? hk)
    obtain ⟨a0, b0, gx⟩ := at_of hx
    obtain ⟨a1, b1, gx', m1, m2, m3, m4⟩ := move a0 b0 x gx
    have e1 := d1 a0 b0 x gx trivial
    have e2 := d1 i j l g trivial
    have e3 := d2 a1 b1 x gx' trivial
    have e4 := d2 _ _ l self2 trivial
    rw [ex]
    refine wp_rng <| ea_cons <| ev_int <| ea_nil ⟨2, fun _ ρ' m' => ∃ s8 s9 s10, ρ' = R s5 s6 (some (.d (.str (Sx x)))) s8 s9 s10 ∧ m' = N, rfl, by decide, ⟨_, _, _, rfl, rfl⟩, ?_, ?_⟩
    · rintro n ρ' m' hn ⟨s8, s9, s10, rfl, rfl⟩
      have pick : ∀ c d : Nat, atI [PyData.int (c : Nat), .int (d : Nat)] ((n : Nat) : Int) = some (.int ((if n = 0 then c else d : Nat) : Int)) := fun c d => by
        rcases (show n = 0 ∨ n = 1 by omega) with rfl | rfl
        · rfl
        · rfl
      refine wp_seq <| wp_set <| ev_op <| ev_op <| ev_dgetF <| ev_var rfl ⟨a, rfl, ev_var rfl ⟨ob, kvs, ps, _, _, rfl, Na, e1, ev_var rfl <| rx_tup (pick a0 b0) <| ev_op <| ev_dgetF <| ev_var rfl ⟨a, rfl, ev_var rfl ⟨ob, kvs, ps, _, _, rfl, Na, e2, ev_var rfl <| rx_tup (pick i j) <| rs_int ?_⟩⟩⟩⟩
      refine wp_seq <| wp_set <| ev_op <| ev_op <| ev_dget <| ev_var rfl ⟨b, rfl, ev_var rfl ⟨qs, _, _, rfl, Nb, e3, ev_var rfl <| rx_tup (pick a1 b1) <| ev_op <| ev_dget <| ev_var rfl ⟨b, rfl, ev_var rfl ⟨qs, _, _, rfl, Nb, e4, ev_var rfl <| rx_tup (pick (fl.length - 1 - i) (C - 1 - j)) <| rs_int ?_⟩⟩⟩⟩
      have sg : decide ((0 : Int) < ((if n = 0 then a0 else b0 : Nat) : Int) - ((if n = 0 then i else j : Nat) : Int)) = decide (((if n = 0 then a1 else b1 : Nat) : Int) - ((if n = 0 then fl.length - 1 - i else C - 1 - j : Nat) : Int) < 0) ∧ decide (((if n = 0 then a0 else b0 : Nat) : Int) - ((if n = 0 then i else j : Nat) : Int) < 0) = decide ((0 : Int) < ((if n = 0 then a1 else b1 : Nat) : Int) - ((if n = 0 then fl.length - 1 - i else C - 1 - j : Nat) : Int)) := by
        by_cases h : n = 0
        · rw [if_pos h, if_pos h, if_pos h, if_pos h]
          exact sgn m1 m2
        · rw [if_neg h, if_neg h, if_neg h, if_neg h]
          exact sgn m3 m4
      refine wp_if <| et_or <| et_test <| ev_op <| ev_op <| ev_var rfl <| ev_int <| rl_gt <| ev_op <| ev_var rfl <| ev_int <| rl_lt <| re_ne (by rfl) (by rfl) ⟨_, rfl, ite_b (fun q => ?_) (fun _ => ?_)⟩
      · rw [sg.1] at q
        simp [PyData.eqv] at q
      · refine et_test <| ev_op <| ev_op <| ev_var rfl <| ev_int <| rl_lt <| ev_op <| ev_var rfl <| ev_int <| rl_gt <| re_ne (by rfl) (by rfl) ⟨_, rfl, ite_b (fun q => ?_) (fun _ => wp_next ⟨_, _, _, rfl, rfl⟩)⟩
        rw [sg.2] at q
        simp [PyData.eqv] at q
    · rintro ρ' m' ⟨s8, s9, s10, rfl, rfl⟩
      exact ⟨_, _, _, _, rfl, rfl⟩
  · rintro ρ' m' ⟨s7, s8, s9, s10, rfl, rfl⟩
    refine ⟨Na, ?_⟩
    rw [back]
    refine wp_ret <| ev_del <| ev_del <| ev_bl ⟨b, _, Mb ps qs, a, .dic ps, ?_, ?_⟩
    · rw [del_ne ab]; exact Ma _ _
    · rw [fin]; exact p
end
end Dv

namespace Dv
open PySem L2 PyProof.Rows
theorem low_len (l : List Nat) : (lowN l).length = l.length := by cases l <;> rfl
theorem nm_short0 (sh nu : Nat) : (nmL 0 sh nu).length < 6 := by
  show ((97 + (nu + sh) % 26) :: (if 25 < nu then [97 + (nu / 26 + 2 * sh) % 26] else [])).length < 6
  split <;> simp
theorem nm_short {st : Nat} (h : st < 6) : (∀ sh nu, (nmL st sh nu).length = 6) ∨ ∀ sh nu, (nmL st sh nu).length < 6 := by
  match st, h with
  | 0, _ => exact .inr nm_short0
  | 1, _ => exact .inr fun sh nu => by simp [nmL]
  | 2, _ => exact .inr fun sh nu => by simp [nmL]
  | 3, _ => exact .inr fun sh nu => by simp [nmL]
  | 4, _ => exact .inr fun sh nu => by simp [nmL]; omega
  | 5, _ => exact .inl fun sh nu => by simp [nmL]
theorem gf_short {R C : Nat} {fl : Fl} (g : GF R C fl) {l : List Nat} (hl : l ∈ fl.flatten) (h : l.length < 6) : ∀ r ∈ fl, ∀ x ∈ r, x.length < 6 := by
  obtain ⟨st, sh, hst, hf⟩ := g.form
  obtain ⟨r, hr, hlr⟩ := List.mem_flatten.mp hl
  obtain ⟨nu, e⟩ := hf r hr l hlr
  rcases nm_short hst with h6 | h6
  · have := congrArg List.length e
    rw [low_len, h6] at this
    omega
  · intro q hq x hx
    obtain ⟨nu', e'⟩ := hf q hq x hx
    have := congrArg List.length e'
    rw [low_len] at this
    rw [this]
    exact h6 sh nu'
theorem up_rn {l : List Nat} (h : upN l = true) : upN (rnL l) = true := by
  cases l with
  | nil => cases h
  | cons c t =>
    by_cases h5 : t.length < 5
    · rw [rnL_s h5]; exact h
    · have e : rnL (c :: t) = (c :: t).take 5 ++ [121] := if_neg h5
      rw [e]; exact h
theorem crX_rn {fl : Fl} (v : VF fl) (v2 : VF (rnF fl)) {l : List Nat} (h : l ∈ fl.flatten) : rnL l ∈ (rnF fl).flatten ∧ crX (rnF fl) (rnL l) = rnF (crX fl l) := by
  obtain ⟨i, j, g⟩ := at_of h
  exact ⟨(rn_at g).mem, by rw [crX_at v g, crX_at v2 (rn_at g), crF_rn]⟩
section
variable {K : PySem.W.Frag} {Pg : Program} {w : World} {m : Sto}
theorem ev_play {ρ : Rho} {P : PV} {tr : TA} (h : EvA K tr ρ m fun ss m1 => W_play (ss ++ [.d (.bool false)]) m1 P) : Ev K (tCall (SpD K W_play) [.bl false] E0 tr) ρ m P := ev_call (dss := [.d (.bool false)]) (fun F H => .cons rfl .nil) h
def t_law7 (K : PySem.W.Frag) (Pg : Program) (w : World) : TS :=
  (tSeq (tFor (iRng1 (tCons (tCB (rMaxC) (tCons (tC (.int 1)) (tCons (tCB (rMinC) (tCons (tC (.int 3)) (tCons (tCB (rLenC K) (tCons (tVar 0) tNil)) tNil))) tNil))) tNil)) (gName 1)
    (tSeq (tAsg (tCall (SpD K W_source) [] E0 (tCons (tVar 0) (tCons (tVar 1) tNil))) (gName 2))
    (tSeq (tAsg (tCall (SpD K W_floor) [] E0 (tCons (tVar 2) (tCons (tC (.int 100)) tNil))) (gName 3))
    (tSeq (tAsg (tCall (SpD K W_leaders) [] E0 (tCons (tVar 3) tNil)) (gName 4))
    (tSeq (tAsg (tLst tNil) (gName 5))
    (tSeq (tIfS (tTest (tOp (rNeU K) (tVar 4) (tLst tNil)))
    (tAsg (tLc (iRng1 (tCons (tCall (SpD K W_draw) [] E0 (tCons (tVar 2) (tCons (tC (.int 41)) tNil))) tNil)) (gName 10) tYes (tOp (rIx K) (tVar 4) (tCall (SpD K W_draw) [] E0 (tCons (tVar 2) (tCons (tCB (rLenC K) (tCons (tVar 4) tNil)) tNil)))) [10]) (gName 5))
    tNext)
    (tSeq (tAsg (tCall (SpD K W_play) [.bl false] E0 (tCons (tVar 3) (tCons (tCB (rTupleC K) (tCons (tVar 5) tNil)) tNil))) (gName 6))
    (tSeq (tIfS (tOr (tTest (tOp (rNeU K) (tCall (SpD K W_lines) [] E0 (tCons (tVar 6) tNil)) (tCall (SpD K W_lines) [] E0 (tCons (tVar 3) tNil)))) (tTest (tOp (rNeU K) (tCall (SpD K W_play) [.bl false] E0 (tCons (tVar 6) (tCons (tCB (rTupleC K) (tCons (tRevL K (tVar 5)) tNil)) tNil))) (tVar 3))))
    (tRet (tC (.bl false)))
    tNext)
    (tSeq (tIfS (tTest (tOp (rNeU K) (tCall (SpD K W_lines) [] E0 (tCons (tCall (SpD K W_transposed) [] E0 (tCons (tVar 6) tNil)) tNil)) (tCall (SpD K W_lines) [] E0 (tCons (tCall (SpD K W_transposed) [] E0 (tCons (tVar 3) tNil)) tNil))))
    (tRet (tC (.bl false)))
    tNext)
    (tSeq (tIfS (tTest (tOp (rNeU K) (tCall (SpD K W_play) [.bl false] E0 (tCons (tCall (SpD K W_transposed) [] E0 (tCons (tVar 3) tNil)) (tCons (tCB (rTupleC K) (tCons (tVar 5) tNil)) tNil))) (tCall (SpD K W_transposed) [] E0 (tCons (tVar 6) tNil))))
    (tRet (tC (.bl false)))
    tNext)
    (tSeq (tIfS (tTest (tOp (rNeU K) (tCall (SpD K W_play) [.bl false] E0 (tCons (tCall (SpD K W_mirrored) [] E0 (tCons (tVar 3) tNil)) (tCons (tCB (rTupleC K) (tCons (tVar 5) tNil)) tNil))) (tCall (SpD K W_mirrored) [] E0 (tCons (tVar 6) tNil))))
    (tRet (tC (.bl false)))
    tNext)
    (tFor (iSeqU K (tSl (rSlU K) (tVar 5) tNoPart (tPart (tC (.int 1))))) (gName 7)
    (tSeq (tAsg (tCall (SpD K W_cross7) [] E0 (tCons (tVar 3) (tCons (tVar 7) tNil))) (gName 8))
    (tSeq (tIfS (tOr (tTest (tOp (rNeU K) (tCall (SpD K W_cross7) [] E0 (tCons (tVar 8) (tCons (tVar 7) tNil))) (tVar 3))) (tNot (tTr K (tCall (SpD K W_quadrants) [] E0 (tCons (tVar 3) (tCons (tVar 8) (tCons (tVar 7) tNil)))))))
    (tRet (tC (.bl false)))
    tNext)
    (tSeq (tAsg (tOp (rIx K) (tOp (rIx K) (tCall (SpD K W_renamed) [] E0 (tCons (tTupZ (tCons (tTupZ (tCons (tVar 7) tNil)) tNil)) tNil)) (tC (.int 0))) (tC (.int 0))) (gName 9))
    (tIfS (tAnd (tTest (tOp (rI0 fun i j => .bl (decide (i < j))) (tCB (rLenC K) (tCons (tVar 7) tNil)) (tC (.int 6)))) (tTest (tOp (rNeU K) (tCall (SpD K W_cross7) [] E0 (tCons (tCall (SpD K W_renamed) [] E0 (tCons (tVar 3) tNil)) (tCons (tVar 9) tNil))) (tCall (SpD K W_renamed) [] E0 (tCons (tVar 8) tNil)))))
    (tRet (tC (.bl false)))
    tNext))))))))))))))))
    (tRet (tC (.bl true))))
theorem rd_law7 (ss : List Sl) (m : Sto) (P : PV) (h : WLaw ss m P) : Wp K (t_law7 K Pg w) (rho ["script", "index", "source", "floor", "leaders", "names", "after", "name", "once", "other", "step"] ss) m { nx := fun _ m' => P (.d .none) m', rt := P } := by
  obtain ⟨ns, rfl, hl, _, p⟩ := h
  obtain ⟨t, ht, et⟩ := turns_ok (k := 3) hl (by decide)
  refine wp_seq <| wp_rng <| ea_cons <| ev_cb <| ea_cons <| ev_int <| ea_cons <| ev_cb <| ea_cons <| ev_int <| ea_cons <| ev_cb <| ea_cons <| ev_var rfl <| ea_nil <| rc_lenF <| ea_nil <| rc_min2 <| ea_nil <| rc_max2 <| ea_nil ⟨t, fun i ρ' m' => ∃ s1 s2 s3 s4 s5 s6 s7 s8 s9, ρ' = [some (.f (ns.map .int)), s1, s2, s3, s4, s5, s6, s7, s8, s9, none], ?_, by omega, ⟨_, _, _, _, _, _, _, _, _, rfl⟩, ?_, ?_⟩
  · rw [List.length_map]
    exact congrArg (fun z => [Sl.d (.int z)]) et
  · rintro i ρ' m0 hi ⟨s1, s2, s3, s4, s5, s6, s7, s8, s9, rfl⟩
    refine wp_seq <| wp_set <| ev_call0 <| ea_cons <| ev_var rfl <| ea_cons <| ev_var rfl <| ea_nil ⟨ns, i, rfl, hl, by omega, fun a u ha hu => ?_⟩
    refine wp_seq <| wp_set <| ev_call0 <| ea_cons <| ev_var rfl <| ea_cons <| ev_int <| ea_nil ⟨a, 100, u, 0, rfl, by decide, by decide, put_same, hu, by decide, fun R C fl u1 hG _ hu1 => ?_⟩
    rw [put_put]
    have v := hG.vf
    have hok : ∀ l ∈ fl.flatten, okL l = true := fun l hl => by
      obtain ⟨r, hr, h2⟩ := List.mem_flatten.mp hl
      exact v.ok r hr l h2
    have hlen6 : ∀ l, okL l = true → l ≠ [] ∧ l.length ≤ 6 := fun l h => by
      refine ⟨okL_ne h, ?_⟩
      cases l with
      | nil => cases h
      | cons c t => simp [okL] at h; simp; omega
    refine wp_seq <| wp_set <| ev_call0 <| ea_cons <| ev_var rfl <| ea_nil ⟨fl, rfl, v.named, v.short, fun ys hys _ => ?_⟩
    obtain ⟨zs, hzs, rfl⟩ := perm_map (f := Sx) hys rfl
    rw [← nms_str]
    have hzm : ∀ l, l ∈ zs → l ∈ fl.flatten ∧ upN l = true := fun l hl => by
      have := hzs.mem_iff.mp hl
      rw [List.mem_filter] at this
      exact this
    have hzT : ∀ l ∈ zs, Tx l := fun l hl => okL_tx (hok l (hzm l hl).1)
    have hz144 : zs.length ≤ 144 := by
      rw [hzs.length_eq]
      exact Nat.le_trans (List.length_filter_le ..) (flat144' v)
    refine wp_seq <| wp_set <| ev_lst <| ea_nil ⟨[], rfl, by simp, ?_⟩
    let R0 : List (List Nat) → Option Sl → Option Sl → Option Sl → Option Sl → Rho := fun nl s6 s7 s8 s9 => [some (.f (ns.map .int)), some (.d (.int (i : Nat))), some (.m a), some (.d (flD fl)), some (.d (.list (zs.map nmD))), some (.d (.list (nl.map nmD))), s6, s7, s8, s9, none]
    refine wp_seqJ' (fun ρ' m' => ∃ (nl : List (List Nat)), ρ' = R0 nl s6 s7 s8 s9 ∧ (∀ l ∈ nl, l ∈ zs) ∧ nl.length ≤ 41) ?_ ?_
    · refine wp_if <| et_test <| ev_op <| ev_var rfl <| ev_lst <| ea_nil ⟨[], rfl, by simp, re_ne (shaped_names hzT).2 (by rfl) ⟨_, rfl, ite_b (fun q => ?_) (fun _ => wp_next ⟨[], rfl, (fun l h => nomatch h), by decide⟩)⟩⟩
      have hz0 : 0 < zs.length := by
        rw [eqv_nil] at q
        cases zs with
        | nil => cases q
        | cons => simp
      refine wp_set <| ev_lc <| ei_rng1 <| ea_cons <| ev_call0 <| ea_cons <| ev_var rfl <| ea_cons <| ev_int <| ea_nil ⟨a, 41, u1, _, rfl, by decide, by decide, put_same, hu1, by omega, fun r u2 hr hu2 => ?_⟩
      rw [put_put]
      refine ea_nil ⟨_, rfl, by omega, by omega, fun k acc m' => ∃ u' ls, SrcL u' (3001 + k) ∧ m' = put m0 a (.lst u') ∧ acc = ls.map nmD ∧ (∀ l ∈ ls, l ∈ zs) ∧ ls.length = k ∧ k ≤ r, ⟨u2, [], hu2.mono (by omega), rfl, rfl, (fun l h => nomatch h), rfl, Nat.zero_le _⟩, fun _ _ _ _ => trivial, ?_, ?_⟩
      · rintro k x acc m' hx ⟨u', ls, hu', rfl, rfl, hls, hk, hkr⟩
        have hk2 : k < r := by
          have := (List.getElem?_eq_some_iff.mp hx).1
          simpa using this
        refine ⟨by rw [List.length_map]; omega, [10], by simp, gt_name <| et_yes ?_⟩
        rw [if_pos rfl]
        refine ev_op <| ev_var rfl <| ev_call0 <| ea_cons <| ev_var rfl <| ea_cons <| ev_cb <| ea_cons <| ev_var rfl <| ea_nil <| rc_lenL <| ea_nil ⟨a, _, u', _, rfl, by rw [List.length_map]; omega, by rw [List.length_map]; omega, put_same, hu', by omega, fun r2 u3 hr2 hu3 => ?_⟩
        rw [List.length_map] at hr2
        have hr2' : r2 < zs.length := by omega
        rw [put_put]
        refine rx_lst (atI_map rfl (List.getElem?_eq_getElem hr2')) ⟨_, rfl, u3, ls ++ [zs[r2]], hu3.mono (by omega), rfl, by rw [List.map_append]; rfl, fun l hl => ?_, by rw [List.length_append, hk]; rfl, hk2⟩
        rcases List.mem_append.mp hl with h | h
        · exact hls l h
        · rw [List.mem_singleton.mp h]; exact List.getElem_mem _
      · rintro acc m' ⟨u', ls, hu', rfl, rfl, hls, hk, hkr⟩
        exact ⟨ls, rfl, hls, by omega⟩
    rintro ρ' m' ⟨nl, rfl, hnl, hn41⟩
    have hnf : ∀ l ∈ nl, l ∈ fl.flatten ∧ upN l = true := fun l hl => hzm l (hnl l hl)
    have hnf1 : ∀ l ∈ nl, l ∈ fl.flatten := fun l hl => (hnf l hl).1
    obtain ⟨va, pa, la, ca⟩ := plF_ok nl v hnf1
    refine wp_seq <| wp_set <| ev_play <| ea_cons <| ev_var rfl <| ea_cons <| ev_cb <| ea_cons <| ev_var rfl <| ea_nil <| rc_tupleL <| ea_nil ⟨fl, nl, rfl, v, hnf, ?_⟩
    let R1 : Option Sl → Option Sl → Option Sl → Rho := fun s7 s8 s9 => R0 nl (some (.d (flD (plF fl nl)))) s7 s8 s9
    obtain ⟨nl1, nx1⟩ := nx_lnS v
    have nxf := nx_fl v
    have same : ∀ {k n : Nat} {d : PyData}, Nx k n d → (!PyData.eqv d d) = true → False := fun h q => by rw [h.refl] at q; cases q
    refine wp_seqJ' (fun ρ' m'' => ρ' = R1 s7 s8 s9 ∧ m'' = m') ?_ ?_
    · refine wp_if <| et_or <| et_test <| ev_op <| ev_call0 <| ea_cons <| ev_var rfl <| ea_nil ⟨plF fl nl, rfl, va, ?_⟩
      rw [lnS_plF nl v hnf1]
      refine ev_call0 <| ea_cons <| ev_var rfl <| ea_nil ⟨fl, rfl, v, re_ne (nx1.shaped (by decide)) (nx1.shaped (by decide)) ⟨_, rfl, ite_b (fun q => (same nx1 q).elim) (fun _ => ?_)⟩⟩
      refine et_test <| ev_op <| ev_play <| ea_cons <| ev_var rfl <| ea_cons <| ev_cb <| ea_cons <| ev_revL <| ev_var rfl ⟨_, rfl, ea_nil <| rc_tupleL <| ea_nil ⟨plF fl nl, nl.reverse, by rw [List.map_reverse]; rfl, va, fun l hl => ⟨pa.mem_iff.mpr (hnf l (List.mem_reverse.mp hl)).1, (hnf l (List.mem_reverse.mp hl)).2⟩, ?_⟩⟩
      rw [plF_back nl v hnf1]
      exact ev_var rfl <| re_ne (nxf.shaped (by decide)) (nxf.shaped (by decide)) ⟨_, rfl, ite_b (fun q => (same nxf q).elim) (fun _ => wp_next ⟨rfl, rfl⟩)⟩
    rintro ρ' m'' ⟨rfl, rfl⟩
    have vc := v.colF
    have hcf : ∀ l ∈ nl, l ∈ (colF fl).flatten := fun l hl => col_flat v (hnf1 l hl)
    obtain ⟨nl2, nx2⟩ := nx_lnS vc
    refine wp_seqJ' (fun ρ' m' => ρ' = R1 s7 s8 s9 ∧ m' = m'') ?_ ?_
    · refine wp_if <| et_test <| ev_op <| ev_call0 <| ea_cons <| ev_call0 <| ea_cons <| ev_var rfl <| ea_nil ⟨plF fl nl, rfl, va, ea_nil ⟨colF (plF fl nl), rfl, va.colF, ?_⟩⟩
      rw [plF_col nl v hnf1, lnS_plF nl vc hcf]
      exact ev_call0 <| ea_cons <| ev_call0 <| ea_cons <| ev_var rfl <| ea_nil ⟨fl, rfl, v, ea_nil ⟨colF fl, rfl, vc, re_ne (nx2.shaped (by decide)) (nx2.shaped (by decide)) ⟨_, rfl, ite_b (fun q => (same nx2 q).elim) (fun _ => wp_next ⟨rfl, rfl⟩)⟩⟩⟩
    rintro ρ' m' ⟨rfl, rfl⟩
    have nxc := nx_fl va.colF
    refine wp_seqJ' (fun ρ' m'' => ρ' = R1 s7 s8 s9 ∧ m'' = m') ?_ ?_
    · refine wp_if <| et_test <| ev_op <| ev_play <| ea_cons <| ev_call0 <| ea_cons <| ev_var rfl <| ea_nil ⟨fl, rfl, v, ea_cons <| ev_cb <| ea_cons <| ev_var rfl <| ea_nil <| rc_tupleL <| ea_nil ⟨colF fl, nl, rfl, vc, fun l hl => ⟨hcf l hl, (hnf l hl).2⟩, ?_⟩⟩
      rw [← plF_col nl v hnf1]
      exact ev_call0 <| ea_cons <| ev_var rfl <| ea_nil ⟨plF fl nl, rfl, va, re_ne (nxc.shaped (by decide)) (nxc.shaped (by decide)) ⟨_, rfl, ite_b (fun q => (same nxc q).elim) (fun _ => wp_next ⟨rfl, rfl⟩)⟩⟩
    rintro ρ' m'' ⟨rfl, rfl⟩
    have vm := v.mirF
    have hmf : ∀ l ∈ nl, l ∈ (mirF fl).flatten := fun l hl => (rev_flat fl).mem_iff.mpr (hnf1 l hl)
    have nxm := nx_fl va.mirF
    refine wp_seqJ' (fun ρ' m' => ρ' = R1 s7 s8 s9 ∧ m' = m'') ?_ ?_
    · refine wp_if <| et_test <| ev_op <| ev_play <| ea_cons <| ev_call0 <| ea_cons <| ev_var rfl <| ea_nil ⟨fl, rfl, v, ea_cons <| ev_cb <| ea_cons <| ev_var rfl <| ea_nil <| rc_tupleL <| ea_nil ⟨mirF fl, nl, rfl, vm, fun l hl => ⟨hmf l hl, (hnf l hl).2⟩, ?_⟩⟩
      rw [← plF_mir nl v hnf1]
      exact ev_call0 <| ea_cons <| ev_var rfl <| ea_nil ⟨plF fl nl, rfl, va, re_ne (nxm.shaped (by decide)) (nxm.shaped (by decide)) ⟨_, rfl, ite_b (fun q => (same nxm q).elim) (fun _ => wp_next ⟨rfl, rfl⟩)⟩⟩
    rintro ρ' m' ⟨rfl, rfl⟩
    refine wp_forL (toD := nmD) <| ei_lst <| ev_sl <| ev_var rfl <| eo_no <| eo_some <| ev_int ⟨_, rfl, rz_lst ?_⟩
    rw [show (1 : Int) = ((1 : Nat) : Int) from rfl, cut_to, ← List.map_take]
    refine ⟨_, rfl, nl.take 1, fun _ ρ' m'' => ∃ s7 s8 s9, ρ' = R1 s7 s8 s9, rfl, ⟨_, _, _, rfl⟩, fun _ _ _ _ => trivial, ?_, ?_⟩
    · rintro k l ρ' m1 hk ⟨s7, s8, s9, rfl⟩
      obtain ⟨hlf, hlu⟩ := hnf l (List.mem_of_mem_take (List.mem_of_getElem? hk))
      obtain ⟨vx, px, lx, cx⟩ := crX_ok v hlf
      refine wp_seq <| wp_set <| ev_call0 <| ea_cons <| ev_var rfl <| ea_cons <| ev_var rfl <| ea_nil ⟨fl, l, rfl, v, hlf, hlu, ?_⟩
      refine wp_seqJ' (fun ρ' m'' => ρ' = R1 (some (.d (nmD l))) (some (.d (flD (crX fl l)))) s9) ?_ ?_
      · refine wp_if <| et_or <| et_test <| ev_op <| ev_call0 <| ea_cons <| ev_var rfl <| ea_cons <| ev_var rfl <| ea_nil ⟨crX fl l, l, rfl, vx, px.mem_iff.mpr hlf, hlu, ?_⟩
        rw [crX_inv v hlf]
        refine ev_var rfl <| re_ne (nxf.shaped (by decide)) (nxf.shaped (by decide)) ⟨_, rfl, ite_b (fun q => (same nxf q).elim) (fun _ => ?_)⟩
        exact et_not <| et_tr <| ev_call0 <| ea_cons <| ev_var rfl <| ea_cons <| ev_var rfl <| ea_cons <| ev_var rfl <| ea_nil ⟨fl, l, rfl, v, hlf, _, tr_bool, ite_b (fun q => by cases q) (fun _ => wp_next rfl)⟩
      rintro ρ' m2 rfl
      have hl6 := hlen6 l (hok l hlf)
      refine wp_seq <| wp_set <| ev_op <| ev_op <| ev_call0 <| ea_cons <| ev_tup <| ea_cons <| ev_tup <| ea_cons <| ev_var rfl <| ea_nil ⟨[_], rfl, by simp, ea_nil ⟨[_], rfl, by simp, ea_nil ⟨[[l]], rfl, by simp, fun r hr => by rw [List.mem_singleton.mp hr]; simp, fun r hr x hx => by rw [List.mem_singleton.mp hr] at hx; rw [List.mem_singleton.mp hx]; exact hl6, ev_int <| rx_tup atI_zero <| ev_int <| rx_tup atI_zero ?_⟩⟩⟩
      have hz : (Sx l).length ≤ 100000 := by rw [sx_len]; omega
      refine wp_if <| et_and <| et_test <| ev_op <| ev_cb <| ea_cons <| ev_var rfl <| ea_nil <| rc_lenS hz <| ev_int <| rl_lt ⟨_, rfl, ite_b (fun q => ?_) (fun _ => wp_next ⟨_, _, _, rfl⟩)⟩
      have q := of_decide_eq_true q
      rw [sx_len] at q
      have hs := gf_short hG hlf (by omega)
      have vr := v.rnF hs
      obtain ⟨c, c0, c1, hc⟩ := v.cols
      obtain ⟨r1, r2⟩ := crX_rn v vr hlf
      have rnok : ∀ {f : Fl}, VF f → (∀ x ∈ f.flatten, x ∈ fl.flatten) → ∀ r ∈ f, ∀ x ∈ r, x ≠ [] ∧ x.length ≤ 6 := fun {f} vf _ r hr x hx => hlen6 x (vf.ok r hr x hx)
      refine et_test <| ev_op <| ev_call0 <| ea_cons <| ev_call0 <| ea_cons <| ev_var rfl <| ea_nil ⟨fl, rfl, v.most, fun r hr => by rw [hc r hr]; exact c1, rnok v (fun _ h => h), ea_cons <| ev_var rfl <| ea_nil ⟨rnF fl, rnL l, rfl, vr, r1, up_rn hlu, ?_⟩⟩
      have vx2 := vx.rnF fun r hr x hx => by
        have : x ∈ fl.flatten := px.mem_iff.mp (List.mem_flatten.mpr ⟨r, hr, hx⟩)
        obtain ⟨q', hq', hx'⟩ := List.mem_flatten.mp this
        exact hs q' hq' x hx'
      have nxr := nx_fl vx2
      rw [r2]
      exact ev_call0 <| ea_cons <| ev_var rfl <| ea_nil ⟨crX fl l, rfl, vx.most, fun r hr => by rw [cx c hc r hr]; exact c1, rnok vx (fun x h => px.mem_iff.mp h), re_ne (nxr.shaped (by decide)) (nxr.shaped (by decide)) ⟨_, rfl, ite_b (fun q => (same nxr q).elim) (fun _ => wp_next ⟨_, _, _, rfl⟩)⟩⟩
    · rintro ρ' m'' ⟨s7, s8, s9, rfl⟩
      exact ⟨_, _, _, _, _, _, _, _, _, rfl⟩
  · rintro ρ' m' ⟨s1, s2, s3, s4, s5, s6, s7, s8, s9, rfl⟩
    exact wp_ret <| ev_bl <| p _
end
end Dv

namespace Dv
open PySem L2 PyProof.Rows
/-! ### the text by places -/
def topS (i : Nat) : Stmt := PySem.Challenge.pw_crossfloor_k07_whole_moves_keep_lines.main.body.getD i (.Pass ⟨0, 0, 0, 0⟩)
structure Bi (mg : Str → Option Value) : Prop where
  len : mg "len" = none
  min : mg "min" = none
  max : mg "max" = none
  sorted : mg "sorted" = none
  int : mg "int" = none
  list : mg "list" = none
  tuple : mg "tuple" = none
  range : mg "range" = none
  enumerate : mg "enumerate" = none
structure Cn (mg : Str → Option Value) : Prop where
  UPPER : ∃ u, mg "UPPER" = some u ∧ L2.RelV (.str "ABCDEFGHIJKLMNOPQRSTUVWXYZ") u
section
variable {Pg : Program} {w : World} {K : PySem.W.Frag} {mg : Str → Option Value} {base : Heap}
abbrev s_is_leader : Stmt := topS 6
theorem sc_is_leader : FnScope ["name"] ["name"] (defScope s_is_leader) := ⟨rfl, rfl, rfl, by decide +kernel, rfl, by decide +kernel, by decide +kernel⟩
theorem d_is_leader (A : FunAt K mg "is_leader" s_is_leader ["name"]) (B : Bi mg) (C : Cn mg) : Dfn Pg w K mg base 1 "is_leader" ["name"] W_is_leader := by
  refine dfn_mk (k := 0) A sc_is_leader (fun ss m P h => by obtain ⟨_, _, e, _⟩ := h; rw [e]; rfl) (fun f cdv A outer s H E hg hr => ?_) (rd_is_leader (Pg := Pg) (w := w))
  have nd := sc_is_leader.nd
  unfold t_is_leader
  exact (pss_one (ps_ret (pe_cmpR (op_inU (hu65 hr)) (pe_ix ix_seq (pv 0) pe_int (fun _ _ => rfl)) (pe_cn C.UPPER) (by rfl))))
abbrev s_locate : Stmt := topS 7
theorem sc_locate : FnScope ["floor", "name", "row", "names"] ["floor", "name"] (defScope s_locate) := ⟨rfl, rfl, rfl, by decide +kernel, rfl, by decide +kernel, by decide +kernel⟩
theorem d_locate (A : FunAt K mg "locate" s_locate ["floor", "name"]) (B : Bi mg) (C : Cn mg) : Dfn Pg w K mg base 1 "locate" ["floor", "name"] W_locate := by
  refine dfn_mk (k := 0) A sc_locate (fun ss m P h => by obtain ⟨_, _, _, _, _, e, _⟩ := h; rw [e]; rfl) (fun f cdv A outer s H E hg hr => ?_) (rd_locate (Pg := Pg) (w := w))
  have nd := sc_locate.nd
  unfold t_locate
  exact (pss_cons (ps_for PassesOwn.never rfl (pi_enumU (by rfl) B.enumerate (pa_cons (pv 0) pa_nil)) (pg_tup rfl (pgs_cons (pg_nameA 2 nd) (pgs_cons (pg_nameA 3 nd) pgs_nil)))
      (pss_one (ps_if (pt_cmpR (op_inU (hu65 hr)) (pv 1) (pv 3) (by rfl))
      (pss_one (ps_ret (pe_tupZ (pa_cons (pv 2) (pa_cons (pe_tm1 PySem.F.slot_tuple_index PySem.F.type_tuple_index mt_tup_index (pv 3) (pv 1)) pa_nil)))))
      pss_nil)))
      (pss_one ps_never))
abbrev s_crossed : Stmt := topS 11
theorem sc_crossed : FnScope ["line", "at"] ["line", "at"] (defScope s_crossed) := ⟨rfl, rfl, rfl, by decide +kernel, rfl, by decide +kernel, by decide +kernel⟩
theorem d_crossed (A : FunAt K mg "crossed" s_crossed ["line", "at"]) (B : Bi mg) (C : Cn mg) : Dfn Pg w K mg base 1 "crossed" ["line", "at"] W_crossed := by
  refine dfn_mk (k := 0) A sc_crossed (fun ss m P h => by obtain ⟨_, _, e, _⟩ := h; rw [e]; rfl) (fun f cdv A outer s H E hg hr => ?_) (rd_crossed (Pg := Pg) (w := w))
  have nd := sc_crossed.nd
  unfold t_crossed
  exact (pss_one (ps_ret (pe_op op_addU (pe_op op_addU (pe_slice sl_U (pv 0) (po_some (pe_op op_addU (pv 1) pe_int)) po_none) (pe_slice sl_U (pv 0) (po_some (pv 1)) (po_some (pe_op op_addU (pv 1) pe_int)))) (pe_slice sl_U (pv 0) po_none (po_some (pv 1))))))
abbrev s_source : Stmt := topS 15
theorem sc_source : FnScope ["script", "index", "cell"] ["script", "index"] (defScope s_source) := ⟨rfl, rfl, rfl, by decide +kernel, rfl, by decide +kernel, by decide +kernel⟩
theorem d_source (A : FunAt K mg "_law_source" s_source ["script", "index"]) (B : Bi mg) (C : Cn mg) : Dfn Pg w K mg base 1 "_law_source" ["script", "index"] W_source := by
  refine dfn_mk (k := 0) A sc_source (fun ss m P h => by obtain ⟨_, _, e, _⟩ := h; rw [e]; rfl) (fun f cdv A outer s H E hg hr => ?_) (rd_source (Pg := Pg) (w := w))
  have nd := sc_source.nd
  unfold t_source
  exact (pss_cons (ps_setA 2 nd pe_int)
      (pss_cons (ps_if (pt_cmpR op_lt (pv 1) (pe_callB call_len (by rfl) B.len PySem.boot_len (pa_cons (pv 0) pa_nil)) (nomark _))
      (pss_one (ps_setA 2 nd (pe_ix ix_seq (pv 0) (pv 1) (fun _ _ => rfl))))
      pss_nil)
      (pss_one (ps_ret (pe_lst (pa_cons (pe_callB (call_max2 rfl) (by rfl) B.max (by decide +kernel) (pa_cons pe_int (pa_cons (pe_op op_sub (pv 2) (pe_op op_powW pe_int pe_int)) pa_nil))) (pa_cons (pe_op op_addU (pe_op op_mod (pv 2) (pe_op op_addU (pe_op op_powW pe_int pe_int) pe_int)) (pe_op op_mulU pe_int (pv 1))) (pa_cons pe_int pa_nil))))))))
abbrev s_draw : Stmt := topS 16
theorem sc_draw : FnScope ["source", "bound", "digit", "mixed"] ["source", "bound"] (defScope s_draw) := ⟨rfl, rfl, rfl, by decide +kernel, rfl, by decide +kernel, by decide +kernel⟩
theorem d_draw (A : FunAt K mg "_law_draw" s_draw ["source", "bound"]) (B : Bi mg) (C : Cn mg) : Dfn Pg w K mg base 1 "_law_draw" ["source", "bound"] W_draw := by
  refine dfn_mk (k := 0) A sc_draw (fun ss m P h => by obtain ⟨_, _, _, _, e, _⟩ := h; rw [e]; rfl) (fun f cdv A outer s H E hg hr => ?_) (rd_draw (Pg := Pg) (w := w))
  have nd := sc_draw.nd
  unfold t_draw
  exact (pss_cons (ps_if (pt_cmpR op_gt (pe_ix ix_seq (pv 0) pe_int (fun _ _ => rfl)) pe_int (nomark _))
      (pss_cons (ps_setA 2 nd (pe_op op_mod (pe_ix ix_seq (pv 0) pe_int (fun _ _ => rfl)) (pv 1)))
      (pss_cons (ps_asg (pe_op op_fdivW (pe_ix ix_seq (pv 0) pe_int (fun _ _ => rfl)) (pv 1)) (pg_sub (pv 0) pe_int set_list))
      (pss_one (ps_ret (pv 2)))))
      pss_nil)
      (pss_cons (ps_asg (pe_op op_addU (pe_ix ix_seq (pv 0) pe_int (fun _ _ => rfl)) pe_int) (pg_sub (pv 0) pe_int set_list))
      (pss_cons (ps_setA 3 nd (pe_op op_mod (pe_op op_powW (pe_op op_addU (pe_ix ix_seq (pv 0) pe_int (fun _ _ => rfl)) (pe_op op_mulU pe_int (pe_ix ix_seq (pv 0) pe_int (fun _ _ => rfl)))) pe_int) (pe_op op_addU (pe_op op_powW pe_int pe_int) pe_int)))
      (pss_cons (ps_setA 3 nd (pe_op op_mod (pe_op op_powW (pe_op op_addU (pv 3) (pe_op op_mulU pe_int (pe_ix ix_seq (pv 0) pe_int (fun _ _ => rfl)))) pe_int) (pe_op op_addU (pe_op op_powW pe_int pe_int) pe_int)))
      (pss_one (ps_ret (pe_op op_mod (pe_op op_fdivW (pv 3) pe_int) (pv 1))))))))
abbrev s_name : Stmt := topS 18
theorem sc_name : FnScope ["style", "shift", "number", "letters", "first", "second", "names"] ["style", "shift", "number"] (defScope s_name) := ⟨rfl, rfl, rfl, by decide +kernel, rfl, by decide +kernel, by decide +kernel⟩
theorem d_name (A : FunAt K mg "_law_name" s_name ["style", "shift", "number"]) (B : Bi mg) (C : Cn mg) : Dfn Pg w K mg base 1 "_law_name" ["style", "shift", "number"] W_name := by
  refine dfn_mk (k := 0) A sc_name (fun ss m P h => by obtain ⟨_, _, _, e, _⟩ := h; rw [e]; rfl) (fun f cdv A outer s H E hg hr => ?_) (rd_name (Pg := Pg) (w := w))
  have nd := sc_name.nd
  unfold t_name
  exact (pss_cons (ps_setA 3 nd pe_str)
      (pss_cons (ps_setA 4 nd (pe_ix ix_seq (pv 3) (pe_op op_mod (pe_op op_addU (pv 2) (pv 1)) pe_int) (fun _ _ => rfl)))
      (pss_cons (ps_setA 5 nd (pe_ix ix_seq (pv 3) (pe_op op_mod (pe_op op_addU (pe_op op_fdivW (pv 2) pe_int) (pe_op op_mulU pe_int (pv 1))) pe_int) (fun _ _ => rfl)))
      (pss_cons (ps_setA 6 nd (pe_lst (pa_cons (pe_op op_addU (pv 4) (pe_op op_mulU (pv 5) (pe_callTy call_int1 (by rfl) B.int (by decide +kernel) (pa_cons (pe_cmpR op_gt (pv 2) pe_int (nomark _)) pa_nil)))) (pa_cons (pe_op op_addU (pv 5) (pv 4)) (pa_cons (pe_op op_addU (pe_op op_addU pe_str (pv 5)) (pv 4)) (pa_cons (pe_op op_addU (pe_op op_addU (pv 4) (pv 5)) pe_str) pa_nil))))))
      (pss_cons (ps_setA 6 nd (pe_op op_addU (pv 6) (pe_lst (pa_cons (pe_op op_addU (pe_op op_addU (pv 4) (pv 5)) (pe_op op_mulU (pv 5) (pe_op op_mod (pv 2) pe_int))) (pa_cons (pe_op op_addU (pe_op op_addU (pv 5) (pv 4)) pe_str) pa_nil)))))
      (pss_one (ps_ret (pe_ix ix_seq (pv 6) (pv 0) (fun _ _ => rfl)))))))))
abbrev s_leaders : Stmt := topS 22
theorem sc_leaders : FnScope ["floor", "found", "cells", "name"] ["floor"] (defScope s_leaders) := ⟨rfl, rfl, rfl, by decide +kernel, rfl, by decide +kernel, by decide +kernel⟩
theorem d_leaders (A : FunAt K mg "_law_leaders" s_leaders ["floor"]) (B : Bi mg) (C : Cn mg) : Dfn Pg w K mg base 1 "_law_leaders" ["floor"] W_leaders := by
  refine dfn_mk (k := 0) A sc_leaders (fun ss m P h => by obtain ⟨_, e, _⟩ := h; rw [e]; rfl) (fun f cdv A outer s H E hg hr => ?_) (rd_leaders (Pg := Pg) (w := w))
  have nd := sc_leaders.nd
  unfold t_leaders
  exact (pss_cons (ps_setA 1 nd (pe_lst pa_nil))
      (pss_cons (ps_for PassesOwn.never rfl (pi_seqU (pv 0)) (pg_nameA 2 nd)
      (pss_one (ps_setA 1 nd (pe_op op_addU (pv 1) (pe_lc (own := [("name", 3)]) (g := (gName 3)) (tt := (tTest (tOp (rInU K Pg w) (tOp (rIx K) (tVar 3) (tC (.int 0))) (tC (.str "ABCDEFGHIJKLMNOPQRSTUVWXYZ"))))) rfl nd (pi_seqU (pv 2)) (blkOk_by (N := ["floor", "found", "cells", "name"]) (sc := defScope s_leaders) (by decide +kernel)) (fun _ _ _ _ _ => (pg_nameA 3 nd)) (fun _ _ _ _ _ => pts_one (pt_cmpR (op_inU (hu65 hr)) (pe_ix ix_seq (pv 3) pe_int (fun _ _ => rfl)) pe_str (by rfl))) (fun _ _ _ _ _ => (pv 3)))))))
      (pss_one (ps_ret (pe_callB cr_sortS (by rfl) B.sorted (by decide +kernel) (pa_cons (pv 1) pa_nil))))))
abbrev s_transposed : Stmt := topS 23
theorem sc_transposed : FnScope ["floor", "column", "cells"] ["floor"] (defScope s_transposed) := ⟨rfl, rfl, rfl, by decide +kernel, rfl, by decide +kernel, by decide +kernel⟩
theorem d_transposed (A : FunAt K mg "_law_transposed" s_transposed ["floor"]) (B : Bi mg) (C : Cn mg) : Dfn Pg w K mg base 1 "_law_transposed" ["floor"] W_transposed := by
  refine dfn_mk (k := 0) A sc_transposed (fun ss m P h => by obtain ⟨_, e, _⟩ := h; rw [e]; rfl) (fun f cdv A outer s H E hg hr => ?_) (rd_transposed (Pg := Pg) (w := w))
  have nd := sc_transposed.nd
  unfold t_transposed
  exact (pss_one (ps_ret (pe_callTy call_tupleZ (by rfl) B.tuple (by decide +kernel) (pa_cons (pe_lc (own := [("column", 1)]) (g := (gName 1)) (tt := tYes) rfl nd (pi_range1 (by rfl) B.range (pa_cons (pe_callB call_len (by rfl) B.len PySem.boot_len (pa_cons (pe_ix ix_seq (pv 0) pe_int (fun _ _ => rfl)) pa_nil)) pa_nil)) (blkOk_by (N := ["floor", "column", "cells"]) (sc := defScope s_transposed) (by decide +kernel)) (fun _ _ _ _ _ => (pg_nameA 1 nd)) (fun _ _ _ _ _ => pts_nil) (fun _ _ _ _ _ => (pe_callTy call_tupleZ (by rfl) B.tuple (by decide +kernel) (pa_cons (pe_lc (own := [("cells", 2)]) (g := (gName 2)) (tt := tYes) rfl nd (pi_seqU (pv 0)) (blkOk_by (by rfl)) (fun _ _ _ _ _ => (pg_nameA 2 nd)) (fun _ _ _ _ _ => pts_nil) (fun _ _ _ _ _ => (pe_ix ix_seq (pv 2) (pv 1) (fun _ _ => rfl)))) pa_nil)))) pa_nil))))
abbrev s_mirrored : Stmt := topS 24
theorem sc_mirrored : FnScope ["floor", "cells"] ["floor"] (defScope s_mirrored) := ⟨rfl, rfl, rfl, by decide +kernel, rfl, by decide +kernel, by decide +kernel⟩
theorem d_mirrored (A : FunAt K mg "_law_mirrored" s_mirrored ["floor"]) (B : Bi mg) (C : Cn mg) : Dfn Pg w K mg base 1 "_law_mirrored" ["floor"] W_mirrored := by
  refine dfn_mk (k := 0) A sc_mirrored (fun ss m P h => by obtain ⟨_, e, _⟩ := h; rw [e]; rfl) (fun f cdv A outer s H E hg hr => ?_) (rd_mirrored (Pg := Pg) (w := w))
  have nd := sc_mirrored.nd
  unfold t_mirrored
  exact (pss_one (ps_ret (pe_callTy call_tupleZ (by rfl) B.tuple (by decide +kernel) (pa_cons (pe_lc (own := [("cells", 1)]) (g := (gName 1)) (tt := tYes) rfl nd (pi_seqU (pe_revT (pv 0))) (blkOk_by (N := ["floor", "cells"]) (sc := defScope s_mirrored) (by decide +kernel)) (fun _ _ _ _ _ => (pg_nameA 1 nd)) (fun _ _ _ _ _ => pts_nil) (fun _ _ _ _ _ => (pe_revT (pv 1)))) pa_nil))))
abbrev s_renamed : Stmt := topS 25
theorem sc_renamed : FnScope ["floor", "found", "cells", "name"] ["floor"] (defScope s_renamed) := ⟨rfl, rfl, rfl, by decide +kernel, rfl, by decide +kernel, by decide +kernel⟩
theorem d_renamed (A : FunAt K mg "_law_renamed" s_renamed ["floor"]) (B : Bi mg) (C : Cn mg) : Dfn Pg w K mg base 1 "_law_renamed" ["floor"] W_renamed := by
  refine dfn_mk (k := 0) A sc_renamed (fun ss m P h => by obtain ⟨_, e, _⟩ := h; rw [e]; rfl) (fun f cdv A outer s H E hg hr => ?_) (rd_renamed (Pg := Pg) (w := w))
  have nd := sc_renamed.nd
  unfold t_renamed
  exact (pss_cons (ps_setA 1 nd (pe_lst pa_nil))
      (pss_cons (ps_for PassesOwn.never rfl (pi_seqU (pv 0)) (pg_nameA 2 nd)
      (pss_one (ps_expr (pe_bm PySem.F.plainAttrs_list PySem.F.slot_list_append PySem.F.type_list_append mt_append (pv 1) (pa_cons (pe_callTy call_tupleZ (by rfl) B.tuple (by decide +kernel) (pa_cons (pe_lc (own := [("name", 3)]) (g := (gName 3)) (tt := tYes) rfl nd (pi_seqU (pv 2)) (blkOk_by (N := ["floor", "found", "cells", "name"]) (sc := defScope s_renamed) (by decide +kernel)) (fun _ _ _ _ _ => (pg_nameA 3 nd)) (fun _ _ _ _ _ => pts_nil) (fun _ _ _ _ _ => (pe_ifExp (pt_cmpR op_lt (pe_callB call_len (by rfl) B.len PySem.boot_len (pa_cons (pv 3) pa_nil)) pe_int (nomark _)) (pe_op op_addU (pe_op op_addU (pe_ix ix_seq (pv 3) pe_int (fun _ _ => rfl)) pe_str) (pe_slice sl_U (pv 3) (po_some pe_int) po_none)) (pe_op op_addU (pe_slice sl_U (pv 3) po_none (po_some pe_int)) pe_str)))) pa_nil)) pa_nil)))))
      (pss_one (ps_ret (pe_callTy call_tupleZ (by rfl) B.tuple (by decide +kernel) (pa_cons (pv 1) pa_nil))))))
abbrev s_lines : Stmt := topS 26
theorem sc_lines : FnScope ["floor", "cells"] ["floor"] (defScope s_lines) := ⟨rfl, rfl, rfl, by decide +kernel, rfl, by decide +kernel, by decide +kernel⟩
theorem d_lines (A : FunAt K mg "_law_lines" s_lines ["floor"]) (B : Bi mg) (C : Cn mg) : Dfn Pg w K mg base 1 "_law_lines" ["floor"] W_lines := by
  refine dfn_mk (k := 0) A sc_lines (fun ss m P h => by obtain ⟨_, e, _⟩ := h; rw [e]; rfl) (fun f cdv A outer s H E hg hr => ?_) (rd_lines (Pg := Pg) (w := w))
  have nd := sc_lines.nd
  unfold t_lines
  exact (pss_one (ps_ret (pe_callB (cr_sortD (hu30 hr)) (by rfl) B.sorted (by decide +kernel) (pa_cons (pe_lc (own := [("cells", 1)]) (g := (gName 1)) (tt := tYes) rfl nd (pi_seqU (pv 0)) (blkOk_by (N := ["floor", "cells"]) (sc := defScope s_lines) (by decide +kernel)) (fun _ _ _ _ _ => (pg_nameA 1 nd)) (fun _ _ _ _ _ => pts_nil) (fun _ _ _ _ _ => (pe_callB (cr_sortD (hu30 hr)) (by rfl) B.sorted (by decide +kernel) (pa_cons (pv 1) pa_nil)))) pa_nil))))
abbrev s_quadrants : Stmt := topS 27
theorem sc_quadrants : FnScope ["before", "after", "name", "here", "there", "row", "column", "item", "side", "first", "second"] ["before", "after", "name"] (defScope s_quadrants) := ⟨rfl, rfl, rfl, by decide +kernel, rfl, by decide +kernel, by decide +kernel⟩
theorem d_quadrants (A : FunAt K mg "_law_quadrants" s_quadrants ["before", "after", "name"]) (B : Bi mg) (C : Cn mg) : Dfn Pg w K mg base 1 "_law_quadrants" ["before", "after", "name"] W_quadrants := by
  refine dfn_mk (k := 0) A sc_quadrants (fun ss m P h => by obtain ⟨_, _, e, _⟩ := h; rw [e]; rfl) (fun f cdv A outer s H E hg hr => ?_) (rd_quadrants (Pg := Pg) (w := w))
  have nd := sc_quadrants.nd
  unfold t_quadrants
  exact (pss_cons (ps_setA 3 nd pe_dnewK)
      (pss_cons (ps_setA 4 nd pe_dnewK)
      (pss_cons (ps_for PassesOwn.never rfl (pi_range1 (by rfl) B.range (pa_cons (pe_callB call_len (by rfl) B.len PySem.boot_len (pa_cons (pv 0) pa_nil)) pa_nil)) (pg_nameA 5 nd)
      (pss_one (ps_for PassesOwn.never rfl (pi_range1 (by rfl) B.range (pa_cons (pe_callB call_len (by rfl) B.len PySem.boot_len (pa_cons (pe_ix ix_seq (pv 0) pe_int (fun _ _ => rfl)) pa_nil)) pa_nil)) (pg_nameA 6 nd)
      (pss_cons (ps_asg (pe_tupZ (pa_cons (pv 5) (pa_cons (pv 6) pa_nil))) (pg_sub (pv 3) (pe_ix ix_seq (pe_ix ix_seq (pv 0) (pv 5) (fun _ _ => rfl)) (pv 6) (fun _ _ => rfl)) (set_dict (hu1 hr))))
      (pss_one (ps_asg (pe_tupZ (pa_cons (pv 5) (pa_cons (pv 6) pa_nil))) (pg_sub (pv 4) (pe_ix ix_seq (pe_ix ix_seq (pv 1) (pv 5) (fun _ _ => rfl)) (pv 6) (fun _ _ => rfl)) (set_dict (hu1 hr)))))))))
      (pss_cons (ps_lock (ps_for PassesOwn.never rfl (pi_keys (pv 3)) (pg_nameA 7 nd)
      (pss_one (ps_for PassesOwn.never rfl (pi_range1 (by rfl) B.range (pa_cons pe_int pa_nil)) (pg_nameA 8 nd)
      (pss_cons (ps_setA 9 nd (pe_op op_sub (pe_ix ix_seq (pe_dget (hu1 hr) (pv 3) (pv 7) (fun _ _ => rfl)) (pv 8) (fun _ _ => rfl)) (pe_ix ix_seq (pe_dget (hu1 hr) (pv 3) (pv 2) (fun _ _ => rfl)) (pv 8) (fun _ _ => rfl))))
      (pss_cons (ps_setA 10 nd (pe_op op_sub (pe_ix ix_seq (pe_dget (hu1 hr) (pv 4) (pv 7) (fun _ _ => rfl)) (pv 8) (fun _ _ => rfl)) (pe_ix ix_seq (pe_dget (hu1 hr) (pv 4) (pv 2) (fun _ _ => rfl)) (pv 8) (fun _ _ => rfl))))
      (pss_one (ps_if (PW.pt (pw_or (pt_cmpR (op_neU (hu64 hr)) (pe_cmpR op_gt (pv 9) pe_int (nomark _)) (pe_cmpR op_lt (pv 10) pe_int (nomark _)) (nomark _)) (pw_or1 (pt_cmpR (op_neU (hu64 hr)) (pe_cmpR op_lt (pv 9) pe_int (nomark _)) (pe_cmpR op_gt (pv 10) pe_int (nomark _)) (nomark _)))))
      (pss_one (ps_ret pe_bl))
      pss_nil))))))))
      (pss_one (ps_ret pe_bl))))))
abbrev s_locate_leader : Stmt := topS 9
theorem sc_locate_leader : FnScope ["floor", "name", "place"] ["floor", "name"] (defScope s_locate_leader) := ⟨rfl, rfl, rfl, by decide +kernel, rfl, by decide +kernel, by decide +kernel⟩
theorem d_locate_leader (A : FunAt K mg "locate_leader" s_locate_leader ["floor", "name"]) (B : Bi mg) (C : Cn mg) (D_is_leader : Dfn Pg w K mg base 1 "is_leader" ["name"] W_is_leader) (D_locate : Dfn Pg w K mg base 1 "locate" ["floor", "name"] W_locate) : Dfn Pg w K mg base 2 "locate_leader" ["floor", "name"] W_locate_leader7 := by
  refine dfn_mk (k := 1) A sc_locate_leader (fun ss m P h => by obtain ⟨_, _, _, _, e, _⟩ := h; rw [e]; rfl) (fun f cdv A outer s H E hg hr => ?_) (rd_locate_leader7 (Pg := Pg) (w := w))
  have nd := sc_locate_leader.nd
  unfold t_locate_leader7
  exact (pss_cons (ps_setA 2 nd (pe_fn D_locate hg hr (by decide) rfl (pa_cons (pv 0) (pa_cons (pv 1) pa_nil))))
      (pss_cons (ps_if (pt_not (pt_tr (pe_fn D_is_leader hg hr (by decide) rfl (pa_cons (pv 1) pa_nil))))
      (pss_one ps_never)
      pss_nil)
      (pss_one (ps_ret (pv 2)))))
abbrev s_shuffled : Stmt := topS 17
theorem sc_shuffled : FnScope ["source", "things", "left", "step"] ["source", "things"] (defScope s_shuffled) := ⟨rfl, rfl, rfl, by decide +kernel, rfl, by decide +kernel, by decide +kernel⟩
theorem d_shuffled (A : FunAt K mg "_law_shuffled" s_shuffled ["source", "things"]) (B : Bi mg) (C : Cn mg) (D_draw : Dfn Pg w K mg base 1 "_law_draw" ["source", "bound"] W_draw) : Dfn Pg w K mg base 2 "_law_shuffled" ["source", "things"] W_shuffled := by
  refine dfn_mk (k := 1) A sc_shuffled (fun ss m P h => by obtain ⟨_, _, _, _, e, _⟩ := h; rw [e]; rfl) (fun f cdv A outer s H E hg hr => ?_) (rd_shuffled (Pg := Pg) (w := w))
  have nd := sc_shuffled.nd
  unfold t_shuffled
  exact (pss_cons (ps_setA 2 nd (pe_callTy call_list_of (by rfl) B.list (by decide +kernel) (pa_cons (pv 1) pa_nil)))
      (pss_one (ps_ret (pe_lc (own := [("step", 3)]) (g := (gName 3)) (tt := tYes) rfl nd (pi_range1 (by rfl) B.range (pa_cons (pe_callB call_len (by rfl) B.len PySem.boot_len (pa_cons (pv 2) pa_nil)) pa_nil)) (blkOk_by (N := ["source", "things", "left", "step"]) (sc := defScope s_shuffled) (by decide +kernel)) (fun _ _ _ _ _ => (pg_nameA 3 nd)) (fun _ _ _ _ _ => pts_nil) (fun _ _ _ _ _ => (pe_bm PySem.F.plainAttrs_list PySem.F.slot_list_pop PySem.F.type_list_pop mt_popAt (pv 2) (pa_cons (pe_fn D_draw hg hr (by decide) rfl (pa_cons (pv 0) (pa_cons (pe_callB call_len (by rfl) B.len PySem.boot_len (pa_cons (pv 2) pa_nil)) pa_nil))) pa_nil)))))))
abbrev s_check_leaders : Stmt := topS 10
theorem sc_check_leaders : FnScope ["floor", "names", "name"] ["floor", "names"] (defScope s_check_leaders) := ⟨rfl, rfl, rfl, by decide +kernel, rfl, by decide +kernel, by decide +kernel⟩
theorem d_check_leaders (A : FunAt K mg "check_leaders" s_check_leaders ["floor", "names"]) (B : Bi mg) (C : Cn mg) (D_locate_leader : Dfn Pg w K mg base 2 "locate_leader" ["floor", "name"] W_locate_leader7) : Dfn Pg w K mg base 3 "check_leaders" ["floor", "names"] W_check_leaders := by
  refine dfn_mk (k := 2) A sc_check_leaders (fun ss m P h => by obtain ⟨_, _, e, _⟩ := h; rw [e]; rfl) (fun f cdv A outer s H E hg hr => ?_) (rd_check_leaders (Pg := Pg) (w := w))
  have nd := sc_check_leaders.nd
  unfold t_check_leaders
  exact (pss_one (ps_for PassesOwn.never rfl (pi_seqU (pv 1)) (pg_nameA 2 nd)
      (pss_one (ps_expr (pe_fn D_locate_leader hg hr (by decide) rfl (pa_cons (pv 0) (pa_cons (pv 2) pa_nil)))))))
abbrev s_cross : Stmt := topS 12
theorem sc_cross : FnScope ["floor", "name", "row", "column", "names"] ["floor", "name"] (defScope s_cross) := ⟨rfl, rfl, rfl, by decide +kernel, rfl, by decide +kernel, by decide +kernel⟩
theorem d_cross (A : FunAt K mg "cross" s_cross ["floor", "name"]) (B : Bi mg) (C : Cn mg) (D_crossed : Dfn Pg w K mg base 1 "crossed" ["line", "at"] W_crossed) (D_locate_leader : Dfn Pg w K mg base 2 "locate_leader" ["floor", "name"] W_locate_leader7) : Dfn Pg w K mg base 3 "cross" ["floor", "name"] W_cross7 := by
  refine dfn_mk (k := 2) A sc_cross (fun ss m P h => by obtain ⟨_, _, e, _⟩ := h; rw [e]; rfl) (fun f cdv A outer s H E hg hr => ?_) (rd_cross7 (Pg := Pg) (w := w))
  have nd := sc_cross.nd
  unfold t_cross7
  exact (pss_cons (ps_asg (pe_fn D_locate_leader hg hr (by decide) rfl (pa_cons (pv 0) (pa_cons (pv 1) pa_nil))) (pg_tup rfl (pgs_cons (pg_nameA 2 nd) (pgs_cons (pg_nameA 3 nd) pgs_nil))))
      (pss_one (ps_ret (pe_callTy call_tupleZ (by rfl) B.tuple (by decide +kernel) (pa_cons (pe_lc (own := [("names", 4)]) (g := (gName 4)) (tt := tYes) rfl nd (pi_seqU (pe_fn D_crossed hg hr (by decide) rfl (pa_cons (pv 0) (pa_cons (pv 2) pa_nil)))) (blkOk_by (N := ["floor", "name", "row", "column", "names"]) (sc := defScope s_cross) (by decide +kernel)) (fun _ _ _ _ _ => (pg_nameA 4 nd)) (fun _ _ _ _ _ => pts_nil) (fun _ _ _ _ _ => (pe_fn D_crossed hg hr (by decide) rfl (pa_cons (pv 4) (pa_cons (pv 3) pa_nil))))) pa_nil)))))
abbrev s_pattern : Stmt := topS 19
theorem sc_pattern : FnScope ["source", "rows", "columns", "way", "cells", "row", "lines", "others", "many", "line", "cell", "index", "column"] ["source", "rows", "columns"] (defScope s_pattern) := ⟨rfl, rfl, rfl, by decide +kernel, rfl, by decide +kernel, by decide +kernel⟩
theorem d_pattern (A : FunAt K mg "_law_pattern" s_pattern ["source", "rows", "columns"]) (B : Bi mg) (C : Cn mg) (D_draw : Dfn Pg w K mg base 1 "_law_draw" ["source", "bound"] W_draw) (D_shuffled : Dfn Pg w K mg base 2 "_law_shuffled" ["source", "things"] W_shuffled) : Dfn Pg w K mg base 3 "_law_pattern" ["source", "rows", "columns"] W_pattern := by
  refine dfn_mk (k := 2) A sc_pattern (fun ss m P h => by obtain ⟨_, _, _, _, _, e, _⟩ := h; rw [e]; rfl) (fun f cdv A outer s H E hg hr => ?_) (rd_pattern (Pg := Pg) (w := w))
  have nd := sc_pattern.nd
  unfold t_pattern
  exact (pss_cons (ps_setA 3 nd (pe_fn D_draw hg hr (by decide) rfl (pa_cons (pv 0) (pa_cons pe_int pa_nil))))
      (pss_cons (ps_setA 4 nd (pe_lst pa_nil))
      (pss_cons (ps_for PassesOwn.never rfl (pi_range1 (by rfl) B.range (pa_cons (pv 1) pa_nil)) (pg_nameA 5 nd)
      (pss_one (ps_setA 4 nd (pe_op op_addU (pv 4) (pe_lc (own := [("column", 12)]) (g := (gName 12)) (tt := tYes) rfl nd (pi_range1 (by rfl) B.range (pa_cons (pv 2) pa_nil)) (blkOk_by (N := ["source", "rows", "columns", "way", "cells", "row", "lines", "others", "many", "line", "cell", "index", "column"]) (sc := defScope s_pattern) (by decide +kernel)) (fun _ _ _ _ _ => (pg_nameA 12 nd)) (fun _ _ _ _ _ => pts_nil) (fun _ _ _ _ _ => (pe_tupZ (pa_cons (pv 5) (pa_cons (pv 12) pa_nil)))))))))
      (pss_cons (ps_if (pt_cmpR op_lt (pv 3) pe_int (nomark _))
      (pss_one (ps_ret (pv 4)))
      pss_nil)
      (pss_cons (ps_if (pt_cmpR (op_eqU (hu64 hr)) (pv 3) pe_int (nomark _))
      (pss_one (ps_ret (pe_lst pa_nil)))
      pss_nil)
      (pss_cons (ps_if (pt_cmpR (op_eqU (hu64 hr)) (pv 3) pe_int (nomark _))
      (pss_one (ps_ret (pe_lst (pa_cons (pe_ix ix_seq (pv 4) (pe_fn D_draw hg hr (by decide) rfl (pa_cons (pv 0) (pa_cons (pe_callB call_len (by rfl) B.len PySem.boot_len (pa_cons (pv 4) pa_nil)) pa_nil))) (fun _ _ => rfl)) pa_nil))))
      pss_nil)
      (pss_cons (ps_if (pt_cmpR (op_eqU (hu64 hr)) (pv 3) pe_int (nomark _))
      (pss_cons (ps_setA 6 nd (pe_fn D_shuffled hg hr (by decide) rfl (pa_cons (pv 0) (pa_cons (pe_listRg rfl (by rfl) B.list (prg_1 (by rfl) B.range (pv 1))) pa_nil))))
      (pss_cons (ps_setA 7 nd (pe_fn D_shuffled hg hr (by decide) rfl (pa_cons (pv 0) (pa_cons (pe_listRg rfl (by rfl) B.list (prg_1 (by rfl) B.range (pv 2))) pa_nil))))
      (pss_cons (ps_setA 8 nd (pe_op op_addU pe_int (pe_fn D_draw hg hr (by decide) rfl (pa_cons (pv 0) (pa_cons (pe_callB (call_minU rfl) (by rfl) B.min (by decide +kernel) (pa_cons (pv 1) (pa_cons (pv 2) pa_nil))) pa_nil)))))
      (pss_one (ps_ret (pe_lc (own := [("index", 11)]) (g := (gName 11)) (tt := tYes) rfl nd (pi_range1 (by rfl) B.range (pa_cons (pv 8) pa_nil)) (blkOk_by (N := ["source", "rows", "columns", "way", "cells", "row", "lines", "others", "many", "line", "cell", "index", "column"]) (sc := defScope s_pattern) (by decide +kernel)) (fun _ _ _ _ _ => (pg_nameA 11 nd)) (fun _ _ _ _ _ => pts_nil) (fun _ _ _ _ _ => (pe_tupZ (pa_cons (pe_ix ix_seq (pv 6) (pv 11) (fun _ _ => rfl)) (pa_cons (pe_ix ix_seq (pv 7) (pv 11) (fun _ _ => rfl)) pa_nil))))))))))
      pss_nil)
      (pss_cons (ps_if (pt_cmpR (op_eqU (hu64 hr)) (pv 3) pe_int (nomark _))
      (pss_cons (ps_setA 9 nd (pe_fn D_draw hg hr (by decide) rfl (pa_cons (pv 0) (pa_cons (pv 1) pa_nil))))
      (pss_one (ps_ret (pe_lc (own := [("cell", 10)]) (g := (gName 10)) (tt := (tTest (tOp (rEqU K) (tOp (rIx K) (tVar 10) (tC (.int 0))) (tVar 9)))) rfl nd (pi_seqU (pv 4)) (blkOk_by (N := ["source", "rows", "columns", "way", "cells", "row", "lines", "others", "many", "line", "cell", "index", "column"]) (sc := defScope s_pattern) (by decide +kernel)) (fun _ _ _ _ _ => (pg_nameA 10 nd)) (fun _ _ _ _ _ => pts_one (pt_cmpR (op_eqU (hu64 hr)) (pe_ix ix_seq (pv 10) pe_int (fun _ _ => rfl)) (pv 9) (nomark _))) (fun _ _ _ _ _ => (pv 10))))))
      pss_nil)
      (pss_cons (ps_if (pt_cmpR (op_eqU (hu64 hr)) (pv 3) pe_int (nomark _))
      (pss_cons (ps_setA 9 nd (pe_fn D_draw hg hr (by decide) rfl (pa_cons (pv 0) (pa_cons (pv 2) pa_nil))))
      (pss_one (ps_ret (pe_lc (own := [("cell", 10)]) (g := (gName 10)) (tt := (tTest (tOp (rEqU K) (tOp (rIx K) (tVar 10) (tC (.int 1))) (tVar 9)))) rfl nd (pi_seqU (pv 4)) (blkOk_by (N := ["source", "rows", "columns", "way", "cells", "row", "lines", "others", "many", "line", "cell", "index", "column"]) (sc := defScope s_pattern) (by decide +kernel)) (fun _ _ _ _ _ => (pg_nameA 10 nd)) (fun _ _ _ _ _ => pts_one (pt_cmpR (op_eqU (hu64 hr)) (pe_ix ix_seq (pv 10) pe_int (fun _ _ => rfl)) (pv 9) (nomark _))) (fun _ _ _ _ _ => (pv 10))))))
      pss_nil)
      (pss_cons (ps_if (pt_cmpR (op_eqU (hu64 hr)) (pv 3) pe_int (nomark _))
      (pss_cons (ps_expr (pe_bm PySem.F.plainAttrs_list PySem.F.slot_list_pop PySem.F.type_list_pop mt_popAt (pv 4) (pa_cons (pe_fn D_draw hg hr (by decide) rfl (pa_cons (pv 0) (pa_cons (pe_callB call_len (by rfl) B.len PySem.boot_len (pa_cons (pv 4) pa_nil)) pa_nil))) pa_nil)))
      (pss_one (ps_ret (pv 4))))
      pss_nil)
      (pss_one (ps_ret (pe_lc (own := [("cell", 10)]) (g := (gName 10)) (tt := (tTest (tOp (rEqU K) (tCall (SpD K W_draw) [] E0 (tCons (tVar 0) (tCons (tC (.int 3)) tNil))) (tC (.int 0))))) rfl nd (pi_seqU (pv 4)) (blkOk_by (N := ["source", "rows", "columns", "way", "cells", "row", "lines", "others", "many", "line", "cell", "index", "column"]) (sc := defScope s_pattern) (by decide +kernel)) (fun _ _ _ _ _ => (pg_nameA 10 nd)) (fun _ _ _ _ _ => pts_one (pt_cmpR (op_eqU (hu64 hr)) (pe_fn D_draw hg hr (by decide) rfl (pa_cons (pv 0) (pa_cons pe_int pa_nil))) pe_int (nomark _))) (fun _ _ _ _ _ => (pv 10)))))))))))))))
abbrev s_play : Stmt := topS 13
theorem sc_play : FnScope ["floor", "names", "reverse", "played", "name"] ["floor", "names", "reverse"] (defScope s_play) := ⟨rfl, rfl, rfl, by decide +kernel, rfl, by decide +kernel, by decide +kernel⟩
theorem d_play (A : FunAtK K mg "play" s_play ["floor", "names", "reverse"] [.bl false]) (B : Bi mg) (C : Cn mg) (D_cross : Dfn Pg w K mg base 3 "cross" ["floor", "name"] W_cross7) (D_check_leaders : Dfn Pg w K mg base 3 "check_leaders" ["floor", "names"] W_check_leaders) : DfnK Pg w K mg base 4 "play" ["floor", "names", "reverse"] [.bl false] W_play := by
  refine dfnK_mk (k := 3) A sc_play (fun ss m P h => by obtain ⟨_, _, e, _⟩ := h; rw [e]; rfl) (fun f cdv A outer s H E hg hr => ?_) (rd_play (Pg := Pg) (w := w))
  have nd := sc_play.nd
  unfold t_play
  exact (pss_cons (ps_expr (pe_fn D_check_leaders hg hr (by decide) rfl (pa_cons (pv 0) (pa_cons (pv 1) pa_nil))))
      (pss_cons (ps_setA 3 nd (pv 0))
      (pss_cons (ps_for PassesOwn.never rfl (pi_seqU (pe_ifExp (pt_tr (pv 2)) (pe_revT (pv 1)) (pv 1))) (pg_nameA 4 nd)
      (pss_one (ps_setA 3 nd (pe_fn D_cross hg hr (by decide) rfl (pa_cons (pv 3) (pa_cons (pv 4) pa_nil))))))
      (pss_one (ps_ret (pv 3))))))
abbrev s_named : Stmt := topS 20
theorem sc_named : FnScope ["source", "rows", "columns", "pattern", "style", "shift", "numbers", "floor", "row", "cells", "column", "name"] ["source", "rows", "columns"] (defScope s_named) := ⟨rfl, rfl, rfl, by decide +kernel, rfl, by decide +kernel, by decide +kernel⟩
theorem d_named (A : FunAt K mg "_law_named" s_named ["source", "rows", "columns"]) (B : Bi mg) (C : Cn mg) (D_name : Dfn Pg w K mg base 1 "_law_name" ["style", "shift", "number"] W_name) (D_shuffled : Dfn Pg w K mg base 2 "_law_shuffled" ["source", "things"] W_shuffled) (D_draw : Dfn Pg w K mg base 1 "_law_draw" ["source", "bound"] W_draw) (D_pattern : Dfn Pg w K mg base 3 "_law_pattern" ["source", "rows", "columns"] W_pattern) : Dfn Pg w K mg base 4 "_law_named" ["source", "rows", "columns"] W_named := by
  refine dfn_mk (k := 3) A sc_named (fun ss m P h => by obtain ⟨_, _, _, _, _, e, _⟩ := h; rw [e]; rfl) (fun f cdv A outer s H E hg hr => ?_) (rd_named (Pg := Pg) (w := w))
  have nd := sc_named.nd
  unfold t_named
  exact (pss_cons (ps_setA 3 nd (pe_fn D_pattern hg hr (by decide) rfl (pa_cons (pv 0) (pa_cons (pv 1) (pa_cons (pv 2) pa_nil)))))
      (pss_cons (ps_setA 4 nd (pe_fn D_draw hg hr (by decide) rfl (pa_cons (pv 0) (pa_cons pe_int pa_nil))))
      (pss_cons (ps_setA 5 nd (pe_fn D_draw hg hr (by decide) rfl (pa_cons (pv 0) (pa_cons pe_int pa_nil))))
      (pss_cons (ps_setA 6 nd (pe_fn D_shuffled hg hr (by decide) rfl (pa_cons (pv 0) (pa_cons (pe_listRg rfl (by rfl) B.list (prg_1 (by rfl) B.range (pe_op op_mulU (pv 1) (pv 2)))) pa_nil))))
      (pss_cons (ps_setA 7 nd (pe_lst pa_nil))
      (pss_cons (ps_for PassesOwn.never rfl (pi_range1 (by rfl) B.range (pa_cons (pv 1) pa_nil)) (pg_nameA 8 nd)
      (pss_cons (ps_setA 9 nd (pe_lst pa_nil))
      (pss_cons (ps_for PassesOwn.never rfl (pi_range1 (by rfl) B.range (pa_cons (pv 2) pa_nil)) (pg_nameA 10 nd)
      (pss_cons (ps_setA 11 nd (pe_fn D_name hg hr (by decide) rfl (pa_cons (pv 4) (pa_cons (pv 5) (pa_cons (pe_ix ix_seq (pv 6) (pe_op op_addU (pe_op op_mulU (pv 8) (pv 2)) (pv 10)) (fun _ _ => rfl)) pa_nil)))))
      (pss_cons (ps_if (pt_cmpR (op_inU (hu65 hr)) (pe_tupZ (pa_cons (pv 8) (pa_cons (pv 10) pa_nil))) (pv 3) (by rfl))
      (pss_one (ps_setA 11 nd (pe_op op_addU (pe_upper (pe_ix ix_seq (pv 11) pe_int (fun _ _ => rfl))) (pe_slice sl_U (pv 11) (po_some pe_int) po_none))))
      pss_nil)
      (pss_one (ps_expr (pe_bm PySem.F.plainAttrs_list PySem.F.slot_list_append PySem.F.type_list_append mt_append (pv 9) (pa_cons (pv 11) pa_nil)))))))
      (pss_one (ps_expr (pe_bm PySem.F.plainAttrs_list PySem.F.slot_list_append PySem.F.type_list_append mt_append (pv 7) (pa_cons (pe_callTy call_tupleZ (by rfl) B.tuple (by decide +kernel) (pa_cons (pv 9) pa_nil)) pa_nil)))))))
      (pss_one (ps_ret (pe_callTy call_tupleZ (by rfl) B.tuple (by decide +kernel) (pa_cons (pv 7) pa_nil))))))))))
abbrev s_floor : Stmt := topS 21
theorem sc_floor : FnScope ["source", "most", "rows", "columns"] ["source", "most"] (defScope s_floor) := ⟨rfl, rfl, rfl, by decide +kernel, rfl, by decide +kernel, by decide +kernel⟩
theorem d_floor (A : FunAt K mg "_law_floor" s_floor ["source", "most"]) (B : Bi mg) (C : Cn mg) (D_named : Dfn Pg w K mg base 4 "_law_named" ["source", "rows", "columns"] W_named) (D_draw : Dfn Pg w K mg base 1 "_law_draw" ["source", "bound"] W_draw) : Dfn Pg w K mg base 5 "_law_floor" ["source", "most"] W_floor := by
  refine dfn_mk (k := 4) A sc_floor (fun ss m P h => by obtain ⟨_, _, _, _, e, _⟩ := h; rw [e]; rfl) (fun f cdv A outer s H E hg hr => ?_) (rd_floor (Pg := Pg) (w := w))
  have nd := sc_floor.nd
  unfold t_floor
  exact (pss_cons (ps_setA 2 nd (pe_op op_addU pe_int (pe_fn D_draw hg hr (by decide) rfl (pa_cons (pv 0) (pa_cons (pe_callB (call_minU rfl) (by rfl) B.min (by decide +kernel) (pa_cons pe_int (pa_cons (pv 1) pa_nil))) pa_nil)))))
      (pss_cons (ps_setA 3 nd (pe_op op_addU pe_int (pe_fn D_draw hg hr (by decide) rfl (pa_cons (pv 0) (pa_cons (pe_callB (call_minU rfl) (by rfl) B.min (by decide +kernel) (pa_cons pe_int (pa_cons (pe_op op_fdivW (pv 1) (pv 2)) pa_nil))) pa_nil)))))
      (pss_one (ps_ret (pe_fn D_named hg hr (by decide) rfl (pa_cons (pv 0) (pa_cons (pv 2) (pa_cons (pv 3) pa_nil))))))))
abbrev s_law : Stmt := topS 28
theorem sc_law : FnScope ["script", "index", "source", "floor", "leaders", "names", "after", "name", "once", "other", "step"] ["script"] (defScope s_law) := ⟨rfl, rfl, rfl, by decide +kernel, rfl, by decide +kernel, by decide +kernel⟩
theorem f_law {f : Addr} {fd : FuncData} (F : Fun K "law" "law" s_law f fd) (B : Bi mg) (C : Cn mg) (D_cross : Dfn Pg w K mg base 3 "cross" ["floor", "name"] W_cross7) (D_renamed : Dfn Pg w K mg base 1 "_law_renamed" ["floor"] W_renamed) (D_quadrants : Dfn Pg w K mg base 1 "_law_quadrants" ["before", "after", "name"] W_quadrants) (D_play : DfnK Pg w K mg base 4 "play" ["floor", "names", "reverse"] [.bl false] W_play) (D_mirrored : Dfn Pg w K mg base 1 "_law_mirrored" ["floor"] W_mirrored) (D_transposed : Dfn Pg w K mg base 1 "_law_transposed" ["floor"] W_transposed) (D_lines : Dfn Pg w K mg base 1 "_law_lines" ["floor"] W_lines) (D_draw : Dfn Pg w K mg base 1 "_law_draw" ["source", "bound"] W_draw) (D_leaders : Dfn Pg w K mg base 1 "_law_leaders" ["floor"] W_leaders) (D_floor : Dfn Pg w K mg base 5 "_law_floor" ["source", "most"] W_floor) (D_source : Dfn Pg w K mg base 1 "_law_source" ["script", "index"] W_source) : DF Pg w K mg base CX0 6 f fd ["script"] (SpD K WLaw) := by
  refine df_data (k := 5) F sc_law (fun ss m P h => by obtain ⟨_, e, _⟩ := h; rw [e]; rfl) (fun cdv A outer s H E hg hr => ?_) (rd_law7 (Pg := Pg) (w := w))
  have nd := sc_law.nd
  unfold t_law7
  exact (pss_cons (ps_for PassesOwn.never rfl (pi_range1 (by rfl) B.range (pa_cons (pe_callB (call_max2 rfl) (by rfl) B.max (by decide +kernel) (pa_cons pe_int (pa_cons (pe_callB (call_minU rfl) (by rfl) B.min (by decide +kernel) (pa_cons pe_int (pa_cons (pe_callB call_len (by rfl) B.len PySem.boot_len (pa_cons (pv 0) pa_nil)) pa_nil))) pa_nil))) pa_nil)) (pg_nameA 1 nd)
      (pss_cons (ps_setA 2 nd (pe_fn D_source hg hr (by decide) rfl (pa_cons (pv 0) (pa_cons (pv 1) pa_nil))))
      (pss_cons (ps_setA 3 nd (pe_fn D_floor hg hr (by decide) rfl (pa_cons (pv 2) (pa_cons pe_int pa_nil))))
      (pss_cons (ps_setA 4 nd (pe_fn D_leaders hg hr (by decide) rfl (pa_cons (pv 3) pa_nil)))
      (pss_cons (ps_setA 5 nd (pe_lst pa_nil))
      (pss_cons (ps_if (pt_cmpR (op_neU (hu64 hr)) (pv 4) (pe_lst pa_nil) (nomark _))
      (pss_one (ps_setLc (i := 5) (own := [("step", 10)]) (g := (gName 10)) (tt := tYes) rfl nd rfl rfl (sw_true rfl rfl rfl (by decide +kernel)) (pi_range1 (by rfl) B.range (pa_cons (pe_fn D_draw hg hr (by decide) rfl (pa_cons (pv 2) (pa_cons pe_int pa_nil))) pa_nil)) (blkOk_by (N := ["script", "index", "source", "floor", "leaders", "names", "after", "name", "once", "other", "step"]) (sc := defScope s_law) (by decide +kernel)) (fun _ _ _ _ _ => (pg_nameA 10 nd)) (fun _ _ _ _ _ => pts_nil) (fun _ _ _ _ _ => (pe_ix ix_seq (pv 4) (pe_fn D_draw hg hr (by decide) rfl (pa_cons (pv 2) (pa_cons (pe_callB call_len (by rfl) B.len PySem.boot_len (pa_cons (pv 4) pa_nil)) pa_nil))) (fun _ _ => rfl)))))
      pss_nil)
      (pss_cons (ps_setA 6 nd (pe_fnK D_play hg hr (by decide) rfl (pa_cons (pv 3) (pa_cons (pe_callTy call_tupleZ (by rfl) B.tuple (by decide +kernel) (pa_cons (pv 5) pa_nil)) pa_nil))))
      (pss_cons (ps_if (PW.pt (pw_or (pt_cmpR (op_neU (hu64 hr)) (pe_fn D_lines hg hr (by decide) rfl (pa_cons (pv 6) pa_nil)) (pe_fn D_lines hg hr (by decide) rfl (pa_cons (pv 3) pa_nil)) (nomark _)) (pw_or1 (pt_cmpR (op_neU (hu64 hr)) (pe_fnK D_play hg hr (by decide) rfl (pa_cons (pv 6) (pa_cons (pe_callTy call_tupleZ (by rfl) B.tuple (by decide +kernel) (pa_cons (pe_revL (pv 5)) pa_nil)) pa_nil))) (pv 3) (nomark _)))))
      (pss_one (ps_ret pe_bl))
      pss_nil)
      (pss_cons (ps_if (pt_cmpR (op_neU (hu64 hr)) (pe_fn D_lines hg hr (by decide) rfl (pa_cons (pe_fn D_transposed hg hr (by decide) rfl (pa_cons (pv 6) pa_nil)) pa_nil)) (pe_fn D_lines hg hr (by decide) rfl (pa_cons (pe_fn D_transposed hg hr (by decide) rfl (pa_cons (pv 3) pa_nil)) pa_nil)) (nomark _))
      (pss_one (ps_ret pe_bl))
      pss_nil)
      (pss_cons (ps_if (pt_cmpR (op_neU (hu64 hr)) (pe_fnK D_play hg hr (by decide) rfl (pa_cons (pe_fn D_transposed hg hr (by decide) rfl (pa_cons (pv 3) pa_nil)) (pa_cons (pe_callTy call_tupleZ (by rfl) B.tuple (by decide +kernel) (pa_cons (pv 5) pa_nil)) pa_nil))) (pe_fn D_transposed hg hr (by decide) rfl (pa_cons (pv 6) pa_nil)) (nomark _))
      (pss_one (ps_ret pe_bl))
      pss_nil)
      (pss_cons (ps_if (pt_cmpR (op_neU (hu64 hr)) (pe_fnK D_play hg hr (by decide) rfl (pa_cons (pe_fn D_mirrored hg hr (by decide) rfl (pa_cons (pv 3) pa_nil)) (pa_cons (pe_callTy call_tupleZ (by rfl) B.tuple (by decide +kernel) (pa_cons (pv 5) pa_nil)) pa_nil))) (pe_fn D_mirrored hg hr (by decide) rfl (pa_cons (pv 6) pa_nil)) (nomark _))
      (pss_one (ps_ret pe_bl))
      pss_nil)
      (pss_one (ps_for PassesOwn.never rfl (pi_seqU (pe_slice sl_U (pv 5) po_none (po_some pe_int))) (pg_nameA 7 nd)
      (pss_cons (ps_setA 8 nd (pe_fn D_cross hg hr (by decide) rfl (pa_cons (pv 3) (pa_cons (pv 7) pa_nil))))
      (pss_cons (ps_if (PW.pt (pw_or (pt_cmpR (op_neU (hu64 hr)) (pe_fn D_cross hg hr (by decide) rfl (pa_cons (pv 8) (pa_cons (pv 7) pa_nil))) (pv 3) (nomark _)) (pw_or1 (pt_not (pt_tr (pe_fn D_quadrants hg hr (by decide) rfl (pa_cons (pv 3) (pa_cons (pv 8) (pa_cons (pv 7) pa_nil)))))))))
      (pss_one (ps_ret pe_bl))
      pss_nil)
      (pss_cons (ps_setA 9 nd (pe_ix ix_seq (pe_ix ix_seq (pe_fn D_renamed hg hr (by decide) rfl (pa_cons (pe_tupZ (pa_cons (pe_tupZ (pa_cons (pv 7) pa_nil)) pa_nil)) pa_nil)) pe_int (fun _ _ => rfl)) pe_int (fun _ _ => rfl)))
      (pss_one (ps_if (PW.pt (pw_and (pt_cmpR op_lt (pe_callB call_len (by rfl) B.len PySem.boot_len (pa_cons (pv 7) pa_nil)) pe_int (nomark _)) (pw_and1 (pt_cmpR (op_neU (hu64 hr)) (pe_fn D_cross hg hr (by decide) rfl (pa_cons (pe_fn D_renamed hg hr (by decide) rfl (pa_cons (pv 3) pa_nil)) (pa_cons (pv 9) pa_nil))) (pe_fn D_renamed hg hr (by decide) rfl (pa_cons (pv 8) pa_nil)) (nomark _)))))
      (pss_one (ps_ret pe_bl))
      pss_nil))))))))))))))))))
      (pss_one (ps_ret pe_bl)))
end
theorem all_mk {l : PySem.W.OpenLaw} {w : World} {K : PySem.W.Frag} {h : Heap} {mg : Str → Option Value} {fa : Addr} (X : K.In h) (G : h.Ns mainGlobals mg) (hfa : mg "law" = some (.ref fa))
    {f0 : Addr} {od0 an0 : Option Addr} {sl0 : Array (Option Value)} {oc0 kV0 dc0 pm0 cd0 ct0 : Value}
    {f1 : Addr} {od1 an1 : Option Addr} {sl1 : Array (Option Value)} {oc1 kV1 dc1 pm1 cd1 ct1 : Value}
    {f2 : Addr} {od2 an2 : Option Addr} {sl2 : Array (Option Value)} {oc2 kV2 dc2 pm2 cd2 ct2 : Value}
    {f3 : Addr} {od3 an3 : Option Addr} {sl3 : Array (Option Value)} {oc3 kV3 dc3 pm3 cd3 ct3 : Value}
    {f4 : Addr} {od4 an4 : Option Addr} {sl4 : Array (Option Value)} {oc4 kV4 dc4 pm4 cd4 ct4 : Value}
    {f5 : Addr} {od5 an5 : Option Addr} {sl5 : Array (Option Value)} {oc5 kV5 dc5 pm5 cd5 ct5 : Value}
    {f6 : Addr} {od6 an6 : Option Addr} {sl6 : Array (Option Value)} {oc6 kV6 dc6 pm6 cd6 ct6 : Value}
    {f7 : Addr} {od7 an7 : Option Addr} {sl7 : Array (Option Value)} {oc7 kV7 dc7 pm7 cd7 ct7 : Value}
    {f8 : Addr} {od8 an8 : Option Addr} {sl8 : Array (Option Value)} {oc8 kV8 dc8 pm8 cd8 ct8 : Value}
    {f9 : Addr} {od9 an9 : Option Addr} {sl9 : Array (Option Value)} {oc9 kV9 dc9 pm9 cd9 ct9 : Value}
    {f10 : Addr} {od10 an10 : Option Addr} {sl10 : Array (Option Value)} {oc10 kV10 dc10 pm10 cd10 ct10 : Value}
    {f11 : Addr} {od11 an11 : Option Addr} {sl11 : Array (Option Value)} {oc11 kV11 dc11 pm11 cd11 ct11 : Value}
    {f12 : Addr} {od12 an12 : Option Addr} {sl12 : Array (Option Value)} {oc12 kV12 dc12 pm12 cd12 ct12 : Value}
    {f13 : Addr} {od13 an13 : Option Addr} {sl13 : Array (Option Value)} {oc13 kV13 dc13 pm13 cd13 ct13 : Value}
    {f14 : Addr} {od14 an14 : Option Addr} {sl14 : Array (Option Value)} {oc14 kV14 dc14 pm14 cd14 ct14 : Value}
    {f15 : Addr} {od15 an15 : Option Addr} {sl15 : Array (Option Value)} {oc15 kV15 dc15 pm15 cd15 ct15 : Value}
    {f16 : Addr} {od16 an16 : Option Addr} {sl16 : Array (Option Value)} {oc16 kV16 dc16 pm16 cd16 ct16 : Value}
    {f17 : Addr} {od17 an17 : Option Addr} {sl17 : Array (Option Value)} {oc17 dc17 pm17 cd17 ct17 : Value} {kD17 : Addr}
    {f18 : Addr} {od18 an18 : Option Addr} {sl18 : Array (Option Value)} {oc18 kV18 dc18 pm18 cd18 ct18 : Value}
    {f19 : Addr} {od19 an19 : Option Addr} {sl19 : Array (Option Value)} {oc19 kV19 dc19 pm19 cd19 ct19 : Value}
    {f20 : Addr} {od20 an20 : Option Addr} {sl20 : Array (Option Value)} {oc20 kV20 dc20 pm20 cd20 ct20 : Value}
    {tk0 : Tok}
    (aa0 : PySem.W.nsIn K mainGlobals "is_leader" = some (some (.ref f0))) (ll0 : K.lookup f0 = some ⟨oc0, od0, .func (PySem.W.fnOf "is_leader" "is_leader" (defArgs s_is_leader) (defBody s_is_leader) (defScope s_is_leader) .none kV0 dc0 pm0 an0 cd0 ct0), sl0⟩) (co0 : PySem.W.codeIn K cd0 "is_leader" = true) (kk0 : PySem.W.keepIn K (.ref f0) = true)
    (aa1 : PySem.W.nsIn K mainGlobals "locate" = some (some (.ref f1))) (ll1 : K.lookup f1 = some ⟨oc1, od1, .func (PySem.W.fnOf "locate" "locate" (defArgs s_locate) (defBody s_locate) (defScope s_locate) .none kV1 dc1 pm1 an1 cd1 ct1), sl1⟩) (co1 : PySem.W.codeIn K cd1 "locate" = true) (kk1 : PySem.W.keepIn K (.ref f1) = true)
    (aa2 : PySem.W.nsIn K mainGlobals "crossed" = some (some (.ref f2))) (ll2 : K.lookup f2 = some ⟨oc2, od2, .func (PySem.W.fnOf "crossed" "crossed" (defArgs s_crossed) (defBody s_crossed) (defScope s_crossed) .none kV2 dc2 pm2 an2 cd2 ct2), sl2⟩) (co2 : PySem.W.codeIn K cd2 "crossed" = true) (kk2 : PySem.W.keepIn K (.ref f2) = true)
    (aa3 : PySem.W.nsIn K mainGlobals "_law_source" = some (some (.ref f3))) (ll3 : K.lookup f3 = some ⟨oc3, od3, .func (PySem.W.fnOf "_law_source" "_law_source" (defArgs s_source) (defBody s_source) (defScope s_source) .none kV3 dc3 pm3 an3 cd3 ct3), sl3⟩) (co3 : PySem.W.codeIn K cd3 "_law_source" = true) (kk3 : PySem.W.keepIn K (.ref f3) = true)
    (aa4 : PySem.W.nsIn K mainGlobals "_law_draw" = some (some (.ref f4))) (ll4 : K.lookup f4 = some ⟨oc4, od4, .func (PySem.W.fnOf "_law_draw" "_law_draw" (defArgs s_draw) (defBody s_draw) (defScope s_draw) .none kV4 dc4 pm4 an4 cd4 ct4), sl4⟩) (co4 : PySem.W.codeIn K cd4 "_law_draw" = true) (kk4 : PySem.W.keepIn K (.ref f4) = true)
    (aa5 : PySem.W.nsIn K mainGlobals "_law_name" = some (some (.ref f5))) (ll5 : K.lookup f5 = some ⟨oc5, od5, .func (PySem.W.fnOf "_law_name" "_law_name" (defArgs s_name) (defBody s_name) (defScope s_name) .none kV5 dc5 pm5 an5 cd5 ct5), sl5⟩) (co5 : PySem.W.codeIn K cd5 "_law_name" = true) (kk5 : PySem.W.keepIn K (.ref f5) = true)
    (aa6 : PySem.W.nsIn K mainGlobals "_law_leaders" = some (some (.ref f6))) (ll6 : K.lookup f6 = some ⟨oc6, od6, .func (PySem.W.fnOf "_law_leaders" "_law_leaders" (defArgs s_leaders) (defBody s_leaders) (defScope s_leaders) .none kV6 dc6 pm6 an6 cd6 ct6), sl6⟩) (co6 : PySem.W.codeIn K cd6 "_law_leaders" = true) (kk6 : PySem.W.keepIn K (.ref f6) = true)
    (aa7 : PySem.W.nsIn K mainGlobals "_law_transposed" = some (some (.ref f7))) (ll7 : K.lookup f7 = some ⟨oc7, od7, .func (PySem.W.fnOf "_law_transposed" "_law_transposed" (defArgs s_transposed) (defBody s_transposed) (defScope s_transposed) .none kV7 dc7 pm7 an7 cd7 ct7), sl7⟩) (co7 : PySem.W.codeIn K cd7 "_law_transposed" = true) (kk7 : PySem.W.keepIn K (.ref f7) = true)
    (aa8 : PySem.W.nsIn K mainGlobals "_law_mirrored" = some (some (.ref f8))) (ll8 : K.lookup f8 = some ⟨oc8, od8, .func (PySem.W.fnOf "_law_mirrored" "_law_mirrored" (defArgs s_mirrored) (defBody s_mirrored) (defScope s_mirrored) .none kV8 dc8 pm8 an8 cd8 ct8), sl8⟩) (co8 : PySem.W.codeIn K cd8 "_law_mirrored" = true) (kk8 : PySem.W.keepIn K (.ref f8) = true)
    (aa9 : PySem.W.nsIn K mainGlobals "_law_renamed" = some (some (.ref f9))) (ll9 : K.lookup f9 = some ⟨oc9, od9, .func (PySem.W.fnOf "_law_renamed" "_law_renamed" (defArgs s_renamed) (defBody s_renamed) (defScope s_renamed) .none kV9 dc9 pm9 an9 cd9 ct9), sl9⟩) (co9 : PySem.W.codeIn K cd9 "_law_renamed" = true) (kk9 : PySem.W.keepIn K (.ref f9) = true)
    (aa10 : PySem.W.nsIn K mainGlobals "_law_lines" = some (some (.ref f10))) (ll10 : K.lookup f10 = some ⟨oc10, od10, .func (PySem.W.fnOf "_law_lines" "_law_lines" (defArgs s_lines) (defBody s_lines) (defScope s_lines) .none kV10 dc10 pm10 an10 cd10 ct10), sl10⟩) (co10 : PySem.W.codeIn K cd10 "_law_lines" = true) (kk10 : PySem.W.keepIn K (.ref f10) = true)
    (aa11 : PySem.W.nsIn K mainGlobals "_law_quadrants" = some (some (.ref f11))) (ll11 : K.lookup f11 = some ⟨oc11, od11, .func (PySem.W.fnOf "_law_quadrants" "_law_quadrants" (defArgs s_quadrants) (defBody s_quadrants) (defScope s_quadrants) .none kV11 dc11 pm11 an11 cd11 ct11), sl11⟩) (co11 : PySem.W.codeIn K cd11 "_law_quadrants" = true) (kk11 : PySem.W.keepIn K (.ref f11) = true)
    (aa12 : PySem.W.nsIn K mainGlobals "locate_leader" = some (some (.ref f12))) (ll12 : K.lookup f12 = some ⟨oc12, od12, .func (PySem.W.fnOf "locate_leader" "locate_leader" (defArgs s_locate_leader) (defBody s_locate_leader) (defScope s_locate_leader) .none kV12 dc12 pm12 an12 cd12 ct12), sl12⟩) (co12 : PySem.W.codeIn K cd12 "locate_leader" = true) (kk12 : PySem.W.keepIn K (.ref f12) = true)
    (aa13 : PySem.W.nsIn K mainGlobals "_law_shuffled" = some (some (.ref f13))) (ll13 : K.lookup f13 = some ⟨oc13, od13, .func (PySem.W.fnOf "_law_shuffled" "_law_shuffled" (defArgs s_shuffled) (defBody s_shuffled) (defScope s_shuffled) .none kV13 dc13 pm13 an13 cd13 ct13), sl13⟩) (co13 : PySem.W.codeIn K cd13 "_law_shuffled" = true) (kk13 : PySem.W.keepIn K (.ref f13) = true)
    (aa14 : PySem.W.nsIn K mainGlobals "check_leaders" = some (some (.ref f14))) (ll14 : K.lookup f14 = some ⟨oc14, od14, .func (PySem.W.fnOf "check_leaders" "check_leaders" (defArgs s_check_leaders) (defBody s_check_leaders) (defScope s_check_leaders) .none kV14 dc14 pm14 an14 cd14 ct14), sl14⟩) (co14 : PySem.W.codeIn K cd14 "check_leaders" = true) (kk14 : PySem.W.keepIn K (.ref f14) = true)
    (aa15 : PySem.W.nsIn K mainGlobals "cross" = some (some (.ref f15))) (ll15 : K.lookup f15 = some ⟨oc15, od15, .func (PySem.W.fnOf "cross" "cross" (defArgs s_cross) (defBody s_cross) (defScope s_cross) .none kV15 dc15 pm15 an15 cd15 ct15), sl15⟩) (co15 : PySem.W.codeIn K cd15 "cross" = true) (kk15 : PySem.W.keepIn K (.ref f15) = true)
    (aa16 : PySem.W.nsIn K mainGlobals "_law_pattern" = some (some (.ref f16))) (ll16 : K.lookup f16 = some ⟨oc16, od16, .func (PySem.W.fnOf "_law_pattern" "_law_pattern" (defArgs s_pattern) (defBody s_pattern) (defScope s_pattern) .none kV16 dc16 pm16 an16 cd16 ct16), sl16⟩) (co16 : PySem.W.codeIn K cd16 "_law_pattern" = true) (kk16 : PySem.W.keepIn K (.ref f16) = true)
    (aa17 : PySem.W.nsIn K mainGlobals "play" = some (some (.ref f17))) (ll17 : K.lookup f17 = some ⟨oc17, od17, .func (PySem.W.fnOf "play" "play" (defArgs s_play) (defBody s_play) (defScope s_play) .none (.ref kD17) dc17 pm17 an17 cd17 ct17), sl17⟩) (co17 : PySem.W.codeIn K cd17 "play" = true) (kk17 : PySem.W.keepIn K (.ref f17) = true) (kw17 : PySem.W.nsIn K kD17 "reverse" = some (some (.bool false)))
    (aa18 : PySem.W.nsIn K mainGlobals "_law_named" = some (some (.ref f18))) (ll18 : K.lookup f18 = some ⟨oc18, od18, .func (PySem.W.fnOf "_law_named" "_law_named" (defArgs s_named) (defBody s_named) (defScope s_named) .none kV18 dc18 pm18 an18 cd18 ct18), sl18⟩) (co18 : PySem.W.codeIn K cd18 "_law_named" = true) (kk18 : PySem.W.keepIn K (.ref f18) = true)
    (aa19 : PySem.W.nsIn K mainGlobals "_law_floor" = some (some (.ref f19))) (ll19 : K.lookup f19 = some ⟨oc19, od19, .func (PySem.W.fnOf "_law_floor" "_law_floor" (defArgs s_floor) (defBody s_floor) (defScope s_floor) .none kV19 dc19 pm19 an19 cd19 ct19), sl19⟩) (co19 : PySem.W.codeIn K cd19 "_law_floor" = true) (kk19 : PySem.W.keepIn K (.ref f19) = true)
    (aa20 : PySem.W.nsIn K mainGlobals "law" = some (some (.ref f20))) (ll20 : K.lookup f20 = some ⟨oc20, od20, .func (PySem.W.fnOf "law" "law" (defArgs s_law) (defBody s_law) (defScope s_law) .none kV20 dc20 pm20 an20 cd20 ct20), sl20⟩) (co20 : PySem.W.codeIn K cd20 "law" = true) (kk20 : PySem.W.keepIn K (.ref f20) = true)
    (zz0 : PySem.W.nsIn K mainGlobals "len" = some none)
    (zz1 : PySem.W.nsIn K mainGlobals "min" = some none)
    (zz2 : PySem.W.nsIn K mainGlobals "max" = some none)
    (zz3 : PySem.W.nsIn K mainGlobals "sorted" = some none)
    (zz4 : PySem.W.nsIn K mainGlobals "int" = some none)
    (zz5 : PySem.W.nsIn K mainGlobals "list" = some none)
    (zz6 : PySem.W.nsIn K mainGlobals "tuple" = some none)
    (zz7 : PySem.W.nsIn K mainGlobals "range" = some none)
    (zz8 : PySem.W.nsIn K mainGlobals "enumerate" = some none)
    (cc0 : PySem.W.nsIn K mainGlobals "UPPER" = some (some (.str "ABCDEFGHIJKLMNOPQRSTUVWXYZ" tk0))) :
    ∃ fd : FuncData, (∀ (s : Shared) (v : Value), BindsTo s fd ⟨[v], []⟩ [("script", v)]) ∧ ∀ base : Heap, K.In base → base.Ns mainGlobals mg → DF l.prog w K mg base CX0 6 fa fd ["script"] (SpD K WLaw) := by
  have e := hfa.symm.trans (PySem.W.mg_of X G aa20)
  cases e
  have B : Bi mg := ⟨PySem.W.mg_none_of X G zz0, PySem.W.mg_none_of X G zz1, PySem.W.mg_none_of X G zz2, PySem.W.mg_none_of X G zz3, PySem.W.mg_none_of X G zz4, PySem.W.mg_none_of X G zz5, PySem.W.mg_none_of X G zz6, PySem.W.mg_none_of X G zz7, PySem.W.mg_none_of X G zz8⟩
  have C : Cn mg := ⟨⟨_, PySem.W.mg_of X G cc0, ⟨_, rfl⟩⟩⟩
  have A_is_leader := funAt_mk (st := s_is_leader) (ps := ["name"]) X G aa0 ll0 co0 kk0 fun _ _ _ _ _ _ us hl => match us, hl with | [_], _ => rfl
  have A_locate := funAt_mk (st := s_locate) (ps := ["floor", "name"]) X G aa1 ll1 co1 kk1 fun _ _ _ _ _ _ us hl => match us, hl with | [_, _], _ => rfl
  have A_crossed := funAt_mk (st := s_crossed) (ps := ["line", "at"]) X G aa2 ll2 co2 kk2 fun _ _ _ _ _ _ us hl => match us, hl with | [_, _], _ => rfl
  have A_source := funAt_mk (st := s_source) (ps := ["script", "index"]) X G aa3 ll3 co3 kk3 fun _ _ _ _ _ _ us hl => match us, hl with | [_, _], _ => rfl
  have A_draw := funAt_mk (st := s_draw) (ps := ["source", "bound"]) X G aa4 ll4 co4 kk4 fun _ _ _ _ _ _ us hl => match us, hl with | [_, _], _ => rfl
  have A_name := funAt_mk (st := s_name) (ps := ["style", "shift", "number"]) X G aa5 ll5 co5 kk5 fun _ _ _ _ _ _ us hl => match us, hl with | [_, _, _], _ => rfl
  have A_leaders := funAt_mk (st := s_leaders) (ps := ["floor"]) X G aa6 ll6 co6 kk6 fun _ _ _ _ _ _ us hl => match us, hl with | [_], _ => rfl
  have A_transposed := funAt_mk (st := s_transposed) (ps := ["floor"]) X G aa7 ll7 co7 kk7 fun _ _ _ _ _ _ us hl => match us, hl with | [_], _ => rfl
  have A_mirrored := funAt_mk (st := s_mirrored) (ps := ["floor"]) X G aa8 ll8 co8 kk8 fun _ _ _ _ _ _ us hl => match us, hl with | [_], _ => rfl
  have A_renamed := funAt_mk (st := s_renamed) (ps := ["floor"]) X G aa9 ll9 co9 kk9 fun _ _ _ _ _ _ us hl => match us, hl with | [_], _ => rfl
  have A_lines := funAt_mk (st := s_lines) (ps := ["floor"]) X G aa10 ll10 co10 kk10 fun _ _ _ _ _ _ us hl => match us, hl with | [_], _ => rfl
  have A_quadrants := funAt_mk (st := s_quadrants) (ps := ["before", "after", "name"]) X G aa11 ll11 co11 kk11 fun _ _ _ _ _ _ us hl => match us, hl with | [_, _, _], _ => rfl
  have A_locate_leader := funAt_mk (st := s_locate_leader) (ps := ["floor", "name"]) X G aa12 ll12 co12 kk12 fun _ _ _ _ _ _ us hl => match us, hl with | [_, _], _ => rfl
  have A_shuffled := funAt_mk (st := s_shuffled) (ps := ["source", "things"]) X G aa13 ll13 co13 kk13 fun _ _ _ _ _ _ us hl => match us, hl with | [_, _], _ => rfl
  have A_check_leaders := funAt_mk (st := s_check_leaders) (ps := ["floor", "names"]) X G aa14 ll14 co14 kk14 fun _ _ _ _ _ _ us hl => match us, hl with | [_, _], _ => rfl
  have A_cross := funAt_mk (st := s_cross) (ps := ["floor", "name"]) X G aa15 ll15 co15 kk15 fun _ _ _ _ _ _ us hl => match us, hl with | [_, _], _ => rfl
  have A_pattern := funAt_mk (st := s_pattern) (ps := ["source", "rows", "columns"]) X G aa16 ll16 co16 kk16 fun _ _ _ _ _ _ us hl => match us, hl with | [_, _, _], _ => rfl
  have A_play := funAtK_mk (st := s_play) (ps := ["floor", "names", "reverse"]) (n := 2) (kw := "reverse") (v := .bl false) X G aa17 ll17 co17 kk17 kw17 rfl rfl fun _ _ _ _ _ _ us ks h1 h2 => match us, ks, h1, h2 with | [_, _], [_], _, _ => ⟨_, _, _, _, _, _, rfl, rfl, rfl⟩
  have A_named := funAt_mk (st := s_named) (ps := ["source", "rows", "columns"]) X G aa18 ll18 co18 kk18 fun _ _ _ _ _ _ us hl => match us, hl with | [_, _, _], _ => rfl
  have A_floor := funAt_mk (st := s_floor) (ps := ["source", "most"]) X G aa19 ll19 co19 kk19 fun _ _ _ _ _ _ us hl => match us, hl with | [_, _], _ => rfl
  refine ⟨PySem.W.fnOf "law" "law" (defArgs s_law) (defBody s_law) (defScope s_law) .none kV20 dc20 pm20 an20 cd20 ct20, fun s v => .of_eq rfl, fun base _ _ => ?_⟩
  have D_is_leader := d_is_leader (Pg := l.prog) (w := w) (base := base) A_is_leader B C
  have D_locate := d_locate (Pg := l.prog) (w := w) (base := base) A_locate B C
  have D_crossed := d_crossed (Pg := l.prog) (w := w) (base := base) A_crossed B C
  have D_source := d_source (Pg := l.prog) (w := w) (base := base) A_source B C
  have D_draw := d_draw (Pg := l.prog) (w := w) (base := base) A_draw B C
  have D_name := d_name (Pg := l.prog) (w := w) (base := base) A_name B C
  have D_leaders := d_leaders (Pg := l.prog) (w := w) (base := base) A_leaders B C
  have D_transposed := d_transposed (Pg := l.prog) (w := w) (base := base) A_transposed B C
  have D_mirrored := d_mirrored (Pg := l.prog) (w := w) (base := base) A_mirrored B C
  have D_renamed := d_renamed (Pg := l.prog) (w := w) (base := base) A_renamed B C
  have D_lines := d_lines (Pg := l.prog) (w := w) (base := base) A_lines B C
  have D_quadrants := d_quadrants (Pg := l.prog) (w := w) (base := base) A_quadrants B C
  have D_locate_leader := d_locate_leader (Pg := l.prog) (w := w) (base := base) A_locate_leader B C D_is_leader D_locate
  have D_shuffled := d_shuffled (Pg := l.prog) (w := w) (base := base) A_shuffled B C D_draw
  have D_check_leaders := d_check_leaders (Pg := l.prog) (w := w) (base := base) A_check_leaders B C D_locate_leader
  have D_cross := d_cross (Pg := l.prog) (w := w) (base := base) A_cross B C D_crossed D_locate_leader
  have D_pattern := d_pattern (Pg := l.prog) (w := w) (base := base) A_pattern B C D_draw D_shuffled
  have D_play := d_play (Pg := l.prog) (w := w) (base := base) A_play B C D_cross D_check_leaders
  have D_named := d_named (Pg := l.prog) (w := w) (base := base) A_named B C D_name D_shuffled D_draw D_pattern
  have D_floor := d_floor (Pg := l.prog) (w := w) (base := base) A_floor B C D_named D_draw
  exact f_law (fun_mk (st := s_law) ll20 co20 kk20) B C D_cross D_renamed D_quadrants D_play D_mirrored D_transposed D_lines D_draw D_leaders D_floor D_source
end Dv

open PySem PySem.W PyProof.Rows in
set_option maxRecDepth 100000 in
set_option maxHeartbeats 0 in
theorem PySem.Challenge.cw_crossfloor_k07_whole_moves_keep_lines_holds : PySem.Challenge.rw_crossfloor_k07_whole_moves_keep_lines.Holds := by
  w_on; o_law; k_head; (case hw => w_witness2)
  k_fill
  refine Dv.dwalk (l := PySem.Challenge.rw_crossfloor_k07_whole_moves_keep_lines) (k := 6) rfl rfl ⟨rfl, by decide, by decide⟩ (fun w h Y => PySem.W.kIn_of Y) ?F
  case F =>
    intro w mg fa h KX G hmg
    refine' Dv.all_mk KX G hmg ?aa0 ?ll0 ?co0 ?kk0 ?aa1 ?ll1 ?co1 ?kk1 ?aa2 ?ll2 ?co2 ?kk2 ?aa3 ?ll3 ?co3 ?kk3 ?aa4 ?ll4 ?co4 ?kk4 ?aa5 ?ll5 ?co5 ?kk5 ?aa6 ?ll6 ?co6 ?kk6 ?aa7 ?ll7 ?co7 ?kk7 ?aa8 ?ll8 ?co8 ?kk8 ?aa9 ?ll9 ?co9 ?kk9 ?aa10 ?ll10 ?co10 ?kk10 ?aa11 ?ll11 ?co11 ?kk11 ?aa12 ?ll12 ?co12 ?kk12 ?aa13 ?ll13 ?co13 ?kk13 ?aa14 ?ll14 ?co14 ?kk14 ?aa15 ?ll15 ?co15 ?kk15 ?aa16 ?ll16 ?co16 ?kk16 ?aa17 ?ll17 ?co17 ?kk17 ?kw17 ?aa18 ?ll18 ?co18 ?kk18 ?aa19 ?ll19 ?co19 ?kk19 ?aa20 ?ll20 ?co20 ?kk20 ?zz0 ?zz1 ?zz2 ?zz3 ?zz4 ?zz5 ?zz6 ?zz7 ?zz8 ?cc0
    (case aa0 => k_is)
    (case ll0 => k_is)
    (case co0 => k_is)
    (case kk0 => k_is)
    (case aa1 => k_is)
    (case ll1 => k_is)
    (case co1 => k_is)
    (case kk1 => k_is)
    (case aa2 => k_is)
    (case ll2 => k_is)
    (case co2 => k_is)
    (case kk2 => k_is)
    (case aa3 => k_is)
    (case ll3 => k_is)
    (case co3 => k_is)
    (case kk3 => k_is)
    (case aa4 => k_is)
    (case ll4 => k_is)
    (case co4 => k_is)
    (case kk4 => k_is)
    (case aa5 => k_is)
    (case ll5 => k_is)
    (case co5 => k_is)
    (case kk5 => k_is)
    (case aa6 => k_is)
    (case ll6 => k_is)
    (case co6 => k_is)
    (case kk6 => k_is)
    (case aa7 => k_is)
    (case ll7 => k_is)
    (case co7 => k_is)
    (case kk7 => k_is)
    (case aa8 => k_is)
    (case ll8 => k_is)
    (case co8 => k_is)
    (case kk8 => k_is)
    (case aa9 => k_is)
    (case ll9 => k_is)
    (case co9 => k_is)
    (case kk9 => k_is)
    (case aa10 => k_is)
    (case ll10 => k_is)
    (case co10 => k_is)
    (case kk10 => k_is)
    (case aa11 => k_is)
    (case ll11 => k_is)
    (case co11 => k_is)
    (case kk11 => k_is)
    (case aa12 => k_is)
    (case ll12 => k_is)
    (case co12 => k_is)
    (case kk12 => k_is)
    (case aa13 => k_is)
    (case ll13 => k_is)
    (case co13 => k_is)
    (case kk13 => k_is)
    (case aa14 => k_is)
    (case ll14 => k_is)
    (case co14 => k_is)
    (case kk14 => k_is)
    (case aa15 => k_is)
    (case ll15 => k_is)
    (case co15 => k_is)
    (case kk15 => k_is)
    (case aa16 => k_is)
    (case ll16 => k_is)
    (case co16 => k_is)
    (case kk16 => k_is)
    (case aa17 => k_is)
    (case ll17 => k_is)
    (case co17 => k_is)
    (case kk17 => k_is)
    (case kw17 => k_is)
    (case aa18 => k_is)
    (case ll18 => k_is)
    (case co18 => k_is)
    (case kk18 => k_is)
    (case aa19 => k_is)
    (case ll19 => k_is)
    (case co19 => k_is)
    (case kk19 => k_is)
    (case aa20 => k_is)
    (case ll20 => k_is)
    (case co20 => k_is)
    (case kk20 => k_is)
    (case zz0 => k_is)
    (case zz1 => k_is)
    (case zz2 => k_is)
    (case zz3 => k_is)
    (case zz4 => k_is)
    (case zz5 => k_is)
    (case zz6 => k_is)
    (case zz7 => k_is)
    (case zz8 => k_is)
    (case cc0 => k_is)
