import PyProof.Rows.All
import Wide.All
import OpenK.AllK
import Wide.FinOn
import HandS.ForMost
import HandS.Walk
import HandS.Wide
import HandS.Deep
import HandS.SetKeys
import HandS.Codes
import HandS.Strs
import HandS.Flow
import HandS.TupAny
import HandS.Conv
import PyProof.MaxThree
import PyProof.StrBlock2
import PyProof.ReprRoads
import PyProof.Rows.RuleB_pow
import PyProof.P3In
import PyProof.Rows.SortShellAny
import PyProof.Rows.InDataRows
import KE.GoesMore
import PyProof.EnumMake
import HandS.ForExc
import HandS.ExcInit
import HandS.ExcField
import HandS.TryOnly
import KE.KExcIs
import KE.KIsAll
import HandS.ExcIs
import HandS.More
import PyProof.P3Eq
import KE.KDictKeyed
import KE.KDictDisplayH
import HandS.Small
import KE.KDictPairs
import KE.SortData
import KE.DataMinMax
import HandS.ListItems
import HandS.IsInst
import KE.KDictZip
import HandS.Star
import PyProof.TupleOfGen
import HandS.Gcd
import KE.KMathGC
import HandS.Defaults
import HandS.Style
import HandS.Iter
import HandS.DictComp
import KE.KDictSum
import PyProof.AutoSeq1
import HandS.SetTxt0
import HandS.SetFor
import HandS.RevRange
import HandS.TupMul
import HandS.Zip
import HandS.TupLen
import HandS.HotCalls
import HandS.OwnEq
import HandS.SlotsOwn
import HandS.FStr
import KE.KCallOwn
import KE.KFmtOwn
import PyProof.InstNe
import HandS.Finally
import KE.KMathG
import HandS.WordsDict
import KE.IntTextLaws
import HandS.Text
import HandS.Head0
import HandS.Head1
import HandS.Head2
import HandS.HeadHook1
import PySem.Challenge.RW_crossfloor_k06_sequences_of_moves
set_option Elab.async false
set_option linter.all false
set_option maxRecDepth 100000
set_option maxHeartbeats 4000000
/-! Data over the hand layer: what a value is as a whole (PyData), a store of the lists that change, and rules that speak of these alone. -/
namespace Dv
open PySem L2
/-- what an object that may change holds -/
inductive Mu where
  | lst (ds : List PyData)
  | raw (o : HO)
  | refs (as : List Addr)
  | obj (ns : List Str) (ds : List PyData)
  | dic (ps : List (Str × PyData))
  | dicF (ob : Obj) (kvs : List (Key × V)) (ps : List (Str × PyData))
  | ins (C dx : Addr) (fs : List (Str × PyData))
  | gen (f : List V → HO) (ds : List PyData)
abbrev Sto := Addr → Option Mu
/-- the objects that change no more -/
abbrev Reg := Addr → Prop
def put (m : Sto) (a : Addr) (u : Mu) : Sto := fun b => if b = a then some u else m b
def del (m : Sto) (a : Addr) : Sto := fun b => if b = a then none else m b
def add (F : Reg) (a : Addr) : Reg := fun b => b = a ∨ F b
theorem put_same {m : Sto} {a : Addr} {u : Mu} : put m a u a = some u := if_pos rfl
theorem put_ne {m : Sto} {a b : Addr} {u : Mu} (h : b ≠ a) : put m a u b = m b := if_neg h
theorem del_same {m : Sto} {a : Addr} : del m a a = none := if_pos rfl
theorem del_ne {m : Sto} {a b : Addr} (h : b ≠ a) : del m a b = m b := if_neg h
theorem put_put {m : Sto} {a : Addr} {u w : Mu} : put (put m a u) a w = put m a w := by
  funext b; unfold put; split <;> rfl
theorem del_put {m : Sto} {a : Addr} {u : Mu} (h : m a = none) : del (put m a u) a = m := by
  funext b
  by_cases hb : b = a
  · rw [hb, del_same, h]
  · rw [del_ne hb, put_ne hb]
theorem put_self {m : Sto} {a : Addr} {u : Mu} (h : m a = some u) : put m a u = m := by
  funext b
  by_cases hb : b = a
  · rw [hb, put_same, h]
  · rw [put_ne hb]
theorem put_comm {m : Sto} {a b : Addr} {u w : Mu} (h : a ≠ b) : put (put m a u) b w = put (put m b w) a u := by
  funext c
  by_cases hb : c = b
  · rw [hb, put_same, put_ne (Ne.symm h), put_same]
  · rw [put_ne hb]
    by_cases ha : c = a
    · rw [ha, put_same, put_same]
    · rw [put_ne ha, put_ne ha, put_ne hb]
/-- a written list, a written tuple -/
def WrL (K : PySem.W.Frag) (a : Addr) (xs : List V) : Prop := ∃ (o : Obj) (its : Array Value) (n : Nat), K.lookup a = some o ∧ o.cls = .type "list" ∧ o.dict = none ∧ o.data = .seq its n ∧ its.size ≤ sizeLine ∧ Vals xs its.toList
def WrT (K : PySem.W.Frag) (a : Addr) (xs : List V) : Prop := ∃ (o : Obj) (its : Array Value) (n : Nat), K.lookup a = some o ∧ o.cls = .type "tuple" ∧ o.dict = none ∧ o.data = .seq its n ∧ its.size ≤ sizeLine ∧ Vals xs its.toList
/-- a tuple known to the object, which has no dict of its own -/
def ZT (H : Hp) (a : Addr) (vs : List V) : Prop := ∃ ob : Obj, H a = some (.frz ob (.tup vs)) ∧ ob.dict = none
theorem ZT.sq {K : PySem.W.Frag} {H : Hp} {a : Addr} {vs : List V} (h : ZT H a vs) : SqT K H a vs := let ⟨ob, e, _⟩ := h; .inl (.inr ⟨ob, e⟩)
theorem WrT.sq {K : PySem.W.Frag} {H : Hp} {a : Addr} {vs : List V} (h : WrT K a vs) : SqT K H a vs := let ⟨o, its, n, a1, a2, _, a3, a4, a5⟩ := h; .inr ⟨o, its, n, a1, a2, a3, a4, a5⟩
mutual
/-- v is the datum, by objects that do not change -/
def Im (K : PySem.W.Frag) (F : Reg) (H : Hp) : PyData → V → Prop
  | .none, v => v = .non
  | .bool b, v => v = .bl b
  | .int i, v => v = .int i
  | .str z, v => v = .str z
  | .list ds, v => ∃ a vs, v = .ref a ∧ F a ∧ H a = some (.lst vs) ∧ ImAll K F H ds vs
  | .tuple ds, v => ∃ a vs, v = .ref a ∧ ((F a ∧ ZT H a vs) ∨ WrT K a vs) ∧ ImAll K F H ds vs
  | .dict _, _ => False
def ImAll (K : PySem.W.Frag) (F : Reg) (H : Hp) : List PyData → List V → Prop
  | [], vs => vs = []
  | d :: ds, vs => ∃ v r, vs = v :: r ∧ Im K F H d v ∧ ImAll K F H ds r
end
/-- what stands in a name: a datum; a list that may change; the script; a value as it is -/
inductive Sl where
  | p (x y : PyData)
  | d (x : PyData)
  | m (a : Addr)
  | f (ds : List PyData)
  | v (x : V)
def SlOk (K : PySem.W.Frag) (F : Reg) (H : Hp) : Sl → V → Prop
  | .p x y, v => ∃ a v1 v2, v = .ref a ∧ F a ∧ H a = some (.tup [v1, v2]) ∧ Im K F H x v1 ∧ Im K F H y v2
  | .d x, v => Im K F H x v
  | .m a, v => v = .ref a
  | .f ds, v => ∃ a vs, v = .ref a ∧ ((F a ∧ ∃ o, H a = some (.frz o (.lst vs))) ∨ WrL K a vs) ∧ ImAll K F H ds vs
  | .v x, v => v = x
abbrev Rho := List (Option Sl)
def SlO (K : PySem.W.Frag) (F : Reg) (H : Hp) (s : Option Sl) (v : Option V) : Prop := ∀ sl, s = some sl → ∃ x, v = some x ∧ SlOk K F H sl x
abbrev EnvOk (K : PySem.W.Frag) (F : Reg) (H : Hp) : Rho → L2.St → Prop := Paired (SlO K F H)
abbrev SlsOk (K : PySem.W.Frag) (F : Reg) (H : Hp) : List Sl → List V → Prop := Paired (SlOk K F H)
def MuOk (K : PySem.W.Frag) (F : Reg) (H : Hp) (a : Addr) : Mu → Prop
  | .lst ds => ∃ vs, H a = some (.lst vs) ∧ ImAll K F H ds vs
  | .raw o => H a = some o
  | .refs as => H a = some (.lst (as.map V.ref))
  | .obj ns ds => ∃ vs, H a = some (.xd (ns.zip vs).reverse) ∧ ImAll K F H ds vs
  | .dic ps => ∃ kvs : List (Key × V), H a = some (.dK kvs) ∧ Paired (fun p kv => kv.1 = Sum.inr p.1 ∧ Im K F H p.2 kv.2) ps kvs
  | .ins C dx fs => ∃ vs : List (Str × V), H a = some (.ins C dx vs) ∧ Paired (fun p q => q.1 = p.1 ∧ Im K F H p.2 q.2) fs vs
  | .dicF ob kvs ps => H a = some (.frz ob (.dK kvs)) ∧ Paired (fun p kv => kv.1 = Sum.inr p.1 ∧ Im K F H p.2 kv.2) ps kvs
  | .gen f ds => ∃ vs, H a = some (f vs) ∧ ImAll K F H ds vs
structure StoOk (K : PySem.W.Frag) (m : Sto) (F : Reg) (H : Hp) : Prop where
  mu : ∀ a u, m a = some u → MuOk K F H a u ∧ ¬ F a
  reg : ∀ a, F a → H a ≠ none
/-- what does not change stays; what is not known is left alone -/
structure Step (m : Sto) (F : Reg) (H : Hp) (m' : Sto) (F' : Reg) (H' : Hp) : Prop where
  fix : ∀ a o, H a = some o → F a → H' a = some o ∧ F' a
  frm : ∀ a o, H a = some o → ¬ F a → m a = none → H' a = some o ∧ ¬ F' a ∧ m' a = none
section
variable {K : PySem.W.Frag} {m m1 m2 m' : Sto} {F F1 F2 F' : Reg} {H H1 H2 H' : Hp}
theorem Step.refl : Step m F H m F H := ⟨fun _ _ h n => ⟨h, n⟩, fun _ _ h n k => ⟨h, n, k⟩⟩
theorem Step.trans (a : Step m F H m1 F1 H1) (b : Step m1 F1 H1 m2 F2 H2) : Step m F H m2 F2 H2 :=
  ⟨fun x o h n => b.fix x o (a.fix x o h n).1 (a.fix x o h n).2, fun x o h n k => b.frm x o (a.frm x o h n k).1 (a.frm x o h n k).2.1 (a.frm x o h n k).2.2⟩
mutual
theorem im_fix (s : ∀ a o, H a = some o → F a → H' a = some o ∧ F' a) : ∀ (d : PyData) (v : V), Im K F H d v → Im K F' H' d v
  | .none, _, h => h
  | .bool _, _, h => h
  | .int _, _, h => h
  | .str _, _, h => h
  | .list ds, v, h => by
    obtain ⟨a, vs, e, n, ha, q⟩ := h
    exact ⟨a, vs, e, (s a _ ha n).2, (s a _ ha n).1, imAll_fix s ds vs q⟩
  | .tuple ds, v, h => by
    obtain ⟨a, vs, e, n, q⟩ := h
    refine ⟨a, vs, e, ?_, imAll_fix s ds vs q⟩
    rcases n with ⟨n, ob, ha, hd⟩ | w
    · exact .inl ⟨(s a _ ha n).2, ob, (s a _ ha n).1, hd⟩
    · exact .inr w
  | .dict _, _, h => h
theorem imAll_fix (s : ∀ a o, H a = some o → F a → H' a = some o ∧ F' a) : ∀ (ds : List PyData) (vs : List V), ImAll K F H ds vs → ImAll K F' H' ds vs
  | [], _, h => h
  | d :: ds, vs, h => by
    obtain ⟨v, r, e, h1, h2⟩ := h
    exact ⟨v, r, e, im_fix s d v h1, imAll_fix s ds r h2⟩
end
theorem slOk_fix (s : ∀ a o, H a = some o → F a → H' a = some o ∧ F' a) : ∀ {sl : Sl} {v : V}, SlOk K F H sl v → SlOk K F' H' sl v
  | .p x y, v, h => by
    obtain ⟨a, v1, v2, e, n, ha, i1, i2⟩ := h
    exact ⟨a, v1, v2, e, (s a _ ha n).2, (s a _ ha n).1, im_fix s x v1 i1, im_fix s y v2 i2⟩
  | .d x, v, h => im_fix s x v h
  | .m a, v, h => h
  | .f ds, v, h => by
    obtain ⟨a, vs, e, n, q⟩ := h
    refine ⟨a, vs, e, ?_, imAll_fix s ds vs q⟩
    rcases n with ⟨n, o, ha⟩ | w
    · exact .inl ⟨(s a _ ha n).2, o, (s a _ ha n).1⟩
    · exact .inr w
  | .v x, v, h => h
theorem slOk_step (s : Step m F H m' F' H') {sl : Sl} {v : V} (h : SlOk K F H sl v) : SlOk K F' H' sl v := slOk_fix s.fix h
theorem slO_step (s : Step m F H m' F' H') {a : Option Sl} {b : Option V} (h : SlO K F H a b) : SlO K F' H' a b := fun sl e =>
  let ⟨x, e1, q⟩ := h sl e
  ⟨x, e1, slOk_step s q⟩
theorem envOk_step (s : Step m F H m' F' H') {ρ : Rho} {σ : L2.St} (h : EnvOk K F H ρ σ) : EnvOk K F' H' ρ σ := Paired.mapP h fun _ _ => slO_step s
theorem slsOk_step (s : Step m F H m' F' H') {ss : List Sl} {vs : List V} (h : SlsOk K F H ss vs) : SlsOk K F' H' ss vs := Paired.mapP h fun _ _ => slOk_step s
theorem muOk_fix (s : ∀ a o, H a = some o → F a → H' a = some o ∧ F' a) {a : Addr} {u : Mu} (ha : ∀ o, H a = some o → H' a = some o) (h : MuOk K F H a u) : MuOk K F' H' a u := by
  cases u with
  | lst ds =>
    obtain ⟨vs, z, q⟩ := h
    exact ⟨vs, ha _ z, imAll_fix s ds vs q⟩
  | raw o => exact ha o h
  | refs as => exact ha _ h
  | obj ns ds =>
    obtain ⟨vs, z, q⟩ := h
    exact ⟨vs, ha _ z, imAll_fix s ds vs q⟩
  | dic ps =>
    obtain ⟨kvs, z, q⟩ := h
    exact ⟨kvs, ha _ z, Paired.mapP q fun _ _ r => ⟨r.1, im_fix s _ _ r.2⟩⟩
  | dicF ob kvs ps =>
    obtain ⟨z, q⟩ := h
    exact ⟨ha _ z, Paired.mapP q fun _ _ r => ⟨r.1, im_fix s _ _ r.2⟩⟩
  | ins C dx fs =>
    obtain ⟨vs, z, q⟩ := h
    exact ⟨vs, ha _ z, Paired.mapP q fun _ _ r => ⟨r.1, im_fix s _ _ r.2⟩⟩
  | gen f ds =>
    obtain ⟨vs, z, q⟩ := h
    exact ⟨vs, ha _ z, imAll_fix s ds vs q⟩
theorem muOk_some {a : Addr} {u : Mu} (h : MuOk K F H a u) : ∃ o, H a = some o := by
  cases u with
  | lst ds =>
    obtain ⟨vs, z, q⟩ := h
    exact ⟨_, z⟩
  | raw o => exact ⟨o, h⟩
  | refs as => exact ⟨_, h⟩
  | obj ns ds =>
    obtain ⟨vs, z, q⟩ := h
    exact ⟨_, z⟩
  | dic ps =>
    obtain ⟨kvs, z, q⟩ := h
    exact ⟨_, z⟩
  | dicF ob kvs ps => exact ⟨_, h.1⟩
  | ins C dx fs =>
    obtain ⟨vs, z, q⟩ := h
    exact ⟨_, z⟩
  | gen f ds =>
    obtain ⟨vs, z, q⟩ := h
    exact ⟨_, z⟩
theorem sto_none (S : StoOk K m F H) {p : Addr} (h : H p = none) : m p = none := by
  cases e : m p with
  | none => rfl
  | some u =>
    obtain ⟨o, q⟩ := muOk_some (S.mu p u e).1
    rw [h] at q
    cases q
theorem fix_upd (S : StoOk K m F H) {p : Addr} {o : HO} (h : ¬ F p) : ∀ a u, H a = some u → F a → upd H p o a = some u ∧ F a := fun a u ha n => by
  have ne : a ≠ p := fun e => h (e ▸ n)
  exact ⟨by rw [upd_ne ne]; exact ha, n⟩
theorem fix_add (S : StoOk K m F H) {p : Addr} {o : HO} (h : ¬ F p) : ∀ a u, H a = some u → F a → upd H p o a = some u ∧ add F p a := fun a u ha n => ⟨(fix_upd S h a u ha n).1, .inr n⟩
theorem not_reg (S : StoOk K m F H) {p : Addr} (h : H p = none) : ¬ F p := fun n => S.reg p n h
/-- a new thing that does not change -/
theorem step_new (S : StoOk K m F H) {p : Addr} {o : HO} (h : H p = none) : Step m F H m (add F p) (upd H p o) :=
  ⟨fix_add S (not_reg S h), fun a u ha n k => by
    have ne := ne_of_none ha h
    exact ⟨by rw [upd_ne ne]; exact ha, fun z => z.elim ne n, k⟩⟩
theorem sto_new (S : StoOk K m F H) {p : Addr} {o : HO} (h : H p = none) : StoOk K m (add F p) (upd H p o) where
  mu := fun a u e => by
    have ne : a ≠ p := fun z => by
      rw [z, sto_none S h] at e
      cases e
    exact ⟨muOk_fix (fix_add S (not_reg S h)) (fun o q => by rw [upd_ne ne]; exact q) (S.mu a u e).1, fun z => z.elim ne (S.mu a u e).2⟩
  reg := fun a z => by
    by_cases e : a = p
    · rw [e, upd_same]; simp
    · rw [upd_ne e]
      exact S.reg a (z.resolve_left e)
/-- a new thing that may change -/
theorem step_newM (S : StoOk K m F H) {p : Addr} {o : HO} {u : Mu} (h : H p = none) : Step m F H (put m p u) F (upd H p o) :=
  ⟨fix_upd S (not_reg S h), fun a w ha n k => by
    have ne := ne_of_none ha h
    exact ⟨by rw [upd_ne ne]; exact ha, n, by rw [put_ne ne]; exact k⟩⟩
theorem sto_put (S : StoOk K m F H) {p : Addr} {o : HO} {u : Mu} (h : ¬ F p) (hu : MuOk K F (upd H p o) p u) : StoOk K (put m p u) F (upd H p o) where
  mu := fun a w e => by
    by_cases ne : a = p
    · subst ne
      rw [put_same] at e
      cases e
      exact ⟨hu, h⟩
    · rw [put_ne ne] at e
      exact ⟨muOk_fix (fix_upd S h) (fun o q => by rw [upd_ne ne]; exact q) (S.mu a w e).1, (S.mu a w e).2⟩
  reg := fun a z => by
    by_cases e : a = p
    · rw [e, upd_same]; simp
    · rw [upd_ne e]
      exact S.reg a z
theorem step_mut (S : StoOk K m F H) {p : Addr} {o : HO} {u w : Mu} (h : m p = some w) : Step m F H (put m p u) F (upd H p o) :=
  ⟨fix_upd S (S.mu p w h).2, fun a z ha n k => by
    have ne : a ≠ p := fun e => by rw [e, h] at k; cases k
    exact ⟨by rw [upd_ne ne]; exact ha, n, by rw [put_ne ne]; exact k⟩⟩
/-- from now on it does not change -/
theorem step_del (S : StoOk K m F H) {p : Addr} {w : Mu} (h : m p = some w) : Step m F H (del m p) (add F p) H :=
  ⟨fun a o ha n => ⟨ha, .inr n⟩, fun a o ha n k => by
    have ne : a ≠ p := fun e => by rw [e, h] at k; cases k
    exact ⟨ha, fun z => z.elim ne n, by rw [del_ne ne]; exact k⟩⟩
theorem sto_del (S : StoOk K m F H) {p : Addr} {w : Mu} (h : m p = some w) : StoOk K (del m p) (add F p) H where
  mu := fun a z e => by
    by_cases ne : a = p
    · subst ne
      rw [del_same] at e
      cases e
    · rw [del_ne ne] at e
      exact ⟨muOk_fix (fun a o ha n => ⟨ha, .inr n⟩) (fun o q => q) (S.mu a z e).1, fun z' => z'.elim ne (S.mu a z e).2⟩
  reg := fun a z => by
    rcases z with z | z
    · obtain ⟨o, q⟩ := muOk_some (S.mu p w h).1
      rw [z, q]; simp
    · exact S.reg a z
theorem im_frozen {p : Addr} {ds : List PyData} (S : StoOk K m F H) (h : m p = some (.lst ds)) : Im K (add F p) H (.list ds) (.ref p) := by
  obtain ⟨vs, z, q⟩ := (S.mu p _ h).1
  exact ⟨p, vs, rfl, .inl rfl, z, imAll_fix (fun a o ha n => ⟨ha, .inr n⟩) ds vs q⟩
theorem paired_get {α β : Type} {F : α → β → Prop} : ∀ {xs : List α} {ys : List β} {i : Nat} {x : α}, Paired F xs ys → xs[i]? = some x → ∃ y, ys[i]? = some y ∧ F x y
  | _, _, _, _, .nil, e => by simp at e
  | _, _, 0, _, .cons r _, e => by simp at e; subst e; exact ⟨_, rfl, r⟩
  | _, _, i + 1, x, .cons _ t, e => by
    obtain ⟨u, h1, h2⟩ := paired_get (i := i) (x := x) t (by simpa using e)
    exact ⟨u, by simpa using h1, h2⟩
theorem paired_set {α β : Type} {F : α → β → Prop} {x : α} {y : β} (r : F x y) : ∀ {xs : List α} {ys : List β} (i : Nat), Paired F xs ys → Paired F (xs.set i x) (ys.set i y)
  | _, _, _, .nil => .nil
  | _, _, 0, .cons _ t => .cons r t
  | _, _, i + 1, .cons q t => .cons q (paired_set r i t)
theorem paired_len {α β : Type} {F : α → β → Prop} {xs : List α} {ys : List β} (h : Paired F xs ys) : xs.length = ys.length := Paired.length h
theorem paired_app {α β : Type} {F : α → β → Prop} : ∀ {xs xs' : List α} {ys ys' : List β}, Paired F xs ys → Paired F xs' ys' → Paired F (xs ++ xs') (ys ++ ys')
  | _, _, _, _, .nil, h => h
  | _, _, _, _, .cons r t, h => .cons r (paired_app t h)
theorem imAll_iff : ∀ {ds : List PyData} {vs : List V}, ImAll K F H ds vs ↔ Paired (Im K F H) ds vs
  | [], vs => ⟨fun h => by cases (show vs = [] from h); exact .nil, fun h => by cases h; rfl⟩
  | d :: ds, vs => ⟨fun h => by
      obtain ⟨v, r, e, h1, h2⟩ := h
      subst e
      exact .cons h1 (imAll_iff.mp h2), fun h => by
      cases h with
      | cons h1 h2 => exact ⟨_, _, rfl, h1, imAll_iff.mpr h2⟩⟩
theorem imAll_len {ds : List PyData} {vs : List V} (h : ImAll K F H ds vs) : ds.length = vs.length := paired_len (imAll_iff.mp h)
theorem imAll_app {ds es : List PyData} {vs us : List V} (h : ImAll K F H ds vs) (g : ImAll K F H es us) : ImAll K F H (ds ++ es) (vs ++ us) := imAll_iff.mpr (paired_app (imAll_iff.mp h) (imAll_iff.mp g))
theorem imAll_one {d : PyData} {v : V} (h : Im K F H d v) : ImAll K F H [d] [v] := ⟨v, [], rfl, h, rfl⟩
theorem imAll_get {ds : List PyData} {vs : List V} (h : ImAll K F H ds vs) {i : Nat} {d : PyData} (e : ds[i]? = some d) : ∃ v, vs[i]? = some v ∧ Im K F H d v := paired_get (imAll_iff.mp h) e
theorem imAll_set {ds : List PyData} {vs : List V} (h : ImAll K F H ds vs) (i : Nat) {d : PyData} {v : V} (q : Im K F H d v) : ImAll K F H (ds.set i d) (vs.set i v) := imAll_iff.mpr (paired_set q i (imAll_iff.mp h))
theorem paired_erase {α β : Type} {F : α → β → Prop} : ∀ {xs : List α} {ys : List β} (i : Nat), Paired F xs ys → Paired F (xs.eraseIdx i) (ys.eraseIdx i)
  | _, _, _, .nil => by simp; exact .nil
  | _, _, 0, .cons _ t => by simpa using t
  | _, _, i + 1, .cons q t => by simpa using Paired.cons q (paired_erase i t)
theorem imAll_erase {ds : List PyData} {vs : List V} (h : ImAll K F H ds vs) (i : Nat) : ImAll K F H (ds.eraseIdx i) (vs.eraseIdx i) := imAll_iff.mpr (paired_erase i (imAll_iff.mp h))
theorem paired_take {α β : Type} {F : α → β → Prop} : ∀ {xs : List α} {ys : List β} (n : Nat), Paired F xs ys → Paired F (xs.take n) (ys.take n)
  | _, _, 0, _ => .nil
  | _, _, _ + 1, .nil => .nil
  | _, _, n + 1, .cons r t => .cons r (paired_take n t)
theorem paired_drop {α β : Type} {F : α → β → Prop} : ∀ {xs : List α} {ys : List β} (n : Nat), Paired F xs ys → Paired F (xs.drop n) (ys.drop n)
  | _, _, 0, r => r
  | _, _, _ + 1, .nil => .nil
  | _, _, n + 1, .cons r t => paired_drop n t
mutual
theorem im_dp : ∀ (d : PyData) (v : V), Im K F H d v → Dp K H v d
  | .none, v, h => by cases (show v = .non from h); exact .non
  | .bool b, v, h => by cases (show v = .bl b from h); exact .bl b
  | .int i, v, h => by cases (show v = .int i from h); exact .int i
  | .str z, v, h => by cases (show v = .str z from h); exact .str z
  | .list ds, v, h => by
    obtain ⟨a, vs, e, n, ha, q⟩ := h
    subst e
    exact .lst (SqL.of ha) (imAll_dp ds vs q)
  | .tuple ds, v, h => by
    obtain ⟨a, vs, e, n, q⟩ := h
    subst e
    refine .tup ?_ (imAll_dp ds vs q)
    rcases n with ⟨n, ha⟩ | w
    · exact ha.sq
    · exact w.sq
  | .dict _, v, h => False.elim h
theorem imAll_dp : ∀ (ds : List PyData) (vs : List V), ImAll K F H ds vs → DpAll K H vs ds
  | [], vs, h => by cases (show vs = [] from h); exact .nil
  | d :: ds, vs, h => by
    obtain ⟨v, r, e, h1, h2⟩ := h
    subst e
    exact .cons (im_dp d v h1) (imAll_dp ds r h2)
end
theorem im_tup {ds : List PyData} {v : V} (h : Im K F H (.tuple ds) v) : ∃ a vs, v = .ref a ∧ SqT K H a vs ∧ ImAll K F H ds vs := by
  obtain ⟨a, vs, e, n, q⟩ := h
  refine ⟨a, vs, e, ?_, q⟩
  rcases n with ⟨_, ha⟩ | w
  · exact ha.sq
  · exact w.sq
theorem im_lst {ds : List PyData} {v : V} (h : Im K F H (.list ds) v) : ∃ a vs, v = .ref a ∧ H a = some (.lst vs) ∧ ImAll K F H ds vs := by
  obtain ⟨a, vs, e, n, ha, q⟩ := h
  exact ⟨a, vs, e, ha, q⟩
theorem sl_f {ds : List PyData} {v : V} (h : SlOk K F H (.f ds) v) : ∃ a vs, v = .ref a ∧ SqL K H a vs ∧ ImAll K F H ds vs := by
  obtain ⟨a, vs, e, n, q⟩ := h
  refine ⟨a, vs, e, ?_, q⟩
  rcases n with ⟨_, o, ha⟩ | w
  · exact .inl (.inr ⟨o, ha⟩)
  · exact .inr w
theorem mu_lst (S : StoOk K m F H) {a : Addr} {ds : List PyData} (h : m a = some (.lst ds)) : ∃ vs, H a = some (.lst vs) ∧ ImAll K F H ds vs := (S.mu a _ h).1
end
/-! ### what is wanted -/
abbrev PV := Sl → Sto → Prop
/-- te gives a slot and a store of which P holds -/
def Ev (K : PySem.W.Frag) (te : TE) (ρ : Rho) (m : Sto) (P : PV) : Prop :=
  ∀ (σ : L2.St) (F : Reg) (H : Hp) (Q : VK), EnvOk K F H ρ σ → StoOk K m F H → (∀ s m' v F' H', P s m' → Step m F H m' F' H' → StoOk K m' F' H' → SlOk K F' H' s v → Q v H') → te σ H Q
def EvA (K : PySem.W.Frag) (ta : TA) (ρ : Rho) (m : Sto) (P : List Sl → Sto → Prop) : Prop :=
  ∀ (σ : L2.St) (F : Reg) (H : Hp) (Q : List V → Hp → Prop), EnvOk K F H ρ σ → StoOk K m F H → (∀ ss m' vs F' H', P ss m' → Step m F H m' F' H' → StoOk K m' F' H' → SlsOk K F' H' ss vs → Q vs H') → ta σ H Q
def EvT (K : PySem.W.Frag) (tt : TT) (ρ : Rho) (m : Sto) (P : Bool → Sto → Prop) : Prop :=
  ∀ (σ : L2.St) (F : Reg) (H : Hp) (Q : Bool → Hp → Prop), EnvOk K F H ρ σ → StoOk K m F H → (∀ b m' F' H', P b m' → Step m F H m' F' H' → StoOk K m' F' H' → Q b H') → tt σ H Q
def EvO (K : PySem.W.Frag) (to : TO) (ρ : Rho) (m : Sto) (P : Option Int → Sto → Prop) : Prop :=
  ∀ (σ : L2.St) (F : Reg) (H : Hp) (Q : Option Int → Hp → Prop), EnvOk K F H ρ σ → StoOk K m F H → (∀ b m' F' H', P b m' → Step m F H m' F' H' → StoOk K m' F' H' → Q b H') → to σ H Q
/-- what follows a value -/
abbrev Then (K : PySem.W.Frag) (m : Sto) (F : Reg) (H : Hp) (P : PV) (Q : VK) : Prop := ∀ s' m' v F' H', P s' m' → Step m F H m' F' H' → StoOk K m' F' H' → SlOk K F' H' s' v → Q v H'
/-- an operation on two, one, several slots; a method -/
def RO (K : PySem.W.Frag) (r : R2) (s t : Sl) (m : Sto) (P : PV) : Prop :=
  ∀ (x y : V) (F : Reg) (H : Hp) (Q : VK), SlOk K F H s x → SlOk K F H t y → StoOk K m F H → Then K m F H P Q → r x y H Q
def RC (K : PySem.W.Frag) (r : List V → Hp → VK → Prop) (ss : List Sl) (m : Sto) (P : PV) : Prop :=
  ∀ (xs : List V) (F : Reg) (H : Hp) (Q : VK), SlsOk K F H ss xs → StoOk K m F H → Then K m F H P Q → r xs H Q
def RM (K : PySem.W.Frag) (r : V → List V → Hp → VK → Prop) (s : Sl) (ss : List Sl) (m : Sto) (P : PV) : Prop :=
  ∀ (x : V) (xs : List V) (F : Reg) (H : Hp) (Q : VK), SlOk K F H s x → SlsOk K F H ss xs → StoOk K m F H → Then K m F H P Q → r x xs H Q
def RSl (K : PySem.W.Frag) (r : V → Option Int → Option Int → Hp → VK → Prop) (s : Sl) (lo hi : Option Int) (m : Sto) (P : PV) : Prop :=
  ∀ (x : V) (F : Reg) (H : Hp) (Q : VK), SlOk K F H s x → StoOk K m F H → Then K m F H P Q → r x lo hi H Q
def TyS (K : PySem.W.Frag) (T : String) (s : Sl) (m : Sto) : Prop := ∀ (x : V) (F : Reg) (H : Hp), SlOk K F H s x → StoOk K m F H → tyV K T x H
/-- a slot's truth -/
def TrS (K : PySem.W.Frag) (s : Sl) (m : Sto) (b : Bool) : Prop := ∀ (x : V) (F : Reg) (H : Hp), SlOk K F H s x → StoOk K m F H → TruV K x H b
structure Ko where
  nx : Rho → Sto → Prop
  rt : PV
  bk : Rho → Sto → Prop := fun _ _ => False
  ct : Rho → Sto → Prop := fun _ _ => False
/-- the statement's ends keep k -/
def Wp (K : PySem.W.Frag) (ts : TS) (ρ : Rho) (m : Sto) (k : Ko) : Prop :=
  ∀ (D : Ends) (σ : L2.St) (F : Reg) (H : Hp), EnvOk K F H ρ σ → StoOk K m F H →
    (∀ ρ' m' σ' F' H', k.nx ρ' m' → Step m F H m' F' H' → StoOk K m' F' H' → EnvOk K F' H' ρ' σ' → D.nx σ' H') →
    (∀ s m' v F' H', k.rt s m' → Step m F H m' F' H' → StoOk K m' F' H' → SlOk K F' H' s v → D.rt v H') →
    (∀ ρ' m' σ' F' H', k.bk ρ' m' → Step m F H m' F' H' → StoOk K m' F' H' → EnvOk K F' H' ρ' σ' → D.bk σ' H') →
    (∀ ρ' m' σ' F' H', k.ct ρ' m' → Step m F H m' F' H' → StoOk K m' F' H' → EnvOk K F' H' ρ' σ' → D.ct σ' H') → ts D σ H
def Gt (K : PySem.W.Frag) (g : TG) (js : List Nat) (s : Sl) (ρ : Rho) (m : Sto) (P : Rho → Sto → Prop) : Prop :=
  ∀ (σ : L2.St) (F : Reg) (H : Hp) (v : V) (Q : L2.St → Hp → Prop), EnvOk K F H ρ σ → StoOk K m F H → SlOk K F H s v →
    (∀ ρ' m' σ' F' H', P ρ' m' → Step m F H m' F' H' → StoOk K m' F' H' → EnvOk K F' H' ρ' σ' → (∀ vs, (∀ j ∈ js, j ∈ vs) → wipe σ' vs = wipe σ vs) → Q σ' H') → g v σ H Q
/-- an iterator over the slots xs, while C holds of the store -/
def EvI (K : PySem.W.Frag) (wi : TI) (ρ : Rho) (m : Sto) (P : List Sl → (Sto → Prop) → Sto → Prop) : Prop :=
  ∀ (σ : L2.St) (F : Reg) (H : Hp) (R : It → Hp → Prop), EnvOk K F H ρ σ → StoOk K m F H →
    (∀ (xs : List Sl) (C : Sto → Prop) (m' : Sto) (F' : Reg) (H' : Hp) (J : It), P xs C m' → Step m F H m' F' H' → StoOk K m' F' H' →
      L2.Walk J xs.length (fun H2 => ∃ m2 F2, C m2 ∧ Step m' F' H' m2 F2 H2 ∧ StoOk K m2 F2 H2)
        (fun i H2 x H3 => ∀ m2 F2, C m2 → Step m' F' H' m2 F2 H2 → StoOk K m2 F2 H2 → ∃ F3, Step m2 F2 H2 m2 F3 H3 ∧ StoOk K m2 F3 H3 ∧ ∃ s, xs[i]? = some s ∧ SlOk K F3 H3 s x) → R J H') → wi σ H R
section
variable {K : PySem.W.Frag} {ρ : Rho} {m : Sto} {P P' : PV} {te ta tb : TE} {t u : TT}
theorem Ev.mono (h : Ev K te ρ m P) (hp : ∀ s m', P s m' → P' s m') : Ev K te ρ m P' := fun σ F H Q E S q => h σ F H Q E S fun s m' v F' H' p => q s m' v F' H' (hp s m' p)
theorem EvT.mono {P P' : Bool → Sto → Prop} (h : EvT K t ρ m P) (hp : ∀ s m', P s m' → P' s m') : EvT K t ρ m P' := fun σ F H Q E S q => h σ F H Q E S fun s m' F' H' p => q s m' F' H' (hp s m' p)
theorem Wp.mono {ts : TS} {k k' : Ko} (h : Wp K ts ρ m k) (h1 : ∀ ρ' m', k.nx ρ' m' → k'.nx ρ' m') (h2 : ∀ s m', k.rt s m' → k'.rt s m') (h3 : ∀ ρ' m', k.bk ρ' m' → k'.bk ρ' m') (h4 : ∀ ρ' m', k.ct ρ' m' → k'.ct ρ' m') : Wp K ts ρ m k' :=
  fun D σ F H E S q1 q2 q3 q4 => h D σ F H E S (fun a b c d f e => q1 a b c d f (h1 _ _ e)) (fun a b c d f e => q2 a b c d f (h2 _ _ e)) (fun a b c d f e => q3 a b c d f (h3 _ _ e)) (fun a b c d f e => q4 a b c d f (h4 _ _ e))
/-! ### names, constants, operations -/
theorem ev_var {i : Nat} {s : Sl} (h : ρ[i]? = some (some s)) (p : P s m) : Ev K (tVar i) ρ m P := fun σ F H Q E S q => by
  obtain ⟨y, e, z⟩ := paired_get E h
  obtain ⟨x, e2, z2⟩ := z s rfl
  subst e2
  exact ⟨x, e, q s m x F H p Step.refl S z2⟩
/-- a list that changes no more -/
theorem ev_varF {i : Nat} {a : Addr} {ds : List PyData} (h : ρ[i]? = some (some (.m a))) (hm : m a = some (.lst ds)) (p : P (.d (.list ds)) (del m a)) : Ev K (tVar i) ρ m P := fun σ F H Q E S q => by
  obtain ⟨y, e, z⟩ := paired_get E h
  obtain ⟨x, e2, z2⟩ := z _ rfl
  subst e2
  obtain rfl : x = .ref a := z2
  exact ⟨_, e, q _ _ _ _ H p (step_del S hm) (sto_del S hm) (im_frozen S hm)⟩
theorem ev_int {i : Int} (p : P (.d (.int i)) m) : Ev K (tC (.int i)) ρ m P := fun σ F H Q E S q => q _ m _ F H p Step.refl S rfl
theorem ev_str {z : Str} (p : P (.d (.str z)) m) : Ev K (tC (.str z)) ρ m P := fun σ F H Q E S q => q _ m _ F H p Step.refl S rfl
theorem ev_bl {b : Bool} (p : P (.d (.bool b)) m) : Ev K (tC (.bl b)) ρ m P := fun σ F H Q E S q => q _ m _ F H p Step.refl S rfl
theorem ev_non (p : P (.d .none) m) : Ev K (tC .non) ρ m P := fun σ F H Q E S q => q _ m _ F H p Step.refl S rfl
theorem ev_raw {x : V} (p : P (.v x) m) : Ev K (tC x) ρ m P := fun σ F H Q E S q => q _ m _ F H p Step.refl S rfl
theorem ev_op {r : R2} (h : Ev K ta ρ m fun s m1 => Ev K tb ρ m1 fun s' m2 => RO K r s s' m2 P) : Ev K (tOp r ta tb) ρ m P := fun σ F H Q E S q =>
  h σ F H _ E S fun s m1 x F1 H1 h1 s1 S1 o1 => h1 σ F1 H1 _ (envOk_step s1 E) S1 fun s' m2 y F2 H2 h2 s2 S2 o2 => h2 x y F2 H2 Q (slOk_step s2 o1) o2 S2 fun z m3 v F3 H3 p s3 S3 o3 => q z m3 v F3 H3 p ((s1.trans s2).trans s3) S3 o3
theorem ea_nil {P : List Sl → Sto → Prop} (p : P [] m) : EvA K tNil ρ m P := fun σ F H Q E S q => q [] m [] F H p Step.refl S .nil
theorem ea_cons {tr : TA} {P : List Sl → Sto → Prop} (h : Ev K ta ρ m fun s m1 => EvA K tr ρ m1 fun ss m2 => P (s :: ss) m2) : EvA K (tCons ta tr) ρ m P := fun σ F H Q E S q =>
  h σ F H _ E S fun s m1 x F1 H1 h1 s1 S1 o1 => h1 σ F1 H1 _ (envOk_step s1 E) S1 fun ss m2 vs F2 H2 p s2 S2 o2 => q _ m2 _ F2 H2 p (s1.trans s2) S2 (.cons (slOk_step s2 o1) o2)
theorem slsOk_im : ∀ {ds : List PyData} {vs : List V} {F : Reg} {H : Hp}, SlsOk K F H (ds.map Sl.d) vs → ImAll K F H ds vs
  | [], _, _, _, .nil => rfl
  | _ :: _, _, _, _, .cons r t => ⟨_, _, rfl, r, slsOk_im t⟩
/-- a tuple is made -/
def tTupZ (t : TA) : TE := fun σ H Q => t σ H fun xs H1 => xs.length ≤ sizeLine ∧ ∀ p ob, H1 p = none → ob.dict = none → Q (.ref p) (upd H1 p (.frz ob (.tup xs)))
theorem inv_tupZ {X : Cx} {pins : List (Addr × Obj)} {σ : L2.St} {H : Hp} {s : Shared} {h' : Heap} {xs : List V} {us : List Value} {tk : Nat} (I : Inv X pins σ H s) (k : ∀ b o, s.heap.get? b = some o → h'.get? b = some o) (z : xs.length ≤ sizeLine) (r : Vals xs us) :
    Inv X pins σ (upd H h'.objs.size (.frz { cls := .type "tuple", data := .seq us.toArray } (.tup xs))) { s with heap := h'.push { cls := .type "tuple", data := .seq us.toArray }, toks := tk } := by
  have I1 : Inv X pins σ H { s with heap := h', toks := tk } := I.kept k
  exact I1.laid (t' := tk) (fun b u e => Heap.get?_push_of_some _ e) (Nat.le_refl _) ⟨Heap.get?_push_size _ rfl, z, us, r, ⟨_, Heap.get?_push_size _ rfl, rfl, _, rfl⟩⟩
theorem pe_tupZ {X : Cx} {es : List Expr} {t : TA} {x1} {pos : Pos} (h : PA X es t) : PE X (.Tuple es x1 pos) (tTupZ t) := by
  constructor
  intro pins s σ H Q I hq
  apply wpAny_Tuple_spliced
  apply thn (h.run pos pins s σ H _ I hq)
  rintro us s1 ⟨xs, H1, I1, r, z, q⟩
  have e := r.length
  refine ⟨e ▸ z, .ref s1.heap.objs.size, _, inv_tupZ (tk := s1.toks) I1 (fun _ _ a => a) z r, rfl, ?_⟩
  exact q _ _ (I1.hok.fresh (Nat.le_refl _)) rfl
theorem ev_tup {tr : TA} (h : EvA K tr ρ m fun ss m1 => ∃ ds : List PyData, ss = ds.map Sl.d ∧ ds.length ≤ 100000 ∧ P (.d (.tuple ds)) m1) : Ev K (tTupZ tr) ρ m P := fun σ F H Q E S q =>
  h σ F H _ E S fun ss m1 vs F1 H1 ⟨ds, e, l, p⟩ s1 S1 o1 => by
    subst e
    have z := slsOk_im o1
    refine ⟨by rw [← imAll_len z, sizeLine_eq]; omega, fun a ob ha hd => ?_⟩
    exact q _ m1 _ _ _ p (s1.trans (step_new S1 ha)) (sto_new S1 ha) ⟨a, vs, rfl, .inl ⟨.inl rfl, ob, upd_same, hd⟩, imAll_fix (step_new S1 ha).fix ds vs z⟩
theorem ev_lst {tr : TA} (h : EvA K tr ρ m fun ss m1 => ∃ ds : List PyData, ss = ds.map Sl.d ∧ ds.length ≤ 100000 ∧ P (.d (.list ds)) m1) : Ev K (tLst tr) ρ m P := fun σ F H Q E S q =>
  h σ F H _ E S fun ss m1 vs F1 H1 ⟨ds, e, l, p⟩ s1 S1 o1 => by
    subst e
    have z := slsOk_im o1
    refine ⟨by rw [← imAll_len z, sizeLine_eq]; omega, fun a ha => ?_⟩
    exact q _ m1 _ _ _ p (s1.trans (step_new S1 ha)) (sto_new S1 ha) ⟨a, vs, rfl, .inl rfl, upd_same, imAll_fix (step_new S1 ha).fix ds vs z⟩
/-- a list that will change -/
theorem ev_lstM {tr : TA} (h : EvA K tr ρ m fun ss m1 => ∃ ds : List PyData, ss = ds.map Sl.d ∧ ds.length ≤ 100000 ∧ ∀ a, m1 a = none → P (.m a) (put m1 a (.lst ds))) : Ev K (tLst tr) ρ m P := fun σ F H Q E S q =>
  h σ F H _ E S fun ss m1 vs F1 H1 ⟨ds, e, l, p⟩ s1 S1 o1 => by
    subst e
    have z := slsOk_im o1
    refine ⟨by rw [← imAll_len z, sizeLine_eq]; omega, fun a ha => ?_⟩
    exact q _ _ _ _ _ (p a (sto_none S1 ha)) (s1.trans (step_newM S1 ha)) (sto_put S1 (not_reg S1 ha) ⟨vs, upd_same, imAll_fix (step_newM (u := .lst ds) S1 ha).fix ds vs z⟩) rfl
/-! ### tests -/
theorem et_test {P : Bool → Sto → Prop} (h : Ev K te ρ m fun s m1 => ∃ b, s = .d (.bool b) ∧ P b m1) : EvT K (tTest te) ρ m P := fun σ F H Q E S q =>
  h σ F H _ E S fun s m1 x F1 H1 ⟨b, e, p⟩ s1 S1 o1 => by
    subst e
    exact ⟨b, o1, q b m1 F1 H1 p s1 S1⟩
theorem et_or {P : Bool → Sto → Prop} (h : EvT K t ρ m fun b m1 => if b = true then P true m1 else EvT K u ρ m1 P) : EvT K (tOr t u) ρ m P := fun σ F H Q E S q =>
  h σ F H _ E S fun b m1 F1 H1 h1 s1 S1 => by
    cases b with
    | false => exact h1 σ F1 H1 Q (envOk_step s1 E) S1 fun b2 m2 F2 H2 p s2 S2 => q b2 m2 F2 H2 p (s1.trans s2) S2
    | true => exact q true m1 F1 H1 h1 s1 S1
theorem et_not {P : Bool → Sto → Prop} (h : EvT K t ρ m fun b m1 => P (!b) m1) : EvT K (tNot t) ρ m P := fun σ F H Q E S q => h σ F H _ E S fun b m1 F1 H1 p s1 S1 => q _ m1 F1 H1 p s1 S1
/-- a value's truth -/
def tTr (K : PySem.W.Frag) (ta : TE) : TT := fun σ H Q => ta σ H fun x H' => ∃ k, TruV K x H' k ∧ Q k H'
theorem pt_tr {X : Cx} {a : Expr} (ha : PE X a ta) (he : ∀ whole, isTrue a X.env whole = (do let v ← whole; standAt a.pos; holding [v] (truthy v)) := by intro _; rfl) : PT X a (tTr X.K ta) := pt_truth ha he
theorem et_tr {P : Bool → Sto → Prop} (h : Ev K te ρ m fun s m1 => ∃ b, TrS K s m1 b ∧ P b m1) : EvT K (tTr K te) ρ m P := fun σ F H Q E S q =>
  h σ F H _ E S fun s m1 x F1 H1 ⟨b, e, p⟩ s1 S1 o1 => ⟨b, e x F1 H1 o1 S1, q b m1 F1 H1 p s1 S1⟩
theorem et_yes {P : Bool → Sto → Prop} (p : P true m) : EvT K tYes ρ m P := fun σ F H Q E S q => q true m F H p Step.refl S
theorem ev_if (h : EvT K t ρ m fun b m1 => if b = true then Ev K ta ρ m1 P else Ev K tb ρ m1 P) : Ev K (tIf t ta tb) ρ m P := fun σ F H Q E S q =>
  h σ F H _ E S fun b m1 F1 H1 h1 s1 S1 => by
    cases b with
    | true => exact h1 σ F1 H1 Q (envOk_step s1 E) S1 fun b2 m2 v F2 H2 p s2 S2 o => q b2 m2 v F2 H2 p (s1.trans s2) S2 o
    | false => exact h1 σ F1 H1 Q (envOk_step s1 E) S1 fun b2 m2 v F2 H2 p s2 S2 o => q b2 m2 v F2 H2 p (s1.trans s2) S2 o
/-! ### calls, methods, slices -/
theorem ev_cb {r : List V → Hp → VK → Prop} {tr : TA} (h : EvA K tr ρ m fun ss m1 => RC K r ss m1 P) : Ev K (tCB r tr) ρ m P := fun σ F H Q E S q =>
  h σ F H _ E S fun ss m1 vs F1 H1 h1 s1 S1 o1 => h1 vs F1 H1 Q o1 S1 fun z m3 v F3 H3 p s3 S3 o3 => q z m3 v F3 H3 p (s1.trans s3) S3 o3
theorem ev_bm {T : String} {r : V → List V → Hp → VK → Prop} {tr : TA} (h : Ev K te ρ m fun s m1 => TyS K T s m1 ∧ EvA K tr ρ m1 fun ss m2 => RM K r s ss m2 P) : Ev K (tBM K T r te tr) ρ m P := fun σ F H Q E S q =>
  h σ F H _ E S fun s m1 x F1 H1 ⟨ty, h1⟩ s1 S1 o1 => ⟨ty x F1 H1 o1 S1, h1 σ F1 H1 _ (envOk_step s1 E) S1 fun ss m2 vs F2 H2 h2 s2 S2 o2 => h2 x vs F2 H2 Q (slOk_step s2 o1) o2 S2 fun z m3 v F3 H3 p s3 S3 o3 => q z m3 v F3 H3 p ((s1.trans s2).trans s3) S3 o3⟩
theorem eo_no {P : Option Int → Sto → Prop} (p : P none m) : EvO K tNoPart ρ m P := fun σ F H Q E S q => q none m F H p Step.refl S
theorem eo_some {P : Option Int → Sto → Prop} (h : Ev K te ρ m fun s m1 => ∃ i, s = .d (.int i) ∧ P (some i) m1) : EvO K (tPart te) ρ m P := fun σ F H Q E S q =>
  h σ F H _ E S fun s m1 x F1 H1 ⟨i, e, p⟩ s1 S1 o1 => by
    subst e
    exact ⟨i, o1, q _ m1 F1 H1 p s1 S1⟩
theorem ev_sl {r : V → Option Int → Option Int → Hp → VK → Prop} {tl th : TO} (h : Ev K te ρ m fun s m1 => EvO K tl ρ m1 fun lo m2 => EvO K th ρ m2 fun hi m3 => RSl K r s lo hi m3 P) : Ev K (tSl r te tl th) ρ m P := fun σ F H Q E S q =>
  h σ F H _ E S fun s m1 x F1 H1 h1 s1 S1 o1 => h1 σ F1 H1 _ (envOk_step s1 E) S1 fun lo m2 F2 H2 h2 s2 S2 => h2 σ F2 H2 _ (envOk_step (s1.trans s2) E) S2 fun hi m3 F3 H3 h3 s3 S3 =>
    h3 x F3 H3 Q (slOk_step (s2.trans s3) o1) S3 fun z m4 v F4 H4 p s4 S4 o4 => q z m4 v F4 H4 p (((s1.trans s2).trans s3).trans s4) S4 o4
/-! ### a def's promise by slots -/
abbrev WT := List Sl → Sto → PV → Prop
def SpD (K : PySem.W.Frag) (W : WT) : Sp := fun vs H Q _ => ∃ (ss : List Sl) (m : Sto) (F : Reg) (P : PV), SlsOk K F H ss vs ∧ StoOk K m F H ∧ W ss m P ∧ Then K m F H P Q
theorem ev_call {W : WT} {dvs : List V} {E0 : XK} {tr : TA} {dss : List Sl} (hd : ∀ F H, SlsOk K F H dss dvs) (h : EvA K tr ρ m fun ss m1 => W (ss ++ dss) m1 P) : Ev K (tCall (SpD K W) dvs E0 tr) ρ m P := fun σ F H Q E S q =>
  h σ F H _ E S fun ss m1 vs F1 H1 w s1 S1 o1 => ⟨ss ++ dss, m1, F1, P, paired_app o1 (hd F1 H1), S1, w, fun s m' v F' H' p s2 S2 o2 => q s m' v F' H' p (s1.trans s2) S2 o2⟩
theorem ev_call0 {W : WT} {E0 : XK} {tr : TA} (h : EvA K tr ρ m fun ss m1 => W ss m1 P) : Ev K (tCall (SpD K W) [] E0 tr) ρ m P := fun σ F H Q E S q =>
  h σ F H _ E S fun ss m1 vs F1 H1 w s1 S1 o1 => ⟨ss, m1, F1, P, by rw [List.append_nil]; exact o1, S1, w, fun s m' v F' H' p s2 S2 o2 => q s m' v F' H' p (s1.trans s2) S2 o2⟩
theorem spD_len {W : WT} {n : Nat} (h : ∀ ss m P, W ss m P → ss.length = n) {vs : List V} {H : Hp} {Q : VK} {E : XK} (w : SpD K W vs H Q E) : vs.length = n := by
  obtain ⟨ss, m, F, P, o, _, w, _⟩ := w
  rw [← paired_len o]
  exact h ss m P w
theorem paired_none {F : Reg} {H : Hp} : ∀ n : Nat, EnvOk K F H (List.replicate n none) (List.replicate n none)
  | 0 => .nil
  | n + 1 => by rw [List.replicate_succ, List.replicate_succ]; exact .cons (fun _ e => nomatch e) (paired_none n)
def rho (N : List Str) (ss : List Sl) : Rho := ss.map some ++ List.replicate (N.length - ss.length) none
theorem envOk_start {F : Reg} {H : Hp} {N : List Str} {ss : List Sl} {vs : List V} (o : SlsOk K F H ss vs) : EnvOk K F H (rho N ss) (L2.start N vs) := by
  unfold rho L2.start
  rw [← paired_len o]
  refine paired_app ?_ (paired_none _)
  induction o with
  | nil => exact .nil
  | cons r t ih => exact .cons (fun sl e => by cases e; exact ⟨_, rfl, r⟩) ih
/-- THE BODY: from the promise to the statement's reading -/
theorem body {W : WT} {N : List Str} {ts : TS} (h : ∀ ss m P, W ss m P → Wp K ts (rho N ss) m { nx := fun _ m' => P (.d .none) m', rt := P }) {vs : List V} {H : Hp} {Q : VK} {E : XK} (w : SpD K W vs H Q E) :
    ts { nx := fun _ H' => Q .non H', rt := Q } (L2.start N vs) H := by
  obtain ⟨ss, m, F, P, o, S, w, q⟩ := w
  exact h ss m P w _ _ F _ (envOk_start o) S (fun ρ' m' σ' F' H' p s1 S1 _ => q _ m' _ F' H' p s1 S1 rfl) q (fun _ _ _ _ _ p => p.elim) (fun _ _ _ _ _ p => p.elim)
/-! ### statements -/
variable {k : Ko} {t1 t2 ts : TS}
theorem wp_at {ts : TS} {D : Ends} {m0 m1 : Sto} {F0 F1 : Reg} {H0 H1 : Hp} {σ : L2.St} {ρ1 : Rho} (s1 : Step m0 F0 H0 m1 F1 H1) (E : EnvOk K F1 H1 ρ1 σ) (S1 : StoOk K m1 F1 H1) (w : Wp K ts ρ1 m1 k)
    (q1 : ∀ ρ' m' σ' F' H', k.nx ρ' m' → Step m0 F0 H0 m' F' H' → StoOk K m' F' H' → EnvOk K F' H' ρ' σ' → D.nx σ' H')
    (q2 : ∀ s m' v F' H', k.rt s m' → Step m0 F0 H0 m' F' H' → StoOk K m' F' H' → SlOk K F' H' s v → D.rt v H')
    (q3 : ∀ ρ' m' σ' F' H', k.bk ρ' m' → Step m0 F0 H0 m' F' H' → StoOk K m' F' H' → EnvOk K F' H' ρ' σ' → D.bk σ' H')
    (q4 : ∀ ρ' m' σ' F' H', k.ct ρ' m' → Step m0 F0 H0 m' F' H' → StoOk K m' F' H' → EnvOk K F' H' ρ' σ' → D.ct σ' H') : ts D σ H1 :=
  w D σ F1 H1 E S1 (fun a b c d f e s2 S2 => q1 a b c d f e (s1.trans s2) S2) (fun a b c d f e s2 S2 => q2 a b c d f e (s1.trans s2) S2) (fun a b c d f e s2 S2 => q3 a b c d f e (s1.trans s2) S2) (fun a b c d f e s2 S2 => q4 a b c d f e (s1.trans s2) S2)
theorem wp_seq (h : Wp K t1 ρ m { k with nx := fun ρ' m' => Wp K t2 ρ' m' k }) : Wp K (tSeq t1 t2) ρ m k := fun D σ F H E S q1 q2 q3 q4 =>
  h { D with nx := t2 D } σ F H E S (fun ρ' m' σ' F' H' w s1 S1 E1 => wp_at (ts := t2) (D := D) s1 E1 S1 w q1 q2 q3 q4) q2 q3 q4
theorem wp_next (h : k.nx ρ m) : Wp K tNext ρ m k := fun D σ F H E S q1 _ _ _ => q1 ρ m σ F H h Step.refl S E
theorem slO_some {F : Reg} {H : Hp} {s : Sl} {v : V} (o : SlOk K F H s v) : SlO K F H (some s) (some v) := fun sl e => by cases e; exact ⟨_, rfl, o⟩
theorem envOk_set {F : Reg} {H : Hp} {σ : L2.St} {s : Sl} {v : V} (E : EnvOk K F H ρ σ) (i : Nat) (o : SlOk K F H s v) : EnvOk K F H (ρ.set i (some s)) (σ.set i (some v)) := paired_set (F := SlO K F H) (slO_some o) i E
theorem wp_set {i : Nat} (h : Ev K te ρ m fun s m1 => k.nx (ρ.set i (some s)) m1) : Wp K (tAsg te (gName i)) ρ m k := fun D σ F H E S q1 _ _ _ =>
  h σ F H _ E S fun s m1 v F1 H1 p s1 S1 o1 => q1 _ m1 _ F1 H1 p s1 S1 (envOk_set (envOk_step s1 E) i o1)
theorem wp_asg {g : TG} (h : Ev K te ρ m fun s m1 => ∃ js, Gt K g js s ρ m1 k.nx) : Wp K (tAsg te g) ρ m k := fun D σ F H E S q1 _ _ _ =>
  h σ F H _ E S fun s m1 v F1 H1 ⟨js, p⟩ s1 S1 o1 => p σ F1 H1 v _ (envOk_step s1 E) S1 o1 fun a b c d f e s2 S2 E2 _ => q1 a b c d f e (s1.trans s2) S2 E2
theorem wp_drop (h : Ev K te ρ m fun _ m1 => k.nx ρ m1) : Wp K (tDrop te) ρ m k := fun D σ F H E S q1 _ _ _ =>
  h σ F H _ E S fun s m1 v F1 H1 p s1 S1 o1 => q1 _ m1 _ F1 H1 p s1 S1 (envOk_step s1 E)
theorem wp_ret (h : Ev K te ρ m k.rt) : Wp K (tRet te) ρ m k := fun D σ F H E S _ q2 _ _ => h σ F H _ E S q2
theorem wp_if (h : EvT K t ρ m fun b m1 => if b = true then Wp K t1 ρ m1 k else Wp K t2 ρ m1 k) : Wp K (tIfS t t1 t2) ρ m k := fun D σ F H E S q1 q2 q3 q4 =>
  h σ F H _ E S fun b m1 F1 H1 w s1 S1 => by
    cases b with
    | true => exact wp_at s1 (envOk_step s1 E) S1 w q1 q2 q3 q4
    | false => exact wp_at s1 (envOk_step s1 E) S1 w q1 q2 q3 q4
theorem wp_never (h : False) : Wp K tNever ρ m k := h.elim
/-! ### targets -/
theorem wipe_set {σ : L2.St} {j : Nat} {v : Option V} : ∀ {vs : List Nat}, j ∈ vs → wipe (σ.set j v) vs = wipe σ vs
  | [], h => by simp at h
  | a :: vs, h => by
    unfold wipe
    by_cases e : j ∈ vs
    · rw [wipe_set e]
    · have ej : j = a := by
        rcases List.mem_cons.mp h with h | h
        · exact h
        · exact absurd h e
      subst ej
      clear h
      have key : ∀ {ws : List Nat}, j ∉ ws → (wipe (σ.set j v) ws).set j none = (wipe σ ws).set j none := by
        intro ws
        induction ws with
        | nil =>
          intro _
          show (σ.set j v).set j none = σ.set j none
          rw [List.set_set]
        | cons b ws ih =>
          intro hn
          have hb : b ≠ j := fun q => hn (by rw [q]; exact List.mem_cons_self)
          have hw : j ∉ ws := fun q => hn (List.mem_cons_of_mem _ q)
          show ((wipe (σ.set j v) ws).set b none).set j none = ((wipe σ ws).set b none).set j none
          rw [List.set_comm _ _ hb, ih hw, List.set_comm _ _ (Ne.symm hb)]
      exact key e
theorem gt_name {i : Nat} {s : Sl} {P : Rho → Sto → Prop} (h : P (ρ.set i (some s)) m) : Gt K (gName i) [i] s ρ m P := fun σ F H v Q E S o q =>
  q _ m _ F H h Step.refl S (envOk_set E i o) fun vs hj => wipe_set (hj i (by simp))
/-- a, b = a pair -/
theorem gt_pair {i j : Nat} {x y : PyData} {P : Rho → Sto → Prop} (h : P ((ρ.set i (some (.d x))).set j (some (.d y))) m) : Gt K (gTup K 2 (gCons (gName i) (gCons (gName j) gNil))) [i, j] (.d (.tuple [x, y])) ρ m P := fun σ F H v Q E S o q => by
  obtain ⟨a, vs, e, sq, z⟩ := im_tup o
  have z2 : ∃ v1 v2, vs = [v1, v2] ∧ Im K F H x v1 ∧ Im K F H y v2 := by
    obtain ⟨v1, r, e1, h1, w, r2, e2, h2, e3⟩ := z
    have e3' : r2 = [] := e3
    subst e1 e2 e3'
    exact ⟨v1, w, rfl, h1, h2⟩
  obtain ⟨v1, v2, ev, i1, i2⟩ := z2
  subst ev e
  refine ⟨a, [v1, v2], rfl, sq, rfl, v1, [v2], rfl, v2, [], rfl, rfl, ?_⟩
  refine q _ m _ F H h Step.refl S (envOk_set (s := .d y) (envOk_set (s := .d x) E i i1) j i2) fun vs hj => ?_
  rw [wipe_set (hj j (by simp)), wipe_set (hj i (by simp))]
theorem gt_pairP {i j : Nat} {x y : PyData} {P : Rho → Sto → Prop} (h : P ((ρ.set i (some (.d x))).set j (some (.d y))) m) : Gt K (gTup K 2 (gCons (gName i) (gCons (gName j) gNil))) [i, j] (.p x y) ρ m P := fun σ F H v Q E S o q => by
  obtain ⟨a, v1, v2, e, _, ha, i1, i2⟩ := o
  subst e
  refine ⟨a, [v1, v2], rfl, SqT.of ha, rfl, v1, [v2], rfl, v2, [], rfl, rfl, ?_⟩
  refine q _ m _ F H h Step.refl S (envOk_set (s := .d y) (envOk_set (s := .d x) E i i1) j i2) fun vs hj => ?_
  rw [wipe_set (hj j (by simp)), wipe_set (hj i (by simp))]
def wipeR (ρ : Rho) : List Nat → Rho
  | [] => ρ
  | v :: vs => (wipeR ρ vs).set v none
theorem envOk_wipe {F : Reg} {H : Hp} {σ : L2.St} (E : EnvOk K F H ρ σ) : ∀ vs : List Nat, EnvOk K F H (wipeR ρ vs) (wipe σ vs)
  | [] => E
  | v :: vs => paired_set (F := SlO K F H) (x := none) (y := none) (fun _ e => nomatch e) v (envOk_wipe E vs)
/-! ### loops -/
/-- an invariant by the turn, the names and the store -/
theorem wp_for {wi : TI} {g : TG} (h : EvI K wi ρ m fun xs C m1 => ∃ Iv : Nat → Rho → Sto → Prop, Iv 0 ρ m1 ∧ (∀ i ρ' m', Iv i ρ' m' → C m') ∧
      (∀ i x ρ' m', xs[i]? = some x → Iv i ρ' m' → ∃ js, Gt K g js x ρ' m' fun ρ2 m2 => Wp K ts ρ2 m2 { k with nx := Iv (i + 1), ct := Iv (i + 1), bk := k.nx }) ∧ ∀ ρ' m', Iv xs.length ρ' m' → k.nx ρ' m') :
    Wp K (tFor wi g ts) ρ m k := fun D σ F H E S q1 q2 q3 q4 =>
  h σ F H _ E S fun xs C m1 F1 H1 J ⟨Iv, h0, hC, hs, hd⟩ s1 S1 w => by
    refine for_it w (fun i σ' H' => ∃ ρ' m' F', Iv i ρ' m' ∧ Step m1 F1 H1 m' F' H' ∧ StoOk K m' F' H' ∧ EnvOk K F' H' ρ' σ') ⟨ρ, m1, F1, h0, Step.refl, S1, envOk_step s1 E⟩ (fun i σ' H' _ ⟨ρ', m', F', a, b, c, d⟩ => ⟨m', F', hC i ρ' m' a, b, c⟩) ?_
      (fun σ' H' ⟨ρ', m', F', a, b, c, d⟩ => q1 ρ' m' σ' F' H' (hd ρ' m' a) (s1.trans b) c d)
    rintro i x σ' H' H2 hi ⟨ρ', m', F', a, b, c, d⟩ y
    obtain ⟨F2, s2, S2, sl, hx, o2⟩ := y m' F' (hC i ρ' m' a) b c
    obtain ⟨js, gt⟩ := hs i sl ρ' m' hx a
    refine gt σ' F2 H2 x _ (envOk_step s2 d) S2 o2 fun ρ3 m3 σ3 F3 H3 wp s3 S3 E3 _ => ?_
    have st : Step m1 F1 H1 m3 F3 H3 := (b.trans s2).trans s3
    exact wp _ σ3 F3 H3 E3 S3 (fun a' b' c' f' d' e s4 S4 E4 => ⟨a', b', f', e, st.trans s4, S4, E4⟩) (fun a b c d f e s4 S4 => q2 a b c d f e ((s1.trans st).trans s4) S4) (fun a b c d f e s4 S4 E4 => q1 a b c d f e ((s1.trans st).trans s4) S4 E4) (fun a' b' c' f' d' e s4 S4 E4 => ⟨a', b', f', e, st.trans s4, S4, E4⟩)
/-- the list that a comprehension fills: not known to the block -/
structure Fill (K : PySem.W.Frag) (D : Addr) (m1 : Sto) (F1 : Reg) (H1 : Hp) (acc : List PyData) (m' : Sto) (F' : Reg) (H' : Hp) : Prop where
  st : Step m1 F1 H1 m' F' H'
  so : StoOk K m' F' H'
  at_ : ∃ us, H' D = some (.lst us) ∧ ImAll K F' H' acc us
  nF : ¬ F' D
  nm : m' D = none
theorem Fill.start {D : Addr} {m1 : Sto} {F1 : Reg} {H1 : Hp} (S : StoOk K m1 F1 H1) (hD : H1 D = none) : Fill K D m1 F1 H1 [] m1 F1 (upd H1 D (.lst [])) where
  st := ⟨fix_upd S (not_reg S hD), fun a o ha n k => ⟨by rw [upd_ne (ne_of_none ha hD)]; exact ha, n, k⟩⟩
  so := ⟨fun a u e => ⟨muOk_fix (fix_upd S (not_reg S hD)) (fun o q => by rw [upd_ne (ne_of_none q hD)]; exact q) (S.mu a u e).1, (S.mu a u e).2⟩, fun a z => by
    by_cases e : a = D
    · rw [e, upd_same]; simp
    · rw [upd_ne e]; exact S.reg a z⟩
  at_ := ⟨[], upd_same, rfl⟩
  nF := not_reg S hD
  nm := sto_none S hD
theorem Fill.step {D : Addr} {m1 m2 m3 : Sto} {F1 F2 F3 : Reg} {H1 H2 H3 : Hp} {acc : List PyData} (f : Fill K D m1 F1 H1 acc m2 F2 H2) (s : Step m2 F2 H2 m3 F3 H3) (S : StoOk K m3 F3 H3) : Fill K D m1 F1 H1 acc m3 F3 H3 := by
  obtain ⟨us, e, i⟩ := f.at_
  obtain ⟨a, b, c⟩ := s.frm D _ e f.nF f.nm
  exact ⟨f.st.trans s, S, ⟨us, a, imAll_fix s.fix _ _ i⟩, b, c⟩
theorem Fill.add {D : Addr} {m1 m2 : Sto} {F1 F2 : Reg} {H1 H2 : Hp} {acc : List PyData} {us : List V} {d : PyData} {v : V} (hD : H1 D = none) (f : Fill K D m1 F1 H1 acc m2 F2 H2) (e : H2 D = some (.lst us)) (iu : ImAll K F2 H2 acc us) (i : Im K F2 H2 d v) :
    Fill K D m1 F1 H1 (acc ++ [d]) m2 F2 (upd H2 D (.lst (us ++ [v]))) where
  st := ⟨fun a o ha n => by
      obtain ⟨x, y⟩ := f.st.fix a o ha n
      exact ⟨by rw [upd_ne (ne_of_none ha hD)]; exact x, y⟩, fun a o ha n k => by
      obtain ⟨x, y, z⟩ := f.st.frm a o ha n k
      exact ⟨by rw [upd_ne (ne_of_none ha hD)]; exact x, y, z⟩⟩
  so := ⟨fun a u ea => by
      have ne : a ≠ D := fun q => by rw [q, f.nm] at ea; cases ea
      exact ⟨muOk_fix (fix_upd f.so f.nF) (fun o q => by rw [upd_ne ne]; exact q) (f.so.mu a u ea).1, (f.so.mu a u ea).2⟩, fun a z => by
    by_cases e : a = D
    · rw [e, upd_same]; simp
    · rw [upd_ne e]; exact f.so.reg a z⟩
  at_ := ⟨us ++ [v], upd_same, imAll_fix (fix_upd f.so f.nF) _ _ (imAll_app iu (imAll_one i))⟩
  nF := f.nF
  nm := f.nm
theorem Fill.done {D : Addr} {m1 m2 : Sto} {F1 F2 : Reg} {H1 H2 : Hp} {acc : List PyData} (hD : H1 D = none) (f : Fill K D m1 F1 H1 acc m2 F2 H2) :
    Step m1 F1 H1 m2 (Dv.add F2 D) H2 ∧ StoOk K m2 (Dv.add F2 D) H2 ∧ Im K (Dv.add F2 D) H2 (.list acc) (.ref D) := by
  obtain ⟨us, e, i⟩ := f.at_
  refine ⟨⟨fun a o ha n => ⟨(f.st.fix a o ha n).1, .inr (f.st.fix a o ha n).2⟩, fun a o ha n k => ?_⟩, ⟨fun a u ea => ?_, fun a z => ?_⟩, D, us, rfl, .inl rfl, e, imAll_fix (fun a o ha n => ⟨ha, .inr n⟩) _ _ i⟩
  · obtain ⟨x, y, z⟩ := f.st.frm a o ha n k
    exact ⟨x, fun q => q.elim (ne_of_none ha hD) y, z⟩
  · have ne : a ≠ D := fun q => by rw [q, f.nm] at ea; cases ea
    exact ⟨muOk_fix (fun a o ha n => ⟨ha, .inr n⟩) (fun o q => q) (f.so.mu a u ea).1, fun q => q.elim ne (f.so.mu a u ea).2⟩
  · rcases z with z | z
    · rw [z, e]; simp
    · exact f.so.reg a z
/-- a comprehension -/
theorem ev_lc {wi : TI} {g : TG} {vs : List Nat} (h : EvI K wi ρ m fun xs C m1 => ∃ Iv : Nat → List PyData → Sto → Prop, Iv 0 [] m1 ∧ (∀ i acc m', Iv i acc m' → C m') ∧
      (∀ i x acc m', xs[i]? = some x → Iv i acc m' → acc.length < 100000 ∧ ∃ js, (∀ j ∈ js, j ∈ vs) ∧ Gt K g js x (wipeR ρ vs) m' fun ρ2 m2 => EvT K t ρ2 m2 fun b m3 => if b = true then Ev K te ρ2 m3 (fun y m4 => ∃ d, y = .d d ∧ Iv (i + 1) (acc ++ [d]) m4) else Iv (i + 1) acc m3) ∧
      ∀ acc m', Iv xs.length acc m' → P (.d (.list acc)) m') : Ev K (tLc wi g t te vs) ρ m P := fun σ F H Q E S q =>
  h σ F H _ E S fun xs C m1 F1 H1 J ⟨Iv, h0, hC, hs, hd⟩ s1 S1 w => by
    intro D hD
    refine lc_it w (fun i H' => ∃ acc m' F', Iv i acc m' ∧ Fill K D m1 F1 H1 acc m' F' H') ⟨[], m1, F1, h0, Fill.start S1 hD⟩ (fun i H' _ ⟨acc, m', F', a, f⟩ => ⟨m', F', hC _ _ _ a, f.st, f.so⟩) ?_ (fun H' ⟨acc, m', F', a, f⟩ => ?_)
    · rintro i x H' H2 hi ⟨acc, m', F', a, f⟩ y
      obtain ⟨F2, s2, S2, sl, hx, o2⟩ := y m' F' (hC i acc m' a) f.st f.so
      have f2 := f.step s2 S2
      obtain ⟨hlen, js, hj, gt⟩ := hs i sl acc m' hx a
      have E2 : EnvOk K F2 H2 (wipeR ρ vs) (wipe σ vs) := envOk_step (s1.trans f2.st) (envOk_wipe E vs)
      refine gt (wipe σ vs) F2 H2 x _ E2 S2 o2 fun ρ3 m3 σ3 F3 H3 et s3 S3 E3 hw => ⟨?_, ?_⟩
      · have := hw vs hj
        rw [this]
        have ww : ∀ us : List Nat, (∀ j ∈ us, j ∈ vs) → wipe (wipe σ us) vs = wipe σ vs := by
          intro us
          induction us with
          | nil => intro _; rfl
          | cons b us ih =>
            intro hu
            show wipe ((wipe σ us).set b none) vs = wipe σ vs
            rw [wipe_set (hu b List.mem_cons_self)]
            exact ih fun j z => hu j (List.mem_cons_of_mem _ z)
        exact ww vs fun j z => z
      · have f3 := f2.step s3 S3
        refine et σ3 F3 H3 _ E3 S3 fun b m4 F4 H4 ev s4 S4 => ?_
        have f4 := f3.step s4 S4
        cases b with
        | false =>
          rw [if_neg Bool.false_ne_true] at ev
          rw [if_neg Bool.false_ne_true]
          exact ⟨acc, m4, F4, ev, f4⟩
        | true =>
          rw [if_pos rfl] at ev
          rw [if_pos rfl]
          refine ev σ3 F4 H4 _ (envOk_step s4 E3) S4 fun s m5 v F5 H5 ⟨d, es, iv⟩ s5 S5 o5 => ?_
          subst es
          have f5 := f4.step s5 S5
          obtain ⟨us, eD, iu⟩ := f5.at_
          refine ⟨us, eD, ?_, acc ++ [d], m5, F5, iv, f5.add hD eD iu o5⟩
          rw [← imAll_len iu, sizeLine_eq]
          omega
    · obtain ⟨a1, a2, a3⟩ := f.done hD
      exact q _ _ _ _ H' (hd _ _ a) (s1.trans a1) a2 a3
end
end Dv
namespace Dv
open PySem L2
section
variable {K : PySem.W.Frag} {ρ : Rho} {m : Sto} {P P' : PV} {r r' : R2} {s t : Sl}
def ro2 (r r' : R2) : R2 := fun x y H Q => r x y H Q ∨ r' x y H Q
theorem ro_l (h : RO K r s t m P) : RO K (ro2 r r') s t m P := fun x y F H Q a b S q => .inl (h x y F H Q a b S q)
theorem ro_r (h : RO K r' s t m P) : RO K (ro2 r r') s t m P := fun x y F H Q a b S q => .inr (h x y F H Q a b S q)
def rc2 (r r' : List V → Hp → VK → Prop) : List V → Hp → VK → Prop := fun xs H Q => r xs H Q ∨ r' xs H Q
theorem rc_l {r r' : List V → Hp → VK → Prop} {ss : List Sl} (h : RC K r ss m P) : RC K (rc2 r r') ss m P := fun xs F H Q a S q => .inl (h xs F H Q a S q)
/-! ### ints -/
theorem ro_i0 {g : Int → Int → Int} {i j : Int} (p : P (.d (.int (g i j))) m) : RO K (rI0 fun i j => .int (g i j)) (.d (.int i)) (.d (.int j)) m P := fun x y F H Q a b S q => ⟨i, j, a, b, q _ m _ F H p Step.refl S rfl⟩
theorem ro_b0 {g : Int → Int → Bool} {i j : Int} (p : P (.d (.bool (g i j))) m) : RO K (rI0 fun i j => .bl (g i j)) (.d (.int i)) (.d (.int j)) m P := fun x y F H Q a b S q => ⟨i, j, a, b, q _ m _ F H p Step.refl S rfl⟩
theorem ro_i {C : Int → Int → Prop} {g : Int → Int → Int} {i j : Int} (c : C i j) (p : P (.d (.int (g i j))) m) : RO K (rI C fun i j => .int (g i j)) (.d (.int i)) (.d (.int j)) m P := fun x y F H Q a b S q => ⟨i, j, a, b, c, q _ m _ F H p Step.refl S rfl⟩
/-! ### + -/
/-- t + u of tuples -/
def rCatZ (K : PySem.W.Frag) : R2 := fun x y H Q => ∃ a b xs ys, x = .ref a ∧ y = .ref b ∧ SqT K H a xs ∧ SqT K H b ys ∧ xs.length + ys.length ≤ sizeLine ∧
  (xs = [] → Q (.ref b) H) ∧ (xs ≠ [] → ys = [] → Q (.ref a) H) ∧ (xs ≠ [] → ys ≠ [] → ∀ p ob, H p = none → ob.dict = none → Q (.ref p) (upd H p (.frz ob (.tup (xs ++ ys)))))
theorem op_catZ {X : Cx} : OpR X (binaryOp .Add) (rCatZ X.K) := by
  rintro pins s σ H x y v u Q I rx ry ⟨a, b, xs, ys, rfl, rfl, ha, hb, hz, q0, q1, q2⟩
  cases rx
  cases ry
  obtain ⟨its, r1, p1, _⟩ := I.tuple ha
  obtain ⟨its2, r2, p2, _⟩ := I.tuple hb
  have l1 := r1.length
  have l2 := r2.length
  by_cases hx : xs = []
  · subst hx
    cases r1
    exact L2.cat_tup0 p1 p2 ⟨.ref b, H, I, rfl, q0 rfl⟩
  · have hi : its ≠ [] := fun e => hx (by subst e; exact List.length_eq_zero_iff.mp l1)
    refine HT.cat_tup p1 p2 hi (fun e => ⟨.ref a, H, I, rfl, q1 hx (by subst e; exact List.length_eq_zero_iff.mp l2)⟩) (fun e => ?_) (by omega)
    refine ⟨.ref s.heap.objs.size, _, inv_tupZ (tk := s.toks) I (fun _ _ a => a) (xs := xs ++ ys) (by rw [List.length_append]; exact hz) (r1.append r2), rfl, ?_⟩
    exact q2 hx (fun z => e (by subst z; exact List.length_eq_zero_iff.mp l2.symm)) _ _ (I.hok.fresh (Nat.le_refl _)) rfl
abbrev rAdd0 : R2 := rI0 fun i j => .int (i + j)
def rAddStr : R2 := fun x y H Q => ∃ i j, x = .str i ∧ y = .str j ∧ i.length + j.length ≤ sizeLine ∧ Q (.str (i ++ j)) H
def rAddU (K : PySem.W.Frag) : R2 := ro2 rAdd0 (ro2 rAddStr (ro2 rCat (rCatZ K)))
theorem op_addU {X : Cx} : OpR X (binaryOp .Add) (rAddU X.K) := op_add.or (op_add_str.or (op_cat.or op_catZ))
theorem ra_int {i j : Int} (p : P (.d (.int (i + j))) m) : RO K (rAddU K) (.d (.int i)) (.d (.int j)) m P := ro_l (ro_i0 p)
theorem ra_str {x y : Str} (h : x.length + y.length ≤ 100000) (p : P (.d (.str (x ++ y))) m) : RO K (rAddU K) (.d (.str x)) (.d (.str y)) m P := ro_r (ro_l fun u v F H Q a b S q => ⟨x, y, a, b, by rw [sizeLine_eq]; omega, q _ m _ F H p Step.refl S rfl⟩)
/-- what a new object is behind -/
theorem then_new {F : Reg} {H : Hp} {Q : VK} {d : PyData} {o : HO} (S : StoOk K m F H) (p : P (.d d) m) (q : Then K m F H P Q) {a : Addr} (ha : H a = none) (i : Im K (add F a) (upd H a o) d (.ref a)) : Q (.ref a) (upd H a o) :=
  q _ m _ _ _ p (step_new S ha) (sto_new S ha) i
theorem ra_lst {ds es : List PyData} (h : ds.length + es.length ≤ 100000) (p : P (.d (.list (ds ++ es))) m) : RO K (rAddU K) (.d (.list ds)) (.d (.list es)) m P := ro_r (ro_r (ro_l fun u v F H Q a b S q => by
  obtain ⟨l, xs, e1, h1, i1⟩ := im_lst a
  obtain ⟨l2, ys, e2, h2, i2⟩ := im_lst b
  have z1 := imAll_len i1
  have z2 := imAll_len i2
  refine ⟨l, l2, xs, ys, e1, e2, h1, h2, by rw [sizeLine_eq]; omega, fun c hc => ?_⟩
  exact then_new S p q hc ⟨c, _, rfl, .inl rfl, upd_same, imAll_fix (step_new S hc).fix _ _ (imAll_app i1 i2)⟩))
theorem im_nil_t {F : Reg} {H : Hp} {ds : List PyData} {vs : List V} (h : ImAll K F H ds vs) : vs = [] ↔ ds = [] := by
  have := imAll_len h
  cases ds <;> cases vs <;> simp_all
theorem ra_tup {ds es : List PyData} (h : ds.length + es.length ≤ 100000) (p : P (.d (.tuple (ds ++ es))) m) : RO K (rAddU K) (.d (.tuple ds)) (.d (.tuple es)) m P := ro_r (ro_r (ro_r fun u v F H Q a b S q => by
  obtain ⟨l, xs, e1, h1, i1⟩ := im_tup a
  obtain ⟨l2, ys, e2, h2, i2⟩ := im_tup b
  have z1 := imAll_len i1
  have z2 := imAll_len i2
  refine ⟨l, l2, xs, ys, e1, e2, h1, h2, by rw [sizeLine_eq]; omega, fun e => ?_, fun _ e => ?_, fun _ _ c ob hc hd => ?_⟩
  · have : ds = [] := (im_nil_t i1).mp e
    subst this
    subst e2
    exact q _ m _ F H p Step.refl S b
  · have : es = [] := (im_nil_t i2).mp e
    subst this
    subst e1
    rw [List.append_nil] at p
    exact q _ m _ F H p Step.refl S a
  · exact then_new S p q hc ⟨c, _, rfl, .inl ⟨.inl rfl, ob, upd_same, hd⟩, imAll_fix (step_new S hc).fix _ _ (imAll_app i1 i2)⟩))
/-! ### -, *, //, %, ** -/
theorem rs_int {i j : Int} (p : P (.d (.int (i - j))) m) : RO K (rI0 fun i j => .int (i - j)) (.d (.int i)) (.d (.int j)) m P := ro_i0 p
def rMulStr : R2 := fun x y H Q => ∃ z n, x = .str z ∧ y = .int n ∧ 0 ≤ n ∧ n ≤ 1000 ∧ z.length ≤ 1000 ∧ Q (.str (Txt.mul z n)) H
theorem op_mul_str {X : Cx} : OpR X (binaryOp .Mult) rMulStr := by
  intro pins s σ H x y v u Q I rx ry h
  obtain ⟨z, n, rfl, rfl, h0, h1, h2, q⟩ := h
  obtain ⟨t, rfl⟩ := rx
  obtain ⟨t', rfl⟩ := ry
  refine PySem.SB.mul ⟨by simp; omega, fun a _ => ?_, fun a _ => ?_⟩ fun t' k => ⟨.str _, H, I.tok _, ⟨_, rfl⟩, q⟩
  · have : (1000 : Int) ≤ (2 ^ 63 - 1) / n := by
      have : (2 ^ 63 - 1 : Int) / 1000 ≤ (2 ^ 63 - 1) / n := by
        apply Int.le_ediv_of_mul_le (by omega)
        have : (2 ^ 63 - 1 : Int) / 1000 * n ≤ (2 ^ 63 - 1 : Int) / 1000 * 1000 := Int.mul_le_mul_of_nonneg_left h1 (by decide)
        refine Int.le_trans this (by decide)
      refine Int.le_trans (by decide) this
    omega
  · have : z.length * n.toNat ≤ 1000 * 1000 := Nat.mul_le_mul h2 (by omega)
    unfold Builtin.Str.tooLong
    simp [sizeLine_eq] <;> omega
def rMulU : R2 := ro2 (rI CMulW fun i j => .int (i * j)) (ro2 rMulStr rRep)
theorem op_mulU {X : Cx} : OpR X (binaryOp .Mult) rMulU := op_mulW.or (op_mul_str.or op_rep)
theorem rm_int {i j : Int} (c : CMulW i j) (p : P (.d (.int (i * j))) m) : RO K rMulU (.d (.int i)) (.d (.int j)) m P := ro_l (ro_i c p)
theorem rm_str {z : Str} {n : Int} (h0 : 0 ≤ n) (h1 : n ≤ 1000) (h2 : z.length ≤ 1000) (p : P (.d (.str (Txt.mul z n))) m) : RO K rMulU (.d (.str z)) (.d (.int n)) m P := ro_r (ro_l fun u v F H Q a b S q => ⟨z, n, a, b, h0, h1, h2, q _ m _ F H p Step.refl S rfl⟩)
theorem imAll_rep {F : Reg} {H : Hp} {ds : List PyData} {vs : List V} (i : ImAll K F H ds vs) : ∀ k : Nat, ImAll K F H (List.replicate k ds).flatten (List.replicate k vs).flatten
  | 0 => rfl
  | k + 1 => by
    rw [List.replicate_succ, List.replicate_succ, List.flatten_cons, List.flatten_cons]
    exact imAll_app i (imAll_rep i k)
theorem rm_lst {ds : List PyData} {n : Int} (h0 : 0 ≤ n) (h1 : n ≤ 1000) (h2 : ds.length ≤ 1000) (p : P (.d (.list (List.replicate n.toNat ds).flatten)) m) : RO K rMulU (.d (.list ds)) (.d (.int n)) m P := ro_r (ro_r fun u v F H Q a b S q => by
  obtain ⟨l, xs, e1, hl, i1⟩ := im_lst a
  have z1 := imAll_len i1
  have : xs.length * n.toNat ≤ 1000 * 1000 := Nat.mul_le_mul (by omega) (by omega)
  refine ⟨l, n, xs, e1, b, hl, by omega, by omega, by rw [sizeLine_eq]; omega, fun c hc => ?_⟩
  exact then_new S p q hc ⟨c, _, rfl, .inl rfl, upd_same, imAll_fix (step_new S hc).fix _ _ (imAll_rep i1 _)⟩)
theorem rd_int {i j : Int} (c : CDivW i j) (p : P (.d (.int (i / j))) m) : RO K (rI CDivW fun i j => .int (i / j)) (.d (.int i)) (.d (.int j)) m P := ro_i c p
theorem rp_mod {i j : Int} (c : 0 < j) (p : P (.d (.int (i % j))) m) : RO K (rI (fun _ j => 0 < j) fun i j => .int (i % j)) (.d (.int i)) (.d (.int j)) m P := ro_i c p
def CPowW (i j : Int) : Prop := 0 ≤ j ∧ (Builtin.Int.intBits i : Int) * j ≤ 2 ^ 27
theorem op_powW {X : Cx} : OpR X (binaryOp .Pow) (rI CPowW fun i j => .int (i ^ j.toNat)) := opI fun _ _ _ _ _ _ _ hc q => PyProof.Rows.pow_int hc.1 hc.2 q
theorem powW {i j : Int} {b : Nat} (hb : i.natAbs < 2 ^ b) (h0 : 0 < b) (hj : 0 ≤ j) (h : j ≤ 1000) (hb2 : b ≤ 100000) : CPowW i j := by
  refine ⟨hj, ?_⟩
  have x := PySem.Flt.log2_lt_of h0 hb
  have y : Builtin.Int.intBits i ≤ 100000 := by
    unfold Builtin.Int.intBits
    split <;> omega
  have : (Builtin.Int.intBits i : Int) * j ≤ 100000 * 1000 := Int.mul_le_mul (by omega) h hj (by omega)
  refine Int.le_trans this (by decide)
theorem rp_pow {i j : Int} (c : CPowW i j) (p : P (.d (.int (i ^ j.toNat))) m) : RO K (rI CPowW fun i j => .int (i ^ j.toNat)) (.d (.int i)) (.d (.int j)) m P := ro_i c p
/-! ### == and its kin -/
theorem slot_dp {F : Reg} {H : Hp} {d : PyData} {x : V} (h : SlOk K F H (.d d) x) : Dp K H x d := im_dp d x h
def rEqU (K : PySem.W.Frag) : R2 := ro2 (rEqD K) rEq
def rNeU (K : PySem.W.Frag) : R2 := ro2 (rNeD K) rNe
theorem op_eqU {X : Cx} (hu : X.A.units + 64 < cLine) : OpR X (compareOp .Eq) (rEqU X.K) := (op_eqD hu).or op_eq
theorem op_neU {X : Cx} (hu : X.A.units + 64 < cLine) : OpR X (compareOp .NotEq) (rNeU X.K) := (op_neD hu).or op_ne
theorem re_eqS {a b : Str} (p : P (.d (.bool (decide (a = b)))) m) : RO K (rEqU K) (.d (.str a)) (.d (.str b)) m P := ro_r fun x y F H Q u v S q => by
  cases (show x = .str a from u)
  cases (show y = .str b from v)
  refine ⟨rfl, q _ m _ F H p Step.refl S ?_⟩
  show V.bl _ = V.bl _
  by_cases h : a = b
  · subst h; simp
  · simp [h]
theorem re_neS {a b : Str} (p : P (.d (.bool (!decide (a = b)))) m) : RO K (rNeU K) (.d (.str a)) (.d (.str b)) m P := ro_r fun x y F H Q u v S q => by
  cases (show x = .str a from u)
  cases (show y = .str b from v)
  refine ⟨rfl, q _ m _ F H p Step.refl S ?_⟩
  show V.bl _ = V.bl _
  by_cases h : a = b
  · subst h; simp
  · simp [h]
theorem re_eq {d e : PyData} (hd : SeqAt.shaped d = true) (he : SeqAt.shaped e = true) (p : P (.d (.bool (PyData.eqv d e))) m) : RO K (rEqU K) (.d d) (.d e) m P := ro_l fun x y F H Q a b S q => ⟨d, e, slot_dp a, slot_dp b, hd, he, q _ m _ F H p Step.refl S rfl⟩
theorem re_ne {d e : PyData} (hd : SeqAt.shaped d = true) (he : SeqAt.shaped e = true) (p : P (.d (.bool (!PyData.eqv d e))) m) : RO K (rNeU K) (.d d) (.d e) m P := ro_l fun x y F H Q a b S q => ⟨d, e, slot_dp a, slot_dp b, hd, he, q _ m _ F H p Step.refl S rfl⟩
theorem rl_lt {i j : Int} (p : P (.d (.bool (decide (i < j)))) m) : RO K (rI0 fun i j => .bl (decide (i < j))) (.d (.int i)) (.d (.int j)) m P := ro_b0 p
theorem rl_gt {i j : Int} (p : P (.d (.bool (decide (j < i)))) m) : RO K (rI0 fun i j => .bl (decide (j < i))) (.d (.int i)) (.d (.int j)) m P := ro_b0 p
def isNone : PyData → Bool
  | .none => true
  | _ => false
theorem im_none {F : Reg} {H : Hp} {d : PyData} {x : V} (h : Im K F H d x) : decide (x = .non) = isNone d := by
  cases d with
  | none => cases (show x = .non from h); rfl
  | bool b => cases (show x = .bl b from h); rfl
  | int b => cases (show x = .int b from h); rfl
  | str b => cases (show x = .str b from h); rfl
  | list ds => obtain ⟨a, vs, e, _⟩ := h; subst e; rfl
  | tuple ds => obtain ⟨a, vs, e, _⟩ := h; subst e; rfl
  | dict ds => exact False.elim h
abbrev rNotN0 : R2 := fun x y H Q => y = .non ∧ Q (.bl (!decide (x = .non))) H
theorem rn_not {d : PyData} (p : P (.d (.bool (!isNone d))) m) : RO K rNotN0 (.d d) (.d .none) m P := fun x y F H Q a b S q => ⟨b, q _ m _ F H p Step.refl S (by rw [im_none a]; rfl)⟩
/-! ### in -/
def rInDT (K : PySem.W.Frag) : R2 := fun x y H Q => ∃ d ds, Dp K H x d ∧ Dp K H y (.tuple ds) ∧ SeqAt.shaped d = true ∧ SeqAt.shaped (.tuple ds) = true ∧ Q (.bl (ds.any fun z => PyData.eqv z d)) H
def rNotInDT (K : PySem.W.Frag) : R2 := fun x y H Q => ∃ d ds, Dp K H x d ∧ Dp K H y (.tuple ds) ∧ SeqAt.shaped d = true ∧ SeqAt.shaped (.tuple ds) = true ∧ Q (.bl (!ds.any fun z => PyData.eqv z d)) H
theorem op_inDT {X : Cx} (hu : X.A.units + 65 < cLine) : OpR X (compareOp .In) (rInDT X.K) := by
  intro pins s σ H x y v u Q I rx ry h
  obtain ⟨d, ds, hd, he, sd, se, q⟩ := h
  obtain ⟨as, r1⟩ := Dp.reads I d x v hd rx
  obtain ⟨bs, r2⟩ := Dp.reads I (.tuple ds) y u he ry
  exact SeqAt.in_tuple_reads r2 r1 (SeqAt.canLay_of_shaped se) (SeqAt.canLay_of_shaped sd) (PyProof.Rows.room_in_shaped sd hu) ⟨.bl _, H, I, rfl, q⟩
theorem op_notInDT {X : Cx} (hu : X.A.units + 65 < cLine) : OpR X (compareOp .NotIn) (rNotInDT X.K) := by
  intro pins s σ H x y v u Q I rx ry h
  obtain ⟨d, ds, hd, he, sd, se, q⟩ := h
  obtain ⟨as, r1⟩ := Dp.reads I d x v hd rx
  obtain ⟨bs, r2⟩ := Dp.reads I (.tuple ds) y u he ry
  exact SeqAt.notIn_tuple_reads r2 r1 (SeqAt.canLay_of_shaped se) (SeqAt.canLay_of_shaped sd) (PyProof.Rows.room_in_shaped sd hu) ⟨.bl _, H, I, rfl, q⟩
def rInSg : R2 := fun x y H Q => ∃ (c : Nat) (z : Str), x = .str ⟨#[c]⟩ ∧ y = .str z ∧ Q (.bl (decide (c ∈ z.cps.toList))) H
def rNotInSg : R2 := fun x y H Q => ∃ (c : Nat) (z : Str), x = .str ⟨#[c]⟩ ∧ y = .str z ∧ Q (.bl (!decide (c ∈ z.cps.toList))) H
def rInU (K : PySem.W.Frag) (Pg : Program) (w : World) : R2 := ro2 (rInD K) (ro2 (rInDT K) (ro2 rInSg (rSInK Pg w false)))
def rNotInU (K : PySem.W.Frag) (Pg : Program) (w : World) : R2 := ro2 (rNotInD K) (ro2 (rNotInDT K) (ro2 rNotInSg (rSInK Pg w true)))
theorem op_inU {X : Cx} (hu : X.A.units + 65 < cLine) : OpR X (compareOp .In) (rInU X.K X.prog X.w) := (op_inD hu).or ((op_inDT hu).or (op_in_sign.or or_sinK))
theorem op_notInU {X : Cx} (hu : X.A.units + 65 < cLine) : OpR X (compareOp .NotIn) (rNotInU X.K X.prog X.w) := (op_notInD hu).or ((op_notInDT hu).or (op_notIn_sign.or or_snotinK))
variable {Pg : Program} {w : World}
def anyEq (d : PyData) (ds : List PyData) : Bool := ds.any fun z => PyData.eqv z d
theorem ri_lst {d : PyData} {ds : List PyData} (hd : SeqAt.shaped d = true) (he : SeqAt.shaped (.list ds) = true) (p : P (.d (.bool (anyEq d ds))) m) : RO K (rInU K Pg w) (.d d) (.d (.list ds)) m P := ro_l fun x y F H Q a b S q => ⟨d, ds, slot_dp a, slot_dp b, hd, he, q _ m _ F H p Step.refl S rfl⟩
theorem ri_tup {d : PyData} {ds : List PyData} (hd : SeqAt.shaped d = true) (he : SeqAt.shaped (.tuple ds) = true) (p : P (.d (.bool (anyEq d ds))) m) : RO K (rInU K Pg w) (.d d) (.d (.tuple ds)) m P := ro_r (ro_l fun x y F H Q a b S q => ⟨d, ds, slot_dp a, slot_dp b, hd, he, q _ m _ F H p Step.refl S rfl⟩)
theorem ri_str {c : Nat} {z : Str} (p : P (.d (.bool (decide (c ∈ z.cps.toList)))) m) : RO K (rInU K Pg w) (.d (.str ⟨#[c]⟩)) (.d (.str z)) m P := ro_r (ro_r (ro_l fun x y F H Q a b S q => ⟨c, z, a, b, q _ m _ F H p Step.refl S rfl⟩))
theorem rni_lst {d : PyData} {ds : List PyData} (hd : SeqAt.shaped d = true) (he : SeqAt.shaped (.list ds) = true) (p : P (.d (.bool (!anyEq d ds))) m) : RO K (rNotInU K Pg w) (.d d) (.d (.list ds)) m P := ro_l fun x y F H Q a b S q => ⟨d, ds, slot_dp a, slot_dp b, hd, he, q _ m _ F H p Step.refl S rfl⟩
/-! ### items, slices -/
theorem atI_im {F : Reg} {H : Hp} {ds : List PyData} {vs : List V} (i : ImAll K F H ds vs) {j : Int} {d : PyData} (h : atI ds j = some d) : ∃ v, atI vs j = some v ∧ Im K F H d v := by
  have e := imAll_len i
  unfold atI at h ⊢
  rw [← e]
  cases q : ixN ds.length j with
  | none => rw [q] at h; cases h
  | some n =>
    rw [q] at h
    exact imAll_get i h
theorem rx_lst {ds : List PyData} {j : Int} {d : PyData} (h : atI ds j = some d) (p : P (.d d) m) : RO K (rIx K) (.d (.list ds)) (.d (.int j)) m P := fun x y F H Q a b S q => by
  obtain ⟨l, vs, e, hl, i⟩ := im_lst a
  obtain ⟨v, hv, iv⟩ := atI_im i h
  exact .inl ⟨l, vs, j, v, e, b, SqL.of hl, hv, q _ m _ F H p Step.refl S iv⟩
theorem rx_lstM {l : Addr} {ds : List PyData} {j : Int} {d : PyData} (hm : m l = some (.lst ds)) (h : atI ds j = some d) (p : P (.d d) m) : RO K (rIx K) (.m l) (.d (.int j)) m P := fun x y F H Q a b S q => by
  obtain ⟨vs, hl, i⟩ := mu_lst S hm
  obtain ⟨v, hv, iv⟩ := atI_im i h
  exact .inl ⟨l, vs, j, v, a, b, SqL.of hl, hv, q _ m _ F H p Step.refl S iv⟩
theorem rx_lstF {ds : List PyData} {j : Int} {d : PyData} (h : atI ds j = some d) (p : P (.d d) m) : RO K (rIx K) (.f ds) (.d (.int j)) m P := fun x y F H Q a b S q => by
  obtain ⟨l, vs, e, hl, i⟩ := sl_f a
  obtain ⟨v, hv, iv⟩ := atI_im i h
  exact .inl ⟨l, vs, j, v, e, b, hl, hv, q _ m _ F H p Step.refl S iv⟩
theorem rx_tup {ds : List PyData} {j : Int} {d : PyData} (h : atI ds j = some d) (p : P (.d d) m) : RO K (rIx K) (.d (.tuple ds)) (.d (.int j)) m P := fun x y F H Q a b S q => by
  obtain ⟨l, vs, e, hl, i⟩ := im_tup a
  obtain ⟨v, hv, iv⟩ := atI_im i h
  exact .inr (.inl ⟨l, vs, j, v, e, b, hl, hv, q _ m _ F H p Step.refl S iv⟩)
theorem rx_str {z : Str} {j : Int} {c : Nat} (hz : z.length ≤ 100000) (h : atI z.cps.toList j = some c) (p : P (.d (.str ⟨#[c]⟩)) m) : RO K (rIx K) (.d (.str z)) (.d (.int j)) m P := fun x y F H Q a b S q =>
  .inr (.inr ⟨z, j, c, a, b, by rw [sizeLine_eq]; omega, h, q _ m _ F H p Step.refl S rfl⟩)
def cutD {α : Type} (xs : List α) (lo hi : Option Int) : List α := (xs.drop (HT.sIx xs.length 0 lo)).take (HT.sIx xs.length xs.length hi - HT.sIx xs.length 0 lo)
theorem cut_im {F : Reg} {H : Hp} {ds : List PyData} {vs : List V} (i : ImAll K F H ds vs) (lo hi : Option Int) : ImAll K F H (cutD ds lo hi) (cutV vs lo hi) := by
  unfold cutD cutV
  rw [imAll_len i]
  exact imAll_iff.mpr (paired_take _ (paired_drop _ (imAll_iff.mp i)))
/-- t[lo:hi] of a tuple -/
def rSlZ (K : PySem.W.Frag) : V → Option Int → Option Int → Hp → VK → Prop := fun x lo hi H Q => ∃ a xs, x = .ref a ∧ SqT K H a xs ∧
  (HT.sIx xs.length 0 lo = 0 ∧ HT.sIx xs.length xs.length hi = xs.length → Q (.ref a) H) ∧ (¬ (HT.sIx xs.length 0 lo = 0 ∧ HT.sIx xs.length xs.length hi = xs.length) → ∀ p ob, H p = none → ob.dict = none → Q (.ref p) (upd H p (.frz ob (.tup (cutV xs lo hi)))))
theorem sl_tupZ {X : Cx} : SlR X (rSlZ X.K) := by
  rintro pins s σ H x v vl vu lo hi sl Q I rx hs pl pu ⟨a, xs, rfl, hx, q1, q2⟩
  cases rx
  obtain ⟨its, r, ht, hz⟩ := I.tuple hx
  have hlen : its.toArray.size = xs.length := by rw [List.size_toArray]; exact r.length.symm
  refine ⟨"tuple", _, PyProof.Rows.slot_tuple_getitem.lookup, ht.typeIs, ?_⟩
  by_cases hw : HT.sIx xs.length 0 lo = 0 ∧ HT.sIx xs.length xs.length hi = xs.length
  · exact L2.getItem_tuple_whole ht hs pl pu (by rw [hlen]; exact hw) ⟨.ref a, H, I, rfl, q1 hw⟩
  · apply HT.getItem_tuple_cut ht hs pl pu (by rw [hlen]; exact hw) ?_ (by rw [hlen]; exact hz)
    rw [hlen]
    refine ⟨.ref s.heap.objs.size, _, inv_tupZ (tk := s.toks) I (fun _ _ a => a) (xs := cutV xs lo hi) (Nat.le_trans (cutV_length xs lo hi) hz) ((r.drop _).take _), rfl, ?_⟩
    exact q2 hw _ _ (I.hok.fresh (Nat.le_refl _)) rfl
def rSlU (K : PySem.W.Frag) : V → Option Int → Option Int → Hp → VK → Prop := fun x lo hi H Q => rSlL K x lo hi H Q ∨ rSlZ K x lo hi H Q ∨ rSlS x lo hi H Q
theorem sl_U {X : Cx} : SlR X (rSlU X.K) := sl_list.or (sl_tupZ.or sl_str)
variable {lo hi : Option Int}
theorem rz_lst {ds : List PyData} (p : P (.d (.list (cutD ds lo hi))) m) : RSl K (rSlU K) (.d (.list ds)) lo hi m P := fun x F H Q a S q => by
  obtain ⟨l, vs, e, hl, i⟩ := im_lst a
  exact .inl ⟨l, vs, e, SqL.of hl, fun c hc => then_new S p q hc ⟨c, _, rfl, .inl rfl, upd_same, imAll_fix (step_new S hc).fix _ _ (cut_im i lo hi)⟩⟩
theorem cut_whole {α : Type} {xs : List α} (h : HT.sIx xs.length 0 lo = 0 ∧ HT.sIx xs.length xs.length hi = xs.length) : cutD xs lo hi = xs := by
  unfold cutD
  rw [h.1, h.2]
  simp
theorem rz_tup {ds : List PyData} (p : P (.d (.tuple (cutD ds lo hi))) m) : RSl K (rSlU K) (.d (.tuple ds)) lo hi m P := fun x F H Q a S q => by
  obtain ⟨l, vs, e, hl, i⟩ := im_tup a
  refine .inr (.inl ⟨l, vs, e, hl, fun h => ?_, fun _ c ob hc hd => then_new S p q hc ⟨c, _, rfl, .inl ⟨.inl rfl, ob, upd_same, hd⟩, imAll_fix (step_new S hc).fix _ _ (cut_im i lo hi)⟩⟩)
  rw [← imAll_len i] at h
  rw [cut_whole h] at p
  subst e
  exact q _ m _ F H p Step.refl S a
theorem rz_str {z : Str} (hz : z.length ≤ 100000) (p : P (.d (.str (cutS z lo hi))) m) : RSl K (rSlU K) (.d (.str z)) lo hi m P := fun x F H Q a S q =>
  .inr (.inr ⟨z, a, by rw [sizeLine_eq]; omega, q _ m _ F H p Step.refl S rfl⟩)
/-! ### truth -/
theorem tr_bool {b : Bool} : TrS K (.d (.bool b)) m b := fun x F H a S => by cases (show x = .bl b from a); rfl
/-! ### len, min, max, int, list, tuple, sorted, repr -/
abbrev rLenC (K : PySem.W.Frag) : List V → Hp → VK → Prop := fun xs H Q => ∃ x n, xs = [x] ∧ LenV K x H n ∧ Q (.int n) H
theorem sls1 {F : Reg} {H : Hp} {s : Sl} {xs : List V} (h : SlsOk K F H [s] xs) : ∃ x, xs = [x] ∧ SlOk K F H s x := by
  cases h with
  | cons a b => cases b; exact ⟨_, rfl, a⟩
theorem sls2 {F : Reg} {H : Hp} {s t : Sl} {xs : List V} (h : SlsOk K F H [s, t] xs) : ∃ x y, xs = [x, y] ∧ SlOk K F H s x ∧ SlOk K F H t y := by
  cases h with
  | cons a b =>
    obtain ⟨y, e, c⟩ := sls1 b
    subst e
    exact ⟨_, _, rfl, a, c⟩
theorem sls0 {F : Reg} {H : Hp} {xs : List V} (h : SlsOk K F H [] xs) : xs = [] := by cases h; rfl
theorem rc_lenT {ds : List PyData} (p : P (.d (.int ds.length)) m) : RC K (rLenC K) [.d (.tuple ds)] m P := fun xs F H Q a S q => by
  obtain ⟨x, e, o⟩ := sls1 a
  obtain ⟨l, vs, e2, hl, i⟩ := im_tup o
  subst e2
  exact ⟨_, _, e, .inr ⟨vs, hl, rfl⟩, by rw [← imAll_len i]; exact q _ m _ F H p Step.refl S rfl⟩
theorem rc_lenL {ds : List PyData} (p : P (.d (.int ds.length)) m) : RC K (rLenC K) [.d (.list ds)] m P := fun xs F H Q a S q => by
  obtain ⟨x, e, o⟩ := sls1 a
  obtain ⟨l, vs, e2, hl, i⟩ := im_lst o
  subst e2
  exact ⟨_, _, e, .inl ⟨vs, SqL.of hl, rfl⟩, by rw [← imAll_len i]; exact q _ m _ F H p Step.refl S rfl⟩
theorem rc_lenF {ds : List PyData} (p : P (.d (.int ds.length)) m) : RC K (rLenC K) [.f ds] m P := fun xs F H Q a S q => by
  obtain ⟨x, e, o⟩ := sls1 a
  obtain ⟨l, vs, e2, hl, i⟩ := sl_f o
  subst e2
  exact ⟨_, _, e, .inl ⟨vs, hl, rfl⟩, by rw [← imAll_len i]; exact q _ m _ F H p Step.refl S rfl⟩
theorem rc_lenM {l : Addr} {ds : List PyData} (hm : m l = some (.lst ds)) (p : P (.d (.int ds.length)) m) : RC K (rLenC K) [.m l] m P := fun xs F H Q a S q => by
  obtain ⟨x, e, o⟩ := sls1 a
  obtain ⟨vs, hl, i⟩ := mu_lst S hm
  cases (show x = .ref l from o)
  exact ⟨_, _, e, .inl ⟨vs, SqL.of hl, rfl⟩, by rw [← imAll_len i]; exact q _ m _ F H p Step.refl S rfl⟩
def rMinC : List V → Hp → VK → Prop := rc2 (fun xs H Q => ∃ i j, xs = [.int i, .int j] ∧ Q (.int (if j < i then j else i)) H) (fun xs H Q => ∃ i j k, xs = [.int i, .int j, .int k] ∧ Q (.int (if j < i then (if k < j then k else j) else (if k < i then k else i))) H)
theorem call_minU {X : Cx} (hc : X.calm = true) : CallR X (.builtin "min") rMinC := by
  refine (call_min2 hc).or ?_
  intro pins s σ H xs us Q I r h
  obtain ⟨i, j, k, rfl, q⟩ := h
  cases r with
  | cons r1 r =>
    cases r with
    | cons r2 r =>
      cases r with
      | cons r3 r =>
        cases r
        obtain ⟨t1, rfl⟩ := r1
        obtain ⟨t2, rfl⟩ := r2
        obtain ⟨t3, rfl⟩ := r3
        refine PySem.min_three_ints (I.ok.hd hc) fun h' tk kk => ⟨.int _, H, I.kept kk, ?_, q⟩
        split
        · split
          · exact ⟨_, rfl⟩
          · exact ⟨_, rfl⟩
        · split
          · exact ⟨_, rfl⟩
          · exact ⟨_, rfl⟩
theorem rc_min2 {i j : Int} (p : P (.d (.int (if j < i then j else i))) m) : RC K rMinC [.d (.int i), .d (.int j)] m P := rc_l fun xs F H Q a S q => by
  obtain ⟨x, y, e, o1, o2⟩ := sls2 a
  cases (show x = .int i from o1)
  cases (show y = .int j from o2)
  exact ⟨i, j, e, q _ m _ F H p Step.refl S rfl⟩
abbrev rMaxC : List V → Hp → VK → Prop := fun xs H Q => ∃ i j, xs = [.int i, .int j] ∧ Q (.int (if j > i then j else i)) H
theorem rc_max2 {i j : Int} (p : P (.d (.int (if j > i then j else i))) m) : RC K rMaxC [.d (.int i), .d (.int j)] m P := fun xs F H Q a S q => by
  obtain ⟨x, y, e, o1, o2⟩ := sls2 a
  cases (show x = .int i from o1)
  cases (show y = .int j from o2)
  exact ⟨i, j, e, q _ m _ F H p Step.refl S rfl⟩
abbrev rIntC : List V → Hp → VK → Prop := fun xs H Q => (∃ i, xs = [.int i] ∧ Q (.int i) H) ∨ ∃ k, xs = [.bl k] ∧ Q (.int (if k then 1 else 0)) H
theorem rc_intB {b : Bool} (p : P (.d (.int (if b then 1 else 0))) m) : RC K rIntC [.d (.bool b)] m P := fun xs F H Q a S q => by
  obtain ⟨x, e, o⟩ := sls1 a
  cases (show x = .bl b from o)
  exact .inr ⟨b, e, q _ m _ F H p Step.refl S rfl⟩
abbrev rListC (K : PySem.W.Frag) : List V → Hp → VK → Prop := fun xs H Q => ∃ p ys, xs = [.ref p] ∧ (SqL K H p ys ∨ SqT K H p ys) ∧ ∀ l, H l = none → Q (.ref l) (upd H l (.lst ys))
/-- a slot that holds a list or a tuple of ds -/
def SeqS (K : PySem.W.Frag) (s : Sl) (m : Sto) (ds : List PyData) : Prop := ∀ (x : V) (F : Reg) (H : Hp), SlOk K F H s x → StoOk K m F H → ∃ a vs, x = .ref a ∧ (SqL K H a vs ∨ SqT K H a vs) ∧ ImAll K F H ds vs
theorem seq_lst {ds : List PyData} : SeqS K (.d (.list ds)) m ds := fun x F H a S => let ⟨l, vs, e, hl, i⟩ := im_lst a; ⟨l, vs, e, .inl (SqL.of hl), i⟩
theorem seq_tup {ds : List PyData} : SeqS K (.d (.tuple ds)) m ds := fun x F H a S => let ⟨l, vs, e, hl, i⟩ := im_tup a; ⟨l, vs, e, .inr hl, i⟩
theorem rc_list {s : Sl} {ds : List PyData} (h : SeqS K s m ds) (p : P (.d (.list ds)) m) : RC K (rListC K) [s] m P := fun xs F H Q a S q => by
  obtain ⟨x, e, o⟩ := sls1 a
  obtain ⟨l, vs, e2, hl, i⟩ := h x F H o S
  subst e2
  exact ⟨l, vs, e, hl, fun c hc => then_new S p q hc ⟨c, vs, rfl, .inl rfl, upd_same, imAll_fix (step_new S hc).fix _ _ i⟩⟩
/-- list(..) that will change -/
theorem rc_listM {s : Sl} {ds : List PyData} (h : SeqS K s m ds) (p : ∀ a, m a = none → P (.m a) (put m a (.lst ds))) : RC K (rListC K) [s] m P := fun xs F H Q a S q => by
  obtain ⟨x, e, o⟩ := sls1 a
  obtain ⟨l, vs, e2, hl, i⟩ := h x F H o S
  subst e2
  exact ⟨l, vs, e, hl, fun c hc => q _ _ _ _ _ (p c (sto_none S hc)) (step_newM S hc) (sto_put S (not_reg S hc) ⟨vs, upd_same, imAll_fix (step_newM (u := .lst ds) S hc).fix ds vs i⟩) rfl⟩
def rTupleC (K : PySem.W.Frag) : List V → Hp → VK → Prop := fun xs H Q => ∃ p ys, xs = [.ref p] ∧ ((SqL K H p ys ∧ ∀ l ob, H l = none → ob.dict = none → Q (.ref l) (upd H l (.frz ob (.tup ys)))) ∨ (SqT K H p ys ∧ Q (.ref p) H))
theorem call_tupleZ {X : Cx} : CallR X (.type "tuple") (rTupleC X.K) := by
  rintro pins s σ H xs us Q I r ⟨p, ys, rfl, h⟩
  obtain ⟨u, rfl, rx⟩ := vals1 r
  cases rx
  rcases h with ⟨hq, q⟩ | ⟨hq, q⟩
  · obtain ⟨its, r', pl, hz⟩ := I.list hq
    have e := r'.length
    apply PySem.call_tuple_list pl.isList (fun h' kp => ?_) (by simp only [List.size_toArray] <;> omega)
    refine ⟨.ref h'.objs.size, _, inv_tupZ (tk := s.toks) I kp hz r', rfl, ?_⟩
    exact q _ _ ((I.kept (t' := s.toks) kp).hok.fresh (Nat.le_refl _)) rfl
  · obtain ⟨its, r', pl, hz⟩ := I.tuple hq
    exact PySem.call_tuple_same pl ⟨.ref p, H, I, rfl, q⟩
theorem rc_tupleL {ds : List PyData} (p : P (.d (.tuple ds)) m) : RC K (rTupleC K) [.d (.list ds)] m P := fun xs F H Q a S q => by
  obtain ⟨x, e, o⟩ := sls1 a
  obtain ⟨l, vs, e2, hl, i⟩ := im_lst o
  subst e2
  exact ⟨l, vs, e, .inl ⟨SqL.of hl, fun c ob hc hd => then_new S p q hc ⟨c, vs, rfl, .inl ⟨.inl rfl, ob, upd_same, hd⟩, imAll_fix (step_new S hc).fix _ _ i⟩⟩⟩
theorem rc_tupleM {l : Addr} {ds : List PyData} (hm : m l = some (.lst ds)) (p : P (.d (.tuple ds)) m) : RC K (rTupleC K) [.m l] m P := fun xs F H Q a S q => by
  obtain ⟨x, e, o⟩ := sls1 a
  obtain ⟨vs, hl, i⟩ := mu_lst S hm
  cases (show x = .ref l from o)
  exact ⟨l, vs, e, .inl ⟨SqL.of hl, fun c ob hc hd => then_new S p q hc ⟨c, vs, rfl, .inl ⟨.inl rfl, ob, upd_same, hd⟩, imAll_fix (step_new S hc).fix _ _ i⟩⟩⟩
/-- sorted of texts, of any length -/
def rSortS (K : PySem.W.Frag) : List V → Hp → VK → Prop := fun vs H Q => ∃ (a : Addr) (xs : List Str), vs = [V.ref a] ∧ SqL K H a (xs.map V.str) ∧
  ∀ (ys : List Str) (p : Addr), ys.Perm xs → PyProof.Rows.sortedS ys = true → H p = none → Q (.ref p) (upd H p (.lst (ys.map V.str)))
theorem cr_sortS {X : Cx} : CallR X (.builtin "sorted") (rSortS X.K) := by
  intro pins s σ H vs us Q I r h
  obtain ⟨a, xs, rfl, hs, q⟩ := h
  obtain ⟨its, rv, hl, hz⟩ := I.list hs
  rw [Vals.ref1 r]
  have hlen0 := rv.length
  rw [List.length_map] at hlen0 hz
  refine PyProof.Rows.sorted_strsAny hl.isList rv.strs (by rw [← hlen0]; exact hz) fun out ys h1 h2 h3 => ?_
  obtain ⟨ep, he'⟩ := PyProof.Rows.sortedAll_at s.heap its out
  have hlen : (ys.map V.str).length ≤ sizeLine := by rw [List.length_map, h2.length_eq]; exact hz
  exact ⟨.ref _, upd H (s.heap.objs.size + 1) (.lst (ys.map V.str)), I.laid (t' := s.toks) (fun _ _ => PyProof.Rows.sortedAll_old) (Nat.le_succ _) ⟨hlen, out.toList, ep, vals_of_strs h1, he'⟩, rfl, q ys _ h2 h3 (I.hok.fresh (Nat.le_succ _))⟩
theorem imAll_strs {F : Reg} {H : Hp} : ∀ {zs : List Str} {vs : List V}, ImAll K F H (zs.map .str) vs ↔ vs = zs.map V.str
  | [], vs => Iff.rfl
  | z :: zs, vs => ⟨fun h => by
      obtain ⟨v, r, e, h1, h2⟩ := h
      cases (show v = .str z from h1)
      rw [e, imAll_strs.mp h2]
      rfl, fun h => ⟨.str z, zs.map V.str, h, rfl, imAll_strs.mpr rfl⟩⟩
theorem rc_sortS {s : Sl} {zs : List Str} (h : ∀ (x : V) (F : Reg) (H : Hp), SlOk K F H s x → StoOk K m F H → ∃ a, x = .ref a ∧ SqL K H a (zs.map V.str))
    (p : ∀ ys : List Str, ys.Perm zs → PyProof.Rows.sortedS ys = true → P (.d (.list (ys.map .str))) m) : RC K (rSortS K) [s] m P := fun xs F H Q a S q => by
  obtain ⟨x, e, o⟩ := sls1 a
  obtain ⟨l, e2, hl⟩ := h x F H o S
  subst e2
  exact ⟨l, zs, e, hl, fun ys c h1 h2 hc => then_new S (p ys h1 h2) q hc ⟨c, _, rfl, .inl rfl, upd_same, imAll_strs.mpr rfl⟩⟩
theorem strs_lst {zs : List Str} : ∀ (x : V) (F : Reg) (H : Hp), SlOk K F H (.d (.list (zs.map .str))) x → StoOk K m F H → ∃ a, x = .ref a ∧ SqL K H a (zs.map V.str) := fun x F H a S => by
  obtain ⟨l, vs, e, hl, i⟩ := im_lst a
  have := imAll_strs.mp i
  subst this
  exact ⟨l, e, SqL.of hl⟩
/-- repr -/
def rRepr (K : PySem.W.Frag) : List V → Hp → VK → Prop := fun xs H Q => ∃ x d, xs = [x] ∧ Dp K H x d ∧ PyData.showable d = true ∧ PyData.hasDict d = false ∧ SeqAt.shaped d = true ∧ (PyData.shown d).length ≤ sizeLine ∧ Q (.str (PyData.shown d)) H
theorem cr_repr {X : Cx} (hg : X.A.guards = some []) (hu : X.A.units + 70 < cLine) : CallR X (.builtin "repr") (rRepr X.K) := by
  intro pins s σ H xs us Q I r h
  obtain ⟨x, d, rfl, hd, hs, hn, hsh, hz, q⟩ := h
  obtain ⟨u, rfl, rx⟩ := vals1 r
  have depth := SeqAt.depth_of_shaped hsh
  cases x with
  | ref a =>
    cases rx
    obtain ⟨as, rd⟩ := Dp.reads I d (.ref a) (.ref a) hd rfl
    refine PySem.repr_of_reads' rd hs (fun e => by rw [hn] at e; cases e) hg (by omega) (fun _ _ e => e) (fun h' u tk kk => ⟨.str _, H, I.kept kk, ⟨_, rfl⟩, q⟩) hz
  | non => cases hd; cases rx; exact PySem.P.repr_of_none ⟨.str _, H, I.tok _, ⟨_, rfl⟩, q⟩
  | bl b => cases hd; cases rx; exact PySem.P.repr_of_bool ⟨.str _, H, I.tok _, ⟨_, rfl⟩, q⟩
  | int i =>
    cases hd
    obtain ⟨t, rfl⟩ := rx
    exact PySem.P.repr_of_int (of_decide_eq_true hs) ⟨.str _, H, I.tok _, ⟨_, rfl⟩, q⟩
  | str z =>
    cases hd
    obtain ⟨t, rfl⟩ := rx
    exact PySem.P.repr_of_str ⟨.str _, H, I.tok _, ⟨_, rfl⟩, q⟩ hz
  | byt b => cases hd
  | flt b => cases hd
  | ty n => cases hd
theorem rc_repr {d : PyData} (h1 : PyData.showable d = true) (h2 : PyData.hasDict d = false) (h3 : SeqAt.shaped d = true) (h4 : (PyData.shown d).length ≤ sizeLine) (p : P (.d (.str (PyData.shown d))) m) : RC K (rRepr K) [.d d] m P := fun xs F H Q a S q => by
  obtain ⟨x, e, o⟩ := sls1 a
  exact ⟨x, d, e, slot_dp o, h1, h2, h3, h4, q _ m _ F H p Step.refl S rfl⟩
end
end Dv
namespace Dv
open PySem L2
/-! ### what is walked -/
theorem pi_or {X : Cx} {tg it : Expr} {wi wi' : TI} (h : PI X tg it wi) (h' : PI X tg it wi') : PI X tg it (fun σ H R => wi σ H R ∨ wi' σ H R) := ⟨fun pins s σ H R I q => q.elim (h.run pins s σ H R I) (h'.run pins s σ H R I)⟩
def iSeqU (K : PySem.W.Frag) (tl : TE) : TI := fun σ H R => iList K tl σ H R ∨ iTup K tl σ H R ∨ iStr tl σ H R
theorem pi_seqU {X : Cx} {tg e : Expr} {tl : TE} (he : PE X e tl) : PI X tg e (iSeqU X.K tl) := pi_or (pi_list he) (pi_or (pi_tup he) (pi_str he))
section
variable {K : PySem.W.Frag} {ρ : Rho} {m : Sto} {tl : TE} {P : List Sl → (Sto → Prop) → Sto → Prop}
abbrev Any : Sto → Prop := fun _ => True
theorem tup_at {m m' : Sto} {F F' : Reg} {H H' : Hp} {a : Addr} {vs : List V} (s : Step m F H m' F' H') (n : (F a ∧ ZT H a vs) ∨ WrT K a vs) : SqT K H' a vs := by
  rcases n with ⟨n, ob, ha, hd⟩ | w
  · exact ZT.sq ⟨ob, (s.fix a _ ha n).1, hd⟩
  · exact w.sq
theorem sl_map {ds : List PyData} {i : Nat} {d : PyData} (h : ds[i]? = some d) : (ds.map Sl.d)[i]? = some (.d d) := by rw [List.getElem?_map, h]; rfl
theorem ei_tup (h : Ev K tl ρ m fun s m1 => ∃ ds, s = .d (.tuple ds) ∧ P (ds.map .d) Any m1) : EvI K (iSeqU K tl) ρ m P := fun σ F H R E S q => .inr (.inl (h σ F H _ E S fun s m1 v F1 H1 ⟨ds, e, p⟩ s1 S1 o1 => by
  subst e
  obtain ⟨a, vs, e, n, i⟩ := o1
  have hl : (ds.map Sl.d).length = vs.length := by rw [List.length_map]; exact imAll_len i
  refine ⟨a, e, ⟨vs, tup_at Step.refl (m := m1) (m' := m1) n⟩, q _ _ m1 F1 H1 _ p s1 S1 ?_⟩
  rw [hl]
  refine (walk_tup (K := K) (a := a) (xs := vs)).mono (fun H2 ⟨m2, F2, _, st, _⟩ => tup_at st n) fun j H2 x H3 hj ⟨m3, F3, _, _, _⟩ ⟨e3, hx⟩ m2 F2 _ st S2 => ?_
  subst e3
  have i2 := imAll_fix st.fix ds vs i
  have hd : ∃ d, ds[j]? = some d := by
    have : j < ds.length := by rw [imAll_len i]; exact hj
    exact ⟨_, List.getElem?_eq_getElem this⟩
  obtain ⟨d, hd⟩ := hd
  obtain ⟨v2, hv, iv⟩ := imAll_get i2 hd
  rw [hx] at hv
  cases hv
  exact ⟨F2, Step.refl, S2, .d d, sl_map hd, iv⟩))
theorem ei_lst (h : Ev K tl ρ m fun s m1 => ∃ ds, s = .d (.list ds) ∧ P (ds.map .d) Any m1) : EvI K (iSeqU K tl) ρ m P := fun σ F H R E S q => .inl (h σ F H _ E S fun s m1 v F1 H1 ⟨ds, e, p⟩ s1 S1 o1 => by
  subst e
  obtain ⟨a, vs, e, n, ha, i⟩ := o1
  have hl : (ds.map Sl.d).length = vs.length := by rw [List.length_map]; exact imAll_len i
  refine ⟨a, e, ⟨vs, SqL.of ha⟩, q _ _ m1 F1 H1 _ p s1 S1 ?_⟩
  rw [hl]
  refine (walk_list (K := K) (a := a) (xs := vs)).mono (fun H2 ⟨m2, F2, _, st, _⟩ => SqL.of (st.fix a _ ha n).1) fun j H2 x H3 hj ⟨m3, F3, _, _, _⟩ ⟨e3, hx⟩ m2 F2 _ st S2 => ?_
  subst e3
  have i2 := imAll_fix st.fix ds vs i
  have hd : ∃ d, ds[j]? = some d := by
    have : j < ds.length := by rw [imAll_len i]; exact hj
    exact ⟨_, List.getElem?_eq_getElem this⟩
  obtain ⟨d, hd⟩ := hd
  obtain ⟨v2, hv, iv⟩ := imAll_get i2 hd
  rw [hx] at hv
  cases hv
  exact ⟨F2, Step.refl, S2, .d d, sl_map hd, iv⟩)
/-- a list that may change, but not in the loop -/
theorem ei_lstM (h : Ev K tl ρ m fun s m1 => ∃ a ds, s = .m a ∧ m1 a = some (.lst ds) ∧ P (ds.map .d) (fun m' => m' a = some (.lst ds)) m1) : EvI K (iSeqU K tl) ρ m P := fun σ F H R E S q => .inl (h σ F H _ E S fun s m1 v F1 H1 ⟨a, ds, e, hm, p⟩ s1 S1 o1 => by
  subst e
  obtain ⟨vs, ha, i⟩ := mu_lst S1 hm
  refine ⟨a, o1, ⟨vs, SqL.of ha⟩, q _ _ m1 F1 H1 _ p s1 S1 ⟨fun j H2 hj ⟨m2, F2, c, st, S2⟩ => ?_, fun H2 ⟨m2, F2, c, st, S2⟩ => ?_, fun j H2 x H3 hj ⟨m3, F3, _, _, _⟩ ⟨e3, hx⟩ m2 F2 c st S2 => ?_⟩⟩
  · obtain ⟨us, ha2, i2⟩ := mu_lst S2 c
    have : j < us.length := by rw [← imAll_len i2]; simpa using hj
    exact ⟨us, us[j], SqL.of ha2, List.getElem?_eq_getElem this⟩
  · obtain ⟨us, ha2, i2⟩ := mu_lst S2 c
    exact ⟨us, SqL.of ha2, by rw [← imAll_len i2]; simp⟩
  · subst e3
    obtain ⟨us, ha2, i2⟩ := mu_lst S2 c
    have hd : ∃ d, ds[j]? = some d := ⟨_, List.getElem?_eq_getElem (by simpa using hj)⟩
    obtain ⟨d, hd⟩ := hd
    obtain ⟨v2, hv, iv⟩ := imAll_get i2 hd
    rw [hx us (SqL.of ha2)] at hv
    cases hv
    exact ⟨F2, Step.refl, S2, .d d, sl_map hd, iv⟩)
theorem ei_rng1 {ta : TA} (h : EvA K ta ρ m fun ss m1 => ∃ n : Int, ss = [.d (.int n)] ∧ n ≤ 1000000 ∧ -1000000 ≤ n ∧ P ((List.range n.toNat).map fun i => .d (.int (i : Nat))) Any m1) : EvI K (iRng1 ta) ρ m P := fun σ F H R E S q =>
  h σ F H _ E S fun ss m1 vs F1 H1 ⟨n, e, h1, h2, p⟩ s1 S1 o1 => by
    subst e
    obtain ⟨x, e, o⟩ := sls1 o1
    cases (show x = .int n from o)
    refine ⟨n, e, by omega, by omega, q _ _ m1 F1 H1 _ p s1 S1 ?_⟩
    have hl : ((List.range n.toNat).map fun i => Sl.d (.int (i : Nat))).length = n.toNat := by simp
    rw [hl]
    refine (walk_range (lo := 0) (n := n.toNat)).mono (fun _ _ => trivial) fun j H2 x H3 hj _ ⟨e3, hx⟩ m2 F2 _ st S2 => ?_
    subst e3
    have hx' : x = V.int (0 + (j : Nat)) := hx
    refine ⟨F2, Step.refl, S2, .d (.int (j : Nat)), ?_, ?_⟩
    · rw [List.getElem?_map, List.getElem?_range hj]; rfl
    · show x = V.int (j : Nat)
      rw [hx', Int.zero_add]
/-! ### enumerate of a tuple -/
def IteT (K : PySem.W.Frag) (a : Addr) : It :=
  ⟨fun i H => ∃ (xs : List V) (x : V), SqT K H a xs ∧ xs[i]? = some x, fun i H v H' => ∃ T x, v = .ref T ∧ H T = none ∧ H' = upd H T (.tup [.int (i : Nat), x]) ∧ ∀ xs, SqT K H a xs → xs[i]? = some x, fun i H => ∃ xs : List V, SqT K H a xs ∧ xs.length ≤ i⟩
theorem cls_ne {h : Heap} {a b : Addr} {o u : Obj} {S T : String} (ha : h.get? a = some o) (hb : h.get? b = some u) (ca : o.cls = .type S) (cb : u.cls = .type T) (ne : S ≠ T) : a ≠ b := fun e => by
  subst e
  rw [ha] at hb
  cases hb
  rw [ca] at cb
  injection cb with e
  exact ne e
theorem turn_enumT {Pg : Program} {w : World} {K : PySem.W.Frag} {elts : List Expr} {kk : Nat} {tpos : Pos} (a e it : Addr) :
    Turn Pg w K (.Tuple elts kk tpos) (IteT K a) [e, it] e (fun i h => (∃ old, IsEnum h e it ((i : Nat) : Int) old) ∧ h.IsTupleIter it a i ∧ e ≠ it) where
  mem := by simp
  obj := by
    rintro i h ⟨⟨old, he⟩, ⟨o, ho, hc, hd⟩, _⟩ b hb
    rcases (by simpa using hb : b = e ∨ b = it) with z | z
    · rw [z]; exact ⟨_, he, fun v q => nomatch q⟩
    · exact ⟨o, z ▸ ho, fun v q => by rw [hd] at q; cases q⟩
  keep := by
    rintro i h h' ⟨⟨old, he⟩, hi, hne⟩ k
    exact ⟨⟨old, k e (by simp) _ he⟩, hi.at fun o q => k it (by simp) o q, hne⟩
  item := by
    rintro X rfl rfl rfl hc i pins s σ H E I hf ⟨⟨old, he⟩, hit, hne⟩ ⟨xs, x, hq, hx⟩
    obtain ⟨its, rv, p, hz⟩ := I.tuple hq
    obtain ⟨u, hu, ru⟩ := rv.get hx
    have hel : e < s.heap.objs.size := Heap.lt_size he
    obtain ⟨oi, hoi, hci, hdi⟩ := id hit
    obtain ⟨oa, hoa, hca, na, hda⟩ := id p
    have hil : it < s.heap.objs.size := Heap.lt_size hoi
    have nai : a ≠ it := cls_ne hoa hoi hca hci (by decide)
    have nae : e ≠ a := cls_ne he hoa rfl hca (by decide)
    have hlt : i < its.toArray.size := by
      have := (List.getElem?_eq_some_iff.mp hu).1
      simpa using this
    refine wpAny_pyNext_enum_itemD (Draws.tuple (A := X.A.in1) (I.ok.hd hc) it a nai its.toArray) he ⟨hit, p⟩ hlt hne (by simp [hne, nae]) fun y h' tk hP ho st' hT hsz hk => ?_
    have ey : y = u := by
      have : its.toArray[i]? = some u := by simpa using hu
      rw [hP] at this
      exact Option.some.inj this
    subst ey
    refine ⟨_, rfl, wpAny_letOwnedTupleGo_enum (s := { s with heap := h', toks := tk + 1 }) ho fun h'' he' sb => ?_⟩
    have hT2 : h''.get? s.heap.objs.size = some { cls := .type "tuple", data := .seq #[.int i tk, y] } := (sb.2 _ (Nat.ne_of_gt hel)).trans hT
    have new : ObjOk X.prog X.w (upd H s.heap.objs.size (.tup [.int (i : Nat), x])) h'' s.heap.objs.size (.tup [.int (i : Nat), x]) :=
      ⟨by show 2 ≤ sizeLine; decide, [.int i tk, y], .cons ⟨_, rfl⟩ (.cons ru .nil), ⟨_, hT2, rfl, _, rfl⟩⟩
    have I1 : Inv X pins σ (upd H s.heap.objs.size (.tup [.int (i : Nat), x])) { s with heap := h'', toks := tk + 1 } :=
      I.turnedNew (ch := [e, it]) (fun b ob hb q => (sb.2 b (fun z => hb (by simp [z]))).trans (hk b ob (fun z => hb (by simp [z])) (fun z => hb (by simp [z])) q)) hf (Nat.le_refl _) new
    refine ⟨.ref s.heap.objs.size, _, I1, rfl, ⟨_, x, rfl, I.hok.fresh (Nat.le_refl _), rfl, fun ys hy => by rw [I.tuple_inj hy hq]; exact hx⟩, ⟨⟨y, ?_⟩, st'.1.at fun o q => (sb.2 it (Ne.symm hne)).trans q, hne⟩, fun b hb => ?_⟩
    · have e1 : ((i + 1 : Nat) : Int) = (i : Int) + 1 := by omega
      rw [e1]; exact he'
    · have hb' : b < s.heap.objs.size := by
        rcases (by simpa using hb : b = e ∨ b = it) with z | z
        · rw [z]; exact hel
        · rw [z]; exact hil
      rw [upd_ne (Nat.ne_of_lt hb')]
      exact (hf b hb).1
  done := by
    rintro X rfl rfl rfl hc i pins s σ H E I hf ⟨⟨old, he⟩, hit, hne⟩ ⟨xs, hq, hx⟩
    obtain ⟨its, rv, p, hz⟩ := I.tuple hq
    obtain ⟨oi, hoi, hci, hdi⟩ := id hit
    obtain ⟨oa, hoa, hca, na, hda⟩ := id p
    have nai : a ≠ it := cls_ne hoa hoi hca hci (by decide)
    obtain ⟨f0, f1, f2, f3, f4, f5⟩ := hf it (by simp)
    have hl := rv.length
    have D : Draws X.prog X.w X.A.in1 it [it, a] i (fun _ _ => True) (fun j h => j = i ∧ h.IsTupleIter it a i ∧ h.IsTuple a its.toArray) :=
      ⟨fun j h st => let ⟨o, q, _⟩ := st.2.1; ⟨o, q⟩, fun j h h' st k => ⟨st.1, st.2.1.at fun o q => k it (by simp) o q, st.2.2.at fun o q => k a (by simp) o q⟩, fun j s' Q' E' hj st hQ => absurd st.1 (Nat.ne_of_lt hj),
        fun s' Q' E' st hE => PySem.wpAny_nextOf_tuple_end (I.ok.hd hc) st.2.1 st.2.2 (by simp; omega) hE⟩
    exact wpAny_pyNext_enum_endD D he ⟨rfl, hit, p⟩ fun h' eb => ⟨rfl, I.turned (t' := s.toks) (fun b o hb q => eb b o hb q) f0 f1 f3 f4 f5⟩
  self := fun A i s Q E st h => let ⟨⟨_, he⟩, _⟩ := st; wpAny_pyIter_enum he h
theorem meets_enumT (l : Addr) (items : Array Value) : Meets (Builtin.«enumerate.__new__» ⟨[.type "enumerate", .ref l], []⟩) (fun _ R s => s.heap.IsTuple l items ∧
    R (.ok (.ret (.ref (s.heap.objs.size + 1)))) { s with heap := (s.heap.push { cls := .type "tuple_iterator", data := .fields #[.ref l, .int 0 0] }).push { cls := .type "enumerate", data := .fields #[.none, .bool false, .ref s.heap.objs.size, rawInt 0, .none, .none] } }) := by
  apply Meets.of_wp
  rintro prog w A R ⟨hp, g, d, tk, os⟩ ⟨hL, h⟩
  have hz : (hp.push { cls := .type "tuple_iterator", data := .fields #[.ref l, .int 0 0] }).objs.size = hp.objs.size + 1 := Heap.size_push ..
  have hL' : Heap.IsTuple (Shared.heap ⟨hp, g, d, tk, os⟩) l items := hL
  have hsub := sub_enumerate
  have h' : R (.ok (.ret (.ref (hp.push { cls := .type "tuple_iterator", data := .fields #[.ref l, .int 0 0] }).objs.size))) ⟨(hp.push { cls := .type "tuple_iterator", data := .fields #[.ref l, .int 0 0] }).push { cls := .type "enumerate", data := .fields #[.none, .bool false, .ref hp.objs.size, rawInt 0, .none, .none] }, g, d, tk, os⟩ := by rw [hz]; exact h
  wp_walk
  apply wpAny_stack_any
  intro st
  apply wpAny_pure
  split
  · rename_i c _ _ _ _ _
    cases (c == Value.type "enumerate") <;> (wp_walk using wpAny_pyIter_tuple hL'; exact ⟨_, rfl, h'⟩)
  · wp_walk using wpAny_pyIter_tuple hL'
    exact ⟨_, rfl, h'⟩
theorem call_enumT {prog : Program} {w : World} {A : Around} {E : Value → Shared → Prop} {s : Shared} {l : Addr} {items : Array Value} {Q : Value → Shared → Prop} (hL : s.heap.IsTuple l items)
    (h : ∀ h', IsEnum h' (s.heap.objs.size + 1) s.heap.objs.size 0 .none → h'.IsTupleIter s.heap.objs.size l 0 → (∀ b o, s.heap.get? b = some o → h'.get? b = some o) → Q (.ref (s.heap.objs.size + 1)) { s with heap := h' }) :
    wpAny (model prog w) A (call (.type "enumerate") [.ref l]) Q E s := by
  have hz : (s.heap.push { cls := .type "tuple_iterator", data := .fields #[.ref l, .int 0 0] }).objs.size = s.heap.objs.size + 1 := Heap.size_push ..
  have he : IsEnum ((s.heap.push { cls := .type "tuple_iterator", data := .fields #[.ref l, .int 0 0] }).push { cls := .type "enumerate", data := .fields #[.none, .bool false, .ref s.heap.objs.size, rawInt 0, .none, .none] }) (s.heap.objs.size + 1) s.heap.objs.size 0 .none := by
    have e := Heap.get?_push_size (s.heap.push { cls := .type "tuple_iterator", data := .fields #[.ref l, .int 0 0] }) (o := { cls := .type "enumerate", data := .fields #[.none, .bool false, .ref s.heap.objs.size, rawInt 0, .none, .none] }) rfl
    rwa [hz] at e
  apply callType_new F.called_enumerate (by decide) (F.typeCall_enumerate_1 _) (F.newCall_enumerate_1 _) (fun obj => F.args_object_init_2 obj _) F.entry_enumerate_new (meets_enumT l items)
  refine ⟨hL, ⟨_, he, rfl⟩, ?_⟩
  exact h _ he ⟨_, Heap.get?_push_of_some _ (Heap.get?_push_size _ rfl), rfl, rfl⟩ fun b o x => Heap.get?_push_of_some _ (Heap.get?_push_of_some _ x)
def iEnumT (K : PySem.W.Frag) (ta : TA) : TI := fun σ H R => ta σ H fun vs H1 => ∃ a xs, vs = [.ref a] ∧ SqT K H1 a xs ∧ R (IteT K a) H1
theorem pi_enumT {X : Cx} {e : Expr} {ta : TA} {p pos tpos : Pos} {elts : List Expr} {kk : Nat} (hg : Gl X "enumerate") (hm : X.mg "enumerate" = none) (ha : PA X [e] ta) (hs : starEach [e] X.env = [(false, eval e X.env)] := by rfl) :
    PI X (.Tuple elts kk tpos) (.Call (.Name "enumerate" p) [e] [] pos) (iEnumT X.K ta) := by
  constructor
  intro pins s σ H R I h
  refine PyProof.Rows.Call_ (ld_blt I hg hm PyProof.Rows.boot_enumerate (PyProof.Rows.callWith_type1 (thn (ha.run pos pins s σ H _ I h) ?_) hs rfl))
  rintro us s1 ⟨vs, H1, I1, r1, a, xs, rfl, hq, q⟩
  obtain ⟨u, rfl, r⟩ := vals1 r1
  cases r
  obtain ⟨its, rv, p', hz⟩ := I1.tuple hq
  refine call_enumT p' fun h' he hit hk => wpAny_pyIter_enum he ?_
  have I2 : Inv X pins σ H1 { s1 with heap := h' } := I1.kept (t' := s1.toks) hk
  refine ⟨s1.heap.objs.size + 1, [s1.heap.objs.size + 1, s1.heap.objs.size], _, _, H1, rfl, I2, turn_enumT a (s1.heap.objs.size + 1) s1.heap.objs.size, ⟨⟨.none, he⟩, hit, Nat.succ_ne_self _⟩, fun b hb => ?_, q⟩
  have hle : s1.heap.objs.size ≤ b := by
    rcases (by simpa using hb : b = s1.heap.objs.size + 1 ∨ b = s1.heap.objs.size) with z | z
    · rw [z]; exact Nat.le_succ _
    · rw [z]; exact Nat.le_refl _
  exact I1.fpOk hle (I1.hok.fresh hle)
def iEnumU (K : PySem.W.Frag) (ta : TA) : TI := fun σ H R => iEnum K ta σ H R ∨ iEnumT K ta σ H R
theorem pi_enumU {X : Cx} {e : Expr} {ta : TA} {p pos tpos : Pos} {elts : List Expr} {kk : Nat} (hg : Gl X "enumerate") (hm : X.mg "enumerate" = none) (ha : PA X [e] ta) (hs : starEach [e] X.env = [(false, eval e X.env)] := by rfl) :
    PI X (.Tuple elts kk tpos) (.Call (.Name "enumerate" p) [e] [] pos) (iEnumU X.K ta) := pi_or (pi_enum hg hm ha hs) (pi_enumT hg hm ha hs)
def enumS (ds : List PyData) : List Sl := ds.zipIdx.map fun p => .p (.int (p.2 : Nat)) p.1
theorem enumS_len (ds : List PyData) : (enumS ds).length = ds.length := by simp [enumS]
theorem enumS_get {ds : List PyData} {i : Nat} {d : PyData} (h : ds[i]? = some d) : (enumS ds)[i]? = some (.p (.int (i : Nat)) d) := by
  unfold enumS
  rw [List.getElem?_map, List.getElem?_zipIdx, h]
  simp
theorem enumS_of {ds : List PyData} {i : Nat} {x : Sl} (h : (enumS ds)[i]? = some x) : ∃ d, ds[i]? = some d ∧ x = .p (.int (i : Nat)) d := by
  have hl : i < ds.length := by
    have := (List.getElem?_eq_some_iff.mp h).1
    rwa [enumS_len] at this
  have := enumS_get (List.getElem?_eq_getElem hl)
  rw [this] at h
  exact ⟨_, List.getElem?_eq_getElem hl, (Option.some.inj h).symm⟩
theorem pair_new {m : Sto} {F : Reg} {H : Hp} {T : Addr} {x y : V} {dx dy : PyData} (S : StoOk K m F H) (hT : H T = none) (i1 : Im K F H dx x) (i2 : Im K F H dy y) :
    Step m F H m (add F T) (upd H T (.tup [x, y])) ∧ StoOk K m (add F T) (upd H T (.tup [x, y])) ∧ SlOk K (add F T) (upd H T (.tup [x, y])) (.p dx dy) (.ref T) :=
  ⟨step_new S hT, sto_new S hT, T, x, y, rfl, .inl rfl, upd_same, im_fix (step_new S hT).fix _ _ i1, im_fix (step_new S hT).fix _ _ i2⟩
theorem ei_enumT {ta : TA} (h : EvA K ta ρ m fun ss m1 => ∃ ds, ss = [.d (.tuple ds)] ∧ P (enumS ds) Any m1) : EvI K (iEnumU K ta) ρ m P := fun σ F H R E S q => .inr (h σ F H _ E S fun ss m1 us F1 H1 ⟨ds, e, p⟩ s1 S1 o1 => by
  subst e
  obtain ⟨x, e, o⟩ := sls1 o1
  obtain ⟨a, vs, e2, n, i⟩ := o
  subst e2
  refine ⟨a, vs, e, tup_at Step.refl (m := m1) (m' := m1) n, q _ _ m1 F1 H1 _ p s1 S1 ⟨fun j H2 hj ⟨m2, F2, _, st, _⟩ => ?_, fun H2 ⟨m2, F2, _, st, _⟩ => ?_, fun j H2 x H3 hj _ ⟨T, y, e3, hT, eH, hx⟩ m2 F2 _ st S2 => ?_⟩⟩
  · have hj' : j < vs.length := by rw [enumS_len, imAll_len i] at hj; exact hj
    exact ⟨vs, vs[j], tup_at st n, List.getElem?_eq_getElem hj'⟩
  · exact ⟨vs, tup_at st n, by rw [enumS_len, imAll_len i]; exact Nat.le_refl _⟩
  · subst e3 eH
    have hd : ∃ d, ds[j]? = some d := ⟨_, List.getElem?_eq_getElem (by rwa [enumS_len] at hj)⟩
    obtain ⟨d, hd⟩ := hd
    obtain ⟨v2, hv, iv⟩ := imAll_get (imAll_fix st.fix ds vs i) hd
    rw [hx vs (tup_at st n)] at hv
    cases hv
    obtain ⟨a1, a2, a3⟩ := pair_new (dx := .int (j : Nat)) S2 hT rfl iv
    exact ⟨_, a1, a2, _, enumS_get hd, a3⟩)
/-! ### methods -/
section
variable {Pv : PV}
theorem ty_listM {l : Addr} {ds : List PyData} (hm : m l = some (.lst ds)) : TyS K "list" (.m l) m := fun x F H a S => by
  obtain ⟨vs, hl, i⟩ := mu_lst S hm
  cases (show x = .ref l from a)
  exact .inl ⟨rfl, vs, SqL.of hl⟩
/-- a list of the store becomes another -/
theorem then_mut {F : Reg} {H : Hp} {Q : VK} {l : Addr} {w : Mu} {ds : List PyData} {us : List V} {s : Sl} {v : V} (S : StoOk K m F H) (hm : m l = some w) (q : Then K m F H Pv Q) (p : Pv s (put m l (.lst ds))) (i : ImAll K F H ds us) (o : SlOk K F H s v) : Q v (upd H l (.lst us)) := by
  have st : Step m F H (put m l (.lst ds)) F (upd H l (.lst us)) := step_mut S hm
  exact q _ _ _ _ _ p st (sto_put S (S.mu l w hm).2 ⟨us, upd_same, imAll_fix st.fix ds us i⟩) (slOk_step st o)
theorem rm_append {l : Addr} {ds : List PyData} {d : PyData} (hm : m l = some (.lst ds)) (h : ds.length < 100000) (p : Pv (.d .none) (put m l (.lst (ds ++ [d])))) : RM K rAppend (.m l) [.d d] m Pv := fun x xs F H Q a b S q => by
  obtain ⟨y, e, o⟩ := sls1 b
  obtain ⟨vs, hl, i⟩ := mu_lst S hm
  cases (show x = .ref l from a)
  exact ⟨l, vs, y, rfl, e, hl, by rw [← imAll_len i, sizeLine_eq]; omega, then_mut S hm q p (imAll_app i (imAll_one o)) rfl⟩
theorem rm_popAt {l : Addr} {ds : List PyData} {j : Int} {k : Nat} {d : PyData} (hm : m l = some (.lst ds)) (h : ds.length < 100000) (hj : 0 ≤ j) (hk : j = (k : Int)) (hd : ds[k]? = some d) (p : Pv (.d d) (put m l (.lst (ds.eraseIdx k)))) : RM K rPopAt (.m l) [.d (.int j)] m Pv := fun x xs F H Q a b S q => by
  obtain ⟨y, e, o⟩ := sls1 b
  cases (show y = .int j from o)
  obtain ⟨vs, hl, i⟩ := mu_lst S hm
  cases (show x = .ref l from a)
  obtain ⟨v, hv, iv⟩ := imAll_get i hd
  have hlt := (List.getElem?_eq_some_iff.mp hv).1
  have hlen := imAll_len i
  refine ⟨l, vs, j, k, v, rfl, e, hl, by omega, by omega, (ixN_seq (show ixN vs.length j = some k from ?_)).1, hv, then_mut S hm q p (imAll_erase i k) iv⟩
  unfold ixN
  rw [if_pos hj, if_pos (by omega), hk]
  simp
/-- xs[j] = e -/
theorem gt_sub {l : Addr} {ds : List PyData} {j : Int} {k : Nat} {d : PyData} {to ti : TE} {Pr : Rho → Sto → Prop} (ho : Ev K to ρ m fun s m1 => s = .m l ∧ Ev K ti ρ m1 fun s' m2 => s' = .d (.int j) ∧ m2 l = some (.lst ds) ∧ ixN ds.length j = some k ∧ Pr ρ (put m2 l (.lst (ds.set k d)))) :
    Gt K (gSub to ti rSetL) [] (.d d) ρ m Pr := fun σ F H v Q E S o q =>
  ho σ F H _ E S fun s m1 x F1 H1 ⟨e, h⟩ s1 S1 o1 => h σ F1 H1 _ (envOk_step s1 E) S1 fun s' m2 y F2 H2 ⟨e2, hm, hk, p⟩ s2 S2 o2 => by
    subst e e2
    cases (show y = .int j from o2)
    obtain ⟨vs, hl, i⟩ := mu_lst S2 hm
    cases (show x = .ref l from o1)
    have st : Step m2 F2 H2 (put m2 l (.lst (ds.set k d))) F2 (upd H2 l (.lst (vs.set k v))) := step_mut S2 hm
    have iv : Im K F2 H2 d v := im_fix (s1.trans s2).fix _ _ o
    refine ⟨l, vs, j, k, rfl, rfl, hl, by rw [← imAll_len i]; exact hk, ?_⟩
    refine q _ _ _ F2 _ p ((s1.trans s2).trans st) (sto_put S2 (S2.mu l _ hm).2 ⟨_, upd_same, imAll_fix st.fix _ _ (imAll_set i k iv)⟩) (envOk_step ((s1.trans s2).trans st) E) fun _ _ => rfl
end
end
end Dv
namespace Dv
open PySem L2 PyProof.Rows
/-! ### defs where no guard stands on the stack (repr asks for that) -/
/-- the def at f keeps sp, called where no guard stands -/
structure DF (Pg : Program) (w : World) (K : PySem.W.Frag) (mg : Str → Option Value) (base : Heap) (CX : CXT) (k : Nat) (f : Addr) (fd : FuncData) (ps : List Str) (sp : Sp) : Prop where
  len : ∀ vs H Q E, sp vs H Q E → vs.length = ps.length
  run : ∀ (A : Around) (outer : List Env) (s : Shared) (H : Hp) (args : Args) (us : List Value) (vs : List V) (Q : VK) (E : XK), A.guards = some [] → Room k A → Env0 Pg w K mg base A outer s H →
    BindsTo s fd args (ps.zip us) → Vals vs us → sp vs H Q E → codeAny (model Pg w) A (.call (.ref f) args) (CR CX outer Pg w H s Q E) s
theorem DF.mono {Pg : Program} {w : World} {K : PySem.W.Frag} {mg : Str → Option Value} {base : Heap} {CX : CXT} {j k : Nat} {f : Addr} {fd : FuncData} {ps : List Str} {sp : Sp} (F : DF Pg w K mg base CX j f fd ps sp) (h : j ≤ k) : DF Pg w K mg base CX k f fd ps sp :=
  ⟨F.len, fun A outer s H args us vs Q E g hr => F.run A outer s H args us vs Q E g (hr.mono h)⟩
section
variable {Pg : Program} {w : World} {K : PySem.W.Frag} {mg : Str → Option Value} {base : Heap} {CX : CXT}
theorem df_of {k : Nat} {f : Addr} {name qual : Str} {params : Arguments} {bd : List Stmt} {scope : Scope} {dV kV doc pm cdv ct oc : Value} {an od : Option Addr} {osl : Array (Option Value)} {N ps : List Str} {sp : Sp}
    (lk : K.lookup f = some ⟨oc, od, .func (PySem.W.fnOf name qual params bd scope dV kV doc pm an cdv ct), osl⟩) (hcd : PySem.W.codeIn K cdv qual = true) (S : FnScope N ps scope) (len : ∀ vs H Q E, sp vs H Q E → vs.length = ps.length)
    (hb : ∀ (A : Around) (outer : List Env) (s : Shared) (H : Hp) (vs : List V) (Q : VK) (E : XK), A.guards = some [] → Room k (A.deeper (envOfC qual scope s.heap.objs.size f cdv)) → sp vs H Q E →
      ∃ t, PSs (cxOf CX Pg w K mg base N qual scope f cdv A outer s H E) bd t ∧ t { nx := fun _ H' => Q .non H', rt := Q } (L2.start N vs) H) :
    DF Pg w K mg base CX (k + 1) f (PySem.W.fnOf name qual params bd scope dV kV doc pm an cdv ct) ps sp := by
  constructor
  · exact len
  intro A outer s H args us vs Q E hg hr e0 hbi r hsp
  obtain ⟨t, ht, hq⟩ := hb A outer s H vs Q E hg (hr.deeper _) hsp
  have old : ∀ b o, base.get? b = some o → s.heap.get? b = some o := fun b o e => (e0.bs b o e).1
  have KX := e0.mod.kin.keeps old
  have kinds : ∀ y ∈ ps.zip us, scope.names.lookup y.1 = some .local ∨ (scope.names.lookup y.1 = some .cell ∧ ((cellsFrom (s.heap.objs.size + 1) scope.names []).lookup y.1).isSome = true) := by
    rintro ⟨n, v⟩ hy
    exact (S.par n (List.of_mem_zip hy).1).imp id fun q => ⟨q, PySem.W.cellsFrom_some _ _ _ (.inl q)⟩
  refine codeAny_call_function hr.depth (KX _ _ lk) rfl S.co S.gen rfl (PySem.W.codeRec_of KX hcd) (hbi _ _ _ _ (wpAny_newFunctionEnv_cells S.kind kinds ?_))
  rintro env rfl s1 x
  refine ⟨(e0.mod.nolimit.keeps old).keeps x.toInCall.keep, codeAny_func ?_⟩
  have J := inv_start (CX := CX) (E := E) S hr.hd e0 (len _ _ _ _ hsp) r x
  apply wpAny_mono (ht.run [] s1 (L2.start N vs) H _ J hq) _ (fun _ _ z => z)
  intro fl s' hs
  match fl, hs with
  | .ret u, ⟨v, σ', H', I, rv, q⟩ => exact ⟨v, H', I.os, I.bare, I.base, I.hok, rv, q⟩
  | .next, ⟨σ', H', I, q⟩ => exact ⟨V.non, H', I.os, I.bare, I.base, I.hok, rfl, q⟩
  | .brk, ⟨_, _, _, q⟩ => exact q.elim
  | .cont, ⟨_, _, _, q⟩ => exact q.elim
/-- a def of the text, its body's term of rules and the reading over data -/
theorem df_data {x qual : Str} {st : Stmt} {f : Addr} {fd : FuncData} {N ps : List Str} {k : Nat} {W : WT} {t : TS} (F : Fun K x qual st f fd) (S : FnScope N ps (defScope st)) (len : ∀ ss m P, W ss m P → ss.length = ps.length)
    (der : ∀ (cdv : Value) (A : Around) (outer : List Env) (s : Shared) (H : Hp) (E : XK), (A.deeper (envOfC qual (defScope st) s.heap.objs.size f cdv)).guards = some [] → Room k (A.deeper (envOfC qual (defScope st) s.heap.objs.size f cdv)) →
      PSs (cxOf CX0 Pg w K mg base N qual (defScope st) f cdv A outer s H E).nox (defBody st) t)
    (rd : ∀ ss m P, W ss m P → Wp K t (rho N ss) m { nx := fun _ m' => P (.d .none) m', rt := P }) : DF Pg w K mg base CX0 (k + 1) f fd ps (SpD K W) := by
  obtain ⟨oc, od, kV, doc, pm, an, cdv, ct, osl, rfl, lk, hcd⟩ := F.ex
  exact df_of lk hcd S (fun vs H Q E h => spD_len len h) fun A outer s H vs Q E hg hr h => ⟨t, (der cdv A outer s H E hg hr).nox, body rd h⟩
section
variable {X : Cx} {k : Nat} {f : Addr} {fd : FuncData} {ps : List Str} {sp : Sp} {dvs : List V} {ds : List Value} {E : XK} {x : Str} {p pos : Pos} {e : Expr} {es : List Expr} {t : TA}
theorem run_df {pins : List (Addr × Obj)} {σ : L2.St} {H : Hp} {s : Shared} {Q : VK} {us : List Value} {vs : List V} (F : DF X.prog X.w X.K X.mg X.base CX k f fd ps sp) (hg : X.A.guards = some []) (hr : Room k X.A) (hb : Binds X.K fd ps ds) (hd : Vals dvs ds) (hx : Passes CX X E)
    (I : Inv X pins σ H s) (r : Vals vs us) (h : sp (vs ++ dvs) H Q E) : wpAny (model X.prog X.w) X.A (call (.ref f) us) (EP X pins σ Q) X.xe s := by
  have r2 := r.append hd
  have hl := (r2.length.symm.trans (F.len _ _ _ _ h))
  apply wpAny_call
  apply codeAny_mono (F.run X.A X.stack s H ⟨us, []⟩ _ _ Q E hg hr I.env0 (hb s us I.kIn hl) r2 h)
  intro r s' hq
  match r, hq with
  | .error e, hq => exact hx pins σ H s e s' I hq
  | .ok (.ret u), hq => exact I.after hq
  | .ok .next, hq => exact False.elim hq
  | .ok .brk, hq => exact False.elim hq
  | .ok .cont, hq => exact False.elim hq
theorem pe_dcall (F : DF X.prog X.w X.K X.mg X.base CX k f fd ps sp) (hgd : X.A.guards = some []) (hr : Room k X.A) (hg : Gl X x) (hm : X.mg x = some (.ref f)) (hk : PySem.W.keepIn X.K (.ref f) = true) (hb : Binds X.K fd ps ds) (hd : Vals dvs ds) (hx : Passes CX X E)
    (ha : PA X (e :: es) t) (hdb : (x == ("__debug__" : Str)) = false := by decide) (he : starEach (e :: es) X.env = (false, eval e X.env) :: starEach es X.env := by rfl) (hpl : (backTo pos (starEach es X.env)).any (·.1) = false := by rfl) :
    PE X (.Call (.Name x p) (e :: es) [] pos) (tCall sp dvs E t) := by
  constructor
  intro pins s σ H Q I h
  refine wpAny_Call_Name_kw (ld_glob I hg hm ?_ hdb)
  refine PySem.W.callWith_K (h₀ := X.base) I.ok.mod.kin hk (thn (ha.run pos pins s σ H _ I h) ?_) he hpl
  rintro us s1 ⟨vs, H1, I1, r, q⟩
  exact ⟨I1.kIn, run_df F hgd hr hb hd hx I1 r q⟩
end
/-! ### the law's own call -/
/-- what a law's def must do: from the script to True -/
def WLaw : WT := fun ss m P => ∃ ns : List Int, ss = [.f (ns.map .int)] ∧ ns.length ≤ 63 ∧ (∀ a, m a = none) ∧ ∀ m', P (.d (.bool true)) m'
theorem imAll_ints {F : Reg} {H : Hp} : ∀ {ns : List Int}, ImAll K F H (ns.map .int) (ns.map V.int)
  | [] => rfl
  | n :: ns => ⟨.int n, ns.map V.int, rfl, rfl, imAll_ints⟩
theorem law_dcall {mb : Str → Option Value} {k : Nat} {fa a : Addr} {fd : FuncData} {x : Str} {s₁ : Shared} {vs : List Value} {ns : List Int}
    (KX : K.In s₁.heap) (hns : s₁.heap.Ns mainGlobals mg) (hb : s₁.heap.Ns builtinsNs mb) (hbb : ∀ x : Str, x ≠ "__name__" → mb x = bootBuiltins x) (hlim : s₁.heap.NoLimit) (hg : s₁.gens = #[])
    (ha : s₁.heap.get? a = some { cls := .type "list", data := .seq vs.toArray }) (hi : IntsAre vs ns) (hl : ns.length ≤ 63) (hr : Room k callerA)
    (F : ∀ base : Heap, K.In base → base.Ns mainGlobals mg → DF Pg w K mg base CX0 k fa fd [x] (SpD K WLaw)) (hbind : ∀ (s : Shared) (u : Value), BindsTo s fd ⟨[u], []⟩ [(x, u)]) :
    codeAny (model Pg w) callerA (.call (.ref fa) ⟨[.ref a], []⟩) (fun r s' => r = .ok (.ret (.bool true)) ∧ OldK s₁.heap s'.heap ∧ s'.os = s₁.os ∧ AllBare s'.gens) s₁ := by
  have lenV := hi.length
  have hz : (ns.map V.int).length ≤ sizeLine := by rw [List.length_map, sizeLine_eq]; omega
  let ob : Obj := { cls := .type "list", data := .seq vs.toArray }
  -- the script is tracked where it is none of the module's own objects
  obtain ⟨H, hH, hS⟩ : ∃ H : Hp, (∀ b, H b = none ∨ (b = a ∧ K.lookup a = none ∧ H b = some (.frz ob (.lst (ns.map V.int))))) ∧ SlOk K (fun b => H b ≠ none) H (.f (ns.map .int)) (.ref a) := by
    cases hk : K.lookup a with
    | none =>
      refine ⟨fun b => if b = a then some (.frz ob (.lst (ns.map V.int))) else none, fun b => ?_, a, ns.map V.int, rfl, .inl ⟨?_, ob, if_pos rfl⟩, imAll_ints⟩
      · by_cases hba : b = a
        · exact .inr ⟨hba, rfl, if_pos hba⟩
        · exact .inl (if_neg hba)
      · show (if a = a then some (HO.frz ob (.lst (ns.map V.int))) else none) ≠ none
        rw [if_pos rfl]; simp
    | some o =>
      have e := KX a o hk
      rw [ha] at e
      cases e
      exact ⟨fun _ => none, fun b => .inl rfl, a, ns.map V.int, rfl, .inr ⟨_, vs.toArray, _, hk, rfl, rfl, rfl, by rw [List.size_toArray, lenV, sizeLine_eq]; omega, vals_ints hi⟩, imAll_ints⟩
  have hok : HOk Pg w H s₁.heap := fun b u e => by
    rcases hH b with z | ⟨rfl, _, z⟩
    · rw [z] at e; cases e
    · rw [z] at e; cases e
      exact ⟨ha, hz, vs, _, vals_ints hi, ha⟩
  have only : ∀ {b : Addr} {u : HO}, H b = some u → b = a ∧ K.lookup a = none := fun {b u} e => by
    rcases hH b with z | ⟨z, y, _⟩
    · rw [z] at e; cases e
    · exact ⟨z, y⟩
  have free : ∀ {b : Addr} {o : Obj} {es : Array DictEntry} {ep : Nat}, s₁.heap.get? b = some o → o.data = .dict es ep → H b = none := fun {b o es ep} e d => by
    cases q : H b with
    | none => rfl
    | some u =>
      rw [(only q).1, ha] at e
      cases e
      cases d
  have ns2 : ∀ {b : Addr} {mm : Str → Option Value}, s₁.heap.Ns b mm → (hidT s₁.heap H).Ns b mm := fun ⟨o, es, ep, e, d, r⟩ => ⟨o, es, ep, hidT_get e (free e d), d, r⟩
  have hKb : K.In (hidT s₁.heap H) := fun b o e => hidT_get (KX b o e) (by
    cases q : H b with
    | none => rfl
    | some u =>
      obtain ⟨e1, e2⟩ := only q
      rw [e1, e2] at e
      cases e)
  have hM : Mod K mg (hidT s₁.heap H) := ⟨hKb, ns2 hns, ⟨mb, ns2 hb, hbb⟩, let ⟨mc, h1, h2⟩ := hlim; ⟨mc, ns2 h1, h2⟩⟩
  have e0 : Env0 Pg w K mg (hidT s₁.heap H) callerA [] s₁ H := ⟨rfl, hM, fun b o e => of_hidT e, Nat.le_of_eq (hidT_size _ _), trivial, fun b hb => absurd (show b ∈ ([] : List Addr) from hb) (by simp), hok, .of_eq hg⟩
  have hsp : SpD K WLaw [.ref a] H (fun v _ => v = .bl true) (fun _ _ _ => False) :=
    ⟨[.f (ns.map .int)], fun _ => none, fun b => H b ≠ none, fun s _ => s = .d (.bool true), .cons hS .nil, ⟨fun _ _ e => (nomatch e), fun _ z => z⟩, ⟨ns, rfl, hl, fun _ => rfl, fun _ => rfl⟩, fun s m' v F' H' e _ _ o => by subst e; exact o⟩
  apply codeAny_mono ((F _ hKb (ns2 hns)).run callerA [] s₁ H ⟨[.ref a], []⟩ [.ref a] [.ref a] _ _ rfl hr e0 (hbind s₁ (.ref a)) (.cons rfl .nil) hsp)
  intro r s' h
  match r, h with
  | .error e, h => exact False.elim h
  | .ok .next, h => exact False.elim h
  | .ok .brk, h => exact False.elim h
  | .ok .cont, h => exact False.elim h
  | .ok (.ret u), ⟨v, H', os, bare, un, hok', rv, q⟩ =>
    cases (show v = .bl true from q)
    cases (show u = Value.bool true from rv)
    refine ⟨rfl, OldK.of_keep fun b o e => ?_, os, bare⟩
    rcases hH b with z | ⟨_, _, z⟩
    · exact un.keep b o e z (by intro y; exact absurd (show b ∈ ([] : List Addr) from y) (by simp)) (by simp)
    · obtain ⟨e1, _⟩ := hok b _ z
      obtain ⟨e2, _⟩ := hok' b _ (un.frzs b _ _ z)
      rw [e] at e1
      cases e1
      exact e2
end
end Dv
namespace Dv
open PySem L2
section
variable {K : PySem.W.Frag} {ρ : Rho} {m : Sto} {to te : TE} {P : PV}
/-! ### methods of texts -/
theorem ev_m0 {r : V → List V → Hp → VK → Prop} (h : Ev K to ρ m fun s m1 => ∃ z, s = .d (.str z) ∧ RM K r (.d (.str z)) [] m1 P) : Ev K (tM0 r to) ρ m P := fun σ F H Q E S q =>
  h σ F H _ E S fun s m1 x F1 H1 ⟨z, e, h1⟩ s1 S1 o1 => by
    subst e
    exact ⟨⟨z, o1⟩, h1 x [] F1 H1 Q o1 .nil S1 fun s' m' v F' H' p s2 S2 o2 => q s' m' v F' H' p (s1.trans s2) S2 o2⟩
abbrev rUpperM : V → List V → Hp → VK → Prop := fun x xs H Q => ∃ a, x = .str a ∧ xs = [] ∧ a.length ≤ 5592405 ∧ Q (.str (Txt.upper a)) H
abbrev rLowerM : V → List V → Hp → VK → Prop := fun x xs H Q => ∃ a, x = .str a ∧ xs = [] ∧ a.length ≤ 5592405 ∧ Q (.str (Txt.lower a)) H
theorem rm_upper {z : Str} (h : z.length ≤ 100000) (p : P (.d (.str (Txt.upper z))) m) : RM K rUpperM (.d (.str z)) [] m P := fun x xs F H Q a b S q => ⟨z, a, sls0 b, by omega, q _ m _ F H p Step.refl S rfl⟩
theorem rm_lower {z : Str} (h : z.length ≤ 100000) (p : P (.d (.str (Txt.lower z))) m) : RM K rLowerM (.d (.str z)) [] m P := fun x xs F H Q a b S q => ⟨z, a, sls0 b, by omega, q _ m _ F H p Step.refl S rfl⟩
/-! ### sets of texts -/
variable {Pg : Program} {w : World}
/-! ### t.index(x), l.index(x) -/
def tyT (K : PySem.W.Frag) (x : V) (H : Hp) : Prop := ∃ p vs, x = .ref p ∧ (ZT H p vs ∨ WrT K p vs)
abbrev rTIx (K : PySem.W.Frag) : V → List V → Hp → VK → Prop := fun x xs H Q => ∃ p, ∃ ys : List Str, ∃ z j, x = .ref p ∧ xs = [.str z] ∧ SqT K H p (ys.map V.str) ∧ ys[j]? = some z ∧ (∀ m, m < j → ys[m]? ≠ some z) ∧ Q (.int (j : Nat)) H
def tTM (K : PySem.W.Frag) (r : V → List V → Hp → VK → Prop) (to te : TE) : TE := fun σ H Q => to σ H fun x H1 => tyT K x H1 ∧ te σ H1 fun y H2 => r x [y] H2 Q
theorem tyT_is {X : Cx} {pins : List (Addr × Obj)} {σ : L2.St} {H : Hp} {s : Shared} {x : V} {v : Value} (I : Inv X pins σ H s) (r : RelV x v) (ty : tyT X.K x H) : s.TypeIs v "tuple" ∧ ∀ a, v = .ref a → ∃ ob, s.heap.get? a = some ob ∧ ob.dict = none := by
  obtain ⟨p, vs, rfl, h⟩ := ty
  cases r
  rcases h with ⟨ob, ho, hd⟩ | ⟨o, its, n, hk, hc, hd, _⟩
  · obtain ⟨e, z, _, _, o2, e2, c2, _⟩ := I.hok p _ ho
    rw [e] at e2
    cases e2
    exact ⟨⟨ob, e, c2⟩, fun a q => by cases q; exact ⟨ob, e, hd⟩⟩
  · exact ⟨⟨o, I.kIn p o hk, hc⟩, fun a q => by cases q; exact ⟨o, I.kIn _ o hk, hd⟩⟩
theorem pe_tm1 {X : Cx} {o e : Expr} {to te : TE} {id : String} {name : Str} {apos pos : Pos} {r : V → List V → Hp → VK → Prop} (slot : Slot "tuple" name id) (ty : typeOf (.builtin id) = pure (.type "method_descriptor")) (rule : MtR X id r) (ho : PE X o to) (he : PE X e te)
    (hs : starEach [e] X.env = [(false, eval e X.env)] := by rfl) (hbase : attributeBase o name X.env (eval o X.env) = eval o X.env := by rfl) (hline : (apos.endLine == pos.line) = true := by rfl) :
    PE X (.Call (.Attribute o name apos) [e] [] pos) (tTM X.K r to te) := by
  constructor
  intro pins s σ H Q I h
  refine PySem.Call_method1 hbase hs hline (thn (ho.run pins s σ H _ I h) ?_)
  rintro v s1 ⟨x, H1, I1, r1, tt, q1⟩
  obtain ⟨a1, a2⟩ := tyT_is I1 r1 tt
  refine ⟨"tuple", _, PySem.F.plainAttrs_tuple, slot, ty, a1, a2, Calls.callWith_builtin rfl (Calls.evalArgs_plain (Calls.spliced_cons (thn (he.run pins s1 σ H1 _ I1 q1) ?_)))⟩
  rintro u s2 ⟨y, H2, I2, r2, q2⟩
  exact Calls.spliced_nil (rule pins s2 σ H2 _ [y] _ [u] Q I2 r1 (.cons r2 .nil) q2)
theorem ev_tm {r : V → List V → Hp → VK → Prop} (h : Ev K to ρ m fun s m1 => ∃ ds, s = .d (.tuple ds) ∧ Ev K te ρ m1 fun s2 m2 => RM K r (.d (.tuple ds)) [s2] m2 P) : Ev K (tTM K r to te) ρ m P := fun σ F H Q E S q =>
  h σ F H _ E S fun s m1 x F1 H1 ⟨ds, e, h1⟩ s1 S1 o1 => by
    subst e
    refine ⟨?_, h1 σ F1 H1 _ (envOk_step s1 E) S1 fun s2 m2 y F2 H2 h2 s2' S2 o2 => ?_⟩
    · obtain ⟨a, vs, e, n, i⟩ := o1
      exact ⟨a, vs, e, n.imp (·.2) id⟩
    exact h2 x [y] F2 H2 Q (slOk_step s2' o1) (.cons o2 .nil) S2 fun s' m' v F' H' p s3 S3 o3 => q s' m' v F' H' p ((s1.trans s2').trans s3) S3 o3
theorem rm_tindex {ys : List Str} {z : Str} {j : Nat} (h : ys[j]? = some z) (hn : ∀ i, i < j → ys[i]? ≠ some z) (p : P (.d (.int (j : Nat))) m) : RM K (rTIx K) (.d (.tuple (ys.map .str))) [.d (.str z)] m P := fun x xs F H Q a b S q => by
  obtain ⟨y, e, o⟩ := sls1 b
  cases (show y = .str z from o)
  obtain ⟨l, vs, e2, hl, i⟩ := im_tup a
  have := imAll_strs.mp i
  subst this
  exact ⟨l, ys, z, j, e2, e, hl, h, hn, q _ m _ F H p Step.refl S rfl⟩
end
end Dv
namespace Dv
open PySem L2 PyProof.Rows
/-! ### a def as its callers know it -/
structure Dfn (Pg : Program) (w : World) (K : PySem.W.Frag) (mg : Str → Option Value) (base : Heap) (k : Nat) (name : Str) (ps : List Str) (W : WT) : Prop where
  ex : ∃ f fd, mg name = some (.ref f) ∧ PySem.W.keepIn K (.ref f) = true ∧ Binds K fd ps [] ∧ DF Pg w K mg base CX0 k f fd ps (SpD K W)
structure FunAt (K : PySem.W.Frag) (mg : Str → Option Value) (name : Str) (st : Stmt) (ps : List Str) : Prop where
  ex : ∃ f fd, mg name = some (.ref f) ∧ Fun K name name st f fd ∧ Binds K fd ps []
theorem funAt_mk {K : PySem.W.Frag} {h : Heap} {mg : Str → Option Value} {x : Str} {st : Stmt} {f : Addr} {oc : Value} {od an : Option Addr} {osl : Array (Option Value)} {kV doc pm cdv ct : Value} {ps : List Str} (X : K.In h) (G : h.Ns mainGlobals mg)
    (a : PySem.W.nsIn K mainGlobals x = some (some (.ref f))) (l : K.lookup f = some ⟨oc, od, .func (PySem.W.fnOf x x (defArgs st) (defBody st) (defScope st) .none kV doc pm an cdv ct), osl⟩) (c : PySem.W.codeIn K cdv x = true) (k : PySem.W.keepIn K (.ref f) = true)
    (hb : ∀ (kV doc pm : Value) (an : Option Addr) (cdv ct : Value) (us : List Value), us.length = ps.length → bindArgs (PySem.W.fnOf x x (defArgs st) (defBody st) (defScope st) .none kV doc pm an cdv ct) ⟨us, []⟩ = pure (ps.zip us)) : FunAt K mg x st ps :=
  ⟨f, _, PySem.W.mg_of X G a, fun_mk l c k, (fun_mk (st := st) l c k).binds hb⟩
section
variable {Pg : Program} {w : World} {K : PySem.W.Frag} {mg : Str → Option Value} {base : Heap}
theorem dfn_mk {k : Nat} {name : Str} {st : Stmt} {N ps : List Str} {W : WT} {t : TS} (A : FunAt K mg name st ps) (S : FnScope N ps (defScope st)) (len : ∀ ss m P, W ss m P → ss.length = ps.length)
    (der : ∀ (f : Addr) (cdv : Value) (A : Around) (outer : List Env) (s : Shared) (H : Hp) (E : XK), (A.deeper (envOfC name (defScope st) s.heap.objs.size f cdv)).guards = some [] → Room k (A.deeper (envOfC name (defScope st) s.heap.objs.size f cdv)) →
      PSs (cxOf CX0 Pg w K mg base N name (defScope st) f cdv A outer s H E).nox (defBody st) t)
    (rd : ∀ ss m P, W ss m P → Wp K t (rho N ss) m { nx := fun _ m' => P (.d .none) m', rt := P }) : Dfn Pg w K mg base (k + 1) name ps W := by
  obtain ⟨f, fd, hm, hF, hb⟩ := A.ex
  exact ⟨f, fd, hm, hF.kp, hb, df_data hF S len (der f) rd⟩
variable {X : Cx}
theorem pe_fn {j k : Nat} {x : Str} {ps : List Str} {W : WT} {p pos : Pos} {e : Expr} {es : List Expr} {t : TA} (D : Dfn X.prog X.w X.K X.mg X.base j x ps W) (hgd : X.A.guards = some []) (hr : Room k X.A) (h : j ≤ k) (hg : Gl X x) (ha : PA X (e :: es) t)
    (hdb : (x == ("__debug__" : Str)) = false := by decide) (he : starEach (e :: es) X.env = (false, eval e X.env) :: starEach es X.env := by rfl) (hpl : (backTo pos (starEach es X.env)).any (·.1) = false := by rfl) :
    PE X (.Call (.Name x p) (e :: es) [] pos) (tCall (SpD X.K W) [] E0 t) := by
  obtain ⟨f, fd, hm, hk, hb, F⟩ := D.ex
  exact pe_dcall F hgd (hr.mono h) hg hm hk hb .nil pass0 ha hdb he hpl
/-! ### short forms of rules -/
theorem ps_setA (i : Nat) {x : Str} {e : Expr} {te : TE} {pos' pos : Pos} (hN : X.N.Nodup) (he : PE X e te) (hi : X.N[i]? = some x := by rfl) (hx : Loc X.env.scope x := by first | exact Or.inl rfl | exact Or.inr rfl) (hs : swapsWith e (some (.Name x pos')) pos.line X.env = pure false := by rfl)
    (hf : X.fn x = true ∨ X.env.scope.names.lookup x = some .local := by first | exact .inl rfl | exact .inr rfl) : PS X (.Assign [.Name x pos'] e pos) (tAsg te (gName i)) := ps_set hN hi hx he hs hf
theorem pg_nameA (i : Nat) {x : Str} {pos : Pos} (hN : X.N.Nodup) (hi : X.N[i]? = some x := by rfl) (hx : Loc X.env.scope x := by first | exact Or.inl rfl | exact Or.inr rfl) (hf : X.fn x = true ∨ X.env.scope.names.lookup x = some .local := by first | exact .inl rfl | exact .inr rfl) : PG X (.Name x pos) (gName i) := pg_name hN hi hx hf
theorem hu64 {k : Nat} (hr : Room k X.A) : X.A.units + 64 < cLine := hr.units
theorem hu65 {k : Nat} (hr : Room k X.A) : X.A.units + 65 < cLine := by have := hr.un; omega
theorem hu70 {k : Nat} (hr : Room k X.A) : X.A.units + 70 < cLine := by have := hr.un; omega
end
section
variable {K : PySem.W.Frag} {ρ : Rho} {m : Sto} {P : PV} {te : TE}
/-- list(range(n)) -/
def upTo (n : Nat) : List PyData := (List.range n).map fun i => .int (i : Nat)
theorem imAll_upTo {F : Reg} {H : Hp} {n : Int} (h : 0 ≤ n) : ImAll K F H (upTo n.toNat) (rgV 0 n) := by
  unfold upTo rgV
  rw [Int.sub_zero]
  generalize List.range n.toNat = l
  induction l with
  | nil => rfl
  | cons a l ih => exact ⟨_, _, rfl, (by show V.int (0 + (a : Nat)) = V.int (a : Nat); rw [Int.zero_add]), ih⟩
theorem ev_listRg (h : Ev K te ρ m fun s m1 => ∃ n : Int, s = .d (.int n) ∧ 0 ≤ n ∧ n ≤ 100000 ∧ P (.d (.list (upTo n.toNat))) m1) : Ev K (tLstRg (tRg1 te)) ρ m P := fun σ F H Q E S q =>
  h σ F H _ E S fun s m1 x F1 H1 ⟨n, e, h0, h1, p⟩ s1 S1 o1 => by
    subst e
    cases (show x = .int n from o1)
    refine ⟨n, rfl, RgOk.of_le (by omega) (by omega) (by omega) h0, fun a ha => ?_⟩
    exact q _ m1 _ _ _ p (s1.trans (step_new S1 ha)) (sto_new S1 ha) ⟨a, _, rfl, .inl rfl, upd_same, imAll_upTo h0⟩
end
end Dv
namespace Dv
open PySem L2 PyProof.Rows
theorem pe_cn {X : Cx} {x : Str} {v : V} {pos : Pos} (h : ∃ u, X.mg x = some u ∧ L2.RelV v u) (hg : Gl X x := by rfl) (hd : (x == ("__debug__" : Str)) = false := by decide) : PE X (.Name x pos) (tC v) := let ⟨_, a, b⟩ := h; pe_glob hg a b hd
section
variable {K : PySem.W.Frag} {ρ : Rho} {m : Sto} {P : PV} {te : TE} {ts : TS} {k : Ko}
/-- what the store need not know any more -/
theorem ev_del (h : Ev K te ρ m fun s m' => ∃ a u, m' a = some u ∧ P s (del m' a)) : Ev K te ρ m P := fun σ F H Q E S q =>
  h σ F H Q E S fun s m' v F' H' ⟨a, u, e, p⟩ s1 S1 o1 => q s _ v _ H' p (s1.trans (step_del S1 e)) (sto_del S1 e) (slOk_step (step_del S1 e) o1)
theorem wp_del {a : Addr} {u : Mu} (e : m a = some u) (h : Wp K ts ρ (del m a) k) : Wp K ts ρ m k := fun D σ F H E S q1 q2 q3 q4 =>
  wp_at (D := D) (step_del S e) (envOk_step (step_del S e) E) (sto_del S e) h q1 q2 q3 q4
/-- a slot that holds a list of ds -/
def LsS (K : PySem.W.Frag) (s : Sl) (m : Sto) (ds : List PyData) : Prop := ∀ (x : V) (F : Reg) (H : Hp), SlOk K F H s x → StoOk K m F H → ∃ a vs, x = .ref a ∧ H a = some (.lst vs) ∧ ImAll K F H ds vs
theorem ls_d {ds : List PyData} : LsS K (.d (.list ds)) m ds := fun x F H a S => im_lst a
theorem ls_m {l : Addr} {ds : List PyData} (hm : m l = some (.lst ds)) : LsS K (.m l) m ds := fun x F H a S => let ⟨vs, hl, i⟩ := mu_lst S hm; ⟨l, vs, a, hl, i⟩
/-- lists that will change, by + -/
theorem ra_lstM {s t : Sl} {ds es : List PyData} (hs : LsS K s m ds) (ht : LsS K t m es)
    (h : ds.length + es.length ≤ 100000) (p : ∀ a, m a = none → P (.m a) (put m a (.lst (ds ++ es)))) : RO K (rAddU K) s t m P := ro_r (ro_r (ro_l fun u v F H Q a b S q => by
  obtain ⟨l, xs, e1, h1, i1⟩ := hs u F H a S
  obtain ⟨l2, ys, e2, h2, i2⟩ := ht v F H b S
  have z1 := imAll_len i1
  have z2 := imAll_len i2
  have i := imAll_app i1 i2
  refine ⟨l, l2, xs, ys, e1, e2, h1, h2, by rw [sizeLine_eq]; omega, fun c hc => ?_⟩
  exact q _ _ _ _ _ (p c (sto_none S hc)) (step_newM S hc) (sto_put S (not_reg S hc) ⟨_, upd_same, imAll_fix (step_newM (u := .lst (ds ++ es)) S hc).fix _ _ i⟩) rfl))
variable {t : TT}
end
end Dv
namespace Dv
open PySem L2 PyProof.Rows
theorem ite_b {b : Bool} {A B : Prop} (h1 : b = true → A) (h2 : b = false → B) : if b = true then A else B := by
  cases b with
  | true => rw [if_pos rfl]; exact h1 rfl
  | false => rw [if_neg Bool.false_ne_true]; exact h2 rfl
section
variable {K : PySem.W.Frag} {ρ : Rho} {m : Sto} {P : PV} {te : TE} {ts : TS} {k : Ko} {tt : TT}
/-! ### loops over what does not change -/
theorem wp_forL {α : Type} {toD : α → PyData} {wi : TI} {j : Nat} (h : EvI K wi ρ m fun xs C m1 => ∃ (ys : List α) (Iv : Nat → Rho → Sto → Prop), xs = (ys.map toD).map Sl.d ∧ Iv 0 ρ m1 ∧ (∀ i ρ' m', Iv i ρ' m' → C m') ∧
      (∀ i y ρ' m', ys[i]? = some y → Iv i ρ' m' → Wp K ts (ρ'.set j (some (.d (toD y)))) m' { k with nx := Iv (i + 1), ct := Iv (i + 1), bk := k.nx }) ∧ ∀ ρ' m', Iv ys.length ρ' m' → k.nx ρ' m') :
    Wp K (tFor wi (gName j) ts) ρ m k := wp_for fun σ F H R E S q => h σ F H R E S fun xs C m1 F1 H1 J ⟨ys, Iv, e, h0, hC, hs, hd⟩ s1 S1 w => by
  refine q xs C m1 F1 H1 J ⟨Iv, h0, hC, fun i x ρ' m' hx iv => ?_, fun ρ' m' iv => hd ρ' m' ?_⟩ s1 S1 w
  · subst e
    rw [List.getElem?_map, List.getElem?_map] at hx
    cases hy : ys[i]? with
    | none => rw [hy] at hx; cases hx
    | some y =>
      rw [hy] at hx
      cases hx
      exact ⟨[j], gt_name (hs i y ρ' m' hy iv)⟩
  · subst e
    simpa using iv
theorem wp_rng {ta : TA} {j : Nat} (h : EvA K ta ρ m fun ss m1 => ∃ (n : Nat) (Iv : Nat → Rho → Sto → Prop), ss = [.d (.int n)] ∧ n ≤ 1000000 ∧ Iv 0 ρ m1 ∧
      (∀ i ρ' m', i < n → Iv i ρ' m' → Wp K ts (ρ'.set j (some (.d (.int (i : Nat))))) m' { k with nx := Iv (i + 1), ct := Iv (i + 1), bk := k.nx }) ∧ ∀ ρ' m', Iv n ρ' m' → k.nx ρ' m') :
    Wp K (tFor (iRng1 ta) (gName j) ts) ρ m k := wp_forL (α := Nat) (toD := fun i => .int (i : Nat)) (ei_rng1 fun σ F H R E S q => h σ F H R E S fun ss m1 vs F1 H1 ⟨n, Iv, e, hn, h0, hs, hd⟩ s1 S1 o1 => by
  refine q ss m1 vs F1 H1 ⟨n, e, by omega, by omega, List.range n, Iv, by simp, h0, fun _ _ _ _ => trivial, fun i y ρ' m' hy iv => ?_, fun ρ' m' iv => hd ρ' m' (by simpa using iv)⟩ s1 S1 o1
  have hl := (List.getElem?_eq_some_iff.mp hy).1
  rw [List.getElem?_range (by simpa using hl)] at hy
  cases hy
  exact hs i ρ' m' (by simpa using hl) iv)
/-- for i, x in enumerate(t) -/
theorem wp_enum {α : Type} {toD : α → PyData} {ta : TA} {i1 i2 : Nat} (h : EvA K ta ρ m fun ss m1 => ∃ (ys : List α) (Iv : Nat → Rho → Sto → Prop), ss = [.d (.tuple (ys.map toD))] ∧ Iv 0 ρ m1 ∧
      (∀ i y ρ' m', ys[i]? = some y → Iv i ρ' m' → Wp K ts ((ρ'.set i1 (some (.d (.int (i : Nat))))).set i2 (some (.d (toD y)))) m' { k with nx := Iv (i + 1), ct := Iv (i + 1), bk := k.nx }) ∧ ∀ ρ' m', Iv ys.length ρ' m' → k.nx ρ' m') :
    Wp K (tFor (iEnumU K ta) (gTup K 2 (gCons (gName i1) (gCons (gName i2) gNil))) ts) ρ m k := wp_for (ei_enumT fun σ F H R E S q => h σ F H R E S fun ss m1 vs F1 H1 ⟨ys, Iv, e, h0, hs, hd⟩ s1 S1 o1 => by
  refine q ss m1 vs F1 H1 ⟨_, e, Iv, h0, fun _ _ _ _ => trivial, fun i x ρ' m' hx iv => ?_, fun ρ' m' iv => hd ρ' m' (by rw [enumS_len] at iv; simpa using iv)⟩ s1 S1 o1
  obtain ⟨d, hd', rfl⟩ := enumS_of hx
  rw [List.getElem?_map] at hd'
  cases hy : ys[i]? with
  | none => rw [hy] at hd'; cases hd'
  | some y =>
    rw [hy] at hd'
    cases hd'
    exact ⟨[i1, i2], gt_pairP (hs i y ρ' m' hy iv)⟩)
/-! ### comprehensions where nothing changes -/
theorem ev_lcF {α : Type} {toD : α → PyData} {wi : TI} {j : Nat} {vs : List Nat} (hj : j ∈ vs) (h : EvI K wi ρ m fun xs C m1 => ∃ (ys : List α) (G : α → Bool) (F : α → PyData), xs = (ys.map toD).map Sl.d ∧ C m1 ∧ ys.length ≤ 100000 ∧
      (∀ y ∈ ys, EvT K tt ((wipeR ρ vs).set j (some (.d (toD y)))) m1 (fun b m3 => b = G y ∧ m3 = m1) ∧ (G y = true → Ev K te ((wipeR ρ vs).set j (some (.d (toD y)))) m1 (fun s m4 => s = .d (F y) ∧ m4 = m1))) ∧
      P (.d (.list ((ys.filter G).map F))) m1) : Ev K (tLc wi (gName j) tt te vs) ρ m P := ev_lc fun σ F0 H R E S q => h σ F0 H R E S fun xs C m1 F1 H1 J ⟨ys, G, F, e, hC, hl, hs, p⟩ s1 S1 w => by
  have key : ∀ (i : Nat) (y : α), ys[i]? = some y → (((ys.take (i + 1)).filter G).map F) = if G y = true then ((ys.take i).filter G).map F ++ [F y] else ((ys.take i).filter G).map F := by
    intro i y hy
    rw [List.take_add_one, hy]
    cases hG : G y <;> simp [hG]
  refine q xs C m1 F1 H1 J ⟨fun i acc m' => m' = m1 ∧ acc = ((ys.take i).filter G).map F, ⟨rfl, by simp⟩, fun i acc m' z => by rw [z.1]; exact hC, fun i x acc m' hx iv => ?_, fun acc m' iv => ?_⟩ s1 S1 w
  · obtain ⟨rfl, rfl⟩ := iv
    subst e
    rw [List.getElem?_map, List.getElem?_map] at hx
    cases hy : ys[i]? with
    | none => rw [hy] at hx; cases hx
    | some y =>
      rw [hy] at hx
      cases hx
      obtain ⟨h1, h2⟩ := hs y (List.mem_of_getElem? hy)
      refine ⟨?_, [j], by simpa using hj, gt_name (h1.mono fun b m3 ⟨eb, em⟩ => ?_)⟩
      · have a1 : (((ys.take i).filter G).map F).length ≤ (ys.take i).length := by
          rw [List.length_map]
          exact List.length_filter_le _ _
        have a2 : i < ys.length := (List.getElem?_eq_some_iff.mp hy).1
        have a3 : (ys.take i).length = i := by rw [List.length_take]; omega
        omega
      · subst eb em
        have kk := key i y hy
        refine ite_b (fun hG => ?_) (fun hG => ?_)
        · rw [if_pos hG] at kk
          exact (h2 hG).mono fun s m4 ⟨es, em⟩ => ⟨F y, es, em, kk.symm⟩
        · rw [if_neg (by rw [hG]; exact Bool.false_ne_true)] at kk
          exact ⟨rfl, kk.symm⟩
  · obtain ⟨rfl, rfl⟩ := iv
    have : xs.length = ys.length := by rw [e]; simp
    rw [this, List.take_length]
    exact p
theorem ev_lcR {ta : TA} {j : Nat} {vs : List Nat} (hj : j ∈ vs) (h : EvA K ta ρ m fun ss m1 => ∃ (n : Nat) (F : Nat → PyData), ss = [.d (.int n)] ∧ n ≤ 100000 ∧
      (∀ i, i < n → Ev K te ((wipeR ρ vs).set j (some (.d (.int (i : Nat))))) m1 (fun s m4 => s = .d (F i) ∧ m4 = m1)) ∧
      P (.d (.list ((List.range n).map F))) m1) : Ev K (tLc (iRng1 ta) (gName j) tYes te vs) ρ m P := ev_lcF (α := Nat) (toD := fun i => .int (i : Nat)) hj (ei_rng1 fun σ F0 H R E S q => h σ F0 H R E S fun ss m1 us F1 H1 ⟨n, F, e, hn, hs, p⟩ s1 S1 o1 =>
  q ss m1 us F1 H1 ⟨n, e, by omega, by omega, List.range n, fun _ => true, F, by simp, trivial, by simpa using hn, fun y hy => ⟨et_yes ⟨rfl, rfl⟩, fun _ => hs y (by simpa using hy)⟩, by rw [List.filter_eq_self.mpr (fun _ _ => rfl)]; exact p⟩ s1 S1 o1)
end
end Dv
namespace Dv
open PySem L2 PyProof.Rows
/-! ### letters, names, floors -/
abbrev Sx (l : List Nat) : Str := ⟨l.toArray⟩
theorem sx_len (l : List Nat) : (Sx l).length = l.length := by simp [Str.length]
theorem sx_of (z : Str) : Sx z.cps.toList = z := by cases z; simp
theorem sx_inj {a b : List Nat} (h : Sx a = Sx b) : a = b := by
  have := congrArg (fun z : Str => z.cps.toList) h
  simpa using this
theorem sx_app (a b : List Nat) : Sx a ++ Sx b = Sx (a ++ b) := by
  show (⟨a.toArray ++ b.toArray⟩ : Str) = ⟨(a ++ b).toArray⟩
  simp
def isUp (c : Nat) : Bool := decide (65 ≤ c) && decide (c ≤ 90)
def isLo (c : Nat) : Bool := decide (97 ≤ c) && decide (c ≤ 122)
theorem upE : ("ABCDEFGHIJKLMNOPQRSTUVWXYZ" : Str).cps.toList = List.range' 65 26 := by decide +kernel
theorem loE : ("abcdefghijklmnopqrstuvwxyz" : Str).cps.toList = List.range' 97 26 := by decide +kernel
theorem loS : ("abcdefghijklmnopqrstuvwxyz" : Str) = Sx (List.range' 97 26) := by decide +kernel
theorem mem_up (c : Nat) : decide (c ∈ ("ABCDEFGHIJKLMNOPQRSTUVWXYZ" : Str).cps.toList) = isUp c := by
  rw [upE, isUp, Bool.eq_iff_iff]
  simp [List.mem_range'_1]
  omega
/-- a name: one to six letters, lower-case from the second one on -/
def okL : List Nat → Bool
  | [] => false
  | c :: r => decide (r.length ≤ 5) && ((isUp c || isLo c) && r.all isLo)
theorem atI_zero {α : Type} {c : α} {r : List α} : atI (c :: r) 0 = some c := by
  simp [atI, ixN]
theorem atI_nat' {α : Type} {xs : List α} {i : Int} {k : Nat} {d : α} (hi : i = (k : Int)) (h : xs[k]? = some d) : atI xs i = some d := by
  have hl := (List.getElem?_eq_some_iff.mp h).1
  unfold atI ixN
  rw [if_pos (by omega), if_pos (by omega), hi]
  simpa using h
theorem cutS_tail (c : Nat) (r : List Nat) : cutS (Sx (c :: r)) (some 1) none = Sx r := by
  unfold cutS HT.sIx
  simp [sx_len]
section
variable {K : PySem.W.Frag} {Pg : Program} {w : World}
def W_is_leader : WT := fun ss m P => ∃ (c : Nat) (r : List Nat), ss = [.d (.str (Sx (c :: r)))] ∧ r.length ≤ 2000 ∧ P (.d (.bool (isUp c))) m
def t_is_leader (K : PySem.W.Frag) (Pg : Program) (w : World) : TS :=
  (tRet (tOp (rInU K Pg w) (tOp (rIx K) (tVar 0) (tC (.int 0))) (tC (.str "ABCDEFGHIJKLMNOPQRSTUVWXYZ"))))
theorem rd_is_leader (ss : List Sl) (m : Sto) (P : PV) (h : W_is_leader ss m P) : Wp K (t_is_leader K Pg w) (rho ["name"] ss) m { nx := fun _ m' => P (.d .none) m', rt := P } := by
  obtain ⟨c, r, rfl, hr, p⟩ := h
  have hl : (Sx (c :: r)).length ≤ 100000 := by rw [sx_len]; simp; omega
  refine wp_ret (ev_op (ev_op (ev_var rfl (ev_int (rx_str hl atI_zero (ev_str (ri_str ?_)))))))
  rw [mem_up]
  exact p
end
end Dv
namespace Dv
open PySem L2 PyProof.Rows
abbrev nmD (l : List Nat) : PyData := .str (Sx l)
abbrev rwD (r : List (List Nat)) : PyData := .tuple (r.map nmD)
abbrev flD (fl : List (List (List Nat))) : PyData := .tuple (fl.map rwD)
theorem atI_map {α β : Type} {xs : List α} {f : α → β} {i : Int} {k : Nat} {x : α} (hi : i = (k : Int)) (h : xs[k]? = some x) : atI (xs.map f) i = some (f x) := atI_nat' hi (by rw [List.getElem?_map, h]; rfl)
/-- short names: what the model's bounds allow -/
def Tx (l : List Nat) : Prop := l.length ≤ 2000 ∧ ∀ c ∈ l, c < 1114112
def Short (fl : List (List (List Nat))) : Prop := fl.length ≤ 100 ∧ ∀ r ∈ fl, r.length ≤ 100 ∧ ∀ l ∈ r, Tx l
theorem shaped_str {l : List Nat} (h : Tx l) : SeqAt.shaped (nmD l) = true := by
  simp [SeqAt.shaped, PyData.canLay0, PyData.depth, PyData.strOk]
  exact h.2
theorem canLayAll_names {r : List (List Nat)} (h : ∀ l ∈ r, Tx l) : PyData.canLayAll0 (r.map nmD) = true ∧ PyData.depthAll (r.map nmD) = 0 := by
  induction r with
  | nil => exact ⟨rfl, rfl⟩
  | cons a r ih =>
    obtain ⟨h1, h2⟩ := ih fun l hl => h l (List.mem_cons_of_mem _ hl)
    have ha := shaped_str (h a List.mem_cons_self)
    simp [SeqAt.shaped] at ha
    constructor
    · rw [List.map_cons, PyData.canLayAll0, h1, ha.1]; rfl
    · rw [List.map_cons, PyData.depthAll, h2]; rfl
theorem shaped_names {r : List (List Nat)} (h : ∀ l ∈ r, Tx l) : SeqAt.shaped (.tuple (r.map nmD)) = true ∧ SeqAt.shaped (.list (r.map nmD)) = true := by
  obtain ⟨h1, h2⟩ := canLayAll_names h
  constructor <;> simp [SeqAt.shaped, PyData.canLay0, PyData.depth, h1, h2]
theorem eqv_nm (a b : List Nat) : PyData.eqv (nmD a) (nmD b) = decide (a = b) := by
  have e : PyData.eqv (nmD a) (nmD b) = ((Sx a) == (Sx b)) := rfl
  rw [e]
  by_cases h : a = b
  · subst h; simp
  · rw [decide_eq_false h]
    have : Sx a ≠ Sx b := fun q => h (sx_inj q)
    simpa using h
theorem anyEq_names (l : List Nat) (r : List (List Nat)) : anyEq (nmD l) (r.map nmD) = decide (l ∈ r) := by
  unfold anyEq
  rw [List.any_map]
  induction r with
  | nil => rfl
  | cons a r ih =>
    have e : (List.any (a :: r) ((fun z => PyData.eqv z (nmD l)) ∘ nmD)) = (PyData.eqv (nmD a) (nmD l) || r.any ((fun z => PyData.eqv z (nmD l)) ∘ nmD)) := rfl
    rw [e, ih, eqv_nm]
    by_cases h : a = l
    · subst h; simp
    · have : l ≠ a := fun q => h q.symm
      simp [h, this]
end Dv
namespace Dv
open PySem L2 PyProof.Rows
/-- a floor as the document asks for -/
structure VF (fl : List (List (List Nat))) : Prop where
  pos : fl ≠ []
  most : fl.length ≤ 12
  cols : ∃ c, 0 < c ∧ c ≤ 12 ∧ ∀ r ∈ fl, r.length = c
  ok : ∀ r ∈ fl, ∀ l ∈ r, okL l = true
  nd : fl.flatten.Nodup
theorem okL_tx {l : List Nat} (h : okL l = true) : Tx l := by
  cases l with
  | nil => cases h
  | cons c r =>
    simp [okL, isUp, isLo] at h
    obtain ⟨h1, h2, h3⟩ := h
    refine ⟨by simp; omega, fun d hd => ?_⟩
    rcases List.mem_cons.mp hd with e | e
    · subst e; omega
    · have := h3 d e; omega
theorem VF.short {fl : List (List (List Nat))} (v : VF fl) : Short fl := by
  obtain ⟨c, c0, c1, hc⟩ := v.cols
  have := v.most
  exact ⟨by omega, fun r hr => ⟨by rw [hc r hr]; omega, fun l hl => okL_tx (v.ok r hr l hl)⟩⟩
theorem take_flat {α : Type} {fl : List (List α)} {i : Nat} {r : List α} (h : fl[i]? = some r) : (fl.take (i + 1)).flatten = (fl.take i).flatten ++ r := by
  rw [List.take_add_one, h]
  simp
theorem nd_split {α : Type} {fl : List (List α)} (nd : fl.flatten.Nodup) {i j : Nat} {r : List α} {l : α} (h : fl[i]? = some r) (hl : r[j]? = some l) : l ∉ (fl.take i).flatten ∧ l ∉ r.take j := by
  have e : fl.flatten = (fl.take i).flatten ++ (r ++ (fl.drop (i + 1)).flatten) := by
    have h1 : fl = fl.take i ++ r :: fl.drop (i + 1) := by
      have hi := (List.getElem?_eq_some_iff.mp h).1
      have hr : fl[i] = r := (List.getElem?_eq_some_iff.mp h).2
      rw [← hr, ← List.drop_eq_getElem_cons hi, List.take_append_drop]
    have h2 := congrArg List.flatten h1
    rw [h2]
    simp
  have e2 : r = r.take j ++ l :: r.drop (j + 1) := by
    have hj := (List.getElem?_eq_some_iff.mp hl).1
    have hr : r[j] = l := (List.getElem?_eq_some_iff.mp hl).2
    rw [← hr, ← List.drop_eq_getElem_cons hj, List.take_append_drop]
  rw [e, List.nodup_append] at nd
  obtain ⟨n1, n2, n3⟩ := nd
  have hm : l ∈ r := List.mem_of_getElem? hl
  refine ⟨fun hh => n3 l hh l (List.mem_append_left _ hm) rfl, fun hh => ?_⟩
  rw [List.nodup_append] at n2
  have n4 := n2.1
  rw [e2, List.nodup_append] at n4
  exact n4.2.2 l hh l List.mem_cons_self rfl
section
variable {K : PySem.W.Frag} {Pg : Program} {w : World}
theorem wp_post {ρ : Rho} {m : Sto} {ts : TS} {k : Ko} (h : Wp K ts ρ m { k with nx := fun ρ' m' => ∃ a u, m' a = some u ∧ k.nx ρ' (del m' a) }) : Wp K ts ρ m k := fun D σ F H E S q1 q2 q3 q4 =>
  h D σ F H E S (fun ρ' m' σ' F' H' ⟨a, u, e, p⟩ s1 S1 E1 => q1 ρ' _ σ' _ H' p (s1.trans (step_del S1 e)) (sto_del S1 e) (envOk_step (step_del S1 e) E1)) q2 q3 q4
/-! ### check_floor of what is a floor -/
end
end Dv
namespace Dv
open PySem L2 PyProof.Rows
section
variable {K : PySem.W.Frag} {Pg : Program} {w : World}
/-! ### locate of a name that is there -/
def W_locate : WT := fun ss m P => ∃ (fl : List (List (List Nat))) (i j : Nat) (r : List (List Nat)) (l : List Nat), ss = [.d (flD fl), .d (nmD l)] ∧ Short fl ∧ fl.flatten.Nodup ∧ fl[i]? = some r ∧ r[j]? = some l ∧ P (.d (.tuple [.int (i : Nat), .int (j : Nat)])) m
def t_locate (K : PySem.W.Frag) (Pg : Program) (w : World) : TS :=
  (tSeq (tFor (iEnumU K (tCons (tVar 0) tNil)) (gTup K 2 (gCons (gName 2) (gCons (gName 3) gNil)))
    (tIfS (tTest (tOp (rInU K Pg w) (tVar 1) (tVar 3)))
    (tRet (tTupZ (tCons (tVar 2) (tCons (tTM K (rTIx K) (tVar 3) (tVar 1)) tNil))))
    tNext))
    tNever)
theorem rd_locate (ss : List Sl) (m : Sto) (P : PV) (h : W_locate ss m P) : Wp K (t_locate K Pg w) (rho ["floor", "name", "row", "names"] ss) m { nx := fun _ m' => P (.d .none) m', rt := P } := by
  obtain ⟨fl, i, j, r, l, rfl, hS, nd, hi, hj, p⟩ := h
  have hil := (List.getElem?_eq_some_iff.mp hi).1
  have hml : l ∈ r := List.mem_of_getElem? hj
  have hTx : Tx l := (hS.2 r (List.mem_of_getElem? hi)).2 l hml
  refine wp_seq <| wp_enum (toD := rwD) <| ea_cons <| ev_var rfl <| ea_nil ⟨fl, fun k ρ' m' => ∃ s2 s3, ρ' = [some (.d (flD fl)), some (.d (nmD l)), s2, s3] ∧ m' = m ∧ k ≤ i, rfl, ⟨_, _, rfl, rfl, Nat.zero_le _⟩, ?_, ?_⟩
  · rintro k rk ρ' m' hk ⟨s2, s3, rfl, rfl, hki⟩
    have hmk : rk ∈ fl := List.mem_of_getElem? hk
    refine wp_if <| et_test <| ev_op <| ev_var rfl <| ev_var rfl <| ri_tup (shaped_str hTx) (shaped_names fun l hl => (hS.2 rk hmk).2 l hl).1 ⟨_, rfl, ite_b (fun h1 => ?_) (fun h1 => ?_)⟩
    · rw [anyEq_names] at h1
      have hm : l ∈ rk := of_decide_eq_true h1
      have hki' : k = i := by
        rcases Nat.lt_or_ge k i with q | q
        · exfalso
          have := (nd_split nd hi hj).1
          refine this ?_
          rw [List.mem_flatten]
          refine ⟨rk, ?_, hm⟩
          rw [List.mem_take_iff_getElem]
          have hkl := (List.getElem?_eq_some_iff.mp hk).1
          exact ⟨k, by omega, (List.getElem?_eq_some_iff.mp hk).2⟩
        · omega
      subst hki'
      rw [hi] at hk
      cases hk
      have e : (r.map nmD) = (r.map Sx).map PyData.str := by rw [List.map_map]; rfl
      refine wp_ret <| ev_tup <| ea_cons <| ev_var rfl <| ea_cons <| ev_tm <| ev_var rfl ⟨_, rfl, ev_var rfl ?_⟩
      rw [e]
      refine rm_tindex (j := j) (by rw [List.getElem?_map, hj]; rfl) (fun a ha q => ?_) <| ea_nil ⟨[.int (k : Nat), .int (j : Nat)], rfl, by simp, p⟩
      rw [List.getElem?_map] at q
      cases hq : r[a]? with
      | none => rw [hq] at q; cases q
      | some x =>
        rw [hq] at q
        have : x = l := sx_inj (Option.some.inj q)
        subst this
        refine (nd_split nd hi hj).2 ?_
        rw [List.mem_take_iff_getElem]
        have hal := (List.getElem?_eq_some_iff.mp hq).1
        exact ⟨a, by have := (List.getElem?_eq_some_iff.mp hj).1; omega, (List.getElem?_eq_some_iff.mp hq).2⟩
    · refine wp_next ⟨_, _, rfl, rfl, ?_⟩
      rw [anyEq_names] at h1
      have hm : l ∉ rk := of_decide_eq_false h1
      rcases Nat.lt_or_ge k i with q | q
      · omega
      · exfalso
        have : k = i := by omega
        subst this
        rw [hi] at hk
        cases hk
        exact hm hml
  · rintro ρ' m' ⟨s2, s3, rfl, rfl, q⟩
    exact wp_never (by omega)
/-! ### leaders -/
def upN : List Nat → Bool
  | [] => false
  | c :: _ => isUp c
def named (fl : List (List (List Nat))) : Prop := ∀ r ∈ fl, ∀ l ∈ r, l ≠ [] ∧ Tx l
def leads (fl : List (List (List Nat))) : List Str := (fl.flatten.filter upN).map Sx
theorem nms_str (g : List (List Nat)) : g.map nmD = (g.map Sx).map PyData.str := by rw [List.map_map]; rfl
theorem flat_len {fl : List (List (List Nat))} (h : Short fl) : ∀ g : List (List (List Nat)), (∀ r ∈ g, r ∈ fl) → g.flatten.length ≤ g.length * 100 := by
  intro g
  induction g with
  | nil => intro _; simp
  | cons x g ih =>
    intro hg
    have := ih fun r hr => hg r (List.mem_cons_of_mem _ hr)
    have hx := (h.2 x (hg x List.mem_cons_self)).1
    simp
    simp at this
    omega
theorem part_len {fl : List (List (List Nat))} (h : Short fl) {i j : Nat} {r : List (List Nat)} (hr : r ∈ fl) : (((fl.take i).flatten ++ r.take j).filter upN).length < 100000 := by
  have a1 := flat_len h (fl.take i) fun r hr => List.mem_of_mem_take hr
  have a2 : (fl.take i).length ≤ 100 := by rw [List.length_take]; have := h.1; omega
  have a3 : (r.take j).length ≤ 100 := by rw [List.length_take]; have := (h.2 r hr).1; omega
  have a4 := List.length_filter_le upN ((fl.take i).flatten ++ r.take j)
  rw [List.length_append] at a4
  omega
def W_leaders : WT := fun ss m P => ∃ fl : List (List (List Nat)), ss = [.d (flD fl)] ∧ named fl ∧ Short fl ∧ ∀ ys : List Str, ys.Perm (leads fl) → sortedS ys = true → P (.d (.list (ys.map .str))) m
def t_leaders (K : PySem.W.Frag) (Pg : Program) (w : World) : TS :=
  (tSeq (tAsg (tLst tNil) (gName 1))
    (tSeq (tFor (iSeqU K (tVar 0)) (gName 2)
    (tAsg (tOp (rAddU K) (tVar 1) (tLc (iSeqU K (tVar 2)) (gName 3) (tTest (tOp (rInU K Pg w) (tOp (rIx K) (tVar 3) (tC (.int 0))) (tC (.str "ABCDEFGHIJKLMNOPQRSTUVWXYZ")))) (tVar 3) [3])) (gName 1)))
    (tRet (tCB (rSortS K) (tCons (tVar 1) tNil)))))
theorem rd_leaders (ss : List Sl) (m : Sto) (P : PV) (h : W_leaders ss m P) : Wp K (t_leaders K Pg w) (rho ["floor", "found", "cells", "name"] ss) m { nx := fun _ m' => P (.d .none) m', rt := P } := by
  obtain ⟨fl, rfl, hN, hS, p⟩ := h
  refine wp_seq <| wp_set <| ev_lst <| ea_nil ⟨[], rfl, by decide, wp_seq <| wp_forL (toD := rwD) <| ei_tup <| ev_var rfl ⟨_, rfl, fl, fun i ρ' m' => ∃ s2 s3, ρ' = [some (.d (flD fl)), some (.d (.list (((fl.take i).flatten.filter upN).map nmD))), s2, s3] ∧ m' = m, rfl, ⟨_, _, rfl, rfl⟩, fun _ _ _ _ => trivial, ?_, ?_⟩⟩
  · rintro i r ρ' m' hr ⟨s2, s3, rfl, rfl⟩
    have hmr : r ∈ fl := List.mem_of_getElem? hr
    refine wp_set <| ev_op <| ev_var rfl <| ev_lcF (toD := nmD) List.mem_cons_self <| ei_tup <| ev_var rfl ⟨_, rfl, r, upN, nmD, rfl, trivial, ?_, fun l hl => ⟨?_, fun _ => ev_var rfl ⟨rfl, rfl⟩⟩, ?_⟩
    · have := (hS.2 r hmr).1; omega
    · obtain ⟨n1, n2⟩ := hN r hmr l hl
      cases l with
      | nil => exact absurd rfl n1
      | cons c t =>
      refine et_test <| ev_op <| ev_op <| ev_var rfl <| ev_int <| rx_str (by rw [sx_len]; have := n2.1; simp at this ⊢; omega) atI_zero <| ev_str <| ri_str ⟨_, rfl, ?_, rfl⟩
      rw [mem_up]
      rfl
    · refine ra_lst ?_ ⟨some (.d (rwD r)), s3, ?_, rfl⟩
      · have := part_len hS hmr (i := i) (j := r.length)
        rw [List.take_of_length_le (Nat.le_refl _), List.filter_append, List.length_append] at this
        rw [List.length_map, List.length_map]
        omega
      · rw [take_flat hr, List.filter_append, List.map_append]
        rfl
  · rintro ρ' m' ⟨s2, s3, rfl, rfl⟩
    refine wp_ret <| ev_cb <| ea_cons <| ev_var rfl <| ea_nil ?_
    rw [List.take_of_length_le (Nat.le_refl _), nms_str]
    exact rc_sortS strs_lst fun ys h1 h2 => p ys h1 h2
end
end Dv
namespace Dv
open PySem L2 PyProof.Rows
/-- a source of draws: what is left of a number, a seed, how many draws at most -/
def SrcL (u : List PyData) (n : Nat) : Prop := ∃ x y c : Int, u = [.int x, .int y, .int c] ∧ 0 ≤ y ∧ y < 2 ^ 140 ∧ 0 ≤ c ∧ c ≤ n
theorem SrcL.mono {u : List PyData} {n k : Nat} (h : SrcL u n) (hk : n ≤ k) : SrcL u k := let ⟨x, y, c, e, a, b, d, f⟩ := h; ⟨x, y, c, e, a, b, d, by omega⟩
theorem pw35 : (10 : Int) ^ (35 : Int).toNat + 69 = 100000000000000000000000000000000069 := by decide +kernel
theorem pw32 : (10 : Int) ^ (32 : Int).toNat + 49 = 100000000000000000000000000000049 := by decide +kernel
theorem pw37 : (10 : Int) ^ (37 : Int).toNat + 43 = 10000000000000000000000000000000000043 := by decide +kernel
section
variable {K : PySem.W.Frag} {Pg : Program} {w : World}
theorem pow10 {e : Int} (h0 : 0 ≤ e) (h : e ≤ 1000) : CPowW 10 e := powW (b := 4) (by decide) (by decide) h0 h (by decide)
def W_source : WT := fun ss m P => ∃ (ns : List Int) (i : Nat), ss = [.f (ns.map .int), .d (.int (i : Nat))] ∧ ns.length ≤ 63 ∧ i ≤ 1000 ∧ ∀ a u, m a = none → SrcL u 0 → P (.m a) (put m a (.lst u))
def t_source (K : PySem.W.Frag) (Pg : Program) (w : World) : TS :=
  (tSeq (tAsg (tC (.int 0)) (gName 2))
    (tSeq (tIfS (tTest (tOp (rI0 fun i j => .bl (decide (i < j))) (tVar 1) (tCB (rLenC K) (tCons (tVar 0) tNil))))
    (tAsg (tOp (rIx K) (tVar 0) (tVar 1)) (gName 2))
    tNext)
    (tRet (tLst (tCons (tCB (rMaxC) (tCons (tC (.int 0)) (tCons (tOp (rI0 fun i j => .int (i - j)) (tVar 2) (tOp (rI CPowW fun i j => .int (i ^ j.toNat)) (tC (.int 10)) (tC (.int 18)))) tNil))) (tCons (tOp (rAddU K) (tOp (rI (fun _ j => 0 < j) fun i j => .int (i % j)) (tVar 2) (tOp (rAddU K) (tOp (rI CPowW fun i j => .int (i ^ j.toNat)) (tC (.int 10)) (tC (.int 37))) (tC (.int 43)))) (tOp (rMulU) (tC (.int 1299709)) (tVar 1))) (tCons (tC (.int 0)) tNil)))))))
theorem rd_source (ss : List Sl) (m : Sto) (P : PV) (h : W_source ss m P) : Wp K (t_source K Pg w) (rho ["script", "index", "cell"] ss) m { nx := fun _ m' => P (.d .none) m', rt := P } := by
  obtain ⟨ns, i, rfl, hl, hi, p⟩ := h
  have fin : ∀ cell : Int, Wp K (tRet (tLst (tCons (tCB (rMaxC) (tCons (tC (.int 0)) (tCons (tOp (rI0 fun i j => .int (i - j)) (tVar 2) (tOp (rI CPowW fun i j => .int (i ^ j.toNat)) (tC (.int 10)) (tC (.int 18)))) tNil))) (tCons (tOp (rAddU K) (tOp (rI (fun _ j => 0 < j) fun i j => .int (i % j)) (tVar 2) (tOp (rAddU K) (tOp (rI CPowW fun i j => .int (i ^ j.toNat)) (tC (.int 10)) (tC (.int 37))) (tC (.int 43)))) (tOp (rMulU) (tC (.int 1299709)) (tVar 1))) (tCons (tC (.int 0)) tNil)))))
      [some (.f (ns.map .int)), some (.d (.int (i : Nat))), some (.d (.int cell))] m { nx := fun _ m' => P (.d .none) m', rt := P } := fun cell => by
    refine wp_ret <| ev_lstM <| ea_cons <| ev_cb <| ea_cons <| ev_int <| ea_cons <| ev_op <| ev_var rfl <| ev_op <| ev_int <| ev_int <| rp_pow (pow10 (by decide) (by decide)) <| rs_int <| ea_nil <| rc_max2 <|
      ea_cons <| ev_op <| ev_op <| ev_var rfl <| ev_op <| ev_op <| ev_int <| ev_int <| rp_pow (pow10 (by decide) (by decide)) <| ev_int <| ra_int <| rp_mod ?_ <| ev_op <| ev_int <| ev_var rfl <| rm_int (wide_mul (a := 30) (b := 30) ?_ ?_ (by decide) (by decide) (by decide)) <| ra_int <|
      ea_cons <| ev_int <| ea_nil ⟨[_, _, _], rfl, by simp, fun a ha => p a _ ha ⟨_, _, _, rfl, ?_, ?_, by decide, by decide⟩⟩
    · rw [pw37]; decide
    · decide
    · omega
    · rw [pw37]
      have := Int.emod_nonneg cell (show (10000000000000000000000000000000000043 : Int) ≠ 0 by decide)
      omega
    · rw [pw37]
      have := Int.emod_lt_of_pos cell (show (0 : Int) < 10000000000000000000000000000000000043 by decide)
      omega
  refine wp_seq <| wp_set <| ev_int <| wp_seq <| wp_if <| et_test <| ev_op <| ev_var rfl <| ev_cb <| ea_cons <| ev_var rfl <| ea_nil <| rc_lenF <| rl_lt ⟨_, rfl, ite_b (fun h1 => ?_) (fun h1 => wp_next (fin 0))⟩
  simp at h1
  have hx : ns[i]? = some (ns[i]'h1) := List.getElem?_eq_getElem h1
  refine wp_set <| ev_op <| ev_var rfl <| ev_var rfl <| rx_lstF (atI_map rfl hx) (fin _)
def W_draw : WT := fun ss m P => ∃ (a : Addr) (b : Int) (u : List PyData) (n : Nat), ss = [.m a, .d (.int b)] ∧ 0 < b ∧ b < 2 ^ 100 ∧ m a = some (.lst u) ∧ SrcL u n ∧ n ≤ 1000000 ∧ ∀ (r : Nat) u', (r : Int) < b → SrcL u' (n + 1) → P (.d (.int (r : Nat))) (put m a (.lst u'))
def t_draw (K : PySem.W.Frag) (Pg : Program) (w : World) : TS :=
  (tSeq (tIfS (tTest (tOp (rI0 fun i j => .bl (decide (j < i))) (tOp (rIx K) (tVar 0) (tC (.int 0))) (tC (.int 0))))
    (tSeq (tAsg (tOp (rI (fun _ j => 0 < j) fun i j => .int (i % j)) (tOp (rIx K) (tVar 0) (tC (.int 0))) (tVar 1)) (gName 2))
    (tSeq (tAsg (tOp (rI CDivW fun i j => .int (i / j)) (tOp (rIx K) (tVar 0) (tC (.int 0))) (tVar 1)) (gSub (tVar 0) (tC (.int 0)) rSetL))
    (tRet (tVar 2))))
    tNext)
    (tSeq (tAsg (tOp (rAddU K) (tOp (rIx K) (tVar 0) (tC (.int 2))) (tC (.int 1))) (gSub (tVar 0) (tC (.int 2)) rSetL))
    (tSeq (tAsg (tOp (rI (fun _ j => 0 < j) fun i j => .int (i % j)) (tOp (rI CPowW fun i j => .int (i ^ j.toNat)) (tOp (rAddU K) (tOp (rIx K) (tVar 0) (tC (.int 1))) (tOp (rMulU) (tC (.int 15485863)) (tOp (rIx K) (tVar 0) (tC (.int 2))))) (tC (.int 3))) (tOp (rAddU K) (tOp (rI CPowW fun i j => .int (i ^ j.toNat)) (tC (.int 10)) (tC (.int 35))) (tC (.int 69)))) (gName 3))
    (tSeq (tAsg (tOp (rI (fun _ j => 0 < j) fun i j => .int (i % j)) (tOp (rI CPowW fun i j => .int (i ^ j.toNat)) (tOp (rAddU K) (tVar 3) (tOp (rMulU) (tC (.int 32452843)) (tOp (rIx K) (tVar 0) (tC (.int 2))))) (tC (.int 3))) (tOp (rAddU K) (tOp (rI CPowW fun i j => .int (i ^ j.toNat)) (tC (.int 10)) (tC (.int 32))) (tC (.int 49)))) (gName 3))
    (tRet (tOp (rI (fun _ j => 0 < j) fun i j => .int (i % j)) (tOp (rI CDivW fun i j => .int (i / j)) (tVar 3) (tC (.int 8191))) (tVar 1)))))))
theorem mod_nat (x b : Int) (h : 0 < b) : ∃ r : Nat, x % b = (r : Int) ∧ (r : Int) < b := by
  have h1 := Int.emod_nonneg x (show b ≠ 0 by omega)
  have h2 := Int.emod_lt_of_pos x h
  exact ⟨(x % b).toNat, by omega, by omega⟩
theorem rd_draw (ss : List Sl) (m : Sto) (P : PV) (h : W_draw ss m P) : Wp K (t_draw K Pg w) (rho ["source", "bound", "digit", "mixed"] ss) m { nx := fun _ m' => P (.d .none) m', rt := P } := by
  obtain ⟨a, b, u, n, rfl, hb, hb2, hm, ⟨x, y, c, rfl, hy, hy2, hc, hcn⟩, hn, p⟩ := h
  have i0 : ∀ x y c : Int, atI [PyData.int x, .int y, .int c] 0 = some (.int x) := fun _ _ _ => rfl
  have i1 : ∀ x y c : Int, atI [PyData.int x, .int y, .int c] 1 = some (.int y) := fun _ _ _ => rfl
  have i2 : ∀ x y c : Int, atI [PyData.int x, .int y, .int c] 2 = some (.int c) := fun _ _ _ => rfl
  refine wp_seq <| wp_if <| et_test <| ev_op <| ev_op <| ev_var rfl <| ev_int <| rx_lstM hm (i0 _ _ _) <| ev_int <| rl_gt ⟨_, rfl, ite_b (fun h1 => ?_) (fun h1 => wp_next ?_)⟩
  · obtain ⟨r, er, hr⟩ := mod_nat x b hb
    refine wp_seq <| wp_set <| ev_op <| ev_op <| ev_var rfl <| ev_int <| rx_lstM hm (i0 _ _ _) <| ev_var rfl <| rp_mod hb <| wp_seq <| wp_asg <| ev_op <| ev_op <| ev_var rfl <| ev_int <| rx_lstM hm (i0 _ _ _) <| ev_var rfl <| rd_int (wide_div (b := 100) hb (by omega) (by decide) (by decide)) ⟨[], gt_sub (l := a) (j := 0) (k := 0) <| ev_var rfl ⟨rfl, ev_int ⟨rfl, hm, rfl, ?_⟩⟩⟩
    refine wp_ret <| ev_var rfl ?_
    rw [er]
    exact p r _ hr ⟨_, _, _, rfl, hy, hy2, hc, by omega⟩
  · refine wp_seq <| wp_asg <| ev_op <| ev_op <| ev_var rfl <| ev_int <| rx_lstM hm (i2 _ _ _) <| ev_int <| ra_int ⟨[], gt_sub (l := a) (j := 2) (k := 2) <| ev_var rfl ⟨rfl, ev_int ⟨rfl, hm, rfl, ?_⟩⟩⟩
    have hm2 : put m a (.lst ([PyData.int x, .int y, .int c].set 2 (.int (c + 1)))) a = some (.lst [.int x, .int y, .int (c + 1)]) := put_same
    refine wp_seq <| wp_set <| ev_op <| ev_op <| ev_op <| ev_op <| ev_var rfl <| ev_int <| rx_lstM hm2 (i1 _ _ _) <| ev_op <| ev_int <| ev_op <| ev_var rfl <| ev_int <| rx_lstM hm2 (i2 _ _ _) <| rm_int (wide_mul (a := 30) (b := 30) (by decide) (by omega) (by decide) (by decide) (by decide)) <| ra_int <| ev_int <| rp_pow (powW (b := 150) ?_ (by decide) (by decide) (by decide) (by decide)) <|
      ev_op <| ev_op <| ev_int <| ev_int <| rp_pow (pow10 (by decide) (by decide)) <| ev_int <| ra_int <| rp_mod ?_ ?_
    · omega
    · rw [pw35]; decide
    rw [pw35]
    obtain ⟨q, eq, hq⟩ := mod_nat ((y + 15485863 * (c + 1)) ^ (3 : Int).toNat) 100000000000000000000000000000000069 (by decide)
    rw [eq]
    refine wp_seq <| wp_set <| ev_op <| ev_op <| ev_op <| ev_var rfl <| ev_op <| ev_int <| ev_op <| ev_var rfl <| ev_int <| rx_lstM hm2 (i2 _ _ _) <| rm_int (wide_mul (a := 30) (b := 30) (by decide) (by omega) (by decide) (by decide) (by decide)) <| ra_int <| ev_int <| rp_pow (powW (b := 150) ?_ (by decide) (by decide) (by decide) (by decide)) <|
      ev_op <| ev_op <| ev_int <| ev_int <| rp_pow (pow10 (by decide) (by decide)) <| ev_int <| ra_int <| rp_mod ?_ ?_
    · omega
    · rw [pw32]; decide
    rw [pw32]
    generalize ((q : Int) + 32452843 * (c + 1)) ^ (3 : Int).toNat % 100000000000000000000000000000049 = z
    refine wp_ret <| ev_op <| ev_op <| ev_var rfl <| ev_int <| rd_int (wide_div (b := 100) (by decide) (by decide) (by decide) (by decide)) <| ev_var rfl <| rp_mod hb ?_
    obtain ⟨r, er, hr⟩ := mod_nat (z / 8191) b hb
    rw [er]
    exact p r _ hr ⟨_, _, _, rfl, hy, hy2, by omega, by omega⟩
end
end Dv
namespace Dv
open PySem L2 PyProof.Rows
theorem perm_map {α β : Type} {f : α → β} {es l : List β} (h : es.Perm l) : ∀ {xs : List α}, xs.map f = l → ∃ ys : List α, ys.Perm xs ∧ es = ys.map f := by
  induction h with
  | nil =>
    intro xs hx
    exact ⟨[], by rw [List.map_eq_nil_iff.mp hx], rfl⟩
  | @cons a l1 l2 h ih =>
    intro xs hx
    cases xs with
    | nil => cases hx
    | cons x xs =>
      rw [List.map_cons] at hx
      obtain ⟨e1, e2⟩ := List.cons.inj hx
      obtain ⟨ys, hy, e⟩ := ih e2
      exact ⟨x :: ys, hy.cons x, by rw [List.map_cons, e1, e]⟩
  | @swap a b l =>
    intro xs hx
    cases xs with
    | nil => cases hx
    | cons x xs =>
      cases xs with
      | nil => cases hx
      | cons y xs =>
        rw [List.map_cons, List.map_cons] at hx
        obtain ⟨e1, e2⟩ := List.cons.inj hx
        obtain ⟨e2, e3⟩ := List.cons.inj e2
        exact ⟨y :: x :: xs, .swap x y xs, by rw [List.map_cons, List.map_cons, e1, e2, e3]⟩
  | @trans l1 l2 l3 h1 h2 ih1 ih2 =>
    intro xs hx
    obtain ⟨ys, hy, e⟩ := ih2 hx
    obtain ⟨zs, hz, e'⟩ := ih1 e.symm
    exact ⟨zs, hz.trans hy, e'⟩
theorem perm_erase {α : Type} : ∀ {l : List α} {i : Nat} (h : i < l.length), (l[i] :: l.eraseIdx i).Perm l
  | x :: l, 0, _ => by simp
  | x :: l, i + 1, h => by
    simp only [List.getElem_cons_succ, List.eraseIdx_cons_succ]
    exact (List.Perm.swap x _ _).trans ((perm_erase (by simpa using h)).cons x)
section
variable {K : PySem.W.Frag} {Pg : Program} {w : World}
def W_shuffled : WT := fun ss m P => ∃ (a : Addr) (ds u : List PyData) (n : Nat), ss = [.m a, .d (.list ds)] ∧ m a = some (.lst u) ∧ SrcL u n ∧ n + ds.length ≤ 1000000 ∧ ds.length ≤ 1000 ∧
  ∀ es u', es.Perm ds → SrcL u' (n + ds.length) → P (.d (.list es)) (put m a (.lst u'))
def t_shuffled (K : PySem.W.Frag) (Pg : Program) (w : World) : TS :=
  (tSeq (tAsg (tCB (rListC K) (tCons (tVar 1) tNil)) (gName 2))
    (tRet (tLc (iRng1 (tCons (tCB (rLenC K) (tCons (tVar 2) tNil)) tNil)) (gName 3) tYes (tBM K "list" rPopAt (tVar 2) (tCons (tCall (SpD K W_draw) [] E0 (tCons (tVar 0) (tCons (tCB (rLenC K) (tCons (tVar 2) tNil)) tNil))) tNil)) [3])))
theorem put_mid {m : Sto} {a b : Addr} {u u' w : Mu} (h : a ≠ b) : put (put (put m a u) b w) a u' = put (put m a u') b w := by
  rw [put_comm (Ne.symm h), put_put]
theorem rd_shuffled (ss : List Sl) (m : Sto) (P : PV) (h : W_shuffled ss m P) : Wp K (t_shuffled K Pg w) (rho ["source", "things", "left", "step"] ss) m { nx := fun _ m' => P (.d .none) m', rt := P } := by
  obtain ⟨a, ds, u, n, rfl, hm, hu, hn, hd, p⟩ := h
  refine wp_seq <| wp_set <| ev_cb <| ea_cons <| ev_var rfl <| ea_nil <| rc_listM seq_lst fun b hb => ?_
  have ab : a ≠ b := fun e => by rw [e, hb] at hm; cases hm
  refine wp_ret <| ev_del <| ev_lc <| ei_rng1 <| ea_cons <| ev_cb <| ea_cons <| ev_var rfl <| ea_nil <| rc_lenM put_same <| ea_nil ⟨_, rfl, by omega, by omega, fun i acc m' => ∃ u' ls, SrcL u' (n + i) ∧ m' = put (put m a (.lst u')) b (.lst ls) ∧ (acc ++ ls).Perm ds ∧ acc.length = i ∧ i ≤ ds.length, ?_, fun _ _ _ _ => trivial, ?_, ?_⟩
  · exact ⟨u, ds, hu, by rw [put_self hm], .refl _, rfl, Nat.zero_le _⟩
  · rintro i x acc m' hx ⟨u', ls, hu', rfl, hp, hl, hi⟩
    have hi2 : i < ds.length := by
      have := (List.getElem?_eq_some_iff.mp hx).1
      simpa using this
    have hll : ls.length = ds.length - i := by
      have := hp.length_eq
      rw [List.length_append] at this
      omega
    refine ⟨by omega, [3], by simp, gt_name <| et_yes ?_⟩
    rw [if_pos rfl]
    refine ev_bm <| ev_var rfl ⟨ty_listM put_same, ea_cons <| ev_call0 <| ea_cons <| ev_var rfl <| ea_cons <| ev_cb <| ea_cons <| ev_var rfl <| ea_nil <| rc_lenM put_same <| ea_nil ⟨a, _, u', n + i, rfl, by omega, by omega, by rw [put_ne ab, put_same], hu', by omega, fun r u2 hr hu2 => ea_nil ?_⟩⟩
    have hr' : r < ls.length := by omega
    rw [put_mid ab]
    refine rm_popAt put_same (by omega) (by omega) rfl (List.getElem?_eq_getElem hr') ⟨_, rfl, u2, _, hu2, put_put, ?_, by rw [List.length_append, hl]; rfl, hi2⟩
    refine List.Perm.trans ?_ hp
    rw [List.append_assoc]
    exact List.Perm.append_left _ (perm_erase hr')
  · rintro acc m' ⟨u', ls, hu', rfl, hp, hl, hi⟩
    refine ⟨b, _, put_same, ?_⟩
    rw [del_put (by rw [put_ne (Ne.symm ab)]; exact hb)]
    have e : (List.map (fun i : Nat => Sl.d (.int (i : Nat))) (List.range (ds.length : Int).toNat)).length = ds.length := by simp
    rw [e] at hl hu'
    have hls : ls = [] := by
      have := hp.length_eq
      rw [List.length_append] at this
      exact List.length_eq_zero_iff.mp (by omega)
    subst hls
    rw [List.append_nil] at hp
    exact p acc u' hp hu'
/-! ### names -/
def nmL (st sh nu : Nat) : List Nat :=
  match st with
  | 0 => (97 + (nu + sh) % 26) :: (if 25 < nu then [97 + (nu / 26 + 2 * sh) % 26] else [])
  | 1 => [97 + (nu / 26 + 2 * sh) % 26, 97 + (nu + sh) % 26]
  | 2 => [113, 113, 97 + (nu / 26 + 2 * sh) % 26, 97 + (nu + sh) % 26]
  | 3 => [97 + (nu + sh) % 26, 97 + (nu / 26 + 2 * sh) % 26, 122, 122]
  | 4 => (97 + (nu + sh) % 26) :: (97 + (nu / 26 + 2 * sh) % 26) :: List.replicate (nu % 3) (97 + (nu / 26 + 2 * sh) % 26)
  | _ => [97 + (nu / 26 + 2 * sh) % 26, 97 + (nu + sh) % 26, 120, 120, 120, 120]
def W_name : WT := fun ss m P => ∃ st sh nu : Nat, ss = [.d (.int (st : Nat)), .d (.int (sh : Nat)), .d (.int (nu : Nat))] ∧ st < 6 ∧ sh < 26 ∧ nu < 144 ∧ P (.d (nmD (nmL st sh nu))) m
def t_name (K : PySem.W.Frag) (Pg : Program) (w : World) : TS :=
  (tSeq (tAsg (tC (.str "abcdefghijklmnopqrstuvwxyz")) (gName 3))
    (tSeq (tAsg (tOp (rIx K) (tVar 3) (tOp (rI (fun _ j => 0 < j) fun i j => .int (i % j)) (tOp (rAddU K) (tVar 2) (tVar 1)) (tC (.int 26)))) (gName 4))
    (tSeq (tAsg (tOp (rIx K) (tVar 3) (tOp (rI (fun _ j => 0 < j) fun i j => .int (i % j)) (tOp (rAddU K) (tOp (rI CDivW fun i j => .int (i / j)) (tVar 2) (tC (.int 26))) (tOp (rMulU) (tC (.int 2)) (tVar 1))) (tC (.int 26)))) (gName 5))
    (tSeq (tAsg (tLst (tCons (tOp (rAddU K) (tVar 4) (tOp (rMulU) (tVar 5) (tCB (rIntC) (tCons (tOp (rI0 fun i j => .bl (decide (j < i))) (tVar 2) (tC (.int 25))) tNil)))) (tCons (tOp (rAddU K) (tVar 5) (tVar 4)) (tCons (tOp (rAddU K) (tOp (rAddU K) (tC (.str "qq")) (tVar 5)) (tVar 4)) (tCons (tOp (rAddU K) (tOp (rAddU K) (tVar 4) (tVar 5)) (tC (.str "zz"))) tNil))))) (gName 6))
    (tSeq (tAsg (tOp (rAddU K) (tVar 6) (tLst (tCons (tOp (rAddU K) (tOp (rAddU K) (tVar 4) (tVar 5)) (tOp (rMulU) (tVar 5) (tOp (rI (fun _ j => 0 < j) fun i j => .int (i % j)) (tVar 2) (tC (.int 3))))) (tCons (tOp (rAddU K) (tOp (rAddU K) (tVar 5) (tVar 4)) (tC (.str "xxxx"))) tNil)))) (gName 6))
    (tRet (tOp (rIx K) (tVar 6) (tVar 0))))))))
theorem lo_at {k : Nat} {i : Int} (h : k < 26) (hi : i = (k : Int)) : atI ("abcdefghijklmnopqrstuvwxyz" : Str).cps.toList i = some (97 + k) := atI_nat' hi (by
  rw [loE, List.getElem?_range' h]
  simp)
theorem mul_chr (s : Nat) {n : Nat} (h : n ≤ 2) : Txt.mul (Sx [s]) (n : Int) = Sx (List.replicate n s) := by
  match n, h with
  | 0, _ => rfl
  | 1, _ => rfl
  | 2, _ => simp [Txt.mul, Sx, Str.length, List.replicate]
theorem qqS : ("qq" : Str) = Sx [113, 113] := by decide +kernel
theorem zzS : ("zz" : Str) = Sx [122, 122] := by decide +kernel
theorem xxS : ("xxxx" : Str) = Sx [120, 120, 120, 120] := by decide +kernel
theorem loLen : ("abcdefghijklmnopqrstuvwxyz" : Str).length ≤ 100000 := by rw [loS, sx_len]; simp
theorem rd_name (ss : List Sl) (m : Sto) (P : PV) (h : W_name ss m P) : Wp K (t_name K Pg w) (rho ["style", "shift", "number", "letters", "first", "second", "names"] ss) m { nx := fun _ m' => P (.d .none) m', rt := P } := by
  obtain ⟨st, sh, nu, rfl, hst, hsh, hnu, p⟩ := h
  have e1 : ((nu : Int) + (sh : Int)) % 26 = (((nu + sh) % 26 : Nat) : Int) := by omega
  have e2 : ((nu : Int) / 26 + 2 * (sh : Int)) % 26 = (((nu / 26 + 2 * sh) % 26 : Nat) : Int) := by omega
  have e3 : ((nu : Int) % 3) = ((nu % 3 : Nat) : Int) := by omega
  have b1 : (nu + sh) % 26 < 26 := by omega
  have b2 : (nu / 26 + 2 * sh) % 26 < 26 := by omega
  have s1 : ∀ c : Nat, (Sx [c]).length ≤ 1000 := fun c => by rw [sx_len]; simp
  have sa : ∀ x y : List Nat, x.length ≤ 100 → y.length ≤ 100 → (Sx x).length + (Sx y).length ≤ 100000 := fun x y hx hy => by rw [sx_len, sx_len]; omega
  refine wp_seq <| wp_set <| ev_str <| wp_seq <| wp_set <| ev_op <| ev_var rfl <| ev_op <| ev_op <| ev_var rfl <| ev_var rfl <| ra_int <| ev_int <| rp_mod (by decide) <| rx_str loLen (lo_at b1 e1) ?_
  refine wp_seq <| wp_set <| ev_op <| ev_var rfl <| ev_op <| ev_op <| ev_op <| ev_var rfl <| ev_int <| rd_int (wide_div (b := 100) (by decide) (by decide) (by decide) (by decide)) <| ev_op <| ev_int <| ev_var rfl <| rm_int (wide_mul (a := 30) (b := 30) (by decide) (by omega) (by decide) (by decide) (by decide)) <| ra_int <| ev_int <| rp_mod (by decide) <| rx_str loLen (lo_at b2 e2) ?_
  have hp : ∀ d, (match st with | 0 => d = nmD (nmL 0 sh nu) | 1 => d = nmD (nmL 1 sh nu) | 2 => d = nmD (nmL 2 sh nu) | 3 => d = nmD (nmL 3 sh nu) | 4 => d = nmD (nmL 4 sh nu) | _ => d = nmD (nmL 5 sh nu)) → P (.d d) m := fun d hd => by
    have : d = nmD (nmL st sh nu) := by
      match st, hst with
      | 0, _ => exact hd
      | 1, _ => exact hd
      | 2, _ => exact hd
      | 3, _ => exact hd
      | 4, _ => exact hd
      | 5, _ => exact hd
    rw [this]; exact p
  clear p
  revert hp
  unfold nmL
  simp only []
  generalize 97 + (nu + sh) % 26 = f
  generalize 97 + (nu / 26 + 2 * sh) % 26 = s
  intro hp
  have hI : ∀ (b : Bool), (if b then (1 : Int) else 0) = ((if b then 1 else 0 : Nat) : Int) := fun b => by cases b <;> rfl
  have hI2 : ∀ (b : Bool), (if b then (1 : Nat) else 0) ≤ 2 := fun b => by cases b <;> decide
  refine wp_seq <| wp_set <| ev_lst <| ea_cons <| ev_op <| ev_var rfl <| ev_op <| ev_var rfl <| ev_cb <| ea_cons <| ev_op <| ev_var rfl <| ev_int <| rl_gt <| ea_nil <| rc_intB <| rm_str (by split <;> decide) (by split <;> decide) (s1 s) <| ?_
  rw [hI]
  show RO K (rAddU K) (.d (.str (Sx [f]))) (.d (.str (Txt.mul (Sx [s]) _))) m _
  rw [mul_chr s (hI2 _)]
  refine ra_str (sa _ _ (by simp) (by simp; split <;> decide)) <| ea_cons <| ev_op <| ev_var rfl <| ev_var rfl <| ra_str (sa [s] [f] (by simp) (by simp)) <| ea_cons <| ev_op <| ev_op <| ev_str <| ev_var rfl <| ?_
  rw [qqS]
  refine ra_str (sa [113, 113] [s] (by simp) (by simp)) <| ev_var rfl <| ?_
  show RO K (rAddU K) (.d (.str (Sx [113, 113] ++ Sx [s]))) (.d (.str (Sx [f]))) m _
  rw [sx_app]
  refine ra_str (sa _ _ (by simp) (by simp)) <| ea_cons <| ev_op <| ev_op <| ev_var rfl <| ev_var rfl <| ra_str (sa [f] [s] (by simp) (by simp)) <| ev_str <| ?_
  show RO K (rAddU K) (.d (.str (Sx [f] ++ Sx [s]))) _ m _
  rw [zzS, sx_app]
  refine ra_str (sa _ _ (by simp) (by simp)) <| ea_nil ⟨[_, _, _, _], rfl, by simp, ?_⟩
  refine wp_seq <| wp_set <| ev_op <| ev_var rfl <| ev_lst <| ea_cons <| ev_op <| ev_op <| ev_var rfl <| ev_var rfl <| ra_str (sa [f] [s] (by simp) (by simp)) <| ev_op <| ev_var rfl <| ev_op <| ev_var rfl <| ev_int <| rp_mod (by decide) <| rm_str (by omega) (by omega) (s1 s) <| ?_
  rw [e3]
  show RO K (rAddU K) (.d (.str (Sx [f] ++ Sx [s]))) (.d (.str (Txt.mul (Sx [s]) _))) m _
  rw [mul_chr s (by omega), sx_app]
  refine ra_str (sa _ _ (by simp) (by simp; omega)) <| ea_cons <| ev_op <| ev_op <| ev_var rfl <| ev_var rfl <| ra_str (sa [s] [f] (by simp) (by simp)) <| ev_str <| ?_
  show RO K (rAddU K) (.d (.str (Sx [s] ++ Sx [f]))) _ m _
  rw [xxS, sx_app]
  refine ra_str (sa _ _ (by simp) (by simp)) <| ea_nil ⟨[_, _], rfl, by simp, ra_lst (by simp) <| wp_ret <| ev_op <| ev_var rfl <| ev_var rfl <| ?_⟩
  rw [sx_app, sx_app, sx_app, sx_app]
  have h25 : (List.replicate (if (decide ((25 : Int) < (nu : Int))) = true then 1 else 0) s) = (if 25 < nu then [s] else []) := by
    by_cases h : 25 < nu
    · have : decide ((25 : Int) < (nu : Int)) = true := by simp; omega
      rw [this, if_pos h]; rfl
    · have : decide ((25 : Int) < (nu : Int)) = false := by simp; omega
      rw [this, if_neg h]; rfl
  rw [h25]
  match st, hst, hp with
  | 0, _, hp => exact rx_lst rfl (hp _ rfl)
  | 1, _, hp => exact rx_lst rfl (hp _ (by show PyData.str (Sx [s] ++ Sx [f]) = _; rw [sx_app]; rfl))
  | 2, _, hp => exact rx_lst rfl (hp _ rfl)
  | 3, _, hp => exact rx_lst rfl (hp _ rfl)
  | 4, _, hp => exact rx_lst rfl (hp _ rfl)
  | 5, _, hp => exact rx_lst rfl (hp _ rfl)
end
end Dv
namespace Dv
open PySem L2 PyProof.Rows
abbrev prD (p : Nat × Nat) : PyData := .tuple [.int (p.1 : Nat), .int (p.2 : Nat)]
def rowC (C i : Nat) : List (Nat × Nat) := (List.range C).map fun c => (i, c)
def cellsC (C : Nat) : Nat → List (Nat × Nat)
  | 0 => []
  | i + 1 => cellsC C i ++ rowC C i
theorem rowC_len (C i : Nat) : (rowC C i).length = C := by simp [rowC]
theorem cellsC_len (C : Nat) : ∀ i, (cellsC C i).length = i * C
  | 0 => by simp [cellsC]
  | i + 1 => by rw [cellsC, List.length_append, cellsC_len C i, rowC_len, Nat.succ_mul]
theorem map_erase {α β : Type} {f : α → β} : ∀ {xs : List α} {i : Nat}, (xs.map f).eraseIdx i = (xs.eraseIdx i).map f
  | [], _ => rfl
  | x :: xs, 0 => rfl
  | x :: xs, i + 1 => by simp [map_erase (xs := xs) (i := i)]
section
variable {K : PySem.W.Frag} {Pg : Program} {w : World}
def W_pattern : WT := fun ss m P => ∃ (a : Addr) (R C : Nat) (u : List PyData) (n : Nat), ss = [.m a, .d (.int (R : Nat)), .d (.int (C : Nat))] ∧ 0 < R ∧ R ≤ 12 ∧ 0 < C ∧ C ≤ 12 ∧ m a = some (.lst u) ∧ SrcL u n ∧ n ≤ 500000 ∧
  ∀ (es : List (Nat × Nat)) u', es.length ≤ 144 → SrcL u' (n + 1000) → P (.d (.list (es.map prD))) (put m a (.lst u'))
def t_pattern (K : PySem.W.Frag) (Pg : Program) (w : World) : TS :=
  (tSeq (tAsg (tCall (SpD K W_draw) [] E0 (tCons (tVar 0) (tCons (tC (.int 9)) tNil))) (gName 3))
    (tSeq (tAsg (tLst tNil) (gName 4))
    (tSeq (tFor (iRng1 (tCons (tVar 1) tNil)) (gName 5)
    (tAsg (tOp (rAddU K) (tVar 4) (tLc (iRng1 (tCons (tVar 2) tNil)) (gName 12) tYes (tTupZ (tCons (tVar 5) (tCons (tVar 12) tNil))) [12])) (gName 4)))
    (tSeq (tIfS (tTest (tOp (rI0 fun i j => .bl (decide (i < j))) (tVar 3) (tC (.int 2))))
    (tRet (tVar 4))
    tNext)
    (tSeq (tIfS (tTest (tOp (rEqU K) (tVar 3) (tC (.int 2))))
    (tRet (tLst tNil))
    tNext)
    (tSeq (tIfS (tTest (tOp (rEqU K) (tVar 3) (tC (.int 3))))
    (tRet (tLst (tCons (tOp (rIx K) (tVar 4) (tCall (SpD K W_draw) [] E0 (tCons (tVar 0) (tCons (tCB (rLenC K) (tCons (tVar 4) tNil)) tNil)))) tNil)))
    tNext)
    (tSeq (tIfS (tTest (tOp (rEqU K) (tVar 3) (tC (.int 4))))
    (tSeq (tAsg (tCall (SpD K W_shuffled) [] E0 (tCons (tVar 0) (tCons (tLstRg (tRg1 (tVar 1))) tNil))) (gName 6))
    (tSeq (tAsg (tCall (SpD K W_shuffled) [] E0 (tCons (tVar 0) (tCons (tLstRg (tRg1 (tVar 2))) tNil))) (gName 7))
    (tSeq (tAsg (tOp (rAddU K) (tC (.int 1)) (tCall (SpD K W_draw) [] E0 (tCons (tVar 0) (tCons (tCB (rMinC) (tCons (tVar 1) (tCons (tVar 2) tNil))) tNil)))) (gName 8))
    (tRet (tLc (iRng1 (tCons (tVar 8) tNil)) (gName 11) tYes (tTupZ (tCons (tOp (rIx K) (tVar 6) (tVar 11)) (tCons (tOp (rIx K) (tVar 7) (tVar 11)) tNil))) [11])))))
    tNext)
    (tSeq (tIfS (tTest (tOp (rEqU K) (tVar 3) (tC (.int 5))))
    (tSeq (tAsg (tCall (SpD K W_draw) [] E0 (tCons (tVar 0) (tCons (tVar 1) tNil))) (gName 9))
    (tRet (tLc (iSeqU K (tVar 4)) (gName 10) (tTest (tOp (rEqU K) (tOp (rIx K) (tVar 10) (tC (.int 0))) (tVar 9))) (tVar 10) [10])))
    tNext)
    (tSeq (tIfS (tTest (tOp (rEqU K) (tVar 3) (tC (.int 6))))
    (tSeq (tAsg (tCall (SpD K W_draw) [] E0 (tCons (tVar 0) (tCons (tVar 2) tNil))) (gName 9))
    (tRet (tLc (iSeqU K (tVar 4)) (gName 10) (tTest (tOp (rEqU K) (tOp (rIx K) (tVar 10) (tC (.int 1))) (tVar 9))) (tVar 10) [10])))
    tNext)
    (tSeq (tIfS (tTest (tOp (rEqU K) (tVar 3) (tC (.int 7))))
    (tSeq (tDrop (tBM K "list" rPopAt (tVar 4) (tCons (tCall (SpD K W_draw) [] E0 (tCons (tVar 0) (tCons (tCB (rLenC K) (tCons (tVar 4) tNil)) tNil))) tNil)))
    (tRet (tVar 4)))
    tNext)
    (tRet (tLc (iSeqU K (tVar 4)) (gName 10) (tTest (tOp (rEqU K) (tCall (SpD K W_draw) [] E0 (tCons (tVar 0) (tCons (tC (.int 3)) tNil))) (tC (.int 0)))) (tVar 10) [10]))))))))))))
theorem shaped_int (i : Int) : SeqAt.shaped (.int i) = true := rfl
theorem list_of {es : List (Nat × Nat)} {ds : List PyData} {P : PV} {m : Sto} (e : ds = es.map prD) (p : P (.d (.list (es.map prD))) m) : P (.d (.list ds)) m := by rw [e]; exact p
theorem upTo_map (n : Nat) : (List.range n).map (fun i : Nat => PyData.int (i : Nat)) = upTo n := rfl
theorem rd_pattern (ss : List Sl) (m : Sto) (P : PV) (h : W_pattern ss m P) : Wp K (t_pattern K Pg w) (rho ["source", "rows", "columns", "way", "cells", "row", "lines", "others", "many", "line", "cell", "index", "column"] ss) m { nx := fun _ m' => P (.d .none) m', rt := P } := by
  obtain ⟨a, R, C, u, n, rfl, hR0, hR, hC0, hC, hm, hu, hn, p⟩ := h
  refine wp_seq <| wp_set <| ev_call0 <| ea_cons <| ev_var rfl <| ea_cons <| ev_int <| ea_nil ⟨a, _, u, n, rfl, by decide, by decide, hm, hu, by omega, fun way u1 hw hu1 => ?_⟩
  clear hu hm
  refine wp_seq <| wp_set <| ev_lstM <| ea_nil ⟨[], rfl, by simp, fun b0 hb0 => ?_⟩
  generalize hm1 : put m a (.lst u1) = m1 at hb0
  have hma : m1 a = some (.lst u1) := by rw [← hm1, put_same]
  refine wp_seq <| wp_rng <| ea_cons <| ev_var rfl <| ea_nil ⟨R, fun i ρ' m' => ∃ b s5, m1 b = none ∧ ρ' = [some (.m a), some (.d (.int (R : Nat))), some (.d (.int (C : Nat))), some (.d (.int (way : Nat))), some (.m b), s5, none, none, none, none, none, none, none] ∧ m' = put m1 b (.lst ((cellsC C i).map prD)), rfl, by omega, ⟨b0, _, hb0, rfl, rfl⟩, ?_, ?_⟩
  · rintro i ρ' m' hi ⟨b, s5, hb, rfl, rfl⟩
    refine wp_post <| wp_set <| ev_op <| ev_var rfl <| ev_lcR List.mem_cons_self <| ea_cons <| ev_var rfl <| ea_nil ⟨C, fun c => prD (i, c), rfl, by omega, fun c hc => ev_tup <| ea_cons <| ev_var rfl <| ea_cons <| ev_var rfl <| ea_nil ⟨[_, _], rfl, by simp, rfl, rfl⟩, ra_lstM (ls_m put_same) ls_d ?_ fun b' hb' => ⟨b, .lst ((cellsC C i).map prD), ?_, b', _, ?_, rfl, ?_⟩⟩
    · rw [List.length_map, cellsC_len, List.length_map, List.length_range]
      have : i * C ≤ 12 * 12 := Nat.mul_le_mul (by omega) hC
      omega
    · have : b ≠ b' := fun e => by rw [← e, put_same] at hb'; cases hb'
      rw [put_ne this, put_same]
    · have : b' ≠ b := fun e => by rw [e, put_same] at hb'; cases hb'
      rw [put_ne this] at hb'
      exact hb'
    · have hne : b ≠ b' := fun e => by rw [← e, put_same] at hb'; cases hb'
      rw [put_comm hne, del_put (by rw [put_ne hne]; exact hb), cellsC, List.map_append, rowC, List.map_map]
      rfl
  rintro ρ' m' ⟨b, s5, hb, rfl, rfl⟩
  have ab : a ≠ b := fun e => by rw [← e, hma] at hb; cases hb
  have hcl : ((cellsC C R).map prD).length = R * C := by rw [List.length_map, cellsC_len]
  have hRC : R * C ≤ 144 := Nat.mul_le_mul hR hC
  have hRC0 : 0 < R * C := Nat.mul_pos hR0 hC0
  generalize cellsC C R = cs at hcl
  have hcs : cs.length = R * C := by rw [← hcl, List.length_map]
  have fin : ∀ (es : List (Nat × Nat)) u' k, es.length ≤ 144 → SrcL u' k → k ≤ n + 1000 → P (.d (.list (es.map prD))) (put m1 a (.lst u')) := fun es u' k h1 h2 h3 => by
    rw [← hm1, put_put]
    exact p es u' h1 (h2.mono h3)
  have fin1 : ∀ (es : List (Nat × Nat)), es.length ≤ 144 → P (.d (.list (es.map prD))) m1 := fun es h1 => by
    have := fin es u1 _ h1 hu1 (by omega)
    rw [put_self hma] at this
    exact this
  have hS : ∀ u' w', put (put m1 b w') a (.lst u') = put (put m1 a (.lst u')) b w' := fun u' w' => put_comm (Ne.symm ab)
  have hSa : put m1 b (.lst (cs.map prD)) a = some (.lst u1) := by rw [put_ne ab]; exact hma
  have hd : ∀ u' w', del (put (put m1 a (.lst u')) b w') b = put m1 a (.lst u') := fun u' w' => del_put (by rw [put_ne (Ne.symm ab)]; exact hb)
  have dw : ∀ (bound : Int) (Q : PV), 0 < bound → bound < 2 ^ 100 → (∀ (r : Nat) u', (r : Int) < bound → SrcL u' (n + 2) → Q (.d (.int (r : Nat))) (put (put m1 a (.lst u')) b (.lst (cs.map prD)))) → W_draw [.m a, .d (.int bound)] (put m1 b (.lst (cs.map prD))) Q := fun bound Q h1 h2 h3 =>
    ⟨a, bound, u1, n + 1, rfl, h1, h2, hSa, hu1, by omega, fun r u' hr hu' => by rw [hS]; exact h3 r u' hr hu'⟩
  refine wp_seq <| wp_if <| et_test <| ev_op <| ev_var rfl <| ev_int <| rl_lt ⟨_, rfl, ite_b (fun _ => ?_) (fun _ => wp_next ?_)⟩
  · refine wp_ret <| ev_varF rfl put_same ?_
    rw [del_put hb]
    exact fin1 cs (by omega)
  refine wp_seq <| wp_if <| et_test <| ev_op <| ev_var rfl <| ev_int <| re_eq (shaped_int _) (shaped_int _) ⟨_, rfl, ite_b (fun _ => ?_) (fun _ => wp_next ?_)⟩
  · refine wp_ret <| ev_del <| ev_lst <| ea_nil ⟨[], rfl, by simp, b, _, put_same, ?_⟩
    rw [del_put hb]
    exact fin1 [] (by simp)
  refine wp_seq <| wp_if <| et_test <| ev_op <| ev_var rfl <| ev_int <| re_eq (shaped_int _) (shaped_int _) ⟨_, rfl, ite_b (fun _ => ?_) (fun _ => wp_next ?_)⟩
  · refine wp_ret <| ev_del <| ev_lst <| ea_cons <| ev_op <| ev_var rfl <| ev_call0 <| ea_cons <| ev_var rfl <| ea_cons <| ev_cb <| ea_cons <| ev_var rfl <| ea_nil <| rc_lenM put_same <| ea_nil <| dw _ _ (by omega) (by omega) fun r u' hr hu' => ?_
    have hr' : r < cs.length := by omega
    refine rx_lstM put_same (atI_map rfl (List.getElem?_eq_getElem hr')) <| ea_nil ⟨[_], rfl, by simp, b, _, put_same, ?_⟩
    rw [hd]
    exact fin [cs[r]] u' _ (by simp) hu' (by omega)
  refine wp_seq <| wp_if <| et_test <| ev_op <| ev_var rfl <| ev_int <| re_eq (shaped_int _) (shaped_int _) ⟨_, rfl, ite_b (fun _ => ?_) (fun _ => wp_next ?_)⟩
  · refine wp_del put_same ?_
    rw [del_put hb]
    have lU : ∀ k : Nat, (upTo k).length = k := fun k => by simp [upTo]
    refine wp_seq <| wp_set <| ev_call0 <| ea_cons <| ev_var rfl <| ea_cons <| ev_listRg <| ev_var rfl ⟨_, rfl, by omega, by omega, ea_nil ⟨a, _, u1, n + 1, rfl, hma, hu1, by rw [lU]; omega, by rw [lU]; omega, fun ls u2 hls hu2 => ?_⟩⟩
    rw [lU] at hu2
    obtain ⟨ys, hys, rfl⟩ := perm_map (f := fun i : Nat => PyData.int (i : Nat)) hls (upTo_map _)
    refine wp_seq <| wp_set <| ev_call0 <| ea_cons <| ev_var rfl <| ea_cons <| ev_listRg <| ev_var rfl ⟨_, rfl, by omega, by omega, ea_nil ⟨a, _, u2, _, rfl, put_same, hu2, by rw [lU]; omega, by rw [lU]; omega, fun os u3 hos hu3 => ?_⟩⟩
    rw [lU] at hu3
    obtain ⟨zs, hzs, rfl⟩ := perm_map (f := fun i : Nat => PyData.int (i : Nat)) hos (upTo_map _)
    rw [put_put]
    have ly : ys.length = R := by have := hys.length_eq; simpa using this
    have lz : zs.length = C := by have := hzs.length_eq; simpa using this
    have hmin : 0 < (if (C : Int) < (R : Int) then (C : Int) else (R : Int)) ∧ (if (C : Int) < (R : Int) then (C : Int) else (R : Int)) ≤ R ∧ (if (C : Int) < (R : Int) then (C : Int) else (R : Int)) ≤ C := by split <;> omega
    refine wp_seq <| wp_set <| ev_op <| ev_int <| ev_call0 <| ea_cons <| ev_var rfl <| ea_cons <| ev_cb <| ea_cons <| ev_var rfl <| ea_cons <| ev_var rfl <| ea_nil <| rc_min2 <| ea_nil ⟨a, _, u3, _, rfl, by omega, by omega, put_same, hu3, by omega, fun r u4 hr hu4 => ra_int ?_⟩
    rw [put_put]
    have e1 : (1 : Int) + (r : Int) = ((r + 1 : Nat) : Int) := by omega
    rw [e1]
    refine wp_ret <| ev_lcR List.mem_cons_self <| ea_cons <| ev_var rfl <| ea_nil ⟨r + 1, fun i => prD (ys.getD i 0, zs.getD i 0), rfl, by omega, fun i hi => ?_, ?_⟩
    · have h1 : ys[i]? = some (ys.getD i 0) := by rw [List.getD_eq_getElem?_getD, List.getElem?_eq_getElem (by omega)]; rfl
      have h2 : zs[i]? = some (zs.getD i 0) := by rw [List.getD_eq_getElem?_getD, List.getElem?_eq_getElem (by omega)]; rfl
      exact ev_tup <| ea_cons <| ev_op <| ev_var rfl <| ev_var rfl <| rx_lst (atI_map rfl h1) <| ea_cons <| ev_op <| ev_var rfl <| ev_var rfl <| rx_lst (atI_map rfl h2) <| ea_nil ⟨[_, _], rfl, by simp, rfl, rfl⟩
    · refine list_of (es := (List.range (r + 1)).map fun i => (ys.getD i 0, zs.getD i 0)) (by rw [List.map_map]; rfl) ?_
      exact fin _ u4 _ (by simp; omega) hu4 (by omega)
  refine wp_seq <| wp_if <| et_test <| ev_op <| ev_var rfl <| ev_int <| re_eq (shaped_int _) (shaped_int _) ⟨_, rfl, ite_b (fun _ => ?_) (fun _ => wp_next ?_)⟩
  · refine wp_seq <| wp_set <| ev_call0 <| ea_cons <| ev_var rfl <| ea_cons <| ev_var rfl <| ea_nil <| dw _ _ (by omega) (by omega) fun r u' hr hu' => ?_
    refine wp_ret <| ev_del <| ev_lcF (toD := prD) List.mem_cons_self <| ei_lstM <| ev_var rfl ⟨b, _, rfl, put_same, cs, fun q => PyData.eqv (.int (q.1 : Nat)) (.int (r : Nat)), prD, rfl, put_same, by omega, fun q _ => ⟨?_, fun _ => ev_var rfl ⟨rfl, rfl⟩⟩, b, _, put_same, ?_⟩
    · exact et_test <| ev_op <| ev_op <| ev_var rfl <| ev_int <| rx_tup rfl <| ev_var rfl <| re_eq (shaped_int _) (shaped_int _) ⟨_, rfl, rfl, rfl⟩
    · rw [hd]
      exact fin _ u' _ (Nat.le_trans (List.length_filter_le _ _) (by omega)) hu' (by omega)
  refine wp_seq <| wp_if <| et_test <| ev_op <| ev_var rfl <| ev_int <| re_eq (shaped_int _) (shaped_int _) ⟨_, rfl, ite_b (fun _ => ?_) (fun _ => wp_next ?_)⟩
  · refine wp_seq <| wp_set <| ev_call0 <| ea_cons <| ev_var rfl <| ea_cons <| ev_var rfl <| ea_nil <| dw _ _ (by omega) (by omega) fun r u' hr hu' => ?_
    refine wp_ret <| ev_del <| ev_lcF (toD := prD) List.mem_cons_self <| ei_lstM <| ev_var rfl ⟨b, _, rfl, put_same, cs, fun q => PyData.eqv (.int (q.2 : Nat)) (.int (r : Nat)), prD, rfl, put_same, by omega, fun q _ => ⟨?_, fun _ => ev_var rfl ⟨rfl, rfl⟩⟩, b, _, put_same, ?_⟩
    · exact et_test <| ev_op <| ev_op <| ev_var rfl <| ev_int <| rx_tup rfl <| ev_var rfl <| re_eq (shaped_int _) (shaped_int _) ⟨_, rfl, rfl, rfl⟩
    · rw [hd]
      exact fin _ u' _ (Nat.le_trans (List.length_filter_le _ _) (by omega)) hu' (by omega)
  refine wp_seq <| wp_if <| et_test <| ev_op <| ev_var rfl <| ev_int <| re_eq (shaped_int _) (shaped_int _) ⟨_, rfl, ite_b (fun _ => ?_) (fun _ => wp_next ?_)⟩
  · refine wp_seq <| wp_drop <| ev_bm <| ev_var rfl ⟨ty_listM put_same, ea_cons <| ev_call0 <| ea_cons <| ev_var rfl <| ea_cons <| ev_cb <| ea_cons <| ev_var rfl <| ea_nil <| rc_lenM put_same <| ea_nil <| dw _ _ (by omega) (by omega) fun r u' hr hu' => ea_nil ?_⟩
    have hr' : r < (cs.map prD).length := by omega
    refine rm_popAt put_same (by omega) (by omega) rfl (List.getElem?_eq_getElem hr') <| wp_ret <| ev_varF rfl put_same ?_
    rw [put_put, hd]
    refine list_of (es := cs.eraseIdx r) ?_ (fin _ u' _ (Nat.le_trans (List.length_eraseIdx_le _ _) (by omega)) hu' (by omega))
    rw [map_erase]
  refine wp_ret <| ev_del <| ev_lc <| ei_lstM <| ev_var rfl ⟨b, _, rfl, put_same, fun i acc m' => ∃ u' es, SrcL u' (n + 1 + i) ∧ m' = put (put m1 a (.lst u')) b (.lst (cs.map prD)) ∧ acc = es.map prD ∧ es.length ≤ i ∧ i ≤ cs.length, ⟨u1, [], hu1, by rw [put_self hma], rfl, Nat.le_refl _, Nat.zero_le _⟩, fun i acc m' ⟨u', es, _, e, _⟩ => by rw [e]; exact put_same, ?_, ?_⟩
  · rintro i x acc m' hx ⟨u', es, hu', rfl, rfl, hl, hi⟩
    rw [List.getElem?_map, List.getElem?_map] at hx
    cases hy : cs[i]? with
    | none => rw [hy] at hx; cases hx
    | some q =>
    rw [hy] at hx
    cases hx
    have hi2 : i < cs.length := (List.getElem?_eq_some_iff.mp hy).1
    refine ⟨by rw [List.length_map]; omega, [10], by simp, gt_name <| et_test <| ev_op <| ev_call0 <| ea_cons <| ev_var rfl <| ea_cons <| ev_int <| ea_nil ⟨a, _, u', n + 1 + i, rfl, by decide, by decide, by rw [put_ne ab, put_same], hu', by omega, fun r u2 hr hu2 => ev_int <| re_eq (shaped_int _) (shaped_int _) ⟨_, rfl, ite_b (fun _ => ?_) (fun _ => ?_)⟩⟩⟩
    · rw [put_mid ab]
      exact ev_var rfl ⟨_, rfl, u2, es ++ [q], hu2, rfl, by rw [List.map_append]; rfl, by rw [List.length_append]; simp; omega, hi2⟩
    · rw [put_mid ab]
      exact ⟨u2, es, hu2, rfl, rfl, by omega, hi2⟩
  · rintro acc m' ⟨u', es, hu', rfl, rfl, hl, hi⟩
    rw [List.length_map, List.length_map] at hl hu'
    refine ⟨b, _, put_same, ?_⟩
    rw [hd]
    exact fin es u' _ (by omega) hu' (by omega)
end
end Dv
namespace Dv
open PySem L2 PyProof.Rows
/-! ### what the floors are made of -/
def lowN : List Nat → List Nat
  | [] => []
  | c :: t => (if isUp c = true then c + 32 else c) :: t
def upL : List Nat → List Nat
  | [] => []
  | c :: t => (c - 32) :: t
theorem nm_form (st sh nu : Nat) : ∃ c t, nmL st sh nu = c :: t ∧ isLo c = true ∧ t.all isLo = true ∧ t.length ≤ 5 := by
  have h1 : isLo (97 + (nu + sh) % 26) = true := by simp [isLo]; omega
  have h2 : isLo (97 + (nu / 26 + 2 * sh) % 26) = true := by simp [isLo]; omega
  unfold nmL
  generalize 97 + (nu + sh) % 26 = f at *
  generalize 97 + (nu / 26 + 2 * sh) % 26 = s at *
  have h5 : isLo 122 = true := rfl
  have h6 : isLo 120 = true := rfl
  have h7 : isLo 113 = true := rfl
  split
  · refine ⟨_, _, rfl, h1, ?_, ?_⟩ <;> split <;> simp [h2]
  · exact ⟨_, _, rfl, h2, by simp [h1], by simp⟩
  · exact ⟨_, _, rfl, h7, by simp [h1, h2, h7], by simp⟩
  · exact ⟨_, _, rfl, h1, by simp [h2, h5], by simp⟩
  · refine ⟨_, _, rfl, h1, ?_, ?_⟩
    · simp [h2]
    · simp; omega
  · exact ⟨_, _, rfl, h2, by simp [h1, h6], by simp⟩
theorem nm_inj {st sh a b : Nat} (hst : st < 6) (hsh : sh < 26) (ha : a < 144) (hb : b < 144) (h : nmL st sh a = nmL st sh b) : a = b := by
  match st, hst, h with
  | 0, _, h =>
    simp only [nmL] at h
    obtain ⟨h1, h2⟩ := List.cons.inj h
    by_cases x : 25 < a
    · by_cases y : 25 < b
      · rw [if_pos x, if_pos y] at h2
        have h3 := (List.cons.inj h2).1
        omega
      · rw [if_pos x, if_neg y] at h2; cases h2
    · by_cases y : 25 < b
      · rw [if_neg x, if_pos y] at h2; cases h2
      · omega
  | 1, _, h => simp only [nmL, List.cons.injEq] at h; omega
  | 2, _, h => simp only [nmL, List.cons.injEq] at h; omega
  | 3, _, h => simp only [nmL, List.cons.injEq] at h; omega
  | 4, _, h =>
    simp only [nmL] at h
    obtain ⟨h1, h2⟩ := List.cons.inj h
    obtain ⟨h3, h4⟩ := List.cons.inj h2
    omega
  | 5, _, h => simp only [nmL, List.cons.injEq] at h; omega
theorem flat_grid {α : Type} (f : Nat → α) (C : Nat) : ∀ R, ((List.range R).map fun i => (List.range C).map fun j => f (i * C + j)).flatten = (List.range (R * C)).map f
  | 0 => by simp
  | R + 1 => by
    rw [List.range_succ, List.map_append, List.flatten_append, flat_grid f C R, Nat.succ_mul, List.range_add, List.map_append, List.map_map]
    simp [Function.comp_def]
structure GF (R C : Nat) (fl : List (List (List Nat))) : Prop where
  r0 : 0 < R
  r1 : R ≤ 12
  c0 : 0 < C
  c1 : C ≤ 12
  len : fl.length = R
  row : ∀ r ∈ fl, r.length = C
  ok : ∀ r ∈ fl, ∀ l ∈ r, okL l = true
  nd : (fl.flatten.map lowN).Nodup
  form : ∃ st sh, st < 6 ∧ ∀ r ∈ fl, ∀ l ∈ r, ∃ nu, lowN l = nmL st sh nu
theorem upper_chr : ∀ k < 26, Txt.upper (Sx [97 + k]) = Sx [65 + k] := by decide +kernel
theorem lower_chr : ∀ k < 26, Txt.lower (Sx [65 + k]) = Sx [97 + k] := by decide +kernel
theorem upper_lo {c : Nat} (h : isLo c = true) : Txt.upper (Sx [c]) = Sx [c - 32] := by
  simp [isLo] at h
  have e : c = 97 + (c - 97) := by omega
  rw [e, upper_chr (c - 97) (by omega)]
  congr 2
  omega
theorem lower_up {c : Nat} (h : isUp c = true) : Txt.lower (Sx [c]) = Sx [c + 32] := by
  simp [isUp] at h
  have e : c = 65 + (c - 65) := by omega
  rw [e, lower_chr (c - 65) (by omega)]
  congr 2
  omega
theorem nmax_facts (st sh nu : Nat) (b : Bool) : okL (if b = true then upL (nmL st sh nu) else nmL st sh nu) = true ∧ lowN (if b = true then upL (nmL st sh nu) else nmL st sh nu) = nmL st sh nu := by
  obtain ⟨c, t, e, h1, h2, h3⟩ := nm_form st sh nu
  rw [e]
  have hc := h1
  simp [isLo] at hc
  have u1 : isUp (c - 32) = true := by simp [isUp]; omega
  have u2 : isUp c = false := by simp [isUp]; omega
  cases b with
  | true =>
    simp only [if_pos, upL]
    constructor
    · simp only [okL, u1, h2, decide_eq_true h3]; rfl
    · simp only [lowN, u1, if_pos]
      congr 1
      omega
  | false =>
    rw [if_neg Bool.false_ne_true]
    constructor
    · simp only [okL, h1, h2, decide_eq_true h3, Bool.or_true]; rfl
    · simp only [lowN, u2]
      rw [if_neg Bool.false_ne_true]
theorem shaped_pairs (es : List (Nat × Nat)) : SeqAt.shaped (.list (es.map prD)) = true := by
  have h : PyData.canLayAll0 (es.map prD) = true ∧ PyData.depthAll (es.map prD) ≤ 1 := by
    induction es with
    | nil => exact ⟨rfl, Nat.zero_le _⟩
    | cons a es ih =>
      constructor
      · rw [List.map_cons, PyData.canLayAll0, ih.1]; rfl
      · rw [List.map_cons, PyData.depthAll]
        exact Nat.max_le.mpr ⟨Nat.le_refl _, ih.2⟩
  obtain ⟨h1, h2⟩ := h
  simp [SeqAt.shaped, PyData.canLay0, PyData.depth, h1]
  omega
theorem shaped_pair (q : Nat × Nat) : SeqAt.shaped (prD q) = true := rfl
section
variable {K : PySem.W.Frag} {Pg : Program} {w : World}
def W_named : WT := fun ss m P => ∃ (a : Addr) (R C : Nat) (u : List PyData) (n : Nat), ss = [.m a, .d (.int (R : Nat)), .d (.int (C : Nat))] ∧ 0 < R ∧ R ≤ 12 ∧ 0 < C ∧ C ≤ 12 ∧ m a = some (.lst u) ∧ SrcL u n ∧ n ≤ 400000 ∧
  ∀ fl u', GF R C fl → SrcL u' (n + 2000) → P (.d (flD fl)) (put m a (.lst u'))
def t_named (K : PySem.W.Frag) (Pg : Program) (w : World) : TS :=
  (tSeq (tAsg (tCall (SpD K W_pattern) [] E0 (tCons (tVar 0) (tCons (tVar 1) (tCons (tVar 2) tNil)))) (gName 3))
    (tSeq (tAsg (tCall (SpD K W_draw) [] E0 (tCons (tVar 0) (tCons (tC (.int 6)) tNil))) (gName 4))
    (tSeq (tAsg (tCall (SpD K W_draw) [] E0 (tCons (tVar 0) (tCons (tC (.int 26)) tNil))) (gName 5))
    (tSeq (tAsg (tCall (SpD K W_shuffled) [] E0 (tCons (tVar 0) (tCons (tLstRg (tRg1 (tOp (rMulU) (tVar 1) (tVar 2)))) tNil))) (gName 6))
    (tSeq (tAsg (tLst tNil) (gName 7))
    (tSeq (tFor (iRng1 (tCons (tVar 1) tNil)) (gName 8)
    (tSeq (tAsg (tLst tNil) (gName 9))
    (tSeq (tFor (iRng1 (tCons (tVar 2) tNil)) (gName 10)
    (tSeq (tAsg (tCall (SpD K W_name) [] E0 (tCons (tVar 4) (tCons (tVar 5) (tCons (tOp (rIx K) (tVar 6) (tOp (rAddU K) (tOp (rMulU) (tVar 8) (tVar 2)) (tVar 10))) tNil)))) (gName 11))
    (tSeq (tIfS (tTest (tOp (rInU K Pg w) (tTupZ (tCons (tVar 8) (tCons (tVar 10) tNil))) (tVar 3)))
    (tAsg (tOp (rAddU K) (tM0 rUpperM (tOp (rIx K) (tVar 11) (tC (.int 0)))) (tSl (rSlU K) (tVar 11) (tPart (tC (.int 1))) tNoPart)) (gName 11))
    tNext)
    (tDrop (tBM K "list" rAppend (tVar 9) (tCons (tVar 11) tNil))))))
    (tDrop (tBM K "list" rAppend (tVar 7) (tCons (tCB (rTupleC K) (tCons (tVar 9) tNil)) tNil))))))
    (tRet (tCB (rTupleC K) (tCons (tVar 7) tNil)))))))))
theorem wp_app {ρ : Rho} {m : Sto} {k : Ko} {c : Addr} {ds : List PyData} {x : PyData} {i j : Nat} (h9 : ρ[i]? = some (some (.m c))) (h11 : ρ[j]? = some (some (.d x))) (hm : m c = some (.lst ds)) (hl : ds.length < 100000) (p : k.nx ρ (put m c (.lst (ds ++ [x])))) :
    Wp K (tDrop (tBM K "list" rAppend (tVar i) (tCons (tVar j) tNil))) ρ m k :=
  wp_drop <| ev_bm <| ev_var h9 ⟨ty_listM hm, ea_cons <| ev_var h11 <| ea_nil <| rm_append hm hl p⟩
theorem rd_named (ss : List Sl) (m : Sto) (P : PV) (h : W_named ss m P) : Wp K (t_named K Pg w) (rho ["source", "rows", "columns", "pattern", "style", "shift", "numbers", "floor", "row", "cells", "column", "name"] ss) m { nx := fun _ m' => P (.d .none) m', rt := P } := by
  obtain ⟨a, R, C, u, n, rfl, hR0, hR, hC0, hC, hm, hu, hn, p⟩ := h
  have hRC : R * C ≤ 144 := Nat.mul_le_mul hR hC
  have lU : ∀ k : Nat, (upTo k).length = k := fun k => by simp [upTo]
  refine wp_seq <| wp_set <| ev_call0 <| ea_cons <| ev_var rfl <| ea_cons <| ev_var rfl <| ea_cons <| ev_var rfl <| ea_nil ⟨a, R, C, u, n, rfl, hR0, hR, hC0, hC, hm, hu, by omega, fun es u1 hes hu1 => ?_⟩
  refine wp_seq <| wp_set <| ev_call0 <| ea_cons <| ev_var rfl <| ea_cons <| ev_int <| ea_nil ⟨a, _, u1, _, rfl, by decide, by decide, put_same, hu1, by omega, fun st u2 hst hu2 => ?_⟩
  rw [put_put]
  refine wp_seq <| wp_set <| ev_call0 <| ea_cons <| ev_var rfl <| ea_cons <| ev_int <| ea_nil ⟨a, _, u2, _, rfl, by decide, by decide, put_same, hu2, by omega, fun sh u3 hsh hu3 => ?_⟩
  rw [put_put]
  have eRC : (R : Int) * (C : Int) = ((R * C : Nat) : Int) := by simp
  refine wp_seq <| wp_set <| ev_call0 <| ea_cons <| ev_var rfl <| ea_cons <| ev_listRg <| ev_op <| ev_var rfl <| ev_var rfl <| rm_int (wide_mul (a := 30) (b := 30) (by omega) (by omega) (by decide) (by decide) (by decide)) ⟨_, rfl, ?_, ?_, ea_nil ⟨a, _, u3, _, rfl, put_same, hu3, ?_, ?_, fun os u4 hos hu4 => ?_⟩⟩
  · rw [eRC]; omega
  · rw [eRC]; omega
  · rw [eRC, Int.toNat_natCast, lU]; omega
  · rw [eRC, Int.toNat_natCast, lU]; omega
  rw [eRC, Int.toNat_natCast] at hos hu4
  rw [lU] at hu4
  obtain ⟨ns, hns, rfl⟩ := perm_map (f := fun i : Nat => PyData.int (i : Nat)) hos (upTo_map _)
  rw [put_put]
  have hnl : ns.length = R * C := by have := hns.length_eq; simpa using this
  have hst' : st < 6 := by omega
  have hsh' : sh < 26 := by omega
  let NM : Nat → List Nat := fun k => nmL st sh (ns.getD k 0)
  let B : Nat → Nat → Bool := fun i j => anyEq (prD (i, j)) (es.map prD)
  let X : Nat → Nat → List Nat := fun i j => if B i j = true then upL (NM (i * C + j)) else NM (i * C + j)
  let row : Nat → List (List Nat) := fun i => (List.range C).map (X i)
  have hlt : ∀ k, k < R * C → ns.getD k 0 < 144 := fun k hk => by
    have : ns.getD k 0 ∈ ns := by
      rw [List.getD_eq_getElem?_getD, List.getElem?_eq_getElem (by omega)]
      exact List.getElem_mem _
    have := List.mem_range.mp (hns.mem_iff.mp this)
    omega
  have hG : GF R C ((List.range R).map row) := by
    refine ⟨hR0, hR, hC0, hC, by simp, fun r hr => ?_, fun r hr l hl => ?_, ?_, st, sh, hst', fun r hr l hl => ?_⟩
    · obtain ⟨i, _, rfl⟩ := List.mem_map.mp hr
      simp [row]
    · obtain ⟨i, _, rfl⟩ := List.mem_map.mp hr
      obtain ⟨j, _, rfl⟩ := List.mem_map.mp hl
      exact (nmax_facts st sh _ _).1
    · have e : (((List.range R).map row).flatten.map lowN) = ns.map (nmL st sh) := by
        rw [List.map_flatten, List.map_map]
        have e1 : (List.map lowN ∘ row) = fun i => (List.range C).map fun j => NM (i * C + j) := by
          funext i
          show List.map lowN ((List.range C).map (X i)) = _
          rw [List.map_map]
          apply List.map_congr_left
          intro j _
          exact (nmax_facts st sh _ _).2
        rw [e1, flat_grid NM C R]
        apply List.ext_getElem?
        intro k
        rw [List.getElem?_map, List.getElem?_map]
        by_cases hk : k < R * C
        · rw [List.getElem?_range hk, List.getElem?_eq_getElem (by omega)]
          show some (nmL st sh (ns.getD k 0)) = some (nmL st sh ns[k])
          rw [List.getD_eq_getElem?_getD, List.getElem?_eq_getElem (by omega)]
          rfl
        · rw [List.getElem?_eq_none (by simpa using hk), List.getElem?_eq_none (by omega)]
          rfl
      rw [e]
      have nd : ns.Nodup := hns.nodup_iff.mpr List.nodup_range
      refine List.pairwise_map.mpr (List.Pairwise.imp_of_mem (fun {x y} hx hy hne q => ?_) nd)
      have h1 := hns.mem_iff.mp hx
      have h2 := hns.mem_iff.mp hy
      simp at h1 h2
      exact hne (nm_inj hst' hsh' (by omega) (by omega) q)
    · obtain ⟨i, _, rfl⟩ := List.mem_map.mp hr
      obtain ⟨j, _, rfl⟩ := List.mem_map.mp hl
      exact ⟨_, (nmax_facts st sh _ _).2⟩
  have fin : P (.d (flD ((List.range R).map row))) (put m a (.lst u4)) := p _ u4 hG (hu4.mono (by omega))
  clear p hu1 hu2 hu3 hu hG hos
  generalize put m a (.lst u4) = m1 at fin ⊢
  refine wp_seq <| wp_set <| ev_lstM <| ea_nil ⟨[], rfl, by simp, fun b hb => ?_⟩
  refine wp_seq <| wp_rng <| ea_cons <| ev_var rfl <| ea_nil ⟨R, fun i ρ' m' => ∃ s8 s9 s10 s11, ρ' = [some (.m a), some (.d (.int (R : Nat))), some (.d (.int (C : Nat))), some (.d (.list (es.map prD))), some (.d (.int (st : Nat))), some (.d (.int (sh : Nat))), some (.d (.list (ns.map fun i => .int (i : Nat)))), some (.m b), s8, s9, s10, s11] ∧ m' = put m1 b (.lst (((List.range i).map row).map rwD)), rfl, by omega, ⟨_, _, _, _, rfl, rfl⟩, ?_, ?_⟩
  · rintro i ρ' m' hi ⟨s8, s9, s10, s11, rfl, rfl⟩
    refine wp_post <| wp_seq <| wp_set <| ev_lstM <| ea_nil ⟨[], rfl, by simp, fun c hc => ?_⟩
    have hbc : b ≠ c := fun e => by rw [← e, put_same] at hc; cases hc
    refine wp_seq <| wp_rng <| ea_cons <| ev_var rfl <| ea_nil ⟨C, fun j ρ' m' => ∃ s10 s11, ρ' = [some (.m a), some (.d (.int (R : Nat))), some (.d (.int (C : Nat))), some (.d (.list (es.map prD))), some (.d (.int (st : Nat))), some (.d (.int (sh : Nat))), some (.d (.list (ns.map fun i => .int (i : Nat)))), some (.m b), some (.d (.int (i : Nat))), some (.m c), s10, s11] ∧ m' = put (put m1 b (.lst (((List.range i).map row).map rwD))) c (.lst (((List.range j).map (X i)).map nmD)), rfl, by omega, ⟨_, _, rfl, rfl⟩, ?_, ?_⟩
    · rintro j ρ' m' hj ⟨s10, s11, rfl, rfl⟩
      have hk : i * C + j < R * C := by
        have : (i + 1) * C ≤ R * C := Nat.mul_le_mul_right C hi
        rw [Nat.succ_mul] at this
        omega
      have hx : ns[i * C + j]? = some (ns.getD (i * C + j) 0) := by rw [List.getD_eq_getElem?_getD, List.getElem?_eq_getElem (by omega)]; rfl
      obtain ⟨c0, t0, e0, h1, h2, h3⟩ := nm_form st sh (ns.getD (i * C + j) 0)
      have el : ((List.range (j + 1)).map (X i)).map nmD = ((List.range j).map (X i)).map nmD ++ [nmD (X i j)] := by rw [List.range_succ, List.map_append, List.map_append]; rfl
      have ll : (((List.range j).map (X i)).map nmD).length < 100000 := by simp; omega
      refine wp_seq <| wp_set <| ev_call0 <| ea_cons <| ev_var rfl <| ea_cons <| ev_var rfl <| ea_cons <| ev_op <| ev_var rfl <| ev_op <| ev_op <| ev_var rfl <| ev_var rfl <| rm_int (wide_mul (a := 30) (b := 30) (by omega) (by omega) (by decide) (by decide) (by decide)) <| ev_var rfl <| ra_int <| rx_lst (atI_map (by simp) hx) <| ea_nil ⟨st, sh, _, rfl, hst', hsh', hlt _ hk, ?_⟩
      refine wp_seq <| wp_if <| et_test <| ev_op <| ev_tup <| ea_cons <| ev_var rfl <| ea_cons <| ev_var rfl <| ea_nil ⟨[_, _], rfl, by simp, ev_var rfl <| ri_lst (shaped_pair (i, j)) (shaped_pairs es) ⟨_, rfl, ite_b (fun hB => ?_) (fun hB => wp_next ?_)⟩⟩
      · have eX : X i j = (c0 - 32) :: t0 := by
          show (if B i j = true then upL (NM (i * C + j)) else NM (i * C + j)) = _
          rw [if_pos hB]
          show upL (nmL st sh _) = _
          rw [e0]
          rfl
        rw [e0]
        have hl : (Sx (c0 :: t0)).length ≤ 100000 := by rw [sx_len]; simp; omega
        refine wp_set <| ev_op <| ev_m0 <| ev_op <| ev_var rfl <| ev_int <| rx_str hl atI_zero ⟨_, rfl, rm_upper (by rw [sx_len [c0]]; simp) <| ev_sl <| ev_var rfl <| eo_some <| ev_int ⟨_, rfl, eo_no <| rz_str hl ?_⟩⟩
        show RO K (rAddU K) (.d (.str (Txt.upper (Sx [c0])))) _ _ _
        rw [upper_lo h1, cutS_tail]
        refine ra_str (by rw [sx_len, sx_len]; simp; omega) ?_
        rw [sx_app]
        refine wp_app rfl rfl put_same ll ⟨_, _, rfl, ?_⟩
        rw [put_put, el, eX]
        rfl
      · have eX : X i j = nmL st sh (ns.getD (i * C + j) 0) := by
          show (if B i j = true then upL (NM (i * C + j)) else NM (i * C + j)) = _
          rw [if_neg (by rw [show B i j = false from hB]; exact Bool.false_ne_true)]
        refine wp_app rfl rfl put_same ll ⟨_, _, rfl, ?_⟩
        rw [put_put, el, eX]
    · rintro ρ' m' ⟨s10, s11, rfl, rfl⟩
      refine wp_drop <| ev_bm <| ev_var rfl ⟨ty_listM (by rw [put_ne hbc, put_same]), ea_cons <| ev_cb <| ea_cons <| ev_var rfl <| ea_nil <| rc_tupleM put_same <| ea_nil <| rm_append (by rw [put_ne hbc, put_same]) (by simp; omega) ⟨c, .lst (((List.range C).map (X i)).map nmD), ?_, _, _, _, _, rfl, ?_⟩⟩
      · rw [put_ne (Ne.symm hbc), put_same]
      · have hc1 : m1 c = none := by rw [put_ne (Ne.symm hbc)] at hc; exact hc
        rw [put_mid hbc, del_put (by rw [put_ne (Ne.symm hbc)]; exact hc1), List.range_succ, List.map_append, List.map_append]
        rfl
  · rintro ρ' m' ⟨s8, s9, s10, s11, rfl, rfl⟩
    refine wp_ret <| ev_del <| ev_cb <| ea_cons <| ev_var rfl <| ea_nil <| rc_tupleM put_same ⟨b, _, put_same, ?_⟩
    rw [del_put hb]
    exact fin
end
end Dv
namespace Dv
open PySem L2 PyProof.Rows
theorem inj_of {α β : Type} {f : α → β} : ∀ {xs : List α}, (xs.map f).Nodup → ∀ {x y : α}, x ∈ xs → y ∈ xs → f x = f y → x = y
  | [], _, _, _, h, _, _ => by cases h
  | a :: xs, nd, x, y, hx, hy, e => by
    rw [List.map_cons, List.nodup_cons] at nd
    rcases List.mem_cons.mp hx with h1 | h1
    · rcases List.mem_cons.mp hy with h2 | h2
      · rw [h1, h2]
      · subst h1
        exact absurd (e ▸ List.mem_map_of_mem h2) nd.1
    · rcases List.mem_cons.mp hy with h2 | h2
      · subst h2
        exact absurd (e.symm ▸ List.mem_map_of_mem h1) nd.1
      · exact inj_of nd.2 h1 h2 e
theorem nd_of {α β : Type} {f : α → β} {xs : List α} (h : (xs.map f).Nodup) : xs.Nodup := (List.pairwise_map.mp h).imp fun {a b} q e => q (congrArg f e)
theorem nd_map {α β : Type} {g : α → β} {xs : List α} (nd : xs.Nodup) (h : ∀ x y, x ∈ xs → y ∈ xs → g x = g y → x = y) : (xs.map g).Nodup := List.pairwise_map.mpr (nd.imp_of_mem fun {x y} hx hy hne e => hne (h x y hx hy e))
theorem GF.vf {R C : Nat} {fl : List (List (List Nat))} (g : GF R C fl) : VF fl where
  pos := fun e => by have := g.len; rw [e] at this; simp at this; have := g.r0; omega
  most := by rw [g.len]; exact g.r1
  cols := ⟨C, g.c0, g.c1, g.row⟩
  ok := g.ok
  nd := nd_of g.nd
theorem okL_ne {l : List Nat} (h : okL l = true) : l ≠ [] := fun e => by rw [e] at h; cases h
theorem VF.named {fl : List (List (List Nat))} (v : VF fl) : named fl := fun r hr l hl => ⟨okL_ne (v.ok r hr l hl), okL_tx (v.ok r hr l hl)⟩
/-- another item takes the name of a leader in lower case -/
def twin (o t l : List Nat) : List Nat := if l = o then t else l
theorem GF.twinned {R C : Nat} {fl : List (List (List Nat))} (g : GF R C fl) {c : Nat} {t o : List Nat} (hl : (c :: t) ∈ fl.flatten) (hu : isUp c = true) (ho : o ∈ fl.flatten) (hno : upN o = false) : VF (fl.map fun r => r.map (twin o ((c + 32) :: t))) := by
  have hok : ∀ l ∈ fl.flatten, okL l = true := fun l h => by
    obtain ⟨r, hr, h2⟩ := List.mem_flatten.mp h
    exact g.ok r hr l h2
  have hlow : isUp (c + 32) = false := by simp [isUp] at hu ⊢; omega
  have hlo : isLo (c + 32) = true := by simp [isUp] at hu; simp [isLo]; omega
  have elow : lowN ((c + 32) :: t) = lowN (c :: t) := by simp only [lowN, hlow, hu, if_pos]; rw [if_neg Bool.false_ne_true]
  have notin : ∀ y ∈ fl.flatten, y ≠ (c + 32) :: t ∨ y = o ∨ True := fun _ _ => .inr (.inr trivial)
  have key : ∀ y ∈ fl.flatten, (c + 32) :: t = y → False := fun y hy e => by
    have h1 := inj_of g.nd hl hy (by rw [← e, elow])
    rw [← e] at h1
    have := (List.cons.inj h1).1
    omega
  refine ⟨fun e => ?_, ?_, ⟨C, g.c0, g.c1, fun r hr => ?_⟩, fun r hr l h => ?_, ?_⟩
  · have h2 := congrArg List.length e
    rw [List.length_map, g.len] at h2
    have := g.r0
    simp at h2
    omega
  · rw [List.length_map, g.len]; exact g.r1
  · obtain ⟨r', hr', rfl⟩ := List.mem_map.mp hr
    rw [List.length_map]
    exact g.row r' hr'
  · obtain ⟨r', hr', rfl⟩ := List.mem_map.mp hr
    obtain ⟨l', hl', rfl⟩ := List.mem_map.mp h
    unfold twin
    split
    · have h1 := hok _ hl
      simp only [okL] at h1 ⊢
      rw [hlo, Bool.or_true]
      simp at h1
      simp [h1]
      exact h1.2.2
    · exact g.ok r' hr' l' hl'
  · have e : (fl.map fun r => r.map (twin o ((c + 32) :: t))).flatten = fl.flatten.map (twin o ((c + 32) :: t)) := by rw [List.map_flatten]
    rw [e]
    refine nd_map (nd_of g.nd) fun x y hx hy e => ?_
    unfold twin at e
    by_cases h1 : x = o
    · by_cases h2 : y = o
      · rw [h1, h2]
      · rw [if_pos h1, if_neg h2] at e
        exact (key y hy e).elim
    · by_cases h2 : y = o
      · rw [if_neg h1, if_pos h2] at e
        exact (key x hx e.symm).elim
      · rw [if_neg h1, if_neg h2] at e
        exact e
section
variable {K : PySem.W.Frag} {Pg : Program} {w : World}
def W_floor : WT := fun ss m P => ∃ (a : Addr) (most : Nat) (u : List PyData) (n : Nat), ss = [.m a, .d (.int (most : Nat))] ∧ 0 < most ∧ most ≤ 10000 ∧ m a = some (.lst u) ∧ SrcL u n ∧ n ≤ 300000 ∧
  ∀ R C fl u', GF R C fl → R * C ≤ most → SrcL u' (n + 3000) → P (.d (flD fl)) (put m a (.lst u'))
def t_floor (K : PySem.W.Frag) (Pg : Program) (w : World) : TS :=
  (tSeq (tAsg (tOp (rAddU K) (tC (.int 1)) (tCall (SpD K W_draw) [] E0 (tCons (tVar 0) (tCons (tCB (rMinC) (tCons (tC (.int 12)) (tCons (tVar 1) tNil))) tNil)))) (gName 2))
    (tSeq (tAsg (tOp (rAddU K) (tC (.int 1)) (tCall (SpD K W_draw) [] E0 (tCons (tVar 0) (tCons (tCB (rMinC) (tCons (tC (.int 12)) (tCons (tOp (rI CDivW fun i j => .int (i / j)) (tVar 1) (tVar 2)) tNil))) tNil)))) (gName 3))
    (tRet (tCall (SpD K W_named) [] E0 (tCons (tVar 0) (tCons (tVar 2) (tCons (tVar 3) tNil)))))))
theorem rd_floor (ss : List Sl) (m : Sto) (P : PV) (h : W_floor ss m P) : Wp K (t_floor K Pg w) (rho ["source", "most", "rows", "columns"] ss) m { nx := fun _ m' => P (.d .none) m', rt := P } := by
  obtain ⟨a, most, u, n, rfl, h0, h1, hm, hu, hn, p⟩ := h
  have m1 : 0 < (if (most : Int) < 12 then (most : Int) else 12) ∧ (if (most : Int) < 12 then (most : Int) else 12) ≤ 12 ∧ (if (most : Int) < 12 then (most : Int) else 12) ≤ most := by split <;> omega
  refine wp_seq <| wp_set <| ev_op <| ev_int <| ev_call0 <| ea_cons <| ev_var rfl <| ea_cons <| ev_cb <| ea_cons <| ev_int <| ea_cons <| ev_var rfl <| ea_nil <| rc_min2 <| ea_nil ⟨a, _, u, n, rfl, m1.1, by omega, hm, hu, by omega, fun r u1 hr hu1 => ra_int ?_⟩
  have e1 : (1 : Int) + (r : Int) = ((r + 1 : Nat) : Int) := by omega
  rw [e1]
  have hR : r + 1 ≤ most := by omega
  have hq0 : 1 ≤ most / (r + 1) := (Nat.le_div_iff_mul_le (by omega)).mpr (by omega)
  have eq : (most : Int) / ((r + 1 : Nat) : Int) = ((most / (r + 1) : Nat) : Int) := by simp
  have m2 : 0 < (if ((most / (r + 1) : Nat) : Int) < 12 then ((most / (r + 1) : Nat) : Int) else 12) ∧ (if ((most / (r + 1) : Nat) : Int) < 12 then ((most / (r + 1) : Nat) : Int) else 12) ≤ 12 ∧ (if ((most / (r + 1) : Nat) : Int) < 12 then ((most / (r + 1) : Nat) : Int) else 12) ≤ ((most / (r + 1) : Nat) : Int) := by split <;> omega
  refine wp_seq <| wp_set <| ev_op <| ev_int <| ev_call0 <| ea_cons <| ev_var rfl <| ea_cons <| ev_cb <| ea_cons <| ev_int <| ea_cons <| ev_op <| ev_var rfl <| ev_var rfl <| rd_int (wide_div (b := 100) (by omega) (by omega) (by decide) (by decide)) <| ea_nil <| rc_min2 <| ?_
  rw [eq]
  refine ea_nil ⟨a, _, u1, n + 1, rfl, m2.1, by omega, put_same, hu1, by omega, fun s u2 hs hu2 => ra_int ?_⟩
  rw [put_put]
  have e2 : (1 : Int) + (s : Int) = ((s + 1 : Nat) : Int) := by omega
  rw [e2]
  refine wp_ret <| ev_call0 <| ea_cons <| ev_var rfl <| ea_cons <| ev_var rfl <| ea_cons <| ev_var rfl <| ea_nil ⟨a, r + 1, s + 1, u2, _, rfl, by omega, by omega, by omega, by omega, put_same, hu2, by omega, fun fl u3 hG hu3 => ?_⟩
  rw [put_put]
  refine p _ _ fl u3 hG ?_ (hu3.mono (by omega))
  have h3 : s + 1 ≤ most / (r + 1) := by omega
  have := (Nat.le_div_iff_mul_le (show 0 < r + 1 by omega)).mp h3
  rw [Nat.mul_comm]
  exact this
def t_twinned (K : PySem.W.Frag) (Pg : Program) (w : World) : TS :=
  (tSeq (tAsg (tCall (SpD K W_leaders) [] E0 (tCons (tVar 1) tNil)) (gName 2))
    (tSeq (tAsg (tLst tNil) (gName 3))
    (tSeq (tFor (iSeqU K (tVar 1)) (gName 4)
    (tAsg (tOp (rAddU K) (tVar 3) (tLc (iSeqU K (tVar 4)) (gName 8) (tTest (tOp (rNotInU K Pg w) (tVar 8) (tVar 2))) (tVar 8) [8])) (gName 3)))
    (tSeq (tIfS (tOr (tTest (tOp (rEqU K) (tVar 2) (tLst tNil))) (tOr (tTest (tOp (rEqU K) (tVar 3) (tLst tNil))) (tTest (tOp (rI0 fun i j => .bl (decide (j < i))) (tCall (SpD K W_draw) [] E0 (tCons (tVar 0) (tCons (tC (.int 3)) tNil))) (tC (.int 0))))))
    (tRet (tVar 1))
    tNext)
    (tSeq (tAsg (tOp (rIx K) (tVar 2) (tCall (SpD K W_draw) [] E0 (tCons (tVar 0) (tCons (tCB (rLenC K) (tCons (tVar 2) tNil)) tNil)))) (gName 5))
    (tSeq (tAsg (tOp (rIx K) (tVar 3) (tCall (SpD K W_draw) [] E0 (tCons (tVar 0) (tCons (tCB (rLenC K) (tCons (tVar 3) tNil)) tNil)))) (gName 6))
    (tSeq (tAsg (tOp (rAddU K) (tM0 rLowerM (tOp (rIx K) (tVar 5) (tC (.int 0)))) (tSl (rSlU K) (tVar 5) (tPart (tC (.int 1))) tNoPart)) (gName 7))
    (tRet (tCB (rTupleC K) (tCons (tLc (iSeqU K (tVar 1)) (gName 4) tYes (tCB (rTupleC K) (tCons (tLc (iSeqU K (tVar 4)) (gName 8) tYes (tIf (tTest (tOp (rEqU K) (tVar 8) (tVar 6))) (tVar 7) (tVar 8)) [8]) tNil)) [4]) tNil))))))))))
theorem eqv_nil (ds : List PyData) : PyData.eqv (.list ds) (.list []) = ds.isEmpty := by
  cases ds with
  | nil => rfl
  | cons a b => rfl
end
end Dv
namespace Dv
open PySem L2 PyProof.Rows
/-! ### one sorted list -/
abbrev geC (a b : List Nat) : Prop := Spec.ltCps b a = false
theorem ge_trans : ∀ {a b c : List Nat}, geC a b → geC b c → geC a c
  | [], b, c, h1, h2 => by
    cases c with
    | nil => rfl
    | cons z c => rfl
  | x :: a, b, c, h1, h2 => by
    cases b with
    | nil => simp [geC, Spec.ltCps] at h1
    | cons y b =>
      cases c with
      | nil => simp [geC, Spec.ltCps] at h2
      | cons z c =>
        simp only [geC, Spec.ltCps, Bool.or_eq_false_iff, decide_eq_false_iff_not, Bool.and_eq_false_iff, beq_eq_false_iff_ne] at h1 h2 ⊢
        refine ⟨by omega, ?_⟩
        by_cases e : z = x
        · subst e
          right
          have e1 : y = z := by omega
          subst e1
          have h3 := h1.2.resolve_left (fun q => q rfl)
          have h4 := h2.2.resolve_left (fun q => q rfl)
          exact ge_trans (a := a) (b := b) (c := c) h3 h4
        · exact .inl e
theorem ge_anti : ∀ {a b : List Nat}, geC a b → geC b a → a = b
  | [], b, h1, h2 => by
    cases b with
    | nil => rfl
    | cons y b => simp [geC, Spec.ltCps] at h2
  | x :: a, b, h1, h2 => by
    cases b with
    | nil => simp [geC, Spec.ltCps] at h1
    | cons y b =>
      simp only [geC, Spec.ltCps, Bool.or_eq_false_iff, decide_eq_false_iff_not, Bool.and_eq_false_iff, beq_eq_false_iff_ne] at h1 h2
      have e : x = y := by omega
      subst e
      rw [ge_anti (h1.2.resolve_left (fun q => q rfl)) (h2.2.resolve_left (fun q => q rfl))]
theorem rising_pw : ∀ {r : List Str} {x : Str}, risingS x r = true → (∀ y ∈ r, geC x.cps.toList y.cps.toList) ∧ r.Pairwise fun a b => geC a.cps.toList b.cps.toList
  | [], x, _ => ⟨fun _ h => (by cases h), .nil⟩
  | y :: r, x, h => by
    rw [risingS.eq_2, Bool.and_eq_true] at h
    obtain ⟨h1, h2⟩ := h
    obtain ⟨a1, a2⟩ := rising_pw h2
    have g : geC x.cps.toList y.cps.toList := by simpa using h1
    refine ⟨fun z hz => ?_, .cons a1 a2⟩
    rcases List.mem_cons.mp hz with e | e
    · rw [e]; exact g
    · exact ge_trans g (a1 z e)
theorem sorted_pw {ys : List Str} (h : sortedS ys = true) : ys.Pairwise fun a b => geC a.cps.toList b.cps.toList := by
  cases ys with
  | nil => exact .nil
  | cons x r => exact .cons (rising_pw h).1 (rising_pw h).2
theorem pw_unique : ∀ {xs ys : List Str}, xs.Pairwise (fun a b => geC a.cps.toList b.cps.toList) → ys.Pairwise (fun a b => geC a.cps.toList b.cps.toList) → xs.Perm ys → xs = ys
  | [], ys, _, _, p => by rw [List.nil_perm.mp p]
  | x :: xs, [], _, _, p => by cases List.perm_nil.mp p
  | x :: xs, y :: ys, hx, hy, p => by
    obtain ⟨x1, x2⟩ := List.pairwise_cons.mp hx
    obtain ⟨y1, y2⟩ := List.pairwise_cons.mp hy
    have e : x = y := by
      have m1 : x ∈ y :: ys := p.mem_iff.mp List.mem_cons_self
      have m2 : y ∈ x :: xs := p.mem_iff.mpr List.mem_cons_self
      rcases List.mem_cons.mp m1 with e | e
      · exact e
      · rcases List.mem_cons.mp m2 with e2 | e2
        · exact e2.symm
        · have := ge_anti (x1 y e2) (y1 x e)
          rw [← sx_of x, ← sx_of y, this]
    subst e
    rw [pw_unique x2 y2 ((List.perm_cons x).mp p)]
theorem sort_one {xs ys zs : List Str} (h1 : xs.Perm zs) (h2 : sortedS xs = true) (h3 : ys.Perm zs) (h4 : sortedS ys = true) : xs = ys := pw_unique (sorted_pw h2) (sorted_pw h4) (h1.trans h3.symm)
/-! ### what may be shown -/
section
variable {K : PySem.W.Frag} {Pg : Program} {w : World}
theorem turns_ok {k n : Nat} (hn : n ≤ 63) (hk : k ≤ 10) : ∃ t : Nat, t ≤ 100 ∧ (if (if (n : Int) < (k : Int) then (n : Int) else (k : Int)) > (1 : Int) then (if (n : Int) < (k : Int) then (n : Int) else (k : Int)) else (1 : Int)) = (t : Int) := by
  refine ⟨(if (if (n : Int) < (k : Int) then (n : Int) else (k : Int)) > (1 : Int) then (if (n : Int) < (k : Int) then (n : Int) else (k : Int)) else (1 : Int)).toNat, ?_, ?_⟩
  · split <;> split <;> omega
  · split <;> split <;> omega
end
end Dv
namespace Dv
open PySem L2 PyProof.Rows
/-! ### what is raised -/
abbrev Flds := List (Str × V)
abbrev Xv := Rho → Addr → Flds → Sto → Prop
section
variable {K : PySem.W.Frag}
def ThenW (K : PySem.W.Frag) (m : Sto) (F : Reg) (H : Hp) (X : Xv) (W : WX) : Prop := ∀ ρ' C fs d m' σ' F' H', X ρ' C fs m' → m' d = none → Step m F H (put m' d (.raw (.xd fs))) F' H' → StoOk K (put m' d (.raw (.xd fs))) F' H' → EnvOk K F' H' ρ' σ' → W (.ref C) (some d) σ' H'
def ThenE (K : PySem.W.Frag) (m : Sto) (F : Reg) (H : Hp) (X : Addr → Flds → Sto → Prop) (E : XK) : Prop := ∀ C fs d m' F' H', X C fs m' → m' d = none → Step m F H (put m' d (.raw (.xd fs))) F' H' → StoOk K (put m' d (.raw (.xd fs))) F' H' → E (.ref C) (some d) H'
theorem ThenW.step {m m1 : Sto} {F F1 : Reg} {H H1 : Hp} {X : Xv} {W : WX} (t : ThenW K m F H X W) (s : Step m F H m1 F1 H1) : ThenW K m1 F1 H1 X W := fun ρ' C fs d m' σ' F' H' x hd s2 S2 E2 => t ρ' C fs d m' σ' F' H' x hd (s.trans s2) S2 E2
/-- a statement that may raise -/
def WpW (K : PySem.W.Frag) (tb : WX → TS) (ρ : Rho) (m : Sto) (k : Ko) (X : Xv) : Prop :=
  ∀ (D : Ends) (W : WX) (σ : L2.St) (F : Reg) (H : Hp), EnvOk K F H ρ σ → StoOk K m F H →
    (∀ ρ' m' σ' F' H', k.nx ρ' m' → Step m F H m' F' H' → StoOk K m' F' H' → EnvOk K F' H' ρ' σ' → D.nx σ' H') →
    (∀ s m' v F' H', k.rt s m' → Step m F H m' F' H' → StoOk K m' F' H' → SlOk K F' H' s v → D.rt v H') →
    (∀ ρ' m' σ' F' H', k.bk ρ' m' → Step m F H m' F' H' → StoOk K m' F' H' → EnvOk K F' H' ρ' σ' → D.bk σ' H') →
    (∀ ρ' m' σ' F' H', k.ct ρ' m' → Step m F H m' F' H' → StoOk K m' F' H' → EnvOk K F' H' ρ' σ' → D.ct σ' H') → ThenW K m F H X W → tb W D σ H
/-- an expression that may raise -/
def EvW (K : PySem.W.Frag) (te : WX → TE) (ρ : Rho) (m : Sto) (P : PV) (X : Xv) : Prop :=
  ∀ (W : WX) (σ : L2.St) (F : Reg) (H : Hp) (Q : VK), EnvOk K F H ρ σ → StoOk K m F H → Then K m F H P Q → ThenW K m F H X W → te W σ H Q
variable {ρ : Rho} {m : Sto} {k : Ko} {X : Xv} {P : PV} {ts : TS} {t1 t2 tb : WX → TS} {te : WX → TE} {tt : TT} {ta : TA}
theorem wpw_of (h : Wp K ts ρ m k) : WpW K (fun _ => ts) ρ m k X := fun D W σ F H E S q1 q2 q3 q4 _ => h D σ F H E S q1 q2 q3 q4
theorem wpw_at {D : Ends} {W : WX} {m0 m1 : Sto} {F0 F1 : Reg} {H0 H1 : Hp} {σ : L2.St} {ρ1 : Rho} (s1 : Step m0 F0 H0 m1 F1 H1) (E : EnvOk K F1 H1 ρ1 σ) (S1 : StoOk K m1 F1 H1) (w : WpW K tb ρ1 m1 k X)
    (q1 : ∀ ρ' m' σ' F' H', k.nx ρ' m' → Step m0 F0 H0 m' F' H' → StoOk K m' F' H' → EnvOk K F' H' ρ' σ' → D.nx σ' H')
    (q2 : ∀ s m' v F' H', k.rt s m' → Step m0 F0 H0 m' F' H' → StoOk K m' F' H' → SlOk K F' H' s v → D.rt v H')
    (q3 : ∀ ρ' m' σ' F' H', k.bk ρ' m' → Step m0 F0 H0 m' F' H' → StoOk K m' F' H' → EnvOk K F' H' ρ' σ' → D.bk σ' H')
    (q4 : ∀ ρ' m' σ' F' H', k.ct ρ' m' → Step m0 F0 H0 m' F' H' → StoOk K m' F' H' → EnvOk K F' H' ρ' σ' → D.ct σ' H') (q5 : ThenW K m0 F0 H0 X W) : tb W D σ H1 :=
  w D W σ F1 H1 E S1 (fun a b c d f e s2 S2 => q1 a b c d f e (s1.trans s2) S2) (fun a b c d f e s2 S2 => q2 a b c d f e (s1.trans s2) S2) (fun a b c d f e s2 S2 => q3 a b c d f e (s1.trans s2) S2) (fun a b c d f e s2 S2 => q4 a b c d f e (s1.trans s2) S2) (q5.step s1)
theorem wpw_seq (h : WpW K t1 ρ m { k with nx := fun ρ' m' => WpW K t2 ρ' m' k X } X) : WpW K (fun W => tSeq (t1 W) (t2 W)) ρ m k X := fun D W σ F H E S q1 q2 q3 q4 q5 =>
  h { D with nx := t2 W D } W σ F H E S (fun ρ' m' σ' F' H' w s1 S1 E1 => wpw_at (D := D) s1 E1 S1 w q1 q2 q3 q4 q5) q2 q3 q4 q5
theorem wpw_if (h : EvT K tt ρ m fun b m1 => if b = true then WpW K t1 ρ m1 k X else WpW K t2 ρ m1 k X) : WpW K (fun W => tIfS tt (t1 W) (t2 W)) ρ m k X := fun D W σ F H E S q1 q2 q3 q4 q5 =>
  h σ F H _ E S fun b m1 F1 H1 w s1 S1 => by
    cases b with
    | true => exact wpw_at (D := D) s1 (envOk_step s1 E) S1 w q1 q2 q3 q4 q5
    | false => exact wpw_at (D := D) s1 (envOk_step s1 E) S1 w q1 q2 q3 q4 q5
theorem wpw_for {wi : TI} {g : TG} (h : EvI K wi ρ m fun xs C m1 => ∃ Iv : Nat → Rho → Sto → Prop, Iv 0 ρ m1 ∧ (∀ i ρ' m', Iv i ρ' m' → C m') ∧
      (∀ i x ρ' m', xs[i]? = some x → Iv i ρ' m' → ∃ js, Gt K g js x ρ' m' fun ρ2 m2 => WpW K tb ρ2 m2 { k with nx := Iv (i + 1), ct := Iv (i + 1), bk := k.nx } X) ∧ ∀ ρ' m', Iv xs.length ρ' m' → k.nx ρ' m') :
    WpW K (fun W => tFor wi g (tb W)) ρ m k X := fun D W σ F H E S q1 q2 q3 q4 q5 =>
  h σ F H _ E S fun xs C m1 F1 H1 J ⟨Iv, h0, hC, hs, hd⟩ s1 S1 w => by
    refine for_it w (fun i σ' H' => ∃ ρ' m' F', Iv i ρ' m' ∧ Step m1 F1 H1 m' F' H' ∧ StoOk K m' F' H' ∧ EnvOk K F' H' ρ' σ') ⟨ρ, m1, F1, h0, Step.refl, S1, envOk_step s1 E⟩ (fun i σ' H' _ ⟨ρ', m', F', a, b, c, d⟩ => ⟨m', F', hC i ρ' m' a, b, c⟩) ?_
      (fun σ' H' ⟨ρ', m', F', a, b, c, d⟩ => q1 ρ' m' σ' F' H' (hd ρ' m' a) (s1.trans b) c d)
    rintro i x σ' H' H2 hi ⟨ρ', m', F', a, b, c, d⟩ y
    obtain ⟨F2, s2, S2, sl, hx, o2⟩ := y m' F' (hC i ρ' m' a) b c
    obtain ⟨js, gt⟩ := hs i sl ρ' m' hx a
    refine gt σ' F2 H2 x _ (envOk_step s2 d) S2 o2 fun ρ3 m3 σ3 F3 H3 wp s3 S3 E3 _ => ?_
    have st : Step m1 F1 H1 m3 F3 H3 := (b.trans s2).trans s3
    exact wp _ W σ3 F3 H3 E3 S3 (fun a' b' c' f' d' e s4 S4 E4 => ⟨a', b', f', e, st.trans s4, S4, E4⟩) (fun a b c d f e s4 S4 => q2 a b c d f e ((s1.trans st).trans s4) S4) (fun a b c d f e s4 S4 E4 => q1 a b c d f e ((s1.trans st).trans s4) S4 E4) (fun a' b' c' f' d' e s4 S4 E4 => ⟨a', b', f', e, st.trans s4, S4, E4⟩) (q5.step (s1.trans st))
theorem evw_of {t : TE} (h : Ev K t ρ m P) : EvW K (fun _ => t) ρ m P X := fun W σ F H Q E S q _ => h σ F H Q E S q
theorem wpw_set {i : Nat} (h : EvW K te ρ m (fun s m1 => k.nx (ρ.set i (some s)) m1) X) : WpW K (fun W => tAsg (te W) (gName i)) ρ m k X := fun D W σ F H E S q1 _ _ _ q5 =>
  h W σ F H _ E S (fun s m1 v F1 H1 p s1 S1 o1 => q1 _ m1 _ F1 H1 p s1 S1 (envOk_set (envOk_step s1 E) i o1)) q5
theorem wpw_drop (h : EvW K te ρ m (fun _ m1 => k.nx ρ m1) X) : WpW K (fun W => tDrop (te W)) ρ m k X := fun D W σ F H E S q1 _ _ _ q5 =>
  h W σ F H _ E S (fun s m1 v F1 H1 p s1 S1 o1 => q1 _ m1 _ F1 H1 p s1 S1 (envOk_step s1 E)) q5
theorem wpw_ret (h : EvW K te ρ m k.rt X) : WpW K (fun W => tRet (te W)) ρ m k X := fun D W σ F H E S _ q2 _ _ q5 => h W σ F H _ E S q2 q5
/-! ### the promise of a def that may raise -/
abbrev WTX := List Sl → Sto → PV → (Addr → Flds → Sto → Prop) → Prop
def SpX (K : PySem.W.Frag) (W : WTX) : Sp := fun vs H Q E => ∃ (ss : List Sl) (m : Sto) (F : Reg) (P : PV) (Y : Addr → Flds → Sto → Prop), SlsOk K F H ss vs ∧ StoOk K m F H ∧ W ss m P Y ∧ Then K m F H P Q ∧ ThenE K m F H Y E
theorem spX_len {W : WTX} {n : Nat} (h : ∀ ss m P Y, W ss m P Y → ss.length = n) {vs : List V} {H : Hp} {Q : VK} {E : XK} (w : SpX K W vs H Q E) : vs.length = n := by
  obtain ⟨ss, m, F, P, Y, o, _, w, _⟩ := w
  rw [← paired_len o]
  exact h ss m P Y w
theorem bodyX {W : WTX} {N : List Str} {tb : WX → TS} (h : ∀ ss m P Y, W ss m P Y → WpW K tb (rho N ss) m { nx := fun _ m' => P (.d .none) m', rt := P } (fun _ => Y)) {vs : List V} {H : Hp} {Q : VK} {E : XK} (w : SpX K W vs H Q E) :
    tb (fun cls d _ H' => E cls d H') { nx := fun _ H' => Q .non H', rt := Q } (L2.start N vs) H := by
  obtain ⟨ss, m, F, P, Y, o, S, w, q, qx⟩ := w
  exact h ss m P Y w _ _ _ F _ (envOk_start o) S (fun ρ' m' σ' F' H' p s1 S1 _ => q _ m' _ F' H' p s1 S1 rfl) q (fun _ _ _ _ _ p => p.elim) (fun _ _ _ _ _ p => p.elim) fun ρ' C fs d m' σ' F' H' y hd s1 S1 _ => qx C fs d m' F' H' y hd s1 S1
theorem evw_call {W0 : WTX} (h : EvA K ta ρ m fun ss m1 => W0 ss m1 P (fun C fs m' => X ρ C fs m')) : EvW K (fun W => tCallS (SpX K W0) (WE W) ta) ρ m P X := fun W σ F H Q E S q q5 =>
  h σ F H _ E S fun ss m1 vs F1 H1 w s1 S1 o1 => ⟨ss, m1, F1, P, _, o1, S1, w, fun s m' v F' H' p s2 S2 o2 => q s m' v F' H' p (s1.trans s2) S2 o2, fun C fs d m' F' H' y hd s2 S2 => q5 ρ C fs d m' σ F' H' y hd (s1.trans s2) S2 (envOk_step (s1.trans s2) E)⟩
end
end Dv
namespace Dv
open PySem L2 PyProof.Rows
section
variable {Pg : Program} {w : World} {K : PySem.W.Frag} {mg : Str → Option Value} {base : Heap}
/-- a def that may raise -/
structure DfnX (Pg : Program) (w : World) (K : PySem.W.Frag) (mg : Str → Option Value) (base : Heap) (k : Nat) (name : Str) (ps : List Str) (W : WTX) : Prop where
  ex : ∃ f fd, mg name = some (.ref f) ∧ PySem.W.keepIn K (.ref f) = true ∧ Binds K fd ps [] ∧ DF Pg w K mg base (CX Pg w) k f fd ps (SpX K W)
theorem dfnX_mk {k : Nat} {name : Str} {st : Stmt} {N ps : List Str} {W : WTX} {tb : WX → TS} (A : FunAt K mg name st ps) (S : FnScope N ps (defScope st)) (len : ∀ ss m P Y, W ss m P Y → ss.length = ps.length)
    (der : ∀ (f : Addr) (cdv : Value) (A : Around) (outer : List Env) (s : Shared) (H : Hp) (E : XK), (A.deeper (envOfC name (defScope st) s.heap.objs.size f cdv)).guards = some [] → Room k (A.deeper (envOfC name (defScope st) s.heap.objs.size f cdv)) →
      PSs (cxOf (CX Pg w) Pg w K mg base N name (defScope st) f cdv A outer s H E) (defBody st) (tb fun cls d _ H' => E cls d H'))
    (rd : ∀ ss m P Y, W ss m P Y → WpW K tb (rho N ss) m { nx := fun _ m' => P (.d .none) m', rt := P } (fun _ => Y)) : DfnX Pg w K mg base (k + 1) name ps W := by
  obtain ⟨f, fd, hm, hF, hb⟩ := A.ex
  refine ⟨f, fd, hm, hF.kp, hb, ?_⟩
  obtain ⟨oc, od, kV, doc, pm, an, cdv, ct, osl, rfl, lk, hcd⟩ := hF.ex
  exact df_of lk hcd S (fun vs H Q E h => spX_len len h) fun A outer s H vs Q E hg hr h => ⟨_, der f cdv A outer s H E hg hr, bodyX rd h⟩
section
variable {X : Cx} {W : WX}
theorem run_dfS {k : Nat} {f : Addr} {fd : FuncData} {ps : List Str} {sp : Sp} {E : XK} {CX : CXT} {pins : List (Addr × Obj)} {σ : L2.St} {H : Hp} {s : Shared} {Q : VK} {us : List Value} {vs : List V} (F : DF X.prog X.w X.K X.mg X.base CX k f fd ps sp) (hg : X.A.guards = some []) (hr : Room k X.A) (hb : Binds X.K fd ps [])
    (hx : PassesAt CX X σ E) (I : Inv X pins σ H s) (r : Vals vs us) (h : sp vs H Q E) : wpAny (model X.prog X.w) X.A (call (.ref f) us) (EP X pins σ Q) X.xe s := by
  have hl := (r.length.symm.trans (F.len _ _ _ _ h))
  have hb2 := hb s us I.kIn (by rw [List.append_nil]; exact hl)
  rw [List.append_nil] at hb2
  apply wpAny_call
  apply codeAny_mono (F.run X.A X.stack s H ⟨us, []⟩ _ _ Q E hg hr I.env0 hb2 r h)
  intro r s' hq
  match r, hq with
  | .error e, hq => exact hx pins H s e s' I hq
  | .ok (.ret u), hq => exact I.after hq
  | .ok .next, hq => exact False.elim hq
  | .ok .brk, hq => exact False.elim hq
  | .ok .cont, hq => exact False.elim hq
theorem pe_fnX {j k : Nat} {x : Str} {ps : List Str} {W0 : WTX} {p pos : Pos} {e : Expr} {es : List Expr} {t : TA} (D : DfnX X.prog X.w X.K X.mg X.base j x ps W0) (tk : Takes X W) (hgd : X.A.guards = some []) (hr : Room k X.A) (h : j ≤ k) (hg : Gl X x) (ha : PA X (e :: es) t)
    (hdb : (x == ("__debug__" : Str)) = false := by decide) (he : starEach (e :: es) X.env = (false, eval e X.env) :: starEach es X.env := by rfl) (hpl : (backTo pos (starEach es X.env)).any (·.1) = false := by rfl) :
    PE X (.Call (.Name x p) (e :: es) [] pos) (tCallS (SpX X.K W0) (WE W) t) := by
  obtain ⟨f, fd, hm, hk, hb, F⟩ := D.ex
  constructor
  intro pins s σ H Q I h2
  refine wpAny_Call_Name_kw (ld_glob I hg hm ?_ hdb)
  refine PySem.W.callWith_K (h₀ := X.base) I.ok.mod.kin hk (thn (ha.run pos pins s σ H _ I h2) ?_) he hpl
  rintro us s1 ⟨vs, H1, I1, r, q⟩
  exact ⟨I1.kIn, run_dfS F hgd (hr.mono h) hb (passAt tk σ) I1 r q⟩
end
/-! ### an error of the program's own, made and raised -/
def spIni (C : Addr) (ns : List Str) : Sp := fun vs H Q _ => ∃ (a : Addr) (ws : List V), vs = .ref a :: ws ∧ ws.length = ns.length ∧ H a = some (exo a C none) ∧
  ∀ d H', H d = none → d ≠ a → H' a = some (exo a C (some d)) → H' d = some (exd d (ns.zip ws).reverse) → (∀ b, b ≠ a → b ≠ d → H' b = H b) → Q .non H'
theorem wpw_raise {ρ : Rho} {m : Sto} {k : Ko} {X : Xv} {ta : TA} {C : Addr} {ns : List Str} (h : EvA K ta ρ m fun ss m1 => ∃ ws : List V, (∀ F H us, SlsOk K F H ss us → us = ws) ∧ ws.length = ns.length ∧ ws.length ≤ 1000 ∧ X ρ C (ns.zip ws).reverse m1) :
    WpW K (fun W _ σ H => tMkO C (spIni C ns) [] ta σ H fun cls d H' => W cls d σ H') ρ m k X := fun D W σ F H E S _ _ _ _ q5 =>
  h σ F H _ E S fun ss m1 us F1 H1 ⟨ws, hv, hl, hl2, x⟩ s1 S1 o1 => by
    have e := hv F1 H1 us o1
    subst e
    refine ⟨hl2, fun a ha => ⟨a, us, by rw [List.append_nil], hl, upd_same, fun d H' hd ne h1 h2 h3 => ⟨rfl, d, _, h1, h2, ?_, ?_⟩⟩⟩
    · rwa [upd_ne ne] at hd
    · have hd1 : H1 d = none := by rwa [upd_ne ne] at hd
      have e : upd (L2.del H' a) d (.xd (ns.zip us).reverse) = upd H1 d (.xd (ns.zip us).reverse) := by
        funext b
        by_cases h4 : b = d
        · rw [h4, upd_same, upd_same]
        · rw [upd_ne h4, upd_ne h4]
          by_cases h5 : b = a
          · rw [h5, ha]
            exact if_pos rfl
          · have : L2.del H' a b = H' b := if_neg h5
            rw [this, h3 b h5 h4, upd_ne h5]
      show W _ _ σ (upd (L2.del H' a) d (.xd (ns.zip us).reverse))
      rw [e]
      exact q5 ρ C _ d m1 σ F1 _ x (sto_none S1 hd1) (s1.trans (step_newM S1 hd1)) (sto_put S1 (not_reg S1 hd1) upd_same) (envOk_step (s1.trans (step_newM (u := .raw (.xd (ns.zip us).reverse)) S1 hd1)) E)
/-- what a class of errors is in the text: its def __init__ stores one or two fields -/
structure ErrC (Pg : Program) (w : World) (K : PySem.W.Frag) (mg : Str → Option Value) (base : Heap) (name : Str) (C : Addr) (ps : List Str) : Prop where
  oex : OexC K C
  mgC : mg name = some (.ref C)
  xfc : XfC K C
  nn : ∀ n ∈ ps, PySem.W.findIn K (.ref C) n = some none
  exm : PySem.W.exmOne K (.ref C) (.ref C) = some true
  ini : ∃ fI fd, PySem.W.findIn K (.ref C) "__init__" = some (some (.ref fI)) ∧ PySem.W.typeIn K (.ref fI) = some (.type "function") ∧ Binds K fd ("self" :: ps) [] ∧ FnOk Pg w K mg base CX0 1 fI fd ("self" :: ps) (spIni C ps)
theorem ps_raiseC {X : Cx} {W : WX} {k : Nat} {x : Str} {C : Addr} {ps : List Str} {p pos pos2 : Pos} {e : Expr} {es : List Expr} {ta : TA} (R : ErrC X.prog X.w X.K X.mg X.base x C ps) (hc : X.calm = true) (tk : Takes X W) (hr : Room k X.A) (h : 2 ≤ k) (hg : Gl X x) (ha : PA X (e :: es) ta)
    (hdb : (x == ("__debug__" : Str)) = false := by decide) (he : starEach (e :: es) X.env = (false, eval e X.env) :: starEach es X.env := by rfl) (hpl : (backTo pos (starEach es X.env)).any (·.1) = false := by rfl) :
    PS X (.Raise (some (.Call (.Name x p) (e :: es) [] pos)) none pos2) (fun _ σ H => tMkO C (spIni C ps) [] ta σ H fun cls d H' => W cls d σ H') := by
  obtain ⟨fI, fd, h1, h2, h3, h4⟩ := R.ini
  exact ps_raise hc tk (pmk_oex R.oex h1 h2 h4 (hr.mono h) h3 .nil pass0 hg R.mgC ha hdb he hpl)
theorem ini1 {fI C : Addr} {fd : FuncData} {q n : Str} {st : Stmt} (F : Fun K "__init__" q st fI fd) (T : OexC K C) (nn : PySem.W.findIn K (.ref C) n = some none) (S : FnScope ["self", n] ["self", n] (defScope st))
    (der : ∀ (cdv : Value) (A : Around) (outer : List Env) (s : Shared) (H : Hp) (E : XK), PSs (cxOf CX0 Pg w K mg base ["self", n] q (defScope st) fI cdv A outer s H E).nox (defBody st) (tOst K n (tVar 0) (tVar 1))) :
    FnOk Pg w K mg base CX0 1 fI fd ["self", n] (spIni C [n]) := by
  refine F.ok S (fun vs H Q E h => ?_) (fun cdv A outer s H vs Q E hr h => ?_)
  · obtain ⟨a, ws, rfl, hl, _⟩ := h
    simp at hl ⊢
    exact hl
  · obtain ⟨a, ws, rfl, hl, ha, k⟩ := h
    match ws, hl with
    | [v], _ =>
    refine ⟨_, der cdv A outer s H E, ?_⟩
    refine ⟨_, rfl, _, rfl, a, C, rfl, T, nn, .inl ⟨ha, fun d hd ne => ?_⟩⟩
    refine k d _ hd ne upd_same (by rw [upd_ne ne, upd_same]; rfl) fun b h1 h2 => by rw [upd_ne h1, upd_ne h2]
/-! ### try .. except X as n -/
theorem exm_own {S : Addr} (ha : PySem.W.subIn K (.ref S) (.type "BaseException") = some true) (hb : PySem.W.isClsIn K S = true) (hc : PySem.W.typeIn K (.ref S) = some (.type "type")) (hd : PySem.W.subIn K (.ref S) (.ref S) = some true) : PySem.W.exmOne K (.ref S) (.ref S) = some true := by
  have hb' : (PySem.W.clsIn K S).isSome = true := hb
  simp [PySem.W.exmOne, PySem.W.kitCls, ha, hb', hc, hd]
def tTry (K : PySem.W.Frag) (c : Value) (i : Nat) (ts : Addr → Value → Option Addr → TS) (tb : WX → TS) : TS := fun D σ H => tb (wAs K c i ts (fun _ _ _ _ => False) D) D σ H
theorem ps_tryA {X : Cx} {x n : Str} {c : Value} {i : Nat} {body suite : List Stmt} {b₀ : Stmt} {np pos pos' : Pos} {tb : WX → TS} {ts : Addr → Value → Option Addr → TS} (hs : X.stack = X.env :: X.outer) (hf : X.env.frame = some X.env.locals) (hN : X.N.Nodup) (hi : X.N[i]? = some n) (hln : X.env.kindOf n = some .local) (hc : Names X x c)
    (hb : ∀ (W : WX) (pn : List (Addr × Obj)) (xe : Value → Shared → Prop), Takes (X.tr pn xe) W → PassesOwn (model X.prog X.w) X.A X.env xe → PSs (X.tr pn xe) body (tb W))
    (hsu : ∀ (a : Addr) (oe : Obj) (cls : Value) (d : Option Addr) (pn : List (Addr × Obj)), Zc cls d oe → (∃ vs, oe.data = .fields vs) → PSs (X.suite a ((a, oe) :: pn)) (b₀ :: suite) (ts a cls d)) :
    PS X (.Try body [.ExceptHandler (some (.Name x np)) (some n) (b₀ :: suite) pos'] [] [] pos) (tTry X.K c i ts tb) := ps_try_as hs hf hN hi hln hc takes0 hb hsu
theorem wp_try {ρ : Rho} {m : Sto} {k : Ko} {tb : WX → TS} {ts : Addr → Value → Option Addr → TS} {c : Value} {i : Nat} {XS : Xv} (h : WpW K tb ρ m k XS)
    (hx : ∀ ρ' C fs m', XS ρ' C fs m' → PySem.W.exmOne K (.ref C) c = some true ∧ ∀ a d, m' d = none → Wp K (ts a (.ref C) (some d)) (ρ'.set i (some (.v (.ref a)))) (put m' d (.raw (.xd fs))) { nx := fun ρ2 m2 => k.nx (ρ2.set i none) m2, rt := k.rt, bk := fun ρ2 m2 => k.bk (ρ2.set i none) m2, ct := fun ρ2 m2 => k.ct (ρ2.set i none) m2 }) :
    Wp K (tTry K c i ts tb) ρ m k := fun D σ F H E S q1 q2 q3 q4 =>
  h D _ σ F H E S q1 q2 q3 q4 fun ρ' C fs d m' σ' F' H' x hd s1 S1 E1 => by
    obtain ⟨e, g⟩ := hx ρ' C fs m' x
    refine ⟨true, e, fun _ a ha => ?_, fun z => nomatch z⟩
    have un : ∀ {F H} {ρ2 : Rho} {σ2 : L2.St}, EnvOk K F H ρ2 σ2 → EnvOk K F H (ρ2.set i none) (σ2.set i none) := fun E => paired_set (F := SlO K _ _) (x := none) (y := none) (fun _ e => nomatch e) i E
    refine g a d hd _ (σ'.set i (some (.ref a))) F' H' (envOk_set (s := .v (.ref a)) E1 i rfl) S1 (fun ρ2 m2 σ2 F2 H2 p s2 S2 E2 => q1 _ m2 _ F2 H2 p (s1.trans s2) S2 (un E2)) (fun s m2 v F2 H2 p s2 S2 o2 => q2 s m2 v F2 H2 p (s1.trans s2) S2 o2)
      (fun ρ2 m2 σ2 F2 H2 p s2 S2 E2 => q3 _ m2 _ F2 H2 p (s1.trans s2) S2 (un E2)) (fun ρ2 m2 σ2 F2 H2 p s2 S2 E2 => q4 _ m2 _ F2 H2 p (s1.trans s2) S2 (un E2))
theorem ev_xf {ρ : Rho} {m : Sto} {P : PV} {te : TE} {a C : Addr} {d : Addr} {n : Str} {fs : Flds} {v : V} {s' : Sl} (h : Ev K te ρ m fun s m1 => s = .v (.ref a) ∧ m1 d = some (.raw (.xd fs)) ∧ fs.lookup n = some v ∧ (∀ F H, SlOk K F H s' v) ∧ P s' m1) : Ev K (tXf a (.ref C) (some d) C n te) ρ m P := fun σ F H Q E S q =>
  h σ F H _ E S fun s m1 x F1 H1 ⟨e, hm, hf, hs, p⟩ s1 S1 o1 => by
    subst e
    exact ⟨o1, rfl, d, fs, v, rfl, (S1.mu d _ hm).1, hf, q s' m1 v F1 H1 p s1 S1 (hs F1 H1)⟩
end
end Dv
namespace Dv
open PySem L2 PyProof.Rows
/-! ### list of a text -/
end Dv
namespace Dv
open PySem L2 PyProof.Rows
end Dv
namespace Dv
open PySem L2 PyProof.Rows
/-! ### isinstance of a caught error that has fields -/
structure ErrI (K : PySem.W.Frag) (C : Addr) : Prop where
  xc : ExcC K C
  ic : PySem.W.isClsIn K C = true
def rIsX (K : PySem.W.Frag) (D a : Addr) (cls : Value) (d : Option Addr) : List V → Hp → VK → Prop := fun xs H Q => ∃ (c : V) (cv : Value) (b : Bool), cls = .ref D ∧ (∃ dd fs, d = some dd ∧ H dd = some (.xd fs)) ∧ xs = [.ref a, c] ∧ (∀ u, L2.RelV c u → u = cv) ∧ PySem.W.kitOne K (.ref D) cv = some b ∧ Q (.bl b) H
theorem inst_of {X : Cx} {a D dd : Addr} {oe : Obj} {pn pins : List (Addr × Obj)} {σ : L2.St} {H : Hp} {s : Shared} {fs : List (Str × V)} (I : Inv (X.suite a ((a, oe) :: pn)) pins σ H s) (hz : Zc (.ref D) (some dd) oe) (hf : ∃ vs, oe.data = .fields vs) (hd : H dd = some (.xd fs)) : ∃ od, PySem.W.InstAt s.heap a oe D (some od) := by
  obtain ⟨hp, _⟩ := I.pin (a, oe) (List.mem_append_left _ List.mem_cons_self)
  obtain ⟨mA, ⟨o, es, ep, ho, _⟩, _⟩ := I.hok dd _ hd
  obtain ⟨vs, hv⟩ := hf
  refine ⟨o, hp, hz.1, ?_, ?_⟩
  · unfold PySem.W.notCls
    rw [hv]
  · rw [hz.2]
    exact ho
theorem call_isX {X : Cx} {a D : Addr} {oe : Obj} {pn : List (Addr × Obj)} {cls : Value} {d : Option Addr} (C : ErrI X.K D) (hz : Zc cls d oe) (hf : ∃ vs, oe.data = .fields vs) : CallR (X.suite a ((a, oe) :: pn)) (.builtin "isinstance") (rIsX X.K D a cls d) := by
  rintro pins s σ H xs us Q I r ⟨c, cv, b, rfl, ⟨dd, fs, rfl, hd⟩, rfl, hc, hk, q⟩
  cases r with
  | cons r1 r =>
    cases r with
    | cons r2 r =>
      cases r
      cases r1
      rw [hc _ r2]
      obtain ⟨od, hi⟩ := inst_of I hz hf hd
      exact PySem.W.kia_one (PySem.W.kitx_exc (od := some od) C.ic C.xc.hg C.xc.hk C.xc.hs C.xc.ha C.xc.hn C.xc.ht C.xc.hm) I.kIn hi hk (fun e => by cases e) (fun tk => ⟨.bl b, H, I.tok _, rfl, q⟩)
theorem kit_self {K : PySem.W.Frag} {D : Addr} : PySem.W.kitOne K (.ref D) (.ref D) = some true := by
  unfold PySem.W.kitOne
  rw [if_pos]
  exact beq_self_eq_true _
section
variable {K : PySem.W.Frag} {m : Sto} {P : PV}
theorem rc_isX {a d D c : Addr} {fs : Flds} {b : Bool} (hm : m d = some (.raw (.xd fs))) (hk : PySem.W.kitOne K (.ref D) (.ref c) = some b) (p : P (.d (.bool b)) m) : RC K (rIsX K D a (.ref D) (some d)) [.v (.ref a), .v (.ref c)] m P := fun xs F H Q o S q => by
  obtain ⟨x, y, e, o1, o2⟩ := sls2 o
  cases (show x = .ref a from o1)
  cases (show y = .ref c from o2)
  exact ⟨.ref c, .ref c, b, rfl, ⟨d, fs, rfl, (S.mu d _ hm).1⟩, e, fun u hu => hu, hk, q _ m _ F H p Step.refl S rfl⟩
end
end Dv
namespace Dv
open PySem L2 PyProof.Rows
/-! ### errors of several classes, caught by one handler -/
theorem al_nil {α : Type} {p : α → Prop} : ∀ x, x ∈ ([] : List α) → p x := fun _ h => by cases h
theorem al_cons {α : Type} {p : α → Prop} {a : α} {l : List α} (h : p a) (t : ∀ x, x ∈ l → p x) : ∀ x, x ∈ a :: l → p x := fun x hx => by
  rcases List.mem_cons.mp hx with e | e
  · rw [e]; exact h
  · exact t x e
theorem pe_cl {X : Cx} {x : Str} {C : Addr} {pos : Pos} (h : X.mg x = some (.ref C)) (hg : Gl X x := by rfl) (hd : (x == ("__debug__" : Str)) = false := by decide) : PE X (.Name x pos) (tC (.ref C)) := pe_glob hg h rfl hd
theorem exm_to {K : PySem.W.Frag} {S c : Addr} (ha : PySem.W.subIn K (.ref c) (.type "BaseException") = some true) (hb : PySem.W.isClsIn K c = true) (hc : PySem.W.typeIn K (.ref c) = some (.type "type")) (hd : PySem.W.subIn K (.ref S) (.ref c) = some true) : PySem.W.exmOne K (.ref S) (.ref c) = some true := by
  have hb' : (PySem.W.clsIn K c).isSome = true := hb
  simp [PySem.W.exmOne, PySem.W.kitCls, ha, hb', hc, hd]
theorem kit_b {K : PySem.W.Frag} {S c : Addr} {b : Bool} (hn : (S == c) = false) (hb : PySem.W.isClsIn K c = true) (hc : PySem.W.typeIn K (.ref c) = some (.type "type")) (hd : PySem.W.subIn K (.ref S) (.ref c) = some b) : PySem.W.kitOne K (.ref S) (.ref c) = some b := by
  have hb' : (PySem.W.clsIn K c).isSome = true := hb
  have hne : S ≠ c := by
    intro e
    rw [e] at hn
    simp at hn
  have hv : ¬ ((Value.ref S == Value.ref c) = true) := by
    intro e
    have := eq_of_beq e
    cases this
    exact hne rfl
  unfold PySem.W.kitOne
  rw [if_neg hv]
  simp [PySem.W.kitCls, hb', hc, hd]
def rIsA (K : PySem.W.Frag) (Ds : List Addr) (a : Addr) (cls : Value) (d : Option Addr) : List V → Hp → VK → Prop := fun xs H Q => ∃ D, D ∈ Ds ∧ rIsX K D a cls d xs H Q
theorem call_isA {X : Cx} {a : Addr} {Ds : List Addr} {oe : Obj} {pn : List (Addr × Obj)} {cls : Value} {d : Option Addr} (C : ∀ D, D ∈ Ds → ErrI X.K D) (hz : Zc cls d oe) (hf : ∃ vs, oe.data = .fields vs) : CallR (X.suite a ((a, oe) :: pn)) (.builtin "isinstance") (rIsA X.K Ds a cls d) := by
  rintro pins s σ H xs us Q I r ⟨D, hD, h⟩
  exact call_isX (C D hD) hz hf pins s σ H xs us Q I r h
def tXfA (a : Addr) (cls : Value) (d : Option Addr) (Ds : List Addr) (f : Str) (te : TE) : TE := fun σ H Q => ∃ D, D ∈ Ds ∧ tXf a cls d D f te σ H Q
theorem pe_xfA {X : Cx} {a : Addr} {Ds : List Addr} {oe : Obj} {cls : Value} {d : Option Addr} {pn : List (Addr × Obj)} {e : Expr} {te : TE} {pos : Pos} {n : Str} (T : ∀ D, D ∈ Ds → XfC X.K D ∧ PySem.W.findIn X.K (.ref D) n = some none)
    (hz : Zc cls d oe) (hf : ∃ vs, oe.data = .fields vs) (he : PE (X.suite a ((a, oe) :: pn)) e te) (hb : attributeBase e n X.env (eval e X.env) = eval e X.env := by rfl) :
    PE (X.suite a ((a, oe) :: pn)) (.Attribute e n pos) (tXfA a cls d Ds n te) := ⟨fun pins s σ H Q I h => by
  obtain ⟨D, hD, h⟩ := h
  exact (pe_xf (T D hD).1 (T D hD).2 hz hf he hb).run pins s σ H Q I h⟩
section
variable {K : PySem.W.Frag} {m : Sto} {P : PV}
theorem rc_isA {a d D c : Addr} {Ds : List Addr} {fs : Flds} {b : Bool} (hD : D ∈ Ds) (hm : m d = some (.raw (.xd fs))) (hk : PySem.W.kitOne K (.ref D) (.ref c) = some b) (p : P (.d (.bool b)) m) : RC K (rIsA K Ds a (.ref D) (some d)) [.v (.ref a), .v (.ref c)] m P := fun xs F H Q o S q =>
  ⟨D, hD, rc_isX hm hk p xs F H Q o S q⟩
theorem ev_xfA {ρ : Rho} {te : TE} {a C : Addr} {Ds : List Addr} {d : Addr} {n : Str} {fs : Flds} {v : V} {s' : Sl} (hC : C ∈ Ds) (h : Ev K te ρ m fun s m1 => s = .v (.ref a) ∧ m1 d = some (.raw (.xd fs)) ∧ fs.lookup n = some v ∧ (∀ F H, SlOk K F H s' v) ∧ P s' m1) : Ev K (tXfA a (.ref C) (some d) Ds n te) ρ m P := fun σ F H Q E S q =>
  ⟨C, hC, ev_xf h σ F H Q E S q⟩
end
/-! ### parts of tuples -/
theorem cut_from {α : Type} {xs : List α} {k : Nat} : cutD xs (some (k : Int)) none = xs.drop k := by
  unfold cutD
  rw [HT.sIx_nat]
  show (xs.drop (min k xs.length)).take (xs.length - min k xs.length) = _
  rcases Nat.le_total k xs.length with h | h
  · rw [Nat.min_eq_left h, List.take_of_length_le (by simp)]
  · rw [Nat.min_eq_right h, List.drop_of_length_le (Nat.le_refl _), List.drop_of_length_le h]
    simp
theorem cut_to {α : Type} {xs : List α} {k : Nat} : cutD xs none (some (k : Int)) = xs.take k := by
  unfold cutD
  rw [HT.sIx_nat]
  show (xs.drop 0).take (min k xs.length - 0) = _
  rw [List.drop_zero, Nat.sub_zero]
  rcases Nat.le_total k xs.length with h | h
  · rw [Nat.min_eq_left h]
  · rw [Nat.min_eq_right h, List.take_of_length_le (Nat.le_refl _), List.take_of_length_le h]
theorem cut_mid {α : Type} {xs : List α} {k l : Nat} (hk : k ≤ l) (hl : l ≤ xs.length) : cutD xs (some (k : Int)) (some (l : Int)) = (xs.drop k).take (l - k) := by
  unfold cutD
  rw [HT.sIx_nat, HT.sIx_nat, Nat.min_eq_left hl, Nat.min_eq_left (Nat.le_trans hk hl)]
/-- what stands behind, what stands there, what stands before -/
def crL {α : Type} (k : Nat) (xs : List α) : List α := xs.drop (k + 1) ++ (xs.drop k).take 1 ++ xs.take k
theorem crL_map {α β : Type} {f : α → β} {k : Nat} {xs : List α} : crL k (xs.map f) = (crL k xs).map f := by
  simp [crL, List.map_drop, List.map_take]
theorem crL_len {α : Type} {k : Nat} {xs : List α} (h : k < xs.length) : (crL k xs).length = xs.length := by
  simp [crL]; omega
theorem one_at {α : Type} {k : Nat} {xs : List α} {x : α} (h : xs[k]? = some x) : (xs.drop k).take 1 = [x] := by
  have hk := (List.getElem?_eq_some_iff.mp h).1
  rw [List.drop_eq_getElem_cons hk]
  have := (List.getElem?_eq_some_iff.mp h).2
  simp [this]
theorem crL_at {α : Type} {k : Nat} {xs : List α} {x : α} (h : xs[k]? = some x) : crL k xs = xs.drop (k + 1) ++ [x] ++ xs.take k := by
  unfold crL
  rw [one_at h]
theorem crL_mem {α : Type} {k : Nat} {xs : List α} {x : α} (h : x ∈ crL k xs) : x ∈ xs := by
  unfold crL at h
  rcases List.mem_append.mp h with h | h
  · rcases List.mem_append.mp h with h | h
    · exact List.mem_of_mem_drop h
    · exact List.mem_of_mem_drop (List.mem_of_mem_take h)
  · exact List.mem_of_mem_take h
theorem crL_perm {α : Type} {k : Nat} {xs : List α} : (crL k xs).Perm xs := by
  unfold crL
  have e : xs = xs.take k ++ ((xs.drop k).take 1 ++ xs.drop (k + 1)) := by
    have h1 : xs.drop (k + 1) = (xs.drop k).drop 1 := by rw [List.drop_drop]
    rw [h1, List.take_append_drop, List.take_append_drop]
  refine List.Perm.trans ?_ (List.Perm.of_eq e.symm)
  rw [← List.append_assoc]
  refine (List.perm_append_comm).trans ?_
  rw [List.append_assoc]
  refine List.Perm.append_left _ List.perm_append_comm
def crF {α : Type} (i j : Nat) (fl : List (List α)) : List (List α) := (crL i fl).map (crL j)
def At (fl : List (List (List Nat))) (i j : Nat) (l : List Nat) : Prop := ∃ r, fl[i]? = some r ∧ r[j]? = some l
theorem At.mem {fl : List (List (List Nat))} {i j : Nat} {l : List Nat} (h : At fl i j l) : l ∈ fl.flatten := by
  obtain ⟨r, h1, h2⟩ := h
  exact List.mem_flatten.mpr ⟨r, List.mem_of_getElem? h1, List.mem_of_getElem? h2⟩
theorem at_of {fl : List (List (List Nat))} {l : List Nat} (h : l ∈ fl.flatten) : ∃ i j, At fl i j l := by
  obtain ⟨r, hr, hl⟩ := List.mem_flatten.mp h
  obtain ⟨i, hi⟩ := List.mem_iff_getElem?.mp hr
  obtain ⟨j, hj⟩ := List.mem_iff_getElem?.mp hl
  exact ⟨i, j, r, hi, hj⟩
theorem at_row {fl : List (List (List Nat))} (nd : fl.flatten.Nodup) {i j k : Nat} {l : List Nat} {r : List (List Nat)} (h : At fl i j l) (hr : fl[k]? = some r) (hl : l ∈ r) : k = i := by
  obtain ⟨r1, h1, h2⟩ := h
  have key : ∀ {a b : Nat} {ra rb : List (List Nat)}, fl[a]? = some ra → fl[b]? = some rb → l ∈ ra → (∃ j : Nat, rb[j]? = some l) → ¬ a < b := by
    intro a b ra rb ha hb hla ⟨j, hj⟩ hab
    refine (nd_split nd hb hj).1 ?_
    rw [List.mem_flatten]
    refine ⟨ra, ?_, hla⟩
    rw [List.mem_take_iff_getElem]
    have hal := (List.getElem?_eq_some_iff.mp ha).1
    exact ⟨a, by omega, (List.getElem?_eq_some_iff.mp ha).2⟩
  have k1 := key hr h1 hl ⟨j, h2⟩
  obtain ⟨j', hj'⟩ := List.mem_iff_getElem?.mp hl
  have k2 := key h1 hr (List.mem_of_getElem? h2) ⟨j', hj'⟩
  omega
theorem first_at {fl : List (List (List Nat))} (nd : fl.flatten.Nodup) {i j : Nat} {l : List Nat} {r : List (List Nat)} (hi : fl[i]? = some r) (hj : r[j]? = some l) : ∀ a, a < j → r[a]? ≠ some l := fun a ha q => by
  refine (nd_split nd hi hj).2 ?_
  rw [List.mem_take_iff_getElem]
  have hal := (List.getElem?_eq_some_iff.mp q).1
  exact ⟨a, by have := (List.getElem?_eq_some_iff.mp hj).1; omega, (List.getElem?_eq_some_iff.mp q).2⟩
theorem at_one {fl : List (List (List Nat))} (nd : fl.flatten.Nodup) {i j k n : Nat} {l : List Nat} (h : At fl i j l) (g : At fl k n l) : k = i ∧ n = j := by
  obtain ⟨r, h1, h2⟩ := g
  have e := at_row nd h h1 (List.mem_of_getElem? h2)
  subst e
  obtain ⟨r', h3, h4⟩ := h
  rw [h1] at h3
  cases h3
  refine ⟨rfl, ?_⟩
  have a1 := first_at nd h1 h2
  have a2 := first_at nd h1 h4
  rcases Nat.lt_trichotomy n j with q | q | q
  · exact absurd h2 (a2 n q)
  · exact q
  · exact absurd h4 (a1 j q)
abbrev nameF (l : List Nat) : Flds := [("name", V.str (Sx l))]
section
variable {K : PySem.W.Frag} {Pg : Program} {w : World}
def WX_locate (CU : Addr) : WTX := fun ss m P Y => ∃ (fl : List (List (List Nat))) (l : List Nat), ss = [.d (flD fl), .d (nmD l)] ∧ VF fl ∧ Tx l ∧ (∀ i j, At fl i j l → P (.d (prD (i, j))) m) ∧ (l ∉ fl.flatten → Y CU (nameF l) m)
theorem raise_name {ρ : Rho} {m : Sto} {k : Ko} {X : Xv} {C : Addr} {l : List Nat} {i : Nat} (h : ρ[i]? = some (some (.d (nmD l)))) (x : X ρ C (nameF l) m) : WpW K (fun W _ σ H => tMkO C (spIni C ["name"]) [] (tCons (tVar i) tNil) σ H fun cls d H' => W cls d σ H') ρ m k X :=
  wpw_raise (C := C) (ns := ["name"]) <| ea_cons <| ev_var h <| ea_nil ⟨[.str (Sx l)], fun F H us hu => by
    obtain ⟨x, e, o⟩ := sls1 hu
    cases (show x = .str _ from o)
    exact e, rfl, by simp, x⟩
def WX_locate_leader (CU CN : Addr) : WTX := fun ss m P Y => ∃ (fl : List (List (List Nat))) (l : List Nat), ss = [.d (flD fl), .d (nmD l)] ∧ VF fl ∧ Tx l ∧ (∀ i j, At fl i j l → upN l = true → P (.d (prD (i, j))) m) ∧ (l ∉ fl.flatten → Y CU (nameF l) m) ∧ (l ∈ fl.flatten → upN l = false → Y CN (nameF l) m)
def t_locate_leader (K : PySem.W.Frag) (Pg : Program) (w : World) (CU : Addr) (CN : Addr) (W : WX) : TS :=
  (tSeq (tAsg (tCallS (SpX K (WX_locate CU)) (WE W) (tCons (tVar 0) (tCons (tVar 1) tNil))) (gName 2))
    (tSeq (tIfS (tNot (tTr K (tCall (SpD K W_is_leader) [] E0 (tCons (tVar 1) tNil))))
    (fun _ σ H => tMkO CN (spIni CN ["name"]) [] (tCons (tVar 1) tNil) σ H fun cls d H' => W cls d σ H')
    tNext)
    (tRet (tVar 2))))
theorem rd_locate_leader (CU CN : Addr) (ss : List Sl) (m : Sto) (P : PV) (Y : Addr → Flds → Sto → Prop) (h : WX_locate_leader CU CN ss m P Y) : WpW K (t_locate_leader K Pg w CU CN) (rho ["floor", "name", "place"] ss) m { nx := fun _ m' => P (.d .none) m', rt := P } (fun _ => Y) := by
  obtain ⟨fl, l, rfl, v, hT, p, y, z⟩ := h
  unfold t_locate_leader
  refine wpw_seq <| wpw_set <| evw_call <| ea_cons <| ev_var rfl <| ea_cons <| ev_var rfl <| ea_nil ⟨fl, l, rfl, v, hT, fun i j hat => ?_, y⟩
  obtain ⟨r, hr, hl⟩ := List.mem_flatten.mp hat.mem
  have hne := (v.named r hr l hl).1
  cases l with
  | nil => exact absurd rfl hne
  | cons c t =>
  have ht : t.length ≤ 2000 := by have := hT.1; simp at this; omega
  refine wpw_seq <| wpw_if <| et_not <| et_tr <| ev_call0 <| ea_cons <| ev_var rfl <| ea_nil ⟨c, t, rfl, ht, _, tr_bool, ite_b (fun h1 => ?_) (fun h1 => ?_)⟩
  · exact raise_name rfl (z hat.mem (by show isUp c = false; simpa using h1))
  · exact wpw_of <| wp_next <| wpw_ret <| evw_of <| ev_var rfl <| p i j hat (by show isUp c = true; simpa using h1)
/-! ### crossed, cross -/
def W_crossed : WT := fun ss m P => ∃ (ds : List PyData) (k : Nat), ss = [.d (.tuple ds), .d (.int (k : Nat))] ∧ k < ds.length ∧ ds.length ≤ 1000 ∧ P (.d (.tuple (crL k ds))) m
def t_crossed (K : PySem.W.Frag) (Pg : Program) (w : World) : TS :=
  (tRet (tOp (rAddU K) (tOp (rAddU K) (tSl (rSlU K) (tVar 0) (tPart (tOp (rAddU K) (tVar 1) (tC (.int 1)))) tNoPart) (tSl (rSlU K) (tVar 0) (tPart (tVar 1)) (tPart (tOp (rAddU K) (tVar 1) (tC (.int 1)))))) (tSl (rSlU K) (tVar 0) tNoPart (tPart (tVar 1)))))
theorem rd_crossed (ss : List Sl) (m : Sto) (P : PV) (h : W_crossed ss m P) : Wp K (t_crossed K Pg w) (rho ["line", "at"] ss) m { nx := fun _ m' => P (.d .none) m', rt := P } := by
  obtain ⟨ds, k, rfl, hk, hl, p⟩ := h
  have e1 : (k : Int) + 1 = ((k + 1 : Nat) : Int) := by omega
  refine wp_ret <| ev_op <| ev_op <| ev_sl <| ev_var rfl <| eo_some <| ev_op <| ev_var rfl <| ev_int <| ra_int ⟨_, rfl, eo_no <| rz_tup ?_⟩
  rw [e1, cut_from]
  refine ev_sl <| ev_var rfl <| eo_some <| ev_var rfl ⟨_, rfl, eo_some <| ev_op <| ev_var rfl <| ev_int <| ra_int ⟨_, rfl, rz_tup ?_⟩⟩
  rw [e1, cut_mid (by omega) (by omega), show k + 1 - k = 1 from by omega]
  refine ra_tup ?_ <| ev_sl <| ev_var rfl <| eo_no <| eo_some <| ev_var rfl ⟨_, rfl, rz_tup ?_⟩
  · simp; omega
  rw [cut_to]
  exact ra_tup (by simp; omega) p
theorem filt_one {G : Nat → Bool} {i : Nat} (g : G i = true) : ∀ {n : Nat}, i < n → (∀ k, k < n → G k = true → k = i) → (List.range n).filter G = [i]
  | 0, h, _ => absurd h (Nat.not_lt_zero _)
  | n + 1, h, u => by
    rw [List.range_succ, List.filter_append]
    by_cases e : i = n
    · subst e
      have h0 : (List.range i).filter G = [] := List.filter_eq_nil_iff.mpr fun k hk q => by
        have := List.mem_range.mp hk
        have := u k (by omega) q
        omega
      rw [h0]
      simp [g]
    · have hn : G n = false := by
        cases q : G n with
        | false => rfl
        | true => exact absurd (u n (by omega) q).symm e
      rw [filt_one g (by omega) (fun k hk => u k (by omega))]
      simp [hn]
def W_l_cross : WT := fun ss m P => ∃ (fl : List (List (List Nat))) (l : List Nat) (i j : Nat), ss = [.d (flD fl), .d (nmD l)] ∧ VF fl ∧ At fl i j l ∧ P (.d (flD (crF i j fl))) m
def t_l_cross (K : PySem.W.Frag) (Pg : Program) (w : World) : TS :=
  (tSeq (tAsg (tOp (rIx K) (tLc (iRng1 (tCons (tCB (rLenC K) (tCons (tVar 0) tNil)) tNil)) (gName 5) (tTest (tOp (rInU K Pg w) (tVar 1) (tOp (rIx K) (tVar 0) (tVar 5)))) (tVar 5) [5]) (tC (.int 0))) (gName 2))
    (tSeq (tAsg (tTM K (rTIx K) (tOp (rIx K) (tVar 0) (tVar 2)) (tVar 1)) (gName 3))
    (tSeq (tAsg (tOp (rAddU K) (tOp (rAddU K) (tCB (rListC K) (tCons (tSl (rSlU K) (tVar 0) (tPart (tOp (rAddU K) (tVar 2) (tC (.int 1)))) tNoPart) tNil)) (tLst (tCons (tOp (rIx K) (tVar 0) (tVar 2)) tNil))) (tCB (rListC K) (tCons (tSl (rSlU K) (tVar 0) tNoPart (tPart (tVar 2))) tNil))) (gName 4))
    (tRet (tCB (rTupleC K) (tCons (tLc (iSeqU K (tVar 4)) (gName 6) tYes (tCB (rTupleC K) (tCons (tOp (rAddU K) (tOp (rAddU K) (tCB (rListC K) (tCons (tSl (rSlU K) (tVar 6) (tPart (tOp (rAddU K) (tVar 3) (tC (.int 1)))) tNoPart) tNil)) (tLst (tCons (tOp (rIx K) (tVar 6) (tVar 3)) tNil))) (tCB (rListC K) (tCons (tSl (rSlU K) (tVar 6) tNoPart (tPart (tVar 3))) tNil))) tNil)) [6]) tNil))))))
theorem rd_l_cross (ss : List Sl) (m : Sto) (P : PV) (h : W_l_cross ss m P) : Wp K (t_l_cross K Pg w) (rho ["floor", "name", "row", "column", "lines", "index", "line"] ss) m { nx := fun _ m' => P (.d .none) m', rt := P } := by
  obtain ⟨fl, l, i, j, rfl, v, hat, p⟩ := h
  obtain ⟨r, hi, hj⟩ := id hat
  obtain ⟨c, c0, c1, hc⟩ := v.cols
  have hS := v.short
  have hm := v.most
  have hil := (List.getElem?_eq_some_iff.mp hi).1
  have hjl := (List.getElem?_eq_some_iff.mp hj).1
  have hmr := List.mem_of_getElem? hi
  have hrc := hc r hmr
  have hT : Tx l := (hS.2 r hmr).2 l (List.mem_of_getElem? hj)
  have e1 : ∀ k : Nat, (k : Int) + 1 = ((k + 1 : Nat) : Int) := fun k => by omega
  refine wp_seq <| wp_set <| ev_op <| ev_lcF (α := Nat) (toD := fun i => .int (i : Nat)) List.mem_cons_self <| ei_rng1 <| ea_cons <| ev_cb <| ea_cons <| ev_var rfl <| ea_nil <| rc_lenT <| ea_nil ⟨_, rfl, by rw [List.length_map]; omega, by omega, List.range fl.length, fun k => decide (l ∈ fl.getD k []), fun k => .int (k : Nat), ?_, trivial, by simp; omega, fun k hk => ⟨?_, fun _ => ev_var rfl ⟨rfl, rfl⟩⟩, ?_⟩
  · rw [List.length_map, List.map_map]
    rfl
  · have hkl := List.mem_range.mp hk
    have hq : fl[k]? = some (fl.getD k []) := by rw [List.getD_eq_getElem?_getD, List.getElem?_eq_getElem hkl]; rfl
    refine et_test <| ev_op <| ev_var rfl <| ev_op <| ev_var rfl <| ev_var rfl <| rx_tup (atI_map rfl hq) <| ri_tup (shaped_str hT) (shaped_names fun x hx => (hS.2 _ (List.mem_of_getElem? hq)).2 x hx).1 ⟨_, rfl, anyEq_names _ _, rfl⟩
  have hf : (List.range fl.length).filter (fun k => decide (l ∈ fl.getD k [])) = [i] := by
    refine filt_one ?_ hil fun k hk q => ?_
    · rw [List.getD_eq_getElem?_getD, hi]
      exact decide_eq_true (List.mem_of_getElem? hj)
    · have hq : fl[k]? = some (fl.getD k []) := by rw [List.getD_eq_getElem?_getD, List.getElem?_eq_getElem hk]; rfl
      exact at_row v.nd hat hq (of_decide_eq_true q)
  rw [hf]
  refine ev_int <| rx_lst (d := .int (i : Nat)) rfl <| wp_seq <| wp_set <| ev_tm <| ev_op <| ev_var rfl <| ev_var rfl <| rx_tup (atI_map rfl hi) ⟨_, rfl, ev_var rfl ?_⟩
  rw [nms_str]
  refine rm_tindex (j := j) (by rw [List.getElem?_map, hj]; rfl) (fun a ha q => ?_) ?_
  · rw [List.getElem?_map] at q
    cases hq : r[a]? with
    | none => rw [hq] at q; cases q
    | some x =>
      rw [hq] at q
      have : x = l := sx_inj (Option.some.inj q)
      subst this
      exact first_at v.nd hi hj a ha hq
  refine wp_seq <| wp_set <| ev_op <| ev_op <| ev_cb <| ea_cons <| ev_sl <| ev_var rfl <| eo_some <| ev_op <| ev_var rfl <| ev_int <| ra_int ⟨_, rfl, eo_no <| rz_tup ?_⟩
  rw [e1, cut_from]
  refine ea_nil <| rc_list seq_tup <| ev_lst <| ea_cons <| ev_op <| ev_var rfl <| ev_var rfl <| rx_tup (atI_map rfl hi) <| ea_nil ⟨[_], rfl, by simp, ra_lst (by simp; omega) <| ev_cb <| ea_cons <| ev_sl <| ev_var rfl <| eo_no <| eo_some <| ev_var rfl ⟨_, rfl, rz_tup ?_⟩⟩
  rw [cut_to]
  refine ea_nil <| rc_list seq_tup <| ra_lst (by simp; omega) ?_
  have eL : (fl.map rwD).drop (i + 1) ++ [rwD r] ++ (fl.map rwD).take i = (crL i fl).map rwD := by
    rw [crL_at hi]
    simp [List.map_drop, List.map_take]
  rw [eL]
  refine wp_ret <| ev_cb <| ea_cons <| ev_lcF (toD := rwD) List.mem_cons_self <| ei_lst <| ev_var rfl ⟨_, rfl, crL i fl, fun _ => true, fun r => rwD (crL j r), rfl, trivial, by rw [crL_len hil]; omega, fun q hq => ⟨et_yes ⟨rfl, rfl⟩, fun _ => ?_⟩, ?_⟩
  · have hqc := hc q (crL_mem hq)
    obtain ⟨x, hx⟩ : ∃ x, q[j]? = some x := ⟨_, List.getElem?_eq_getElem (by omega)⟩
    refine ev_cb <| ea_cons <| ev_op <| ev_op <| ev_cb <| ea_cons <| ev_sl <| ev_var rfl <| eo_some <| ev_op <| ev_var rfl <| ev_int <| ra_int ⟨_, rfl, eo_no <| rz_tup ?_⟩
    rw [e1, cut_from]
    refine ea_nil <| rc_list seq_tup <| ev_lst <| ea_cons <| ev_op <| ev_var rfl <| ev_var rfl <| rx_tup (atI_map rfl hx) <| ea_nil ⟨[_], rfl, by simp, ra_lst (by simp; omega) <| ev_cb <| ea_cons <| ev_sl <| ev_var rfl <| eo_no <| eo_some <| ev_var rfl ⟨_, rfl, rz_tup ?_⟩⟩
    rw [cut_to]
    refine ea_nil <| rc_list seq_tup <| ra_lst (by simp; omega) <| ea_nil <| rc_tupleL ⟨?_, rfl⟩
    have eQ : (q.map nmD).drop (j + 1) ++ [nmD x] ++ (q.map nmD).take j = (crL j q).map nmD := by
      rw [crL_at hx]
      simp [List.map_drop, List.map_take]
    rw [eQ]
  · refine ea_nil <| rc_tupleL ?_
    rw [List.filter_eq_self.mpr (fun _ _ => rfl)]
    have e : (crL i fl).map (fun r => rwD (crL j r)) = (crF i j fl).map rwD := by unfold crF; rw [List.map_map]; rfl
    rw [e]
    exact p
end
end Dv
namespace Dv
open PySem L2 PyProof.Rows
/-! ### what may be shown and compared: depth at most k, weight at most n -/
structure Nx (k n : Nat) (d : PyData) : Prop where
  sh : PyData.showable d = true
  hd : PyData.hasDict d = false
  cl : PyData.canLay0 d = true
  dp : PyData.depth d ≤ k
  ls : PyData.leavesShort 13 d = true
  wt : PyData.weight d ≤ n
structure NxA (k n : Nat) (ds : List PyData) : Prop where
  sh : PyData.showableAll ds = true
  hd : PyData.hasDictAll ds = false
  cl : PyData.canLayAll0 ds = true
  dp : PyData.depthAll ds ≤ k
  ls : PyData.leavesShortAll 13 ds = true
  wt : PyData.weightAll ds ≤ n
theorem Nx.mono {k n k' n' : Nat} {d : PyData} (h : Nx k n d) (hk : k ≤ k') (hn : n ≤ n') : Nx k' n' d := ⟨h.sh, h.hd, h.cl, Nat.le_trans h.dp hk, h.ls, Nat.le_trans h.wt hn⟩
theorem NxA.mono {k n k' n' : Nat} {d : List PyData} (h : NxA k n d) (hk : k ≤ k') (hn : n ≤ n') : NxA k' n' d := ⟨h.sh, h.hd, h.cl, Nat.le_trans h.dp hk, h.ls, Nat.le_trans h.wt hn⟩
theorem nxa_nil {k : Nat} : NxA k 0 [] := ⟨rfl, rfl, rfl, Nat.zero_le _, rfl, Nat.le_refl _⟩
theorem nxa_cons {k n n' : Nat} {d : PyData} {ds : List PyData} (h : Nx k n d) (t : NxA k n' ds) : NxA k (n + 1 + n') (d :: ds) where
  sh := by rw [PyData.showableAll, h.sh, t.sh]; rfl
  hd := by rw [PyData.hasDictAll, h.hd, t.hd]; rfl
  cl := by rw [PyData.canLayAll0, h.cl, t.cl]; rfl
  dp := by rw [PyData.depthAll]; exact Nat.max_le.mpr ⟨h.dp, t.dp⟩
  ls := by rw [PyData.leavesShortAll, h.ls, t.ls]; rfl
  wt := by rw [PyData.weightAll]; have := h.wt; have := t.wt; omega
theorem nxa_map {α : Type} {f : α → PyData} {k n : Nat} : ∀ {xs : List α}, (∀ x, x ∈ xs → Nx k n (f x)) → NxA k (xs.length * (n + 1)) (xs.map f)
  | [], _ => by rw [List.length_nil, Nat.zero_mul]; exact nxa_nil
  | x :: xs, h => (nxa_cons (h x List.mem_cons_self) (nxa_map fun y hy => h y (List.mem_cons_of_mem _ hy))).mono (Nat.le_refl _) (by rw [List.length_cons, Nat.succ_mul]; omega)
theorem nx_tup {k n : Nat} {ds : List PyData} (h : NxA k n ds) : Nx (k + 1) n (.tuple ds) := ⟨h.sh, h.hd, h.cl, by rw [PyData.depth]; exact Nat.succ_le_succ h.dp, h.ls, h.wt⟩
theorem nx_lst {k n : Nat} {ds : List PyData} (h : NxA k n ds) : Nx (k + 1) n (.list ds) := ⟨h.sh, h.hd, h.cl, by rw [PyData.depth]; exact Nat.succ_le_succ h.dp, h.ls, h.wt⟩
theorem nx_str {k : Nat} {l : List Nat} (h : Tx l) : Nx k 2000 (nmD l) := by
  have hs := shaped_str h
  simp [SeqAt.shaped] at hs
  refine ⟨rfl, rfl, hs.1, Nat.zero_le _, ?_, ?_⟩
  · show (Sx l).cps.toList.all (fun c => decide (c < 16 ^ 8)) = true
    simp only [List.all_eq_true, decide_eq_true_eq]
    intro c hc
    have := h.2 c (by simpa using hc)
    omega
  · have : PyData.weight (nmD l) = l.length := by show (Sx l).cps.size = _; simp
    rw [this]
    exact h.1
theorem Nx.shaped {k n : Nat} {d : PyData} (h : Nx k n d) (hk : k ≤ 60) : SeqAt.shaped d = true := by
  have := h.dp
  simp [SeqAt.shaped, h.cl]
  omega
theorem Nx.len {k n : Nat} {d : PyData} (h : Nx k n d) (hn : n ≤ 1048576) : (PyData.shown d).length ≤ sizeLine := PyData.shown_fits (B := 13) (by decide) (by decide) h.ls (Nat.le_trans h.wt hn)
theorem Nx.refl {k n : Nat} {d : PyData} (h : Nx k n d) : PyData.eqv d d = true := SeqAt.eqv_refl d h.cl
theorem nx_row {r : List (List Nat)} (h : ∀ l, l ∈ r → Tx l) (hl : r.length ≤ 12) : Nx 1 (12 * 2001) (rwD r) := (nx_tup (nxa_map (k := 0) fun l hl => nx_str (h l hl))).mono (Nat.le_refl _) (Nat.mul_le_mul_right _ hl)
theorem nx_floor {fl : List (List (List Nat))} (h : ∀ r, r ∈ fl → r.length ≤ 12 ∧ ∀ l, l ∈ r → Tx l) (hl : fl.length ≤ 12) : Nx 2 (12 * (12 * 2001 + 1)) (flD fl) := (nx_tup (nxa_map fun r hr => nx_row (h r hr).2 (h r hr).1)).mono (Nat.le_refl _) (Nat.mul_le_mul_right _ hl)
theorem flat12 {fl : List (List (List Nat))} (v : VF fl) : ∀ g : List (List (List Nat)), (∀ r ∈ g, r ∈ fl) → g.flatten.length ≤ g.length * 12 := by
  obtain ⟨c, c0, c1, hc⟩ := v.cols
  intro g
  induction g with
  | nil => intro _; simp
  | cons x g ih =>
    intro hg
    have := ih fun r hr => hg r (List.mem_cons_of_mem _ hr)
    have hx := hc x (hg x List.mem_cons_self)
    simp
    simp at this
    omega
theorem flat144 {fl : List (List (List Nat))} (v : VF fl) (i : Nat) : (fl.take i).flatten.length ≤ 144 := by
  have h1 := flat12 v (fl.take i) fun r hr => List.mem_of_mem_take hr
  have h2 := v.most
  have h3 : (fl.take i).length ≤ 12 := by rw [List.length_take]; omega
  omega
theorem flat144' {fl : List (List (List Nat))} (v : VF fl) : fl.flatten.length ≤ 144 := by
  have := flat144 v fl.length
  rwa [List.take_length] at this
end Dv
namespace Dv
open PySem L2 PyProof.Rows
/-! ### moves on floors, seen otherwise -/
abbrev Fl := List (List (List Nat))
theorem crL_split {α : Type} (a b : List α) (x : α) : crL a.length (a ++ x :: b) = b ++ x :: a := by
  have h : (a ++ x :: b)[a.length]? = some x := by simp
  rw [crL_at h]
  simp
theorem split_at {α : Type} {xs : List α} {k : Nat} {x : α} (h : xs[k]? = some x) : ∃ a b, xs = a ++ x :: b ∧ a.length = k := by
  have hk := (List.getElem?_eq_some_iff.mp h).1
  refine ⟨xs.take k, xs.drop (k + 1), ?_, by rw [List.length_take]; omega⟩
  have := (List.getElem?_eq_some_iff.mp h).2
  rw [← this, ← List.drop_eq_getElem_cons hk, List.take_append_drop]
theorem crL_inv {α : Type} {xs : List α} {k : Nat} (h : k < xs.length) : crL (xs.length - 1 - k) (crL k xs) = xs := by
  obtain ⟨a, b, e, ea⟩ := split_at (List.getElem?_eq_getElem h)
  generalize xs[k] = x at e
  subst e ea
  rw [crL_split, show (a ++ x :: b).length - 1 - a.length = b.length by simp, crL_split]
theorem crL_at' {α : Type} {xs : List α} {k : Nat} {x : α} (h : xs[k]? = some x) : (crL k xs)[xs.length - 1 - k]? = some x := by
  obtain ⟨a, b, e, ea⟩ := split_at h
  subst e ea
  rw [crL_split, show (a ++ x :: b).length - 1 - a.length = b.length by simp, List.getElem?_append_right (Nat.le_refl _), Nat.sub_self]
  rfl
/-! the shape of floors -/
theorem VF.wide {fl : Fl} (v : VF fl) {i j : Nat} {l : List Nat} (h : At fl i j l) : ∃ C, i < fl.length ∧ j < C ∧ C ≤ 12 ∧ ∀ r ∈ fl, r.length = C := by
  obtain ⟨r, h1, h2⟩ := h
  obtain ⟨c, c0, c1, hc⟩ := v.cols
  have := (List.getElem?_eq_some_iff.mp h2).1
  have e := hc r (List.mem_of_getElem? h1)
  exact ⟨c, (List.getElem?_eq_some_iff.mp h1).1, by omega, c1, hc⟩
theorem flat_perm {α : Type} {a b : List (List α)} (h : a.Perm b) : a.flatten.Perm b.flatten := h.flatten
theorem crF_flat {α : Type} (i j : Nat) (fl : List (List α)) : (crF i j fl).flatten.Perm fl.flatten := by
  unfold crF
  have h1 : ∀ g : List (List α), (g.map (crL j)).flatten.Perm g.flatten := by
    intro g
    induction g with
    | nil => exact .refl _
    | cons r g ih => exact List.Perm.append crL_perm ih
  exact (h1 _).trans (flat_perm crL_perm)
theorem crF_len {fl : Fl} {i j : Nat} (hi : i < fl.length) : (crF i j fl).length = fl.length := by unfold crF; rw [List.length_map, crL_len hi]
theorem crF_row {fl : Fl} {i j C : Nat} (hj : j < C) (hC : ∀ r ∈ fl, r.length = C) : ∀ r ∈ crF i j fl, r.length = C := fun r hr => by
  obtain ⟨q, hq, rfl⟩ := List.mem_map.mp hr
  have := hC q (crL_mem hq)
  rw [crL_len (by omega)]; exact this
theorem VF.crF {fl : Fl} (v : VF fl) {i j : Nat} {l : List Nat} (h : At fl i j l) : VF (crF i j fl) := by
  obtain ⟨C, hi, hj, h12, hC⟩ := v.wide h
  refine ⟨fun e => ?_, by rw [crF_len hi]; exact v.most, ⟨C, by omega, h12, crF_row hj hC⟩, fun r hr l hl => ?_, (crF_flat i j fl).nodup_iff.mpr v.nd⟩
  · have := crF_len (j := j) hi
    rw [e] at this
    simp at this
    omega
  · have : l ∈ fl.flatten := (crF_flat i j fl).mem_iff.mp (List.mem_flatten.mpr ⟨r, hr, hl⟩)
    obtain ⟨q, hq, hl2⟩ := List.mem_flatten.mp this
    exact v.ok q hq l hl2
theorem crF_self {fl : Fl} (v : VF fl) {i j C : Nat} {l : List Nat} (h : At fl i j l) (hC : ∀ r ∈ fl, r.length = C) : At (Dv.crF i j fl) (fl.length - 1 - i) (C - 1 - j) l := by
  obtain ⟨r, h1, h2⟩ := h
  have hr := hC r (List.mem_of_getElem? h1)
  refine ⟨crL j r, ?_, by rw [← hr]; exact crL_at' h2⟩
  show ((crL i fl).map (crL j))[_]? = _
  rw [List.getElem?_map, crL_at' h1]
  rfl
theorem crF_inv {fl : Fl} {i j C : Nat} (hi : i < fl.length) (hj : j < C) (hC : ∀ r ∈ fl, r.length = C) : Dv.crF (fl.length - 1 - i) (C - 1 - j) (Dv.crF i j fl) = fl := by
  unfold Dv.crF
  rw [crL_map, List.map_map, crL_inv hi]
  have : fl.map (crL (C - 1 - j) ∘ crL j) = fl.map id := List.map_congr_left fun r hr => by
    have e := hC r hr
    show crL (C - 1 - j) (crL j r) = r
    rw [← e, crL_inv (by omega)]
  rw [this, List.map_id]
/-- the floor after the move about an item -/
noncomputable def crX (fl : Fl) (l : List Nat) : Fl := (Classical.epsilon fun g => (∃ i j, At fl i j l ∧ g = Dv.crF i j fl))
theorem crX_at {fl : Fl} (v : VF fl) {i j : Nat} {l : List Nat} (h : At fl i j l) : crX fl l = Dv.crF i j fl := by
  obtain ⟨i', j', h', e⟩ := Classical.epsilon_spec (p := fun g => ∃ i j, At fl i j l ∧ g = Dv.crF i j fl) ⟨_, i, j, h, rfl⟩
  obtain ⟨rfl, rfl⟩ := at_one v.nd h h'
  exact e
noncomputable def plF (fl : Fl) : List (List Nat) → Fl
  | [] => fl
  | l :: ls => plF (crX fl l) ls
theorem plF_app (fl : Fl) : ∀ a b, plF fl (a ++ b) = plF (plF fl a) b := by
  intro a
  induction a generalizing fl with
  | nil => intro b; rfl
  | cons x a ih => intro b; exact ih _ b
theorem crX_ok {fl : Fl} (v : VF fl) {l : List Nat} (h : l ∈ fl.flatten) : VF (crX fl l) ∧ (crX fl l).flatten.Perm fl.flatten ∧ (crX fl l).length = fl.length ∧ (∀ C, (∀ r ∈ fl, r.length = C) → ∀ r ∈ crX fl l, r.length = C) := by
  obtain ⟨i, j, g⟩ := at_of h
  rw [crX_at v g]
  obtain ⟨C, hi, hj, h12, hC⟩ := v.wide g
  refine ⟨v.crF g, crF_flat i j fl, crF_len hi, fun C' hC' => ?_⟩
  have : C' = C := by
    cases fl with
    | nil => exact absurd rfl v.pos
    | cons r fl => rw [← hC' r List.mem_cons_self, hC r List.mem_cons_self]
  rw [this]
  exact crF_row hj hC
theorem plF_ok : ∀ (ls : List (List Nat)) {fl : Fl}, VF fl → (∀ l ∈ ls, l ∈ fl.flatten) → VF (plF fl ls) ∧ (plF fl ls).flatten.Perm fl.flatten ∧ (plF fl ls).length = fl.length ∧ (∀ C, (∀ r ∈ fl, r.length = C) → ∀ r ∈ plF fl ls, r.length = C)
  | [], fl, v, _ => ⟨v, .refl _, rfl, fun _ h => h⟩
  | l :: ls, fl, v, h => by
    obtain ⟨a1, a2, a3, a4⟩ := crX_ok v (h l List.mem_cons_self)
    obtain ⟨b1, b2, b3, b4⟩ := plF_ok ls a1 fun x hx => a2.mem_iff.mpr (h x (List.mem_cons_of_mem _ hx))
    exact ⟨b1, b2.trans a2, b3.trans a3, fun C hC => b4 C (a4 C hC)⟩
theorem crX_inv {fl : Fl} (v : VF fl) {l : List Nat} (h : l ∈ fl.flatten) : crX (crX fl l) l = fl := by
  obtain ⟨i, j, g⟩ := at_of h
  obtain ⟨C, hi, hj, h12, hC⟩ := v.wide g
  rw [crX_at v g, crX_at (v.crF g) (crF_self v g hC), crF_inv hi hj hC]
theorem plF_back : ∀ (ls : List (List Nat)) {fl : Fl}, VF fl → (∀ l ∈ ls, l ∈ fl.flatten) → plF (plF fl ls) ls.reverse = fl
  | [], fl, _, _ => rfl
  | l :: ls, fl, v, h => by
    obtain ⟨a1, a2, _, _⟩ := crX_ok v (h l List.mem_cons_self)
    have ih := plF_back ls a1 fun x hx => a2.mem_iff.mpr (h x (List.mem_cons_of_mem _ hx))
    rw [List.reverse_cons, plF_app]
    show crX (plF (plF (crX fl l) ls) ls.reverse) l = fl
    rw [ih, crX_inv v (h l List.mem_cons_self)]
/-! columns -/
def colG (C : Nat) (fl : Fl) : Fl := (List.range C).map fun j => fl.map fun r => r.getD j []
def wid (fl : Fl) : Nat := (fl.getD 0 []).length
def colF (fl : Fl) : Fl := colG (wid fl) fl
theorem wid_eq {fl : Fl} (v : VF fl) {C : Nat} (hC : ∀ r ∈ fl, r.length = C) : wid fl = C := by
  cases fl with
  | nil => exact absurd rfl v.pos
  | cons r fl => exact hC r List.mem_cons_self
theorem VF.wid {fl : Fl} (v : VF fl) : (∀ r ∈ fl, r.length = Dv.wid fl) ∧ 0 < Dv.wid fl ∧ Dv.wid fl ≤ 12 := by
  obtain ⟨c, c0, c1, hc⟩ := v.cols
  rw [wid_eq v hc]
  exact ⟨hc, c0, c1⟩
theorem col_at {fl : Fl} {C : Nat} (hC : ∀ r ∈ fl, r.length = C) {i j : Nat} {l : List Nat} : At (colG C fl) j i l ↔ At fl i j l := by
  constructor
  · rintro ⟨r, h1, h2⟩
    unfold colG at h1
    rw [List.getElem?_map] at h1
    have hj : j < C := by
      cases hr : (List.range C)[j]? with
      | none => rw [hr] at h1; cases h1
      | some x => have := (List.getElem?_eq_some_iff.mp hr).1; simpa using this
    rw [List.getElem?_range hj] at h1
    cases h1
    rw [List.getElem?_map] at h2
    cases hq : fl[i]? with
    | none => rw [hq] at h2; cases h2
    | some q =>
      rw [hq] at h2
      have h2 : q.getD j [] = l := Option.some.inj h2
      have := hC q (List.mem_of_getElem? hq)
      have hjq : j < q.length := by omega
      rw [List.getD_eq_getElem?_getD, List.getElem?_eq_getElem hjq] at h2
      exact ⟨q, hq, by rw [List.getElem?_eq_getElem hjq]; exact congrArg some h2⟩
  · rintro ⟨r, h1, h2⟩
    have hr := hC r (List.mem_of_getElem? h1)
    have hj := (List.getElem?_eq_some_iff.mp h2).1
    refine ⟨fl.map fun r => r.getD j [], ?_, ?_⟩
    · unfold colG
      rw [List.getElem?_map, List.getElem?_range (by omega)]; rfl
    · rw [List.getElem?_map, h1]
      show some (r.getD j []) = _
      rw [List.getD_eq_getElem?_getD, h2]; rfl
theorem nodup_grid {g : Fl} (h : ∀ i j i' j' l, At g i j l → At g i' j' l → i = i' ∧ j = j') : g.flatten.Nodup := by
  unfold List.Nodup
  rw [List.pairwise_flatten]
  constructor
  · intro r hr
    obtain ⟨i, hi⟩ := List.mem_iff_getElem?.mp hr
    rw [List.pairwise_iff_getElem]
    intro a b ha hb hab e
    have := h i a i b r[a] ⟨r, hi, List.getElem?_eq_getElem ha⟩ ⟨r, hi, by rw [e]; exact List.getElem?_eq_getElem hb⟩
    omega
  · rw [List.pairwise_iff_getElem]
    intro a b ha hb hab x hx y hy e
    subst e
    obtain ⟨p, hp⟩ := List.mem_iff_getElem?.mp hx
    obtain ⟨q, hq⟩ := List.mem_iff_getElem?.mp hy
    have := h a p b q x ⟨g[a], List.getElem?_eq_getElem ha, hp⟩ ⟨g[b], List.getElem?_eq_getElem hb, hq⟩
    omega
theorem VF.colF {fl : Fl} (v : VF fl) : VF (Dv.colF fl) := by
  obtain ⟨hC, c0, c1⟩ := v.wid
  refine ⟨fun e => ?_, ?_, ⟨fl.length, List.length_pos_iff.mpr v.pos, v.most, fun r hr => ?_⟩, fun r hr l hl => ?_, nodup_grid fun i j i' j' l h h' => ?_⟩
  · have := congrArg List.length e
    unfold Dv.colF colG at this
    simp at this
    omega
  · unfold Dv.colF colG; simpa using c1
  · unfold Dv.colF colG at hr
    obtain ⟨j, _, rfl⟩ := List.mem_map.mp hr
    exact List.length_map ..
  · obtain ⟨j, hj⟩ := List.mem_iff_getElem?.mp hr
    obtain ⟨i, hi⟩ := List.mem_iff_getElem?.mp hl
    obtain ⟨q, q1, q2⟩ := (col_at hC).mp (⟨r, hj, hi⟩ : At (colG (Dv.wid fl) fl) j i l)
    exact v.ok q (List.mem_of_getElem? q1) l (List.mem_of_getElem? q2)
  · have := at_one v.nd ((col_at hC).mp h) ((col_at hC).mp h')
    omega
theorem range_get {r : List (List Nat)} : (List.range r.length).map (fun q => r.getD q []) = r := by
  apply List.ext_getElem
  · simp
  · intro i h1 h2
    rw [List.getElem_map, List.getElem_range, List.getD_eq_getElem?_getD, List.getElem?_eq_getElem h2]
    rfl
theorem crF_col {fl : Fl} {C : Nat} (hC : ∀ r ∈ fl, r.length = C) {i j : Nat} (hi : i < fl.length) (hj : j < C) : colG C (Dv.crF i j fl) = Dv.crF j i (colG C fl) := by
  have hl : (crL j (List.range C)).length = C := by rw [crL_len (by simpa using hj)]; simp
  have one : ∀ r ∈ fl, ∀ n, n < C → (crL j r).getD n [] = r.getD ((crL j (List.range C)).getD n 0) [] := fun r hr n hn => by
    have e := hC r hr
    have e2 : crL j r = (crL j (List.range C)).map fun q => r.getD q [] := by
      rw [← crL_map, ← e, range_get]
    rw [e2, List.getD_eq_getElem?_getD, List.getElem?_map, List.getD_eq_getElem?_getD (l := crL j (List.range C)), List.getElem?_eq_getElem (by omega)]
    rfl
  have e1 : colG C (Dv.crF i j fl) = (List.range C).map fun n => crL i (fl.map fun r => r.getD ((crL j (List.range C)).getD n 0) []) := by
    unfold colG
    refine List.map_congr_left fun n hn => ?_
    have hn := List.mem_range.mp hn
    unfold Dv.crF
    rw [List.map_map, crL_map]
    refine List.map_congr_left fun r hr => ?_
    exact one r (crL_mem hr) n hn
  have e2 : Dv.crF j i (colG C fl) = (crL j (List.range C)).map fun q => crL i (fl.map fun r => r.getD q []) := by
    unfold Dv.crF colG
    rw [crL_map, List.map_map]
    rfl
  rw [e1, e2]
  apply List.ext_getElem
  · simp [hl]
  · intro n h1 h2
    have hn : n < C := by simpa using h1
    rw [List.getElem_map, List.getElem_range, List.getElem_map, List.getD_eq_getElem?_getD, List.getElem?_eq_getElem (by omega)]
    rfl
theorem crX_col {fl : Fl} (v : VF fl) {l : List Nat} (h : l ∈ fl.flatten) : colF (crX fl l) = crX (colF fl) l := by
  obtain ⟨i, j, g⟩ := at_of h
  obtain ⟨C, hi, hj, h12, hC⟩ := v.wide g
  have w1 := wid_eq v hC
  have v2 := v.crF g
  have w2 := wid_eq v2 (crF_row hj hC)
  rw [crX_at v g, crX_at v.colF (i := j) (j := i) (by unfold colF; rw [w1]; exact (col_at hC).mpr g)]
  unfold colF
  rw [w1, w2, crF_col hC hi hj]
theorem col_flat {fl : Fl} (v : VF fl) {l : List Nat} (h : l ∈ fl.flatten) : l ∈ (colF fl).flatten := by
  obtain ⟨i, j, g⟩ := at_of h
  exact ((col_at v.wid.1).mpr g).mem
/-! mirrored -/
/-! renamed -/
end Dv
namespace Dv
open PySem L2 PyProof.Rows
/-! ### dicts whose keys are floors -/
def ndR (r : List (List Nat)) : NestedKey := .tup (r.map fun l => .text (Sx l))
def ndF (g : Fl) : NestedKey := .tup (g.map ndR)
/-- at a stands a dict with the floors gs as keys, at vs, and the numbers ns -/
def KdP (P : Program) (w : World) (a : Addr) (gs : List Fl) (ns : List Int) (vs : List V) (h : Heap) : Prop :=
  gs.length ≤ sizeLine ∧ (a == sysModules) = false ∧ ∃ xs : List (NestedKey × Addr × Value), xs.map (·.1) = gs.map ndF ∧ xs.map (fun x => V.ref x.2.1) = vs ∧ Paired (fun (n : Int) (x : NestedKey × Addr × Value) => RelV (.int n) x.2.2) ns xs ∧
    (xs.map (·.1)).Nodup ∧ ∃ o es ep, h.get? a = some o ∧ o.ExactDict ∧ o.data = .dict es ep ∧ es.toList = xs.map (entryOfKey (nestedKind P w))
theorem KdP.at {P : Program} {w : World} {a : Addr} {gs : List Fl} {ns : List Int} {vs : List V} {h1 h2 : Heap} (x : KdP P w a gs ns vs h1) (k : ∀ o, h1.get? a = some o → h2.get? a = some o) : KdP P w a gs ns vs h2 := by
  obtain ⟨x1, x2, xs, x3, x4, x5, x6, o, es, ep, x7, x8⟩ := x
  exact ⟨x1, x2, xs, x3, x4, x5, x6, o, es, ep, k o x7, x8⟩
theorem KdP.ok {P : Program} {w : World} {a : Addr} {gs : List Fl} {ns : List Int} {vs : List V} {H : Hp} {h : Heap} (x : KdP P w a gs ns vs h) : ObjOk P w H h a (.ext (KdP P w a gs ns vs)) := by
  have ⟨_, _, _, _, _, _, _, o, _, _, x7, _⟩ := x
  exact ⟨x, ⟨o, x7⟩, fun _ _ p k => p.at k⟩
end Dv
namespace Dv
open PySem L2 PyProof.Rows
/-! ### dicts whose keys are floors, in the store -/
end Dv
namespace Dv
open PySem L2 PyProof.Rows
/-! ### dicts from texts to data that do not change; while -/
def valP (ps : List (Str × PyData)) (k : Str) : Option PyData := (ps.find? fun p => decide (p.1 = k)).map (·.2)
def putP (ps : List (Str × PyData)) (k : Str) (d : PyData) : List (Str × PyData) := if (ps.any fun p => decide (p.1 = k)) = true then ps.map (fun p => if p.1 = k then (p.1, d) else p) else ps ++ [(k, d)]
end Dv
namespace Dv
open PySem L2 PyProof.Rows
/-! ### dict(a tuple of pairs) -/
end Dv
namespace Dv
open PySem L2 PyProof.Rows
/-! ### more rules for laws about permutations -/
def pqD (q : Str × Str) : PyData := .tuple [.str q.1, .str q.2]
end Dv
namespace Dv
/-! ### inversions: exchanging two entries changes their number by an odd one -/
section
variable {α : Type} [DecidableEq α] (lt : α → α → Bool)
/-- how many of l are less than x -/
def cntB (x : α) (l : List α) : Nat := (l.filter fun y => lt y x).length
/-- of how many of l x is less -/
def cntA (x : α) (l : List α) : Nat := (l.filter fun y => lt x y).length
def inv : List α → Nat
  | [] => 0
  | x :: r => cntB lt x r + inv r
/-- distinct things are ordered one way -/
def Tot : Prop := ∀ a b : α, a ≠ b → lt a b = !lt b a
variable {lt}
theorem cntB_app (x : α) (a b : List α) : cntB lt x (a ++ b) = cntB lt x a + cntB lt x b := by simp [cntB]
theorem cntB_cons (x y : α) (l : List α) : cntB lt x (y :: l) = (if lt y x = true then 1 else 0) + cntB lt x l := by
  unfold cntB
  rw [List.filter_cons]
  by_cases h : lt y x = true
  · rw [if_pos h, if_pos h, List.length_cons]; omega
  · rw [if_neg h, if_neg h]; omega
theorem cntA_cons (x y : α) (l : List α) : cntA lt x (y :: l) = (if lt x y = true then 1 else 0) + cntA lt x l := by
  unfold cntA
  rw [List.filter_cons]
  by_cases h : lt x y = true
  · rw [if_pos h, if_pos h, List.length_cons]; omega
  · rw [if_neg h, if_neg h]; omega
theorem cntB_perm (x : α) {a b : List α} (p : a.Perm b) : cntB lt x a = cntB lt x b := (p.filter _).length_eq
theorem cnt_both (T : Tot lt) (x : α) : ∀ l : List α, x ∉ l → cntB lt x l + cntA lt x l = l.length
  | [], _ => rfl
  | y :: l, h => by
    have ne : y ≠ x := fun e => h (e ▸ List.mem_cons_self)
    have ih := cnt_both T x l fun q => h (List.mem_cons_of_mem _ q)
    rw [cntB_cons, cntA_cons, List.length_cons]
    have := T y x ne
    cases hx : lt x y <;> rw [hx] at this <;> simp at this <;> simp [this] <;> omega
/-- an entry taken out -/
theorem inv_mid (y : α) (c : List α) : ∀ b : List α, inv lt (b ++ y :: c) = inv lt (b ++ c) + cntA lt y b + cntB lt y c
  | [] => by simp [inv, cntA]; omega
  | z :: b => by
    have ih := inv_mid y c b
    show cntB lt z (b ++ y :: c) + inv lt (b ++ y :: c) = cntB lt z (b ++ c) + inv lt (b ++ c) + cntA lt y (z :: b) + cntB lt y c
    rw [ih, cntB_app, cntB_cons, cntB_app, cntA_cons]
    omega
theorem inv_swap0 (T : Tot lt) {x y : α} {b c : List α} (hxy : x ≠ y) (hx : x ∉ b) (hy : y ∉ b) : (inv lt (x :: (b ++ y :: c)) + inv lt (y :: (b ++ x :: c))) % 2 = 1 := by
  show (cntB lt x (b ++ y :: c) + inv lt (b ++ y :: c) + (cntB lt y (b ++ x :: c) + inv lt (b ++ x :: c))) % 2 = 1
  rw [inv_mid, inv_mid, cntB_app, cntB_app, cntB_cons, cntB_cons]
  have h1 := cnt_both T x b hx
  have h2 := cnt_both T y b hy
  have h3 := T x y hxy
  cases hh : lt y x <;> rw [hh] at h3 <;> simp at h3 <;> simp [h3] <;> omega
theorem inv_swap (T : Tot lt) {x y : α} {b c : List α} (hxy : x ≠ y) (hx : x ∉ b) (hy : y ∉ b) : ∀ a : List α, (inv lt (a ++ x :: (b ++ y :: c)) + inv lt (a ++ y :: (b ++ x :: c))) % 2 = 1
  | [] => inv_swap0 T hxy hx hy
  | z :: a => by
    have ih := inv_swap T hxy hx hy (c := c) a
    have p : (a ++ x :: (b ++ y :: c)).Perm (a ++ y :: (b ++ x :: c)) := by
      refine List.Perm.append_left a ?_
      have h1 : (x :: (b ++ y :: c)).Perm (x :: y :: (b ++ c)) := (List.perm_middle).cons x
      have h2 : (y :: (b ++ x :: c)).Perm (y :: x :: (b ++ c)) := (List.perm_middle).cons y
      exact (h1.trans (List.Perm.swap y x _)).trans h2.symm
    show (cntB lt z (a ++ x :: (b ++ y :: c)) + inv lt (a ++ x :: (b ++ y :: c)) + (cntB lt z (a ++ y :: (b ++ x :: c)) + inv lt (a ++ y :: (b ++ x :: c)))) % 2 = 1
    rw [cntB_perm z p]
    omega
/-- two values exchanged -/
def sw (x y z : α) : α := if z = x then y else if z = y then x else z
theorem sw_l (x y : α) : sw x y x = y := if_pos rfl
theorem sw_r (x y : α) : sw x y y = x := by
  unfold sw
  by_cases h : y = x
  · rw [if_pos h, h]
  · rw [if_neg h, if_pos rfl]
theorem sw_o {x y z : α} (h1 : z ≠ x) (h2 : z ≠ y) : sw x y z = z := by
  unfold sw
  rw [if_neg h1, if_neg h2]
theorem map_sw_id {x y : α} : ∀ {l : List α}, x ∉ l → y ∉ l → l.map (sw x y) = l
  | [], _, _ => rfl
  | z :: l, h1, h2 => by
    rw [List.map_cons, sw_o (x := x) (y := y) (z := z) (fun e => h1 (by rw [e]; exact List.mem_cons_self)) (fun e => h2 (by rw [e]; exact List.mem_cons_self)), map_sw_id (fun q => h1 (List.mem_cons_of_mem _ q)) (fun q => h2 (List.mem_cons_of_mem _ q))]
theorem split_two {x y : α} (hxy : x ≠ y) : ∀ {l : List α}, l.Nodup → x ∈ l → y ∈ l → ∃ a b c u v, ((u = x ∧ v = y) ∨ (u = y ∧ v = x)) ∧ l = a ++ u :: (b ++ v :: c)
  | [], _, h, _ => by cases h
  | z :: l, nd, hx, hy => by
    obtain ⟨_, nd2⟩ := List.nodup_cons.mp nd
    by_cases e1 : z = x
    · subst e1
      have : y ∈ l := (List.mem_cons.mp hy).resolve_left fun e => hxy e.symm
      obtain ⟨b, c, rfl⟩ := List.append_of_mem this
      exact ⟨[], b, c, z, y, .inl ⟨rfl, rfl⟩, rfl⟩
    · by_cases e2 : z = y
      · subst e2
        have : x ∈ l := (List.mem_cons.mp hx).resolve_left fun e => e1 e.symm
        obtain ⟨b, c, rfl⟩ := List.append_of_mem this
        exact ⟨[], b, c, z, x, .inr ⟨rfl, rfl⟩, rfl⟩
      · obtain ⟨a, b, c, u, v, h, rfl⟩ := split_two hxy nd2 ((List.mem_cons.mp hx).resolve_left fun e => e1 e.symm) ((List.mem_cons.mp hy).resolve_left fun e => e2 e.symm)
        exact ⟨z :: a, b, c, u, v, h, rfl⟩
theorem inv_sw (T : Tot lt) {x y : α} (hxy : x ≠ y) {l : List α} (nd : l.Nodup) (hx : x ∈ l) (hy : y ∈ l) : (inv lt l + inv lt (l.map (sw x y))) % 2 = 1 := by
  obtain ⟨a, b, c, u, v, h, rfl⟩ := split_two hxy nd hx hy
  have huv : u ≠ v := by
    rcases h with ⟨rfl, rfl⟩ | ⟨rfl, rfl⟩
    · exact hxy
    · exact Ne.symm hxy
  have su : sw x y u = v ∧ sw x y v = u := by
    rcases h with ⟨rfl, rfl⟩ | ⟨rfl, rfl⟩
    · exact ⟨sw_l _ _, sw_r _ _⟩
    · exact ⟨sw_r _ _, sw_l _ _⟩
  have n1 := List.nodup_append.mp nd
  obtain ⟨na, nr, dis⟩ := n1
  obtain ⟨hu, nr2⟩ := List.nodup_cons.mp nr
  obtain ⟨nb, nc, dis2⟩ := List.nodup_append.mp nr2
  obtain ⟨hv, nc2⟩ := List.nodup_cons.mp nc
  have ua : u ∉ a := fun q => dis u q u List.mem_cons_self rfl
  have va : v ∉ a := fun q => dis v q v (List.mem_cons_of_mem _ (List.mem_append_right _ List.mem_cons_self)) rfl
  have ub : u ∉ b := fun q => hu (List.mem_append_left _ q)
  have uc : u ∉ c := fun q => hu (List.mem_append_right _ (List.mem_cons_of_mem _ q))
  have vb : v ∉ b := fun q => dis2 v q v List.mem_cons_self rfl
  have vc : v ∉ c := hv
  have mp : ∀ l : List α, u ∉ l → v ∉ l → l.map (sw x y) = l := fun l h1 h2 => by
    rcases h with ⟨rfl, rfl⟩ | ⟨rfl, rfl⟩
    · exact map_sw_id h1 h2
    · exact map_sw_id h2 h1
  rw [List.map_append, List.map_cons, List.map_append, List.map_cons, mp a ua va, mp b ub vb, mp c uc vc, su.1, su.2]
  exact inv_swap T huv ub vb a
end
end Dv
namespace Dv
/-! ### the sign of a permutation by its cycles -/
section
variable {α : Type} [DecidableEq α] {lt : α → α → Bool}
/-- q goes on by f and ends in x -/
def CycAt (f : α → α) (x : α) : List α → Prop
  | [] => False
  | [y] => f y = x
  | y :: z :: r => f y = z ∧ CycAt f x (z :: r)
theorem CycAt.last {f : α → α} {x : α} : ∀ {q : List α}, CycAt f x q → ∃ z, z ∈ q ∧ f z = x
  | [y], h => ⟨y, List.mem_cons_self, h⟩
  | y :: z :: r, h => by
    obtain ⟨w, h1, h2⟩ := CycAt.last h.2
    exact ⟨w, List.mem_cons_of_mem _ h1, h2⟩
theorem CycAt.congr {f g : α → α} {x : α} : ∀ {q : List α}, CycAt f x q → (∀ z, z ∈ q → g z = f z) → CycAt g x q
  | [y], h, e => (e y List.mem_cons_self).trans h
  | y :: z :: r, h, e => ⟨(e y List.mem_cons_self).trans h.1, CycAt.congr h.2 fun w hw => e w (List.mem_cons_of_mem _ hw)⟩
theorem CycAt.sw {f : α → α} {x y : α} : ∀ {q : List α}, CycAt f x q → (∀ z, z ∈ q.tail → z ≠ x ∧ z ≠ y) → CycAt (fun z => sw x y (f z)) y q
  | [w], h, _ => by
    show Dv.sw x y (f w) = y
    rw [h, sw_l]
  | w :: z :: r, h, e => by
    have h1 := e z List.mem_cons_self
    refine ⟨?_, CycAt.sw h.2 fun v hv => e v (List.mem_cons_of_mem _ hv)⟩
    show Dv.sw x y (f w) = z
    rw [h.1, sw_o h1.1 h1.2]
theorem sw_inj {x y a b : α} (h : sw x y a = sw x y b) : a = b := by
  unfold sw at h
  by_cases a1 : a = x
  · rw [if_pos a1] at h
    by_cases b1 : b = x
    · rw [a1, b1]
    · rw [if_neg b1] at h
      by_cases b2 : b = y
      · rw [if_pos b2] at h; rw [a1, b2]; exact h.symm
      · rw [if_neg b2] at h; exact absurd h.symm b2
  · rw [if_neg a1] at h
    by_cases a2 : a = y
    · rw [if_pos a2] at h
      by_cases b1 : b = x
      · rw [if_pos b1] at h; rw [a2, b1]; exact h.symm
      · rw [if_neg b1] at h
        by_cases b2 : b = y
        · rw [a2, b2]
        · rw [if_neg b2] at h; exact absurd h.symm b1
    · rw [if_neg a2] at h
      by_cases b1 : b = x
      · rw [if_pos b1] at h; exact absurd h a2
      · rw [if_neg b1] at h
        by_cases b2 : b = y
        · rw [if_pos b2] at h; exact absurd h a1
        · rw [if_neg b2] at h; exact h
theorem inj_on {β : Type} {f : α → β} : ∀ {l : List α}, (l.map f).Nodup → ∀ {a b : α}, a ∈ l → b ∈ l → f a = f b → a = b
  | [], _, _, _, h, _, _ => by cases h
  | z :: l, nd, a, b, ha, hb, e => by
    obtain ⟨h1, h2⟩ := List.nodup_cons.mp nd
    rcases List.mem_cons.mp ha with ea | ha2
    · rcases List.mem_cons.mp hb with eb | hb2
      · rw [ea, eb]
      · exact absurd (List.mem_map.mpr ⟨b, hb2, by rw [← e, ea]⟩) h1
    · rcases List.mem_cons.mp hb with eb | hb2
      · exact absurd (List.mem_map.mpr ⟨a, ha2, by rw [e, eb]⟩) h1
      · exact inj_on h2 ha2 hb2 e
theorem nodup_sw {x y : α} {l : List α} (nd : l.Nodup) : (l.map (sw x y)).Nodup := List.pairwise_map.mpr (nd.imp fun h e => h (sw_inj e))
/-- a cycle undone -/
theorem cyc_par (T : Tot lt) {l : List α} : ∀ (r : List α) (x : α) (f : α → α), (l.map f).Nodup → CycAt f x (x :: r) → (x :: r).Nodup → (∀ z, z ∈ x :: r → z ∈ l) →
    (inv lt (l.map f) + inv lt (l.map fun z => if z ∈ x :: r then z else f z) + r.length) % 2 = 0 ∧ (l.map fun z => if z ∈ x :: r then z else f z).Nodup
  | [], x, f, nd, c, _, _ => by
    have e : (l.map fun z => if z ∈ [x] then z else f z) = l.map f := List.map_congr_left fun z _ => by
      by_cases h : z ∈ [x]
      · rw [if_pos h, List.mem_singleton.mp h]; exact (show f x = x from c).symm
      · rw [if_neg h]
    rw [e]
    exact ⟨by simp; omega, nd⟩
  | y :: r, x, f, nd, c, cn, sub => by
    obtain ⟨hx, cn2⟩ := List.nodup_cons.mp cn
    obtain ⟨hy, cn3⟩ := List.nodup_cons.mp cn2
    have hxy : x ≠ y := fun e => hx (e ▸ List.mem_cons_self)
    obtain ⟨w, hw, fw⟩ := c.2.last
    have fx : f x = y := c.1
    have xl := sub x List.mem_cons_self
    have wl := sub w (List.mem_cons_of_mem _ hw)
    have c2 : CycAt (fun z => sw x y (f z)) y (y :: r) := c.2.sw fun z hz => ⟨fun e => hx (e ▸ List.mem_cons_of_mem _ hz), fun e => hy (e ▸ hz)⟩
    have e1 : l.map (fun z => sw x y (f z)) = (l.map f).map (sw x y) := by rw [List.map_map]; rfl
    have nd1 : (l.map fun z => sw x y (f z)).Nodup := by rw [e1]; exact nodup_sw nd
    obtain ⟨p1, p2⟩ := cyc_par T r y (fun z => sw x y (f z)) nd1 c2 cn2 fun z hz => sub z (List.mem_cons_of_mem _ hz)
    have p0 := inv_sw T hxy nd (List.mem_map.mpr ⟨w, wl, fw⟩) (List.mem_map.mpr ⟨x, xl, fx⟩)
    rw [← e1] at p0
    have eg : (l.map fun z => if z ∈ x :: y :: r then z else f z) = l.map fun z => if z ∈ y :: r then z else sw x y (f z) := List.map_congr_left fun z hz => by
      by_cases h1 : z ∈ y :: r
      · rw [if_pos h1, if_pos (List.mem_cons_of_mem _ h1)]
      · rw [if_neg h1]
        by_cases h2 : z = x
        · rw [if_pos (by rw [h2]; exact List.mem_cons_self), h2, fx, sw_r]
        · rw [if_neg (fun q => (List.mem_cons.mp q).elim h2 h1)]
          refine (sw_o (fun e => ?_) (fun e => ?_)).symm
          · have : z = w := inj_on nd hz wl (e.trans fw.symm)
            exact h1 (this ▸ hw)
          · exact h2 (inj_on nd hz xl (e.trans fx.symm))
    rw [eg]
    refine ⟨?_, p2⟩
    rw [List.length_cons]
    omega
/-- the nontrivial cycles, found from the left -/
def goC (f : α → α) (cyc : α → List α) : List α → List α → List (List α)
  | [], _ => []
  | x :: r, seen => if f x ≠ x ∧ x ∉ seen then cyc x :: goC f cyc r (seen ++ cyc x) else goC f cyc r seen
theorem goC_par (T : Tot lt) {l : List α} {f : α → α} {cyc : α → List α} (hc : ∀ x, x ∈ l → f x ≠ x → ∃ t, cyc x = x :: t ∧ CycAt f x (x :: t) ∧ (x :: t).Nodup ∧ ∀ z, z ∈ x :: t → z ∈ l)
    (hd : ∀ x y, x ∈ l → y ∈ l → f x ≠ x → f y ≠ y → y ∉ cyc x → ∀ z, z ∈ cyc y → z ∉ cyc x) : ∀ (xs seen : List α), (∀ x, x ∈ xs → x ∈ l) → (l.map fun z => if z ∈ seen then z else f z).Nodup → (∀ z, z ∈ l → z ∉ seen → f z ≠ z → z ∈ xs) →
    (∀ y, y ∈ l → f y ≠ y → y ∉ seen → ∀ z, z ∈ cyc y → z ∉ seen) → (inv lt (l.map fun z => if z ∈ seen then z else f z) + ((goC f cyc xs seen).map fun c => c.length - 1).sum) % 2 = inv lt l % 2
  | [], seen, _, nd, hf, _ => by
    have e : (l.map fun z => if z ∈ seen then z else f z) = l := by
      have : (l.map fun z => if z ∈ seen then z else f z) = l.map id := List.map_congr_left fun z hz => by
        by_cases h : z ∈ seen
        · rw [if_pos h]; rfl
        · rw [if_neg h]
          by_cases h2 : f z = z
          · exact h2
          · cases hf z hz h h2
      rw [this, List.map_id]
    rw [e]
    simp [goC]
  | x :: r, seen, hl, nd, hf, hs => by
    have xl := hl x List.mem_cons_self
    by_cases h : f x ≠ x ∧ x ∉ seen
    · obtain ⟨t, e, c, cn, sub⟩ := hc x xl h.1
      have hdis := hs x xl h.1 h.2
      rw [e] at hdis
      have c' : CycAt (fun z => if z ∈ seen then z else f z) x (x :: t) := c.congr fun z hz => if_neg (hdis z hz)
      obtain ⟨p1, p2⟩ := cyc_par T t x _ nd c' cn sub
      have eg : (fun z => if z ∈ x :: t then z else if z ∈ seen then z else f z) = fun z => if z ∈ seen ++ (x :: t) then z else f z := by
        funext z
        by_cases h1 : z ∈ x :: t
        · rw [if_pos h1, if_pos (List.mem_append_right _ h1)]
        · rw [if_neg h1]
          by_cases h2 : z ∈ seen
          · rw [if_pos h2, if_pos (List.mem_append_left _ h2)]
          · rw [if_neg h2, if_neg (fun q => (List.mem_append.mp q).elim h2 h1)]
      rw [eg] at p1 p2
      have ih := goC_par T hc hd r (seen ++ (x :: t)) (fun z hz => hl z (List.mem_cons_of_mem _ hz)) p2 (fun z hz h1 h2 => by
        have h3 := hf z hz (fun q => h1 (List.mem_append_left _ q)) h2
        rcases List.mem_cons.mp h3 with e3 | h3
        · exact absurd (List.mem_append_right _ (e3 ▸ List.mem_cons_self)) h1
        · exact h3) (fun y hy h1 h2 z hz q => by
        rcases List.mem_append.mp q with q | q
        · exact hs y hy h1 (fun w => h2 (List.mem_append_left _ w)) z hz q
        · rw [← e] at q
          exact hd x y xl hy h.1 h1 (fun w => h2 (List.mem_append_right _ (e ▸ w))) z hz q)
      have eq : goC f cyc (x :: r) seen = cyc x :: goC f cyc r (seen ++ cyc x) := by
        show (if f x ≠ x ∧ x ∉ seen then _ else _) = _
        rw [if_pos h]
      rw [eq, e, List.map_cons, List.sum_cons]
      have : (x :: t).length - 1 = t.length := by simp
      rw [this]
      omega
    · have eq : goC f cyc (x :: r) seen = goC f cyc r seen := by
        show (if f x ≠ x ∧ x ∉ seen then _ else _) = _
        rw [if_neg h]
      rw [eq]
      refine goC_par T hc hd r seen (fun z hz => hl z (List.mem_cons_of_mem _ hz)) nd (fun z hz h1 h2 => ?_) hs
      rcases List.mem_cons.mp (hf z hz h1 h2) with e | h3
      · subst e
        exact absurd ⟨h2, h1⟩ h
      · exact h3
theorem inv_sorted : ∀ {l : List α}, l.Pairwise (fun a b => lt b a = false) → inv lt l = 0
  | [], _ => rfl
  | x :: l, h => by
    obtain ⟨h1, h2⟩ := List.pairwise_cons.mp h
    show cntB lt x l + inv lt l = 0
    have : cntB lt x l = 0 := by
      unfold cntB
      rw [List.length_eq_zero_iff, List.filter_eq_nil_iff]
      intro y hy
      rw [h1 y hy]
      exact Bool.false_ne_true
    rw [this, inv_sorted h2]
end
end Dv
namespace Dv
/-! ### the cycles of a permutation, walked -/
section
variable {α : Type} [DecidableEq α]
theorem len_sub : ∀ {a b : List α}, a.Nodup → (∀ z, z ∈ a → z ∈ b) → a.length ≤ b.length
  | [], _, _, _ => Nat.zero_le _
  | x :: a, b, nd, h => by
    obtain ⟨h1, h2⟩ := List.nodup_cons.mp nd
    have hx := h x List.mem_cons_self
    obtain ⟨p, q, rfl⟩ := List.append_of_mem hx
    have ih := len_sub (b := p ++ q) h2 fun z hz => by
      have hz2 := h z (List.mem_cons_of_mem _ hz)
      rcases List.mem_append.mp hz2 with h3 | h3
      · exact List.mem_append_left _ h3
      · rcases List.mem_cons.mp h3 with e | h3
        · rw [e] at hz; exact absurd hz h1
        · exact List.mem_append_right _ h3
    rw [List.length_append] at ih
    rw [List.length_append, List.length_cons, List.length_cons]
    omega
/-- from y on, until f leads to x -/
def walk (f : α → α) (x : α) : Nat → α → List α
  | 0, y => [y]
  | n + 1, y => if f y = x then [y] else y :: walk f x n (f y)
theorem walk_ne (f : α → α) (x : α) (n : Nat) (y : α) : ∃ t, walk f x n y = y :: t := by
  cases n with
  | zero => exact ⟨[], rfl⟩
  | succ n =>
    unfold walk
    by_cases h : f y = x
    · rw [if_pos h]; exact ⟨[], rfl⟩
    · rw [if_neg h]; exact ⟨_, rfl⟩
/-- f permutes l -/
structure PermOn (f : α → α) (l : List α) : Prop where
  nd : l.Nodup
  to : ∀ z, z ∈ l → f z ∈ l
  inj : ∀ a b, a ∈ l → b ∈ l → f a = f b → a = b
def it (f : α → α) : Nat → α → α
  | 0, x => x
  | n + 1, x => f (it f n x)
theorem it_mem {f : α → α} {l : List α} (h : PermOn f l) {x : α} (hx : x ∈ l) : ∀ n, it f n x ∈ l
  | 0 => hx
  | n + 1 => h.to _ (it_mem h hx n)
theorem it_back {f : α → α} {l : List α} (h : PermOn f l) {x : α} (hx : x ∈ l) : ∀ i k, it f (i + k) x = it f i x → it f k x = x
  | 0, k, e => by rw [Nat.zero_add] at e; exact e
  | i + 1, k, e => it_back h hx i k (h.inj _ _ (it_mem h hx _) (it_mem h hx _) (by
      have : i + 1 + k = (i + k) + 1 := by omega
      rw [this] at e
      exact e))
theorem least (p : Nat → Prop) : ∀ n, p n → ∃ m, p m ∧ m ≤ n ∧ ∀ k, k < m → ¬ p k := by
  intro n
  induction n using Nat.strongRecOn with
  | _ n ih =>
    intro hn
    by_cases h : ∃ k, k < n ∧ p k
    · obtain ⟨k, hk, pk⟩ := h
      obtain ⟨m, h1, h2, h3⟩ := ih k hk pk
      exact ⟨m, h1, by omega, h3⟩
    · exact ⟨n, hn, Nat.le_refl _, fun k hk pk => h ⟨k, hk, pk⟩⟩
/-- the length of the cycle -/
theorem period {f : α → α} {l : List α} (h : PermOn f l) {x : α} (hx : x ∈ l) : ∃ N, 0 < N ∧ N ≤ l.length ∧ it f N x = x ∧ ∀ k, 0 < k → k < N → it f k x ≠ x := by
  have e : ∃ i k, i + k ≤ l.length ∧ 0 < k ∧ it f (i + k) x = it f i x := by
    apply Classical.byContradiction
    intro no
    have nd : ((List.range (l.length + 1)).map fun n => it f n x).Nodup := by
      refine List.pairwise_map.mpr ?_
      refine List.Pairwise.imp_of_mem ?_ List.pairwise_lt_range
      intro i j hi hj hij q
      have hj := List.mem_range.mp hj
      exact no ⟨i, j - i, by omega, by omega, by rw [show i + (j - i) = j by omega]; exact q.symm⟩
    have := len_sub nd (b := l) fun z hz => by
      obtain ⟨n, _, rfl⟩ := List.mem_map.mp hz
      exact it_mem h hx n
    simp at this
    omega
  obtain ⟨i, k, h1, h2, h3⟩ := e
  obtain ⟨N, ⟨p1, p2⟩, p3, p4⟩ := least (fun n => 0 < n ∧ it f n x = x) k ⟨h2, it_back h hx i k h3⟩
  exact ⟨N, p1, by omega, p2, fun j hj1 hj2 e => p4 j hj2 ⟨hj1, e⟩⟩
theorem it_add (f : α → α) (x : α) (i : Nat) : ∀ k, it f (i + k) x = it f k (it f i x)
  | 0 => rfl
  | k + 1 => congrArg f (it_add f x i k)
/-- the way from the k-th on -/
def way (f : α → α) (x : α) (k : Nat) : Nat → List α
  | 0 => []
  | n + 1 => it f k x :: way f x (k + 1) n
theorem way_mem {f : α → α} {x z : α} : ∀ {n k : Nat}, z ∈ way f x k n ↔ ∃ j, k ≤ j ∧ j < k + n ∧ z = it f j x
  | 0, k => by
    constructor
    · intro h; cases h
    · rintro ⟨j, h1, h2, _⟩; omega
  | n + 1, k => by
    unfold way
    rw [List.mem_cons, way_mem]
    constructor
    · rintro (h | ⟨j, h1, h2, h3⟩)
      · exact ⟨k, Nat.le_refl _, by omega, h⟩
      · exact ⟨j, by omega, by omega, h3⟩
    · rintro ⟨j, h1, h2, h3⟩
      by_cases e : j = k
      · subst e; exact .inl h3
      · exact .inr ⟨j, by omega, by omega, h3⟩
theorem walk_way {f : α → α} {x : α} {N : Nat} (hN : it f N x = x) (hm : ∀ k, 0 < k → k < N → it f k x ≠ x) : ∀ (n k fuel : Nat), k + (n + 1) = N → n ≤ fuel → walk f x fuel (it f k x) = way f x k (n + 1)
  | 0, k, fuel, e, _ => by
    have ek : f (it f k x) = x := by
      have : it f (k + 1) x = x := by rw [show k + 1 = N by omega]; exact hN
      exact this
    cases fuel with
    | zero => rfl
    | succ m =>
      unfold walk
      rw [if_pos ek]
      rfl
  | n + 1, k, fuel, e, hf => by
    cases fuel with
    | zero => omega
    | succ m =>
      have ek : f (it f k x) ≠ x := hm (k + 1) (by omega) (by omega)
      have ih := walk_way hN hm n (k + 1) m (by omega) (by omega)
      unfold walk
      rw [if_neg ek]
      show it f k x :: walk f x m (it f (k + 1) x) = _
      rw [ih]
      rfl
theorem way_cyc {f : α → α} {x : α} {N : Nat} (hN : it f N x = x) : ∀ n k, k + (n + 1) = N → CycAt f x (way f x k (n + 1))
  | 0, k, e => by
    show f (it f k x) = x
    have : it f (k + 1) x = x := by rw [show k + 1 = N by omega]; exact hN
    exact this
  | n + 1, k, e => ⟨rfl, way_cyc hN n (k + 1) (by omega)⟩
theorem it_ne {f : α → α} {l : List α} (h : PermOn f l) {x : α} (hx : x ∈ l) {N : Nat} (hm : ∀ k, 0 < k → k < N → it f k x ≠ x) {i j : Nat} (hi : i < j) (hj : j < N) : it f i x ≠ it f j x := fun e => by
  refine hm (j - i) (by omega) (by omega) (it_back h hx i (j - i) ?_)
  rw [show i + (j - i) = j by omega]
  exact e.symm
theorem way_nd {f : α → α} {l : List α} (h : PermOn f l) {x : α} (hx : x ∈ l) {N : Nat} (hm : ∀ k, 0 < k → k < N → it f k x ≠ x) : ∀ n k, k + n ≤ N → (way f x k n).Nodup
  | 0, _, _ => List.nodup_nil
  | n + 1, k, e => by
    unfold way
    refine List.nodup_cons.mpr ⟨fun q => ?_, way_nd h hx hm n (k + 1) (by omega)⟩
    obtain ⟨j, h1, h2, h3⟩ := way_mem.mp q
    exact it_ne h hx hm (by omega) (by omega) h3
/-- the cycle of x -/
def cyc (f : α → α) (l : List α) (x : α) : List α := walk f x l.length x
theorem cyc_is {f : α → α} {l : List α} (h : PermOn f l) {x : α} (hx : x ∈ l) : ∃ N, 0 < N ∧ N ≤ l.length ∧ it f N x = x ∧ (∀ k, 0 < k → k < N → it f k x ≠ x) ∧ cyc f l x = way f x 0 N := by
  obtain ⟨N, h1, h2, h3, h4⟩ := period h hx
  refine ⟨N, h1, h2, h3, h4, ?_⟩
  have := walk_way h3 h4 (N - 1) 0 l.length (by omega) (by omega)
  rw [show N - 1 + 1 = N by omega] at this
  exact this
theorem cyc_facts {f : α → α} {l : List α} (h : PermOn f l) {x : α} (hx : x ∈ l) : ∃ t, cyc f l x = x :: t ∧ CycAt f x (x :: t) ∧ (x :: t).Nodup ∧ ∀ z, z ∈ x :: t → z ∈ l := by
  obtain ⟨N, h1, h2, h3, h4, e⟩ := cyc_is h hx
  obtain ⟨n, rfl⟩ : ∃ n, N = n + 1 := ⟨N - 1, by omega⟩
  have ep : way f x 0 (n + 1) = x :: way f x 1 n := rfl
  rw [e, ep]
  refine ⟨_, rfl, ?_, ?_, fun z hz => ?_⟩
  · rw [← ep]; exact way_cyc h3 n 0 (by omega)
  · rw [← ep]; exact way_nd h hx h4 _ 0 (by omega)
  · rw [← ep] at hz
    obtain ⟨j, _, _, rfl⟩ := way_mem.mp hz
    exact it_mem h hx j
theorem it_mod {f : α → α} {x : α} {N : Nat} (hN : it f N x = x) (h0 : 0 < N) (n : Nat) : ∃ j, j < N ∧ it f n x = it f j x := by
  induction n with
  | zero => exact ⟨0, h0, rfl⟩
  | succ n ih =>
    obtain ⟨j, hj, e⟩ := ih
    by_cases h : j + 1 = N
    · exact ⟨0, h0, by show f (it f n x) = x; rw [e]; show it f (j + 1) x = x; rw [h]; exact hN⟩
    · exact ⟨j + 1, by omega, by show f (it f n x) = f (it f j x); rw [e]⟩
/-- the cycle holds what can be reached -/
theorem cyc_mem {f : α → α} {l : List α} (h : PermOn f l) {x z : α} (hx : x ∈ l) : z ∈ cyc f l x ↔ ∃ n, z = it f n x := by
  obtain ⟨N, h1, h2, h3, h4, e⟩ := cyc_is h hx
  rw [e, way_mem]
  constructor
  · rintro ⟨j, _, _, h⟩; exact ⟨j, h⟩
  · rintro ⟨n, hn⟩
    obtain ⟨j, hj, ej⟩ := it_mod h3 h1 n
    exact ⟨j, Nat.zero_le _, by omega, hn.trans ej⟩
theorem it_inv {f : α → α} {l : List α} (h : PermOn f l) {x : α} (hx : x ∈ l) (n : Nat) : ∃ k, it f k (it f n x) = x := by
  obtain ⟨N, h1, h2, h3, h4, e⟩ := cyc_is h hx
  obtain ⟨j, hj, ej⟩ := it_mod h3 h1 n
  refine ⟨N - j, ?_⟩
  rw [ej, ← it_add, show j + (N - j) = N by omega]
  exact h3
theorem cyc_dis {f : α → α} {l : List α} (h : PermOn f l) {x y : α} (hx : x ∈ l) (hy : y ∈ l) (hn : y ∉ cyc f l x) : ∀ z, z ∈ cyc f l y → z ∉ cyc f l x := fun z h1 h2 => by
  obtain ⟨a, rfl⟩ := (cyc_mem h hy).mp h1
  obtain ⟨b, hb⟩ := (cyc_mem h hx).mp h2
  obtain ⟨k, hk⟩ := it_inv h hy a
  refine hn ((cyc_mem h hx).mpr ⟨b + k, ?_⟩)
  rw [it_add, ← hb]
  exact hk.symm
/-- the sign: inversions and cycles -/
theorem sign_eq {lt : α → α → Bool} (T : Tot lt) {f : α → α} {l : List α} (h : PermOn f l) (hs : l.Pairwise fun a b => lt b a = false) :
    (inv lt (l.map f) + ((goC f (cyc f l) l []).map fun c => c.length - 1).sum) % 2 = 0 := by
  have e : (l.map fun z => if z ∈ ([] : List α) then z else f z) = l.map f := List.map_congr_left fun z _ => if_neg (fun q => by cases q)
  have ndf : (l.map f).Nodup := List.pairwise_map.mpr (List.Pairwise.imp_of_mem (fun {a b} ha hb ne e => ne (h.inj a b ha hb e)) h.nd)
  have := goC_par T (l := l) (f := f) (cyc := cyc f l) (fun x hx _ => cyc_facts h hx) (fun x y hx hy _ _ hn => cyc_dis h hx hy hn) l [] (fun _ h => h) (by rw [e]; exact ndf) (fun z hz _ _ => hz) (fun _ _ _ _ _ _ q => by cases q)
  rw [e, inv_sorted hs] at this
  exact this
end
end Dv
namespace Dv
open PySem L2 PyProof.Rows
/-! ### an error as a value: made as for a raise, then kept -/
end Dv
namespace Dv
open PySem L2 PyProof.Rows
open PySem.Calls
open PySem.W (EachIs AllAlike Sortable dataLe dataKind SortsAt sortingHeap)
/-! ### sorted of alike data: of a list, of a tuple, of what is collected -/
end Dv
namespace Dv
open PySem L2 PyProof.Rows PySem.Calls
open PySem.W (EachIs AllAlike Sortable dataLe)
theorem lt_asym {a b : List Nat} (h : Spec.ltCps a b = true) : Spec.ltCps b a = false := by
  rw [ltCps_eq] at h ⊢
  exact decide_eq_false (List.lt_asymm (of_decide_eq_true h))
theorem ge_self (a : List Nat) : geC a a := by
  show Spec.ltCps a a = false
  rw [ltCps_eq]
  exact decide_eq_false (List.lt_irrefl a)
theorem ge_total (a b : List Nat) : geC a b ∨ geC b a := by
  cases h : Spec.ltCps b a with
  | false => exact .inl h
  | true => exact .inr (lt_asym h)
theorem dataLt_strs (x y : Str) : PySem.W.dataLt (.str x) (.str y) = Spec.ltCps x.cps.toList y.cps.toList := by
  rw [PySem.W.dataLt_str, ltCps_eq]
section
variable {K : PySem.W.Frag} {m : Sto} {P : PV}
/-- the names in order -/
def srt (r : List (List Nat)) : List (List Nat) := r.mergeSort fun a b => !Spec.ltCps b a
theorem srt_perm (r : List (List Nat)) : (srt r).Perm r := List.mergeSort_perm _ _
theorem srt_pw (r : List (List Nat)) : (srt r).Pairwise geC := by
  have h : (srt r).Pairwise fun a b => (!Spec.ltCps b a) = true := List.pairwise_mergeSort (fun a b c h1 h2 => by
    have h1' : geC a b := by simpa using h1
    have h2' : geC b c := by simpa using h2
    have := ge_trans h1' h2'
    simpa using this) (fun a b => by
    rcases ge_total a b with h | h
    · simp [show Spec.ltCps b a = false from h]
    · simp [show Spec.ltCps a b = false from h]) r
  exact h.imp fun {a b} q => by simpa using q
theorem pwN_unique : ∀ {xs ys : List (List Nat)}, xs.Pairwise geC → ys.Pairwise geC → xs.Perm ys → xs = ys
  | [], ys, _, _, p => by rw [List.nil_perm.mp p]
  | x :: xs, [], _, _, p => by cases List.perm_nil.mp p
  | x :: xs, y :: ys, hx, hy, p => by
    obtain ⟨x1, x2⟩ := List.pairwise_cons.mp hx
    obtain ⟨y1, y2⟩ := List.pairwise_cons.mp hy
    have e : x = y := by
      have m1 : x ∈ y :: ys := p.mem_iff.mp List.mem_cons_self
      have m2 : y ∈ x :: xs := p.mem_iff.mpr List.mem_cons_self
      rcases List.mem_cons.mp m1 with e | e
      · exact e
      · rcases List.mem_cons.mp m2 with e2 | e2
        · exact e2.symm
        · exact ge_anti (x1 y e2) (y1 x e)
    subst e
    rw [pwN_unique x2 y2 ((List.perm_cons x).mp p)]
theorem srt_of {xs r : List (List Nat)} (h : xs.Pairwise geC) (p : xs.Perm r) : srt r = xs := pwN_unique (srt_pw r) h ((srt_perm r).trans p.symm)
theorem srt_congr {r r' : List (List Nat)} (p : r.Perm r') : srt r = srt r' := srt_of (srt_pw r') ((srt_perm r').trans p.symm)
/-- the least name -/
def mnL (r : List (List Nat)) : List Nat := (srt r).headD []
theorem mnL_head {r : List (List Nat)} (h : r ≠ []) : ∃ t, srt r = mnL r :: t := by
  cases e : srt r with
  | nil =>
    have := (srt_perm r).length_eq
    rw [e] at this
    exact absurd (List.length_eq_zero_iff.mp this.symm) h
  | cons a t => exact ⟨t, by simp [mnL, e]⟩
theorem mnL_mem {r : List (List Nat)} (h : r ≠ []) : mnL r ∈ r := by
  obtain ⟨t, e⟩ := mnL_head h
  exact (srt_perm r).mem_iff.mp (by rw [e]; exact List.mem_cons_self)
theorem mnL_le {r : List (List Nat)} {y : List Nat} (hy : y ∈ r) : geC (mnL r) y := by
  have h : r ≠ [] := fun e => by rw [e] at hy; cases hy
  obtain ⟨t, e⟩ := mnL_head h
  have hm : y ∈ srt r := (srt_perm r).mem_iff.mpr hy
  have pw := srt_pw r
  rw [e] at pw hm
  rcases List.mem_cons.mp hm with q | q
  · rw [q]; exact ge_self _
  · exact (List.pairwise_cons.mp pw).1 y q
theorem mnL_one {r : List (List Nat)} {l : List Nat} (hl : l ∈ r) (h : ∀ y, y ∈ r → geC l y) : l = mnL r := by
  have hne : r ≠ [] := fun e => by rw [e] at hl; cases hl
  exact ge_anti (h _ (mnL_mem hne)) (mnL_le hl)
end
end Dv
namespace Dv
open PySem L2 PyProof.Rows
theorem hu1 {X : Cx} {k : Nat} (hr : Room k X.A) : X.A.units + 1 < cLine := by have := hr.units; omega
/-! ### laws about permutations: what the program does -/
def labs (qs : List (Str × Str)) : List Str := qs.map Prod.fst
def fOf (qs : List (Str × Str)) (x : Str) : Str := ((qs.find? fun q => decide (q.1 = x)).map (·.2)).getD x
structure VP (qs : List (Str × Str)) : Prop where
  nd : (labs qs).Nodup
  perm : (qs.map Prod.snd).Perm (labs qs)
  len : qs.length ≤ 13
  srt : sortedS (labs qs) = true
  tx : ∀ z ∈ labs qs, ∃ l, z = Sx l ∧ Tx l ∧ l.length ≤ 20
theorem find_fst {qs : List (Str × Str)} (nd : (labs qs).Nodup) {q : Str × Str} (h : q ∈ qs) : qs.find? (fun p => decide (p.1 = q.1)) = some q := by
  induction qs with
  | nil => cases h
  | cons p qs ih =>
    obtain ⟨h1, h2⟩ := List.nodup_cons.mp nd
    rcases List.mem_cons.mp h with e | h
    · rw [e]; simp
    · have ne : p.1 ≠ q.1 := fun e => h1 (by rw [e]; exact List.mem_map_of_mem h)
      rw [List.find?_cons_of_neg (by simpa using ne)]
      exact ih h2 h
theorem fOf_at {qs : List (Str × Str)} (v : VP qs) {q : Str × Str} (h : q ∈ qs) : fOf qs q.1 = q.2 := by
  unfold fOf
  rw [find_fst v.nd h]
  rfl
theorem fOf_map {qs : List (Str × Str)} (v : VP qs) : (labs qs).map (fOf qs) = qs.map Prod.snd := by
  unfold labs
  rw [List.map_map]
  exact List.map_congr_left fun q h => fOf_at v h
theorem VP.on {qs : List (Str × Str)} (v : VP qs) : PermOn (fOf qs) (labs qs) where
  nd := v.nd
  to z hz := by
    obtain ⟨q, hq, rfl⟩ := List.mem_map.mp hz
    rw [fOf_at v hq]
    exact v.perm.mem_iff.mp (List.mem_map_of_mem hq)
  inj a b ha hb e := inj_on (f := fOf qs) (l := labs qs) (by rw [fOf_map v]; exact (v.perm.nodup_iff).mpr v.nd) ha hb e
end Dv
namespace Dv
open PySem L2 PyProof.Rows
def cycs (qs : List (Str × Str)) : List (List Str) := goC (fOf qs) (cyc (fOf qs) (labs qs)) (labs qs) []
theorem goC_pos {α : Type} [DecidableEq α] {f : α → α} {cyc : α → List α} {x : α} {r seen : List α} (h1 : f x ≠ x) (h2 : x ∉ seen) : goC f cyc (x :: r) seen = cyc x :: goC f cyc r (seen ++ cyc x) := by
  show (if f x ≠ x ∧ x ∉ seen then _ else _) = _
  rw [if_pos ⟨h1, h2⟩]
theorem goC_neg {α : Type} [DecidableEq α] {f : α → α} {cyc : α → List α} {x : α} {r seen : List α} (h : ¬ (f x ≠ x ∧ x ∉ seen)) : goC f cyc (x :: r) seen = goC f cyc r seen := by
  show (if f x ≠ x ∧ x ∉ seen then _ else _) = _
  rw [if_neg h]
theorem goC_mem {α : Type} [DecidableEq α] {f : α → α} {cyc : α → List α} : ∀ {xs seen : List α} {c : List α}, c ∈ goC f cyc xs seen → ∃ x, x ∈ xs ∧ f x ≠ x ∧ c = cyc x
  | [], _, _, h => by cases h
  | x :: r, seen, c, h => by
    by_cases hh : f x ≠ x ∧ x ∉ seen
    · rw [goC_pos hh.1 hh.2] at h
      rcases List.mem_cons.mp h with e | h
      · exact ⟨x, List.mem_cons_self, hh.1, e⟩
      · obtain ⟨y, a, b, d⟩ := goC_mem h
        exact ⟨y, List.mem_cons_of_mem _ a, b, d⟩
    · rw [goC_neg hh] at h
      obtain ⟨y, a, b, d⟩ := goC_mem h
      exact ⟨y, List.mem_cons_of_mem _ a, b, d⟩
theorem goC_len {α : Type} [DecidableEq α] {f : α → α} {cyc : α → List α} : ∀ (xs seen : List α), (goC f cyc xs seen).length ≤ xs.length
  | [], _ => Nat.le_refl _
  | x :: r, seen => by
    by_cases hh : f x ≠ x ∧ x ∉ seen
    · rw [goC_pos hh.1 hh.2]
      have := goC_len (f := f) (cyc := cyc) r (seen ++ cyc x)
      simp; omega
    · rw [goC_neg hh]
      have := goC_len (f := f) (cyc := cyc) r seen
      simp; omega
theorem labs_len {qs : List (Str × Str)} : (labs qs).length = qs.length := List.length_map ..
end Dv
namespace Dv
open PySem L2 PyProof.Rows
def ltS (a b : Str) : Bool := decide (a.cps.toList < b.cps.toList)
theorem ltS_eq (a b : Str) : ltS a b = Spec.ltCps a.cps.toList b.cps.toList := (ltCps_eq _ _).symm
theorem str_eq {a b : Str} (h : a.cps.toList = b.cps.toList) : a = b := PySem.W.str_of_cps h
theorem ltS_tot : Tot ltS := fun a b ne => by
  rw [ltS_eq, ltS_eq]
  cases h : Spec.ltCps b.cps.toList a.cps.toList with
  | true => exact lt_asym h
  | false =>
    cases h2 : Spec.ltCps a.cps.toList b.cps.toList with
    | true => rfl
    | false => exact absurd (str_eq (ge_anti h h2)) ne
theorem ltS_irr (a : Str) : ltS a a = false := by
  rw [ltS_eq]
  exact ge_self _
theorem VP.pw {qs : List (Str × Str)} (v : VP qs) : (labs qs).Pairwise fun a b => ltS b a = false := (sorted_pw v.srt).imp fun {a b} h => by rw [ltS_eq]; exact h
def oddN (qs : List (Str × Str)) : Nat := ((cycs qs).map fun c => c.length - 1).sum
theorem VP.sign {qs : List (Str × Str)} (v : VP qs) : (inv ltS (qs.map Prod.snd) + oddN qs) % 2 = 0 := by
  have := sign_eq ltS_tot v.on v.pw
  rw [fOf_map v] at this
  exact this
theorem cycs_ne {qs : List (Str × Str)} {c : List Str} (h : c ∈ cycs qs) : ∃ x t, c = x :: t := by
  obtain ⟨x, _, _, e⟩ := goC_mem h
  obtain ⟨t, e2⟩ := walk_ne (fOf qs) x (labs qs).length x
  exact ⟨x, t, by rw [e]; exact e2⟩
theorem cycs_len (qs : List (Str × Str)) : (cycs qs).length ≤ qs.length := by
  have := goC_len (f := fOf qs) (cyc := cyc (fOf qs) (labs qs)) (labs qs) []
  rw [labs_len] at this
  exact this
def gapI (c : List Str) : Int := if c.headD "" = "" then (c.length : Int) - 1 else (c.length : Int) + 1
section
variable {K : PySem.W.Frag} {Pg : Program} {w : World} {m : Sto}
def gapN (qs : List (Str × Str)) : Int := ((cycs qs).map gapI).sum
end
end Dv
namespace Dv
open PySem L2 PyProof.Rows
theorem valP_put (ps : List (Str × PyData)) (k z : Str) (d : PyData) : valP (putP ps k d) z = if z = k then some d else valP ps z := by
  unfold putP
  by_cases h : (ps.any fun p => decide (p.1 = k)) = true
  · rw [if_pos h]
    induction ps with
    | nil => cases h
    | cons p ps ih =>
      by_cases e : p.1 = k
      · by_cases hz : z = k
        · subst hz; simp [valP, e]
        · have e2 : ¬ p.1 = z := fun q => hz (q.symm.trans e)
          have e3 : ¬ k = z := fun q => hz q.symm
          by_cases h2 : (ps.any fun p => decide (p.1 = k)) = true
          · have := ih h2
            rw [if_neg hz] at this ⊢
            simp only [valP, List.map_cons, if_pos e, List.find?_cons, e2, e3, decide_false] at this ⊢
            exact this
          · rw [if_neg hz]
            have hm : ps.map (fun p => if p.1 = k then (p.1, d) else p) = ps := by
              rw [List.map_congr_left (g := id)]
              · exact List.map_id _
              · intro q hq
                have : ¬ q.1 = k := fun e => h2 (List.any_eq_true.mpr ⟨q, hq, decide_eq_true e⟩)
                rw [if_neg this]; rfl
            rw [List.map_cons, if_pos e, hm]
            simp [valP, e2]
      · have h2 : (ps.any fun p => decide (p.1 = k)) = true := by
          rw [List.any_cons, decide_eq_false e, Bool.false_or] at h
          exact h
        have := ih h2
        rw [List.map_cons, if_neg e]
        by_cases hz : p.1 = z
        · have : ¬ z = k := fun q => e (hz.trans q)
          rw [if_neg this]
          simp [valP, hz]
        · simp only [valP, List.find?_cons, decide_eq_false hz] at this ⊢
          exact this
  · rw [if_neg h]
    have hn : ∀ p ∈ ps, ¬ p.1 = k := fun p hp e => h (List.any_eq_true.mpr ⟨p, hp, decide_eq_true e⟩)
    by_cases hz : z = k
    · subst hz
      rw [if_pos rfl]
      unfold valP
      rw [List.find?_append, List.find?_eq_none.mpr (fun p hp => by simpa using hn p hp)]
      simp
    · rw [if_neg hz]
      unfold valP
      rw [List.find?_append]
      have : ¬ k = z := fun q => hz q.symm
      cases hf : ps.find? (fun p => decide (p.1 = z)) <;> simp [this]
end Dv
namespace Dv
open PySem L2 PyProof.Rows
theorem filt_split {α : Type} (p q : α → Bool) : ∀ l : List α, (l.filter p).length = (l.filter fun z => p z && q z).length + (l.filter fun z => p z && !q z).length
  | [] => rfl
  | x :: l => by
    have ih := filt_split p q l
    cases hp : p x <;> cases hq : q x <;> simp [List.filter_cons, hp, hq] <;> omega
def unS (f : Str → Str) (l seen : List Str) : Nat := (l.filter fun z => decide (z ∉ seen) && decide (f z ≠ z)).length
theorem cyc_nt {f : Str → Str} {l : List Str} (h : PermOn f l) {x z : Str} (hx : x ∈ l) (hn : f x ≠ x) (hz : z ∈ cyc f l x) : f z ≠ z := fun e => by
  obtain ⟨n, rfl⟩ := (cyc_mem h hx).mp hz
  obtain ⟨k, hk⟩ := it_inv h hx n
  have fix : ∀ k, it f k (it f n x) = it f n x := by
    intro k
    induction k with
    | zero => rfl
    | succ k ih => show f (it f k (it f n x)) = _; rw [ih, e]
  rw [fix] at hk
  rw [hk] at e
  exact hn e
theorem unS_cyc {f : Str → Str} {l seen : List Str} (h : PermOn f l) {x : Str} (hx : x ∈ l) (hn : f x ≠ x) (hd : ∀ z, z ∈ cyc f l x → z ∉ seen) : unS f l seen = (cyc f l x).length + unS f l (seen ++ cyc f l x) := by
  obtain ⟨t, et, _, cn, csub⟩ := cyc_facts h hx
  rw [← et] at cn csub
  unfold unS
  rw [filt_split _ (fun z => decide (z ∈ cyc f l x))]
  have e1 : (l.filter fun z => (decide (z ∉ seen) && decide (f z ≠ z)) && decide (z ∈ cyc f l x)).length = (cyc f l x).length := by
    apply Nat.le_antisymm
    · refine len_sub (h.nd.filter _) fun z hz => ?_
      have := (List.mem_filter.mp hz).2
      simp at this
      exact this.2
    · refine len_sub cn fun z hz => List.mem_filter.mpr ⟨csub z hz, ?_⟩
      have h1 := hd z hz
      have h2 := cyc_nt h hx hn hz
      simp [h1, h2, hz]
  have e2 : (l.filter fun z => (decide (z ∉ seen) && decide (f z ≠ z)) && !decide (z ∈ cyc f l x)) = l.filter fun z => decide (z ∉ seen ++ cyc f l x) && decide (f z ≠ z) := List.filter_congr fun z _ => by
    by_cases h1 : z ∈ seen <;> by_cases h2 : f z = z <;> by_cases h3 : z ∈ cyc f l x <;> simp [h1, h2, h3]
  rw [e1, e2]
theorem gap_sum {f : Str → Str} {l : List Str} (h : PermOn f l) : ∀ (xs seen : List Str), (∀ x, x ∈ xs → x ∈ l) → (∀ y, y ∈ l → f y ≠ y → y ∉ seen → ∀ z, z ∈ cyc f l y → z ∉ seen) → (∀ y, y ∈ xs → f y ≠ y → y ∉ seen → ("" : Str) ∉ cyc f l y) → (∀ z, z ∈ l → z ∉ seen → f z ≠ z → z ∈ xs) →
    ((goC f (cyc f l) xs seen).map gapI).sum = (unS f l seen : Int) + ((goC f (cyc f l) xs seen).length : Int) ∧ ∀ c, c ∈ goC f (cyc f l) xs seen → ("" : Str) ∉ c
  | [], seen, _, _, _, hf => by
    have : unS f l seen = 0 := by
      unfold unS
      rw [List.length_eq_zero_iff, List.filter_eq_nil_iff]
      intro z hz q
      simp at q
      cases hf z hz q.1 q.2
    rw [this]
    exact ⟨rfl, fun c hc => by cases hc⟩
  | x :: r, seen, hl, hd, hE, hf => by
    have xl := hl x List.mem_cons_self
    by_cases hh : f x ≠ x ∧ x ∉ seen
    · have hdis := hd x xl hh.1 hh.2
      obtain ⟨t, et, _, _, _⟩ := cyc_facts h xl
      have hno := hE x List.mem_cons_self hh.1 hh.2
      obtain ⟨i1, i2⟩ := gap_sum h r (seen ++ cyc f l x) (fun z hz => hl z (List.mem_cons_of_mem _ hz)) (fun y hy h1 h2 z hz q => by
        rcases List.mem_append.mp q with q | q
        · exact hd y hy h1 (fun w => h2 (List.mem_append_left _ w)) z hz q
        · exact cyc_dis h xl hy (fun w => h2 (List.mem_append_right _ w)) z hz q) (fun y hy h1 h2 => hE y (List.mem_cons_of_mem _ hy) h1 fun w => h2 (List.mem_append_left _ w)) (fun z hz h1 h2 => by
        rcases List.mem_cons.mp (hf z hz (fun q => h1 (List.mem_append_left _ q)) h2) with e | h3
        · exact absurd (List.mem_append_right _ (by rw [e, et]; exact List.mem_cons_self)) h1
        · exact h3)
      rw [goC_pos hh.1 hh.2]
      have eg : gapI (cyc f l x) = ((cyc f l x).length : Int) + 1 := by
        unfold gapI
        rw [if_neg]
        rw [et]
        intro e
        have e : x = "" := e
        exact hno (by rw [et, e]; exact List.mem_cons_self)
      refine ⟨?_, fun c hc => ?_⟩
      · rw [List.map_cons, List.sum_cons, i1, eg, unS_cyc h xl hh.1 hdis, List.length_cons]
        omega
      · rcases List.mem_cons.mp hc with e | hc
        · rw [e]; exact hno
        · exact i2 c hc
    · rw [goC_neg hh]
      exact gap_sum h r seen (fun z hz => hl z (List.mem_cons_of_mem _ hz)) hd (fun y hy => hE y (List.mem_cons_of_mem _ hy)) fun z hz h1 h2 => by
        rcases List.mem_cons.mp (hf z hz h1 h2) with e | h3
        · subst e; exact absurd ⟨h2, h1⟩ hh
        · exact h3
def movN (qs : List (Str × Str)) : Nat := (qs.filter fun q : Str × Str => decide (q.1 ≠ q.2) && decide (q.1 ≠ ("" : Str))).length
theorem movN_eq {qs : List (Str × Str)} (v : VP qs) : movN qs = ((labs qs).filter fun z : Str => decide (fOf qs z ≠ z) && decide (z ≠ ("" : Str))).length := by
  unfold movN labs
  rw [List.filter_map, List.length_map]
  congr 1
  refine List.filter_congr fun q hq => ?_
  have := fOf_at v hq
  show _ = (decide (fOf qs q.1 ≠ q.1) && decide (q.1 ≠ ""))
  rw [this]
  by_cases e : q.1 = q.2
  · simp [e]
  · have : ¬ q.2 = q.1 := fun z => e z.symm
    simp [e, this]
theorem filt_all {α : Type} {p : α → Bool} {l : List α} (h : ∀ x, x ∈ l → p x = true) : l.filter p = l := List.filter_eq_self.mpr h
theorem em_least {qs : List (Str × Str)} (v : VP qs) (h : ("" : Str) ∈ labs qs) : ∃ r, labs qs = ("" : Str) :: r := by
  have pw := v.pw
  cases hl : labs qs with
  | nil => rw [hl] at h; cases h
  | cons x r =>
    rw [hl] at h pw
    rcases List.mem_cons.mp h with e | h
    · rw [← e]; exact ⟨r, rfl⟩
    · have := (List.pairwise_cons.mp pw).1 _ h
      have e0 : ("" : Str).cps.toList = [] := by decide +kernel
      unfold ltS at this
      rw [e0] at this
      have hx : x.cps.toList = [] := by
        cases hc : x.cps.toList with
        | nil => rfl
        | cons a b =>
          rw [hc] at this
          simp at this
      have : x = "" := str_eq (by rw [hx, e0])
      exact ⟨r, by rw [this]⟩
theorem gap_dist {qs : List (Str × Str)} (v : VP qs) : gapN qs = (movN qs : Int) + (((cycs qs).filter fun c => decide (("" : Str) ∉ c)).length : Int) := by
  have h := v.on
  unfold gapN cycs
  by_cases he : ("" : Str) ∈ labs qs
  · obtain ⟨r, hr⟩ := em_least v he
    have nd := v.nd
    rw [hr] at nd
    obtain ⟨n1, n2⟩ := List.nodup_cons.mp nd
    have rl : ∀ x, x ∈ r → x ∈ labs qs := fun x hx => by rw [hr]; exact List.mem_cons_of_mem _ hx
    have hmv : movN qs = (r.filter fun z => decide (fOf qs z ≠ z)).length := by
      rw [movN_eq v, hr, List.filter_cons_of_neg (by simp)]
      congr 1
      refine List.filter_congr fun z hz => ?_
      have : z ≠ "" := fun e => n1 (e ▸ hz)
      simp [this]
    by_cases hf : fOf qs "" ≠ ""
    · have e1 : goC (fOf qs) (cyc (fOf qs) (labs qs)) (labs qs) [] = cyc (fOf qs) (labs qs) "" :: goC (fOf qs) (cyc (fOf qs) (labs qs)) r ([] ++ cyc (fOf qs) (labs qs) "") := by
        conv => lhs; arg 3; rw [hr]
        exact goC_pos hf (fun q => by cases q)
      obtain ⟨t, et, _, _, _⟩ := cyc_facts h he
      have hin : ("" : Str) ∈ cyc (fOf qs) (labs qs) "" := by rw [et]; exact List.mem_cons_self
      obtain ⟨i1, i2⟩ := gap_sum h r ([] ++ cyc (fOf qs) (labs qs) "") rl (fun y hy _ h2 z hz q => cyc_dis h he hy (fun w => h2 (List.mem_append_right _ w)) z hz ((List.mem_append.mp q).resolve_left fun w => by cases w)) (fun y hy _ h2 w => cyc_dis h he (rl y hy) (fun w => h2 (List.mem_append_right _ w)) "" w hin) (fun z hz h1 _ => by
        rw [hr] at hz
        rcases List.mem_cons.mp hz with e | hz
        · rw [e] at h1; exact absurd (List.mem_append_right _ hin) h1
        · exact hz)
      have hu := unS_cyc (seen := []) h he hf (fun z _ q => by cases q)
      have hu0 : unS (fOf qs) (labs qs) [] = movN qs + 1 := by
        unfold unS
        rw [hmv, hr, List.filter_cons_of_pos (by simp [hf])]
        simp
      have eg : gapI (cyc (fOf qs) (labs qs) "") = ((cyc (fOf qs) (labs qs) "").length : Int) - 1 := by
        unfold gapI
        rw [if_pos (by rw [et]; rfl)]
      rw [e1, List.map_cons, List.sum_cons, i1, eg, List.filter_cons_of_neg (by simpa using hin), filt_all (fun c hc => decide_eq_true (i2 c hc))]
      omega
    · have hf : fOf qs "" = "" := Classical.not_not.mp hf
      have e1 : goC (fOf qs) (cyc (fOf qs) (labs qs)) (labs qs) [] = goC (fOf qs) (cyc (fOf qs) (labs qs)) r [] := by
        conv => lhs; arg 3; rw [hr]
        exact goC_neg (fun q => q.1 hf)
      have fix : ∀ k, it (fOf qs) k "" = "" := by
        intro k
        induction k with
        | zero => rfl
        | succ k ih => show fOf qs (it (fOf qs) k "") = ""; rw [ih, hf]
      obtain ⟨i1, i2⟩ := gap_sum h r [] rl (fun y hy _ h2 z hz q => by cases q) (fun y hy h1 _ w => by
        obtain ⟨n, hn⟩ := (cyc_mem h (rl y hy)).mp w
        obtain ⟨k, hk⟩ := it_inv h (rl y hy) n
        rw [← hn, fix] at hk
        rw [← hk] at h1
        exact h1 hf) (fun z hz _ h2 => by
        rw [hr] at hz
        rcases List.mem_cons.mp hz with e | hz
        · rw [e] at h2; exact absurd hf h2
        · exact hz)
      have hu0 : unS (fOf qs) (labs qs) [] = movN qs := by
        unfold unS
        rw [hmv, hr, List.filter_cons_of_neg (by simp [hf])]
        simp
      rw [e1, i1, hu0, filt_all (fun c hc => decide_eq_true (i2 c hc))]
  · obtain ⟨i1, i2⟩ := gap_sum h (labs qs) [] (fun _ h => h) (fun y hy _ h2 z hz q => by cases q) (fun y hy h1 _ w => by
      obtain ⟨t, et, _, _, csub⟩ := cyc_facts h hy
      exact he (csub "" (by rw [← et]; exact w))) (fun z hz _ _ => hz)
    have hu0 : unS (fOf qs) (labs qs) [] = movN qs := by
      unfold unS
      rw [movN_eq v]
      congr 1
      refine List.filter_congr fun z hz => ?_
      have : z ≠ "" := fun e => he (e ▸ hz)
      simp [this]
    rw [i1, hu0, filt_all (fun c hc => decide_eq_true (i2 c hc))]
end Dv
namespace Dv
/-! ### exchanging a place with the gap, counted -/
section
variable {α : Type} [DecidableEq α]
theorem cnt_split (p q : α → Bool) : ∀ l : List α, (l.filter p).length = (l.filter fun z => p z && q z).length + (l.filter fun z => p z && !q z).length
  | [] => rfl
  | x :: l => by
    have ih := cnt_split p q l
    cases hp : p x <;> cases hq : q x <;> simp [List.filter_cons, hp, hq] <;> omega
/-- predicates that differ at x alone -/
theorem cnt_at {p q : α → Bool} {x : α} : ∀ {l : List α}, l.Nodup → x ∈ l → (∀ z, z ∈ l → z ≠ x → p z = q z) → (l.filter p).length + (if q x = true then 1 else 0) = (l.filter q).length + (if p x = true then 1 else 0)
  | [], _, h, _ => by cases h
  | y :: l, nd, h, e => by
    obtain ⟨h1, h2⟩ := List.nodup_cons.mp nd
    by_cases hy : y = x
    · subst hy
      have : l.filter p = l.filter q := List.filter_congr fun z hz => e z (List.mem_cons_of_mem _ hz) fun k => h1 (k ▸ hz)
      rw [List.filter_cons, List.filter_cons, this]
      cases p y <;> cases q y <;> simp
    · have ih := cnt_at h2 ((List.mem_cons.mp h).resolve_left fun k => hy k.symm) fun z hz => e z (List.mem_cons_of_mem _ hz)
      have ey := e y List.mem_cons_self hy
      rw [List.filter_cons, List.filter_cons, ey]
      cases q y <;> simp <;> omega
section
variable {f : α → α} {l : List α} (h : PermOn f l)
include h
theorem cyc_self {x : α} (hx : x ∈ l) : x ∈ cyc f l x := (cyc_mem h hx).mpr ⟨0, rfl⟩
theorem cyc_step {x z : α} (hx : x ∈ l) (hz : z ∈ cyc f l x) : f z ∈ cyc f l x := by
  obtain ⟨n, rfl⟩ := (cyc_mem h hx).mp hz
  exact (cyc_mem h hx).mpr ⟨n + 1, rfl⟩
theorem cyc_in {x z : α} (hx : x ∈ l) (hz : z ∈ cyc f l x) : z ∈ l := by
  obtain ⟨n, rfl⟩ := (cyc_mem h hx).mp hz
  exact it_mem h hx n
theorem cyc_sym {x z : α} (hx : x ∈ l) (hz : z ∈ cyc f l x) : x ∈ cyc f l z := by
  obtain ⟨n, rfl⟩ := (cyc_mem h hx).mp hz
  obtain ⟨k, hk⟩ := it_inv h hx n
  exact (cyc_mem h (it_mem h hx n)).mpr ⟨k, hk.symm⟩
theorem cyc_trans {x y z : α} (hx : x ∈ l) (hy : y ∈ cyc f l x) (hz : z ∈ cyc f l y) : z ∈ cyc f l x := by
  obtain ⟨n, rfl⟩ := (cyc_mem h hx).mp hy
  obtain ⟨k, rfl⟩ := (cyc_mem h (it_mem h hx n)).mp hz
  exact (cyc_mem h hx).mpr ⟨n + k, (it_add f x n k).symm⟩
theorem cyc_one {x z : α} (hx : x ∈ l) (e : f x = x) (hz : z ∈ cyc f l x) : z = x := by
  obtain ⟨n, rfl⟩ := (cyc_mem h hx).mp hz
  induction n with
  | zero => rfl
  | succ n ih =>
    have := ih ((cyc_mem h hx).mpr ⟨n, rfl⟩)
    show f (it f n x) = x
    rw [this, e]
theorem cyc_mv {x z : α} (hx : x ∈ l) (hn : f x ≠ x) (hz : z ∈ cyc f l x) : f z ≠ z := fun e => by
  have := cyc_one h (cyc_in h hx hz) e (cyc_sym h hx hz)
  rw [← this] at e
  exact hn e
end
variable (lt : α → α → Bool)
/-- z is the first of a nontrivial cycle without the gap -/
def firstC (f : α → α) (l : List α) (g z : α) : Bool := decide (f z ≠ z) && (decide (g ∉ cyc f l z) && l.all fun y => !(decide (y ∈ cyc f l z) && lt y z))
def kC (f : α → α) (l : List α) (g : α) : Nat := (l.filter (firstC lt f l g)).length
def movC (f : α → α) (l : List α) (g : α) : Nat := (l.filter fun z => decide (f z ≠ z) && decide (z ≠ g)).length
def exF (f : α → α) (g x : α) : α → α := fun z => f (sw g x z)
variable {lt}
theorem firstC_iff {f : α → α} {l : List α} {g z : α} : firstC lt f l g z = true ↔ f z ≠ z ∧ g ∉ cyc f l z ∧ ∀ y, y ∈ l → y ∈ cyc f l z → lt y z = false := by
  unfold firstC
  rw [Bool.and_eq_true, Bool.and_eq_true, decide_eq_true_eq, decide_eq_true_eq, List.all_eq_true]
  constructor
  · rintro ⟨a, b, c⟩
    refine ⟨a, b, fun y hy hc => ?_⟩
    have := c y hy
    rw [decide_eq_true hc] at this
    simpa using this
  · rintro ⟨a, b, c⟩
    refine ⟨a, b, fun y hy => ?_⟩
    by_cases hc : y ∈ cyc f l z
    · rw [c y hy hc]; simp
    · rw [decide_eq_false hc]; rfl
theorem sw_sw (x y z : α) : sw x y (sw x y z) = z := by
  by_cases h1 : z = x
  · rw [h1, sw_l, sw_r]
  · by_cases h2 : z = y
    · rw [h2, sw_r, sw_l]
    · rw [sw_o h1 h2, sw_o h1 h2]
theorem sw_in {l : List α} {g x z : α} (hg : g ∈ l) (hx : x ∈ l) (hz : z ∈ l) : sw g x z ∈ l := by
  unfold sw
  by_cases h1 : z = g
  · rw [if_pos h1]; exact hx
  · rw [if_neg h1]
    by_cases h2 : z = x
    · rw [if_pos h2]; exact hg
    · rw [if_neg h2]; exact hz
theorem exF_on {f : α → α} {l : List α} (h : PermOn f l) {g x : α} (hg : g ∈ l) (hx : x ∈ l) : PermOn (exF f g x) l where
  nd := h.nd
  to z hz := h.to _ (sw_in hg hx hz)
  inj a b ha hb e := sw_inj (h.inj _ _ (sw_in hg hx ha) (sw_in hg hx hb) e)
theorem exF_exF {f : α → α} {g x : α} : exF (exF f g x) g x = f := by
  funext z
  show f (sw g x (sw g x z)) = f z
  rw [sw_sw]
theorem exF_g {f : α → α} {g x : α} : exF f g x g = f x := by show f (sw g x g) = _; rw [sw_l]
theorem exF_x {f : α → α} {g x : α} : exF f g x x = f g := by show f (sw g x x) = _; rw [sw_r]
theorem exF_o {f : α → α} {g x z : α} (h1 : z ≠ g) (h2 : z ≠ x) : exF f g x z = f z := by show f (sw g x z) = _; rw [sw_o h1 h2]
def inU (f : α → α) (l : List α) (g x z : α) : Prop := z ∈ cyc f l g ∨ z ∈ cyc f l x
theorem inU_step {f : α → α} {l : List α} (h : PermOn f l) {g x z : α} (hg : g ∈ l) (hx : x ∈ l) (u : inU f l g x z) : inU f l g x (f z) := u.elim (fun u => .inl (cyc_step h hg u)) fun u => .inr (cyc_step h hx u)
theorem inU_it {f : α → α} {l : List α} (h : PermOn f l) {g x z : α} (hg : g ∈ l) (hx : x ∈ l) (u : inU f l g x z) : ∀ n, inU f l g x (it f n z)
  | 0 => u
  | n + 1 => inU_step h hg hx (inU_it h hg hx u n)
theorem inU_ex {f : α → α} {l : List α} (h : PermOn f l) {g x z : α} (hg : g ∈ l) (hx : x ∈ l) (u : inU (exF f g x) l g x z) : inU f l g x z := by
  have key : ∀ w, inU f l g x w → inU f l g x (exF f g x w) := fun w u => by
    by_cases h1 : w = g
    · rw [h1, exF_g]; exact .inr (cyc_step h hx (cyc_self h hx))
    · by_cases h2 : w = x
      · rw [h2, exF_x]; exact .inl (cyc_step h hg (cyc_self h hg))
      · rw [exF_o h1 h2]; exact inU_step h hg hx u
  have key2 : ∀ w, inU f l g x w → ∀ n, inU f l g x (it (exF f g x) n w) := fun w u n => by
    induction n with
    | zero => exact u
    | succ n ih => exact key _ ih
  rcases u with u | u
  · obtain ⟨n, rfl⟩ := (cyc_mem (exF_on h hg hx) hg).mp u
    exact key2 g (.inl (cyc_self h hg)) n
  · obtain ⟨n, rfl⟩ := (cyc_mem (exF_on h hg hx) hx).mp u
    exact key2 x (.inr (cyc_self h hx)) n
theorem inU_iff {f : α → α} {l : List α} (h : PermOn f l) {g x z : α} (hg : g ∈ l) (hx : x ∈ l) : inU (exF f g x) l g x z ↔ inU f l g x z := by
  refine ⟨inU_ex h hg hx, fun u => ?_⟩
  have := inU_ex (exF_on h hg hx) hg hx (z := z)
  rw [exF_exF] at this
  exact this u
theorem out_it {f : α → α} {l : List α} (h : PermOn f l) {g x z : α} (hg : g ∈ l) (hx : x ∈ l) (hz : z ∈ l) (u : ¬ inU f l g x z) : ∀ n, it (exF f g x) n z = it f n z
  | 0 => rfl
  | n + 1 => by
    have out : ¬ inU f l g x (it f n z) := fun q => by
      obtain ⟨k, hk⟩ := it_inv h hz n
      have := inU_it h hg hx q k
      rw [hk] at this
      exact u this
    show exF f g x (it (exF f g x) n z) = f (it f n z)
    rw [out_it h hg hx hz u n]
    refine exF_o (fun e => out ?_) (fun e => out ?_)
    · rw [e]; exact .inl (cyc_self h hg)
    · rw [e]; exact .inr (cyc_self h hx)
theorem out_cyc {f : α → α} {l : List α} (h : PermOn f l) {g x z y : α} (hg : g ∈ l) (hx : x ∈ l) (hz : z ∈ l) (u : ¬ inU f l g x z) : y ∈ cyc (exF f g x) l z ↔ y ∈ cyc f l z := by
  rw [cyc_mem (exF_on h hg hx) hz, cyc_mem h hz]
  constructor
  · rintro ⟨n, hn⟩; exact ⟨n, by rw [hn, out_it h hg hx hz u]⟩
  · rintro ⟨n, hn⟩; exact ⟨n, by rw [hn, out_it h hg hx hz u]⟩
theorem firstC_congr {f f' : α → α} {l : List α} {g z : α} (e1 : f' z = f z) (e2 : ∀ y, y ∈ cyc f' l z ↔ y ∈ cyc f l z) : firstC lt f' l g z = firstC lt f l g z := by
  have : firstC lt f' l g z = true ↔ firstC lt f l g z = true := by
    rw [firstC_iff, firstC_iff, e1, e2]
    exact ⟨fun ⟨a, b, c⟩ => ⟨a, b, fun y hy q => c y hy ((e2 y).mpr q)⟩, fun ⟨a, b, c⟩ => ⟨a, b, fun y hy q => c y hy ((e2 y).mp q)⟩⟩
  cases h1 : firstC lt f' l g z <;> cases h2 : firstC lt f l g z <;> simp [h1, h2] at this ⊢
theorem exists_first {p : α → Prop} [DecidablePred p] : ∀ {l : List α}, (∃ z, z ∈ l ∧ p z) → l.Pairwise (fun a b => lt b a = false) → (∀ a, lt a a = false) → ∃ z, z ∈ l ∧ p z ∧ ∀ y, y ∈ l → p y → lt y z = false
  | [], ⟨_, h, _⟩, _, _ => by cases h
  | x :: l, ⟨z, hz, pz⟩, pw, ir => by
    obtain ⟨h1, h2⟩ := List.pairwise_cons.mp pw
    by_cases hx : p x
    · exact ⟨x, List.mem_cons_self, hx, fun y hy _ => (List.mem_cons.mp hy).elim (fun e => by rw [e]; exact ir x) fun hy => h1 y hy⟩
    · have hz2 : z ∈ l := (List.mem_cons.mp hz).resolve_left fun e => hx (e ▸ pz)
      obtain ⟨w, a, b, c⟩ := exists_first ⟨z, hz2, pz⟩ h2 ir
      exact ⟨w, List.mem_cons_of_mem _ a, b, fun y hy py => (List.mem_cons.mp hy).elim (fun e => absurd (e ▸ py) hx) fun hy => c y hy py⟩
open Classical in
/-- among the places in the two cycles at most one is such a first -/
theorem cnt_in (T : Tot lt) (ir : ∀ a, lt a a = false) {f : α → α} {l : List α} (h : PermOn f l) (pw : l.Pairwise fun a b => lt b a = false) {g x : α} (hg : g ∈ l) (hx : x ∈ l) :
    (l.filter fun z => firstC lt f l g z && decide (inU f l g x z)).length = if x ∉ cyc f l g ∧ f x ≠ x then 1 else 0 := by
  have only : ∀ z, z ∈ l → firstC lt f l g z = true → inU f l g x z → x ∉ cyc f l g ∧ f x ≠ x ∧ z ∈ cyc f l x := fun z hz hf u => by
    obtain ⟨a, b, c⟩ := firstC_iff.mp hf
    have zg : z ∉ cyc f l g := fun q => b (cyc_sym h hg q)
    have zx : z ∈ cyc f l x := u.resolve_left zg
    exact ⟨fun q => zg (cyc_trans h hg q zx), fun e => by rw [cyc_one h hx e zx] at a; exact a e, zx⟩
  by_cases hc : x ∉ cyc f l g ∧ f x ≠ x
  · rw [if_pos hc]
    obtain ⟨z0, z1, z2, z3⟩ := exists_first (lt := lt) (p := fun z => z ∈ cyc f l x) ⟨x, hx, cyc_self h hx⟩ pw ir
    have f0 : firstC lt f l g z0 = true := firstC_iff.mpr ⟨cyc_mv h hx hc.2 z2, fun q => hc.1 (cyc_sym h hx (cyc_trans h hx z2 q)), fun y hy q => z3 y hy (cyc_trans h hx z2 q)⟩
    apply Nat.le_antisymm
    · refine len_sub (b := [z0]) (h.nd.filter _) fun z hz => ?_
      obtain ⟨m1, m2⟩ := List.mem_filter.mp hz
      rw [Bool.and_eq_true, decide_eq_true_eq] at m2
      obtain ⟨_, _, zx⟩ := only z m1 m2.1 m2.2
      obtain ⟨a, b, c⟩ := firstC_iff.mp m2.1
      have e1 := z3 z m1 zx
      have e2 := c z0 z1 (cyc_trans h m1 (cyc_sym h hx zx) z2)
      by_cases e : z = z0
      · rw [e]; exact List.mem_cons_self
      · have := T z z0 e
        rw [e1, e2] at this
        cases this
    · refine len_sub (a := [z0]) (List.nodup_cons.mpr ⟨List.not_mem_nil, List.nodup_nil⟩) fun z hz => ?_
      rw [List.mem_singleton.mp hz]
      exact List.mem_filter.mpr ⟨z1, by rw [Bool.and_eq_true, decide_eq_true_eq]; exact ⟨f0, .inr z2⟩⟩
  · rw [if_neg hc, List.length_eq_zero_iff, List.filter_eq_nil_iff]
    intro z hz q
    rw [Bool.and_eq_true, decide_eq_true_eq] at q
    obtain ⟨a, b, _⟩ := only z hz q.1 q.2
    exact hc ⟨a, b⟩
open Classical in
theorem kC_ex (T : Tot lt) (ir : ∀ a, lt a a = false) {f : α → α} {l : List α} (h : PermOn f l) (pw : l.Pairwise fun a b => lt b a = false) {g x : α} (hg : g ∈ l) (hx : x ∈ l) :
    kC lt (exF f g x) l g + (if x ∉ cyc f l g ∧ f x ≠ x then 1 else 0) = kC lt f l g + (if x ∉ cyc (exF f g x) l g ∧ f g ≠ x then 1 else 0) := by
  have a1 := cnt_in T ir h pw hg hx
  have a2 := cnt_in T ir (exF_on h hg hx) pw hg hx
  rw [exF_x] at a2
  unfold kC
  rw [cnt_split (firstC lt f l g) fun z => decide (inU f l g x z), cnt_split (firstC lt (exF f g x) l g) fun z => decide (inU (exF f g x) l g x z), a1, a2]
  have e : (l.filter fun z => firstC lt (exF f g x) l g z && !decide (inU (exF f g x) l g x z)) = l.filter fun z => firstC lt f l g z && !decide (inU f l g x z) := List.filter_congr fun z hz => by
    have hi := inU_iff h hg hx (z := z)
    by_cases u : inU f l g x z
    · rw [decide_eq_true u, decide_eq_true (hi.mpr u)]; simp
    · rw [decide_eq_false u, decide_eq_false fun q => u (hi.mp q), firstC_congr (exF_o (fun e => u (.inl (by rw [e]; exact cyc_self h hg))) (fun e => u (.inr (by rw [e]; exact cyc_self h hx)))) fun y => out_cyc h hg hx hz u]
  rw [e]
  omega
theorem movC_ex {f : α → α} {l : List α} (h : PermOn f l) {g x : α} (hx : x ∈ l) (ne : x ≠ g) :
    movC (exF f g x) l g + (if f x ≠ x then 1 else 0) = movC f l g + (if f g ≠ x then 1 else 0) := by
  have := cnt_at (p := fun z => decide (exF f g x z ≠ z) && decide (z ≠ g)) (q := fun z => decide (f z ≠ z) && decide (z ≠ g)) h.nd hx fun z hz e => by
    by_cases h1 : z = g
    · simp [h1]
    · rw [exF_o h1 e]
  have e1 : (decide (f x ≠ x) && decide (x ≠ g)) = true ↔ f x ≠ x := by simp [ne]
  have e2 : (decide (exF f g x x ≠ x) && decide (x ≠ g)) = true ↔ f g ≠ x := by rw [exF_x]; simp [ne]
  simp only [e1, e2] at this
  exact this
/-- the exchange with x lowers -/
def lowX (f : α → α) (l : List α) (g x : α) : Prop := f x ≠ x ∧ (f g = x ∨ x ∉ cyc f l g)
open Classical in
theorem ex_step (T : Tot lt) (ir : ∀ a, lt a a = false) {f : α → α} {l : List α} (h : PermOn f l) (pw : l.Pairwise fun a b => lt b a = false) {g x : α} (hg : g ∈ l) (hx : x ∈ l) (ne : x ≠ g)
    (par : (movC f l g + kC lt f l g + (movC (exF f g x) l g + kC lt (exF f g x) l g)) % 2 = 1) :
    (lowX f l g x → movC (exF f g x) l g + kC lt (exF f g x) l g + 1 = movC f l g + kC lt f l g) ∧ (¬ lowX f l g x → movC (exF f g x) l g + kC lt (exF f g x) l g = movC f l g + kC lt f l g + 1) := by
  have a1 := kC_ex T ir h pw hg hx
  have a2 := movC_ex h hx ne (g := g)
  have nb : ¬ (f x = x ∧ f g = x) := fun ⟨e1, e2⟩ => ne (h.inj _ _ hx hg (e1.trans e2.symm))
  unfold lowX
  by_cases c1 : f x = x <;> by_cases c2 : f g = x <;> by_cases c3 : x ∈ cyc f l g <;> by_cases c4 : x ∈ cyc (exF f g x) l g <;> simp [c1, c2, c3, c4] at a1 a2 nb ⊢ <;> omega
/-- the cycles found from the left, counted -/
theorem goC_cnt (T : Tot lt) (ir : ∀ a, lt a a = false) {f : α → α} {l : List α} (h : PermOn f l) (pw : l.Pairwise fun a b => lt b a = false) {g : α} : ∀ (xs pre seen : List α), l = pre ++ xs → (∀ z, f z ≠ z → (z ∈ seen ↔ ∃ y, y ∈ pre ∧ f y ≠ y ∧ z ∈ cyc f l y)) →
    ((goC f (cyc f l) xs seen).filter fun c => decide (g ∉ c)).length = (xs.filter (firstC lt f l g)).length
  | [], _, _, _, _ => rfl
  | x :: r, pre, seen, el, hs => by
    have xl : x ∈ l := by rw [el]; exact List.mem_append_right _ List.mem_cons_self
    have el2 : l = (pre ++ [x]) ++ r := by rw [el, List.append_assoc]; rfl
    have pw2 := pw
    have nd2 := h.nd
    rw [el] at pw2 nd2
    obtain ⟨_, p2, p3⟩ := List.pairwise_append.mp pw2
    obtain ⟨p4, _⟩ := List.pairwise_cons.mp p2
    obtain ⟨_, _, dis⟩ := List.nodup_append.mp nd2
    have keep : ∀ s : List α, (∀ z, f z ≠ z → (z ∈ s ↔ ∃ y, y ∈ pre ++ [x] ∧ f y ≠ y ∧ z ∈ cyc f l y)) → ((goC f (cyc f l) r s).filter fun c => decide (g ∉ c)).length = (r.filter (firstC lt f l g)).length := fun s hs2 => goC_cnt T ir h pw r (pre ++ [x]) s el2 hs2
    by_cases h1 : f x ≠ x
    · by_cases h2 : x ∈ seen
      · have e1 : goC f (cyc f l) (x :: r) seen = goC f (cyc f l) r seen := by
          show (if f x ≠ x ∧ x ∉ seen then _ else _) = _
          rw [if_neg fun q => q.2 h2]
        obtain ⟨y, y1, y2, y3⟩ := (hs x h1).mp h2
        have yl : y ∈ l := by rw [el]; exact List.mem_append_left _ y1
        have nf : ¬ firstC lt f l g x = true := fun q => by
          have := (firstC_iff.mp q).2.2 y yl (cyc_sym h yl y3)
          have ne : y ≠ x := dis y y1 x List.mem_cons_self
          have t := T y x ne
          rw [this, p3 y y1 x List.mem_cons_self] at t
          cases t
        rw [e1, List.filter_cons_of_neg nf]
        refine keep seen fun z hz => ?_
        rw [hs z hz]
        constructor
        · rintro ⟨w, a, b, c⟩; exact ⟨w, List.mem_append_left _ a, b, c⟩
        · rintro ⟨w, a, b, c⟩
          rcases List.mem_append.mp a with a | a
          · exact ⟨w, a, b, c⟩
          · rw [List.mem_singleton.mp a] at c
            exact ⟨y, y1, y2, cyc_trans h yl y3 c⟩
      · have e1 : goC f (cyc f l) (x :: r) seen = cyc f l x :: goC f (cyc f l) r (seen ++ cyc f l x) := by
          show (if f x ≠ x ∧ x ∉ seen then _ else _) = _
          rw [if_pos ⟨h1, h2⟩]
        have fi : firstC lt f l g x = decide (g ∉ cyc f l x) := by
          have : firstC lt f l g x = true ↔ g ∉ cyc f l x := by
            rw [firstC_iff]
            refine ⟨fun q => q.2.1, fun q => ⟨h1, q, fun y hy hc => ?_⟩⟩
            rw [el] at hy
            rcases List.mem_append.mp hy with hy | hy
            · exact absurd ((hs x h1).mpr ⟨y, hy, cyc_mv h xl h1 hc, cyc_sym h xl hc⟩) h2
            · rcases List.mem_cons.mp hy with e | hy
              · rw [e]; exact ir x
              · exact p4 y hy
          by_cases q : g ∉ cyc f l x
          · rw [decide_eq_true q]; exact this.mpr q
          · rw [decide_eq_false q]
            cases hf : firstC lt f l g x
            · rfl
            · exact absurd (this.mp hf) q
        have ih := keep (seen ++ cyc f l x) fun z hz => by
          rw [List.mem_append, hs z hz]
          constructor
          · rintro (⟨w, a, b, c⟩ | c)
            · exact ⟨w, List.mem_append_left _ a, b, c⟩
            · exact ⟨x, List.mem_append_right _ List.mem_cons_self, h1, c⟩
          · rintro ⟨w, a, b, c⟩
            rcases List.mem_append.mp a with a | a
            · exact .inl ⟨w, a, b, c⟩
            · rw [List.mem_singleton.mp a] at c
              exact .inr c
        rw [e1, List.filter_cons, List.filter_cons, fi]
        by_cases q : g ∉ cyc f l x
        · rw [decide_eq_true q, if_pos rfl, if_pos rfl, List.length_cons, List.length_cons, ih]
        · rw [decide_eq_false q, if_neg Bool.false_ne_true, if_neg Bool.false_ne_true, ih]
    · have e1 : goC f (cyc f l) (x :: r) seen = goC f (cyc f l) r seen := by
        show (if f x ≠ x ∧ x ∉ seen then _ else _) = _
        rw [if_neg fun q => h1 q.1]
      rw [e1, List.filter_cons_of_neg fun q => h1 (firstC_iff.mp q).1]
      refine keep seen fun z hz => ?_
      rw [hs z hz]
      constructor
      · rintro ⟨w, a, b, c⟩; exact ⟨w, List.mem_append_left _ a, b, c⟩
      · rintro ⟨w, a, b, c⟩
        rcases List.mem_append.mp a with a | a
        · exact ⟨w, a, b, c⟩
        · rw [List.mem_singleton.mp a] at b
          exact absurd b h1
end
end Dv
namespace Dv
open PySem L2 PyProof.Rows
theorem perm_of_nodup {α : Type} [DecidableEq α] : ∀ {a b : List α}, a.Nodup → b.Nodup → (∀ z, z ∈ a → z ∈ b) → b.length ≤ a.length → a.Perm b
  | [], b, _, _, _, h => by
    have : b = [] := List.length_eq_zero_iff.mp (by simpa using h)
    rw [this]
  | x :: a, b, na, nb, h, hl => by
    obtain ⟨h1, h2⟩ := List.nodup_cons.mp na
    have hx := h x List.mem_cons_self
    have pb := List.perm_cons_erase hx
    have nb2 : (x :: b.erase x).Nodup := pb.nodup_iff.mp nb
    have hl2 := pb.length_eq
    rw [List.length_cons] at hl2 hl
    refine (List.Perm.cons x (perm_of_nodup h2 (List.nodup_cons.mp nb2).2 (fun z hz => ?_) (by omega))).trans pb.symm
    have := pb.mem_iff.mp (h z (List.mem_cons_of_mem _ hz))
    rcases List.mem_cons.mp this with e | h3
    · exact absurd (e ▸ hz) h1
    · exact h3
theorem PermOn.perm {α : Type} [DecidableEq α] {f : α → α} {l : List α} (h : PermOn f l) : (l.map f).Perm l := perm_of_nodup (List.pairwise_map.mpr (List.Pairwise.imp_of_mem (fun {a b} ha hb ne e => ne (h.inj a b ha hb e)) h.nd)) h.nd (fun z hz => by
  obtain ⟨y, hy, rfl⟩ := List.mem_map.mp hz
  exact h.to y hy) (by rw [List.length_map]; exact Nat.le_refl _)
/-- the permutation of the labels by another map -/
def byF (qs : List (Str × Str)) (f : Str → Str) : List (Str × Str) := qs.map fun q => (q.1, f q.1)
theorem byF_labs (qs : List (Str × Str)) (f : Str → Str) : labs (byF qs f) = labs qs := by
  unfold labs byF
  rw [List.map_map]
  rfl
theorem byF_snd (qs : List (Str × Str)) (f : Str → Str) : (byF qs f).map Prod.snd = (labs qs).map f := by
  unfold labs byF
  rw [List.map_map, List.map_map]
  rfl
theorem byF_vp {qs : List (Str × Str)} (v : VP qs) {f : Str → Str} (h : PermOn f (labs qs)) : VP (byF qs f) where
  nd := by rw [byF_labs]; exact v.nd
  perm := by rw [byF_snd, byF_labs]; exact h.perm
  len := by unfold byF; rw [List.length_map]; exact v.len
  srt := by rw [byF_labs]; exact v.srt
  tx := by rw [byF_labs]; exact v.tx
theorem byF_at {qs : List (Str × Str)} (v : VP qs) {f : Str → Str} (h : PermOn f (labs qs)) {z : Str} (hz : z ∈ labs qs) : fOf (byF qs f) z = f z := by
  obtain ⟨q, hq, rfl⟩ := List.mem_map.mp hz
  have : (q.1, f q.1) ∈ byF qs f := List.mem_map.mpr ⟨q, hq, rfl⟩
  exact fOf_at (byF_vp v h) this
theorem firstC_on {lt : Str → Str → Bool} {f f' : Str → Str} {l : List Str} (h : PermOn f l) (e : ∀ z, z ∈ l → f' z = f z) {g z : Str} (hz : z ∈ l) : firstC lt f' l g z = firstC lt f l g z := by
  have h' : PermOn f' l := ⟨h.nd, fun z hz => by rw [e z hz]; exact h.to z hz, fun a b ha hb q => h.inj a b ha hb (by rw [← e a ha, ← e b hb]; exact q)⟩
  have ite : ∀ n, it f' n z = it f n z := by
    intro n
    induction n with
    | zero => rfl
    | succ n ih => show f' (it f' n z) = f (it f n z); rw [ih]; exact e _ (it_mem h hz n)
  refine firstC_congr (e z hz) fun y => ?_
  rw [cyc_mem h' hz, cyc_mem h hz]
  constructor
  · rintro ⟨n, hn⟩; exact ⟨n, by rw [hn, ite]⟩
  · rintro ⟨n, hn⟩; exact ⟨n, by rw [hn, ite]⟩
theorem cnt_on {lt : Str → Str → Bool} {f f' : Str → Str} {l : List Str} (h : PermOn f l) (e : ∀ z, z ∈ l → f' z = f z) (g : Str) : kC lt f' l g = kC lt f l g ∧ movC f' l g = movC f l g := by
  unfold kC movC
  exact ⟨congrArg List.length (List.filter_congr fun z hz => firstC_on h e hz), congrArg List.length (List.filter_congr fun z hz => by rw [e z hz])⟩
theorem ltS_ir (a : Str) : ltS a a = false := ltS_irr a
/-- the distance, counted -/
def disN (f : Str → Str) (l : List Str) : Nat := movC f l "" + kC ltS f l ""
theorem gapN_dis {qs : List (Str × Str)} (v : VP qs) : gapN qs = (disN (fOf qs) (labs qs) : Int) := by
  rw [gap_dist v, movN_eq v]
  have := goC_cnt ltS_tot ltS_ir v.on v.pw (g := "") (labs qs) [] [] rfl fun z _ => Iff.intro (fun q => nomatch q) (fun ⟨y, h, _⟩ => nomatch h)
  unfold cycs disN movC kC
  rw [this]
  omega
theorem gapN_by {qs : List (Str × Str)} (v : VP qs) {f : Str → Str} (h : PermOn f (labs qs)) : gapN (byF qs f) = (disN f (labs qs) : Int) := by
  rw [gapN_dis (byF_vp v h), byF_labs]
  obtain ⟨a, b⟩ := cnt_on (lt := ltS) h (f' := fOf (byF qs f)) (fun z hz => byF_at v h hz) ""
  unfold disN
  rw [a, b]
theorem gapI_par : ∀ {cs : List (List Str)}, (∀ c ∈ cs, ∃ x t, c = x :: t) → ((cs.map gapI).sum - (((cs.map fun c => c.length - 1).sum : Nat) : Int)) % 2 = 0
  | [], _ => rfl
  | c :: cs, h => by
    obtain ⟨x, t, rfl⟩ := h c List.mem_cons_self
    have ih := gapI_par fun d hd => h d (List.mem_cons_of_mem _ hd)
    rw [List.map_cons, List.map_cons, List.sum_cons, List.sum_cons]
    have : gapI (x :: t) = (t.length : Int) ∨ gapI (x :: t) = (t.length : Int) + 2 := by
      unfold gapI
      by_cases e : (x :: t).headD "" = ""
      · rw [if_pos e]; left; simp
      · rw [if_neg e]; right; simp; omega
    have e2 : (x :: t).length - 1 = t.length := by simp
    rw [e2]
    rcases this with e | e <;> rw [e] <;> omega
theorem gapN_par {qs : List (Str × Str)} : (gapN qs - (oddN qs : Int)) % 2 = 0 := gapI_par fun c hc => cycs_ne hc
/-- the sign by the images -/
theorem dis_par {qs : List (Str × Str)} (v : VP qs) {f : Str → Str} (h : PermOn f (labs qs)) : (disN f (labs qs) + inv ltS ((labs qs).map f)) % 2 = 0 := by
  have h1 := gapN_by v h
  have h2 := gapN_par (qs := byF qs f)
  have h3 := (byF_vp v h).sign
  rw [byF_snd] at h3
  omega
theorem dis_ex {qs : List (Str × Str)} (v : VP qs) {f : Str → Str} (h : PermOn f (labs qs)) {x : Str} (h0 : ("" : Str) ∈ labs qs) (hx : x ∈ labs qs) (ne : x ≠ "") :
    (lowX f (labs qs) "" x → disN (exF f "" x) (labs qs) + 1 = disN f (labs qs)) ∧ (¬ lowX f (labs qs) "" x → disN (exF f "" x) (labs qs) = disN f (labs qs) + 1) := by
  have h' := exF_on h h0 hx
  have p1 := dis_par v h
  have p2 := dis_par v h'
  have e : (labs qs).map (exF f "" x) = ((labs qs).map f).map (sw (f "") (f x)) := by
    rw [List.map_map]
    refine List.map_congr_left fun z hz => ?_
    show f (sw ("" : Str) x z) = sw (f "") (f x) (f z)
    by_cases h1 : z = ""
    · rw [h1, sw_l, sw_l]
    · by_cases h2 : z = x
      · rw [h2, sw_r, sw_r]
      · rw [sw_o h1 h2, sw_o (fun q => h1 (h.inj _ _ hz h0 q)) (fun q => h2 (h.inj _ _ hz hx q))]
  have nd : ((labs qs).map f).Nodup := h.perm.nodup_iff.mpr v.nd
  have p3 := inv_sw ltS_tot (x := f "") (y := f x) (fun q => ne (h.inj _ _ h0 hx q).symm) nd (List.mem_map_of_mem h0) (List.mem_map_of_mem hx)
  rw [← e] at p3
  have := ex_step ltS_tot ltS_ir h v.pw h0 hx ne (by unfold disN at p1 p2; omega)
  unfold disN
  exact this
/-- the exchange before -/
def exB (qs : List (Str × Str)) (x : Str) : List (Str × Str) := byF qs (exF (fOf qs) "" x)
def lowQ (qs : List (Str × Str)) (x : Str) : Prop := lowX (fOf qs) (labs qs) "" x
theorem exB_vp {qs : List (Str × Str)} (v : VP qs) {x : Str} (h0 : ("" : Str) ∈ labs qs) (hx : x ∈ labs qs) : VP (exB qs x) := byF_vp v (exF_on v.on h0 hx)
theorem exB_gap {qs : List (Str × Str)} (v : VP qs) {x : Str} (h0 : ("" : Str) ∈ labs qs) (hx : x ∈ labs qs) (ne : x ≠ "") : (lowQ qs x → gapN (exB qs x) = gapN qs - 1) ∧ (¬ lowQ qs x → gapN (exB qs x) = gapN qs + 1) := by
  have := dis_ex v v.on h0 hx ne
  unfold exB
  rw [gapN_by v (exF_on v.on h0 hx), gapN_dis v]
  exact ⟨fun l => by have := this.1 l; omega, fun l => by have := this.2 l; omega⟩
/-- no distance, no move -/
theorem gap_zero {qs : List (Str × Str)} (v : VP qs) : gapN qs = 0 ↔ ∀ q, q ∈ qs → q.1 = q.2 := by
  rw [gapN_dis v]
  unfold disN movC kC
  constructor
  · intro h
    have h1 : ((labs qs).filter fun z => decide (fOf qs z ≠ z) && decide (z ≠ "")).length = 0 := by omega
    rw [List.length_eq_zero_iff, List.filter_eq_nil_iff] at h1
    have fix : ∀ z, z ∈ labs qs → z ≠ "" → fOf qs z = z := fun z hz ne => Classical.byContradiction fun q => h1 z hz (by simp [q, ne])
    intro q hq
    have hz : q.1 ∈ labs qs := List.mem_map_of_mem hq
    rw [← fOf_at v hq]
    by_cases e : q.1 = ""
    · have m2 := v.on.to _ hz
      by_cases e2 : fOf qs q.1 = ""
      · rw [e2, e]
      · exact (v.on.inj _ _ m2 hz (fix _ m2 e2)).symm
    · exact (fix _ hz e).symm
  · intro h
    have fix : ∀ z, z ∈ labs qs → fOf qs z = z := fun z hz => by
      obtain ⟨q, hq, rfl⟩ := List.mem_map.mp hz
      rw [fOf_at v hq, h q hq]
    have e1 : ((labs qs).filter fun z => decide (fOf qs z ≠ z) && decide (z ≠ "")) = [] := List.filter_eq_nil_iff.mpr fun z hz q => by simp [fix z hz] at q
    have e2 : ((labs qs).filter (firstC ltS (fOf qs) (labs qs) "")) = [] := List.filter_eq_nil_iff.mpr fun z hz q => (firstC_iff.mp q).1 (fix z hz)
    rw [e1, e2]
    rfl
end Dv
namespace Dv
open PySem L2 PyProof.Rows
/-! ### the permutation that the law makes -/
theorem wp_seqJ' {K : PySem.W.Frag} {ρ : Rho} {m : Sto} {k : Ko} {t1 t2 : TS} (I : Rho → Sto → Prop) (h1 : Wp K t1 ρ m { k with nx := I }) (h2 : ∀ ρ' m', I ρ' m' → Wp K t2 ρ' m' k) : Wp K (tSeq t1 t2) ρ m k :=
  wp_seq <| h1.mono (fun ρ' m' i => h2 ρ' m' i) (fun _ _ p => p) (fun _ _ p => p) (fun _ _ p => p)
end Dv
namespace Dv
open PySem L2 PyProof.Rows
open PySem.W (AllAlike Sortable dataLe)
def srtQ (ps : List (Str × Str)) : List (Str × Str) := ps.mergeSort (dataLe false pqD)
/-! ### sorted pairs -/
theorem pqs_lt (p q : (Str × Str)) (ne : p.1 ≠ q.1) : PySem.W.dataLt (pqD p) (pqD q) = Spec.ltCps p.1.cps.toList q.1.cps.toList := by
  unfold pqD
  rw [PySem.W.dataLt_pair (by simp [PySem.W.alike]) (by simp [PySem.W.alike])]
  have : PyData.eqv (.str p.1) (.str q.1) = false := by simp [PyData.eqv, ne]
  rw [this, if_neg Bool.false_ne_true, dataLt_strs]
theorem pw_rising : ∀ {r : List Str} {x : Str}, (∀ y ∈ r, geC x.cps.toList y.cps.toList) → r.Pairwise (fun a b => geC a.cps.toList b.cps.toList) → risingS x r = true
  | [], x, _, _ => rfl
  | y :: r, x, h, p => by
    obtain ⟨p1, p2⟩ := List.pairwise_cons.mp p
    rw [risingS.eq_2, Bool.and_eq_true]
    have g : Spec.ltCps y.cps.toList x.cps.toList = false := h y List.mem_cons_self
    exact ⟨by rw [g]; rfl, pw_rising p1 p2⟩
theorem pw_sorted {ys : List Str} (h : ys.Pairwise fun a b => geC a.cps.toList b.cps.toList) : sortedS ys = true := by
  cases ys with
  | nil => rfl
  | cons x r =>
    obtain ⟨p1, p2⟩ := List.pairwise_cons.mp h
    exact pw_rising p1 p2
theorem srtQ_perm (ps : List (Str × Str)) : (srtQ ps).Perm ps := List.mergeSort_perm _ _
theorem srtQ_srt {ps : List (Str × Str)} (nd : (ps.map Prod.fst).Nodup) : sortedS ((srtQ ps).map Prod.fst) = true := by
  have T := PySem.W.sortLe_total (PyProof.Rows.listOrd PyProof.Rows.itemOrd) false fun b : (Str × Str) => PySem.W.keyToks (pqD b)
  have pw : (srtQ ps).Pairwise fun a b => dataLe false pqD a b = true := PySem.W.sort_pairwise T ps
  have nd2 : ((srtQ ps).map Prod.fst).Nodup := ((srtQ_perm ps).map Prod.fst).nodup_iff.mpr nd
  refine pw_sorted (List.pairwise_map.mpr ?_)
  refine (List.Pairwise.and pw (List.pairwise_map.mp nd2)).imp fun {a b} h => ?_
  obtain ⟨h1, h2⟩ := h
  rw [PySem.W.dataLe_eq] at h1
  have h1 : PySem.W.dataLt (pqD b) (pqD a) = false := by simpa using h1
  rw [pqs_lt b a (Ne.symm h2)] at h1
  exact h1
/-! ### the exchanges of the law -/
end Dv
namespace Dv
open PySem L2 PyProof.Rows
open PySem.Calls
open PySem.W (EachIs AllAlike Sortable dataLe dataKind SortsAt sortingHeap)
/-! ### sorted(d.items()) of a dict from texts to texts -/
end Dv
namespace Dv
open PySem L2 PyProof.Rows
theorem gapN_b {qs : List (Str × Str)} (v : VP qs) : 0 ≤ gapN qs ∧ gapN qs < 27 := by
  have hl := v.len
  have hc := cycs_len qs
  have h1 := gap_dist v
  have h2 : movN qs ≤ qs.length := List.length_filter_le ..
  have h3 : ((cycs qs).filter fun c => decide (("" : Str) ∉ c)).length ≤ (cycs qs).length := List.length_filter_le ..
  omega
end Dv
namespace Dv
open PySem L2 PyProof.Rows
end Dv
namespace Dv
open PySem L2 PyProof.Rows
/-! ### the least exchange -/
theorem goC_memS {α : Type} [DecidableEq α] {f : α → α} {cyc : α → List α} : ∀ {xs seen : List α} {c : List α}, c ∈ goC f cyc xs seen → ∃ x, x ∈ xs ∧ f x ≠ x ∧ x ∉ seen ∧ c = cyc x
  | [], _, _, h => by cases h
  | x :: r, seen, c, h => by
    by_cases hh : f x ≠ x ∧ x ∉ seen
    · rw [goC_pos hh.1 hh.2] at h
      rcases List.mem_cons.mp h with e | h
      · exact ⟨x, List.mem_cons_self, hh.1, hh.2, e⟩
      · obtain ⟨y, a, b, d, e⟩ := goC_memS h
        exact ⟨y, List.mem_cons_of_mem _ a, b, fun q => d (List.mem_append_left _ q), e⟩
    · rw [goC_neg hh] at h
      obtain ⟨y, a, b, d, e⟩ := goC_memS h
      exact ⟨y, List.mem_cons_of_mem _ a, b, d, e⟩
def keyC (c : List Str) : Str := if c.headD ("" : Str) = ("" : Str) then c.getD 1 ("" : Str) else c.headD ("" : Str)
theorem keyC_gap {x y : Str} {t : List Str} (h : x = ("" : Str)) : keyC (x :: y :: t) = y := if_pos h
theorem keyC_ne {x : Str} {t : List Str} (h : ¬ x = ("" : Str)) : keyC (x :: t) = x := if_neg h
def IsLeast (qs : List (Str × Str)) (x : Str) : Prop := x ∈ (cycs qs).map keyC ∧ ∀ y, y ∈ (cycs qs).map keyC → geC x.cps.toList y.cps.toList
noncomputable def leastX (qs : List (Str × Str)) : Str := Classical.epsilon (IsLeast qs)
theorem leastX_is {qs : List (Str × Str)} {x : Str} (h : IsLeast qs x) : IsLeast qs (leastX qs) ∧ leastX qs = x := by
  have h2 : IsLeast qs (leastX qs) := Classical.epsilon_spec (p := IsLeast qs) ⟨x, h⟩
  exact ⟨h2, str_eq (ge_anti (h2.2 x h.1) (h.2 _ h2.1))⟩
theorem cyc_second {qs : List (Str × Str)} (v : VP qs) {x : Str} (hx : x ∈ labs qs) (hn : fOf qs x ≠ x) : ∃ t, cyc (fOf qs) (labs qs) x = x :: fOf qs x :: t := by
  obtain ⟨t, e, c, cn, _⟩ := cyc_facts v.on hx
  cases t with
  | nil => exact absurd (show fOf qs x = x from c) hn
  | cons y t => exact ⟨t, by rw [e, show fOf qs x = y from c.1]⟩
theorem key_low {qs : List (Str × Str)} (v : VP qs) (h0 : ("" : Str) ∈ labs qs) {y : Str} (hy : y ∈ (cycs qs).map keyC) : y ∈ labs qs ∧ y ≠ ("" : Str) ∧ lowQ qs y := by
  obtain ⟨c, hc, rfl⟩ := List.mem_map.mp hy
  have v' := v.on
  have gapc : fOf qs ("" : Str) ≠ ("" : Str) → fOf qs ("" : Str) ∈ labs qs ∧ fOf qs ("" : Str) ≠ ("" : Str) ∧ lowQ qs (fOf qs ("" : Str)) := fun hn =>
    ⟨v'.to _ h0, hn, fun q => hn (v'.inj _ _ (v'.to _ h0) h0 q), .inl rfl⟩
  have one : ∀ x, x ∈ labs qs → fOf qs x ≠ x → (x ≠ ("" : Str) → x ∉ cyc (fOf qs) (labs qs) ("" : Str)) → c = cyc (fOf qs) (labs qs) x → keyC c ∈ labs qs ∧ keyC c ≠ ("" : Str) ∧ lowQ qs (keyC c) := fun x hx hn ho e => by
    obtain ⟨t, et⟩ := cyc_second v hx hn
    rw [e, et]
    by_cases hx0 : x = ("" : Str)
    · have ek : keyC (x :: fOf qs x :: t) = fOf qs x := keyC_gap hx0
      rw [ek, hx0]
      rw [hx0] at hn
      exact gapc hn
    · have ek : keyC (x :: fOf qs x :: t) = x := keyC_ne hx0
      rw [ek]
      exact ⟨hx, hx0, hn, .inr (ho hx0)⟩
  obtain ⟨r, hr⟩ := em_least v h0
  unfold cycs at hc
  by_cases hf : fOf qs ("" : Str) ≠ ("" : Str)
  · have e1 : goC (fOf qs) (cyc (fOf qs) (labs qs)) (labs qs) [] = cyc (fOf qs) (labs qs) ("" : Str) :: goC (fOf qs) (cyc (fOf qs) (labs qs)) r ([] ++ cyc (fOf qs) (labs qs) ("" : Str)) := by
      conv => lhs; arg 3; rw [hr]
      exact goC_pos hf List.not_mem_nil
    rw [e1] at hc
    rcases List.mem_cons.mp hc with e | hc
    · exact one ("" : Str) h0 hf (fun q => absurd rfl q) e
    · obtain ⟨x, a, b, d, e⟩ := goC_memS hc
      exact one x (by rw [hr]; exact List.mem_cons_of_mem _ a) b (fun _ => d) e
  · have hf : fOf qs ("" : Str) = ("" : Str) := Classical.not_not.mp hf
    obtain ⟨x, a, b, d, e⟩ := goC_memS hc
    exact one x a b (fun hx q => hx (cyc_one v' h0 hf q)) e
theorem cycs_some {qs : List (Str × Str)} (h : 0 < gapN qs) : cycs qs ≠ [] := fun e => by
  unfold gapN at h
  rw [e] at h
  simp at h
/-- the word, step by step -/
noncomputable def itR (qs : List (Str × Str)) : Nat → List (Str × Str)
  | 0 => qs
  | n + 1 => exB (itR qs n) (leastX (itR qs n))
noncomputable def gword (qs : List (Str × Str)) (n : Nat) : List Str := (List.range n).map fun j => leastX (itR qs j)
theorem has_least {qs : List (Str × Str)} (h : 0 < gapN qs) : IsLeast qs (leastX qs) := by
  have ne : (cycs qs).map keyC ≠ [] := by simp [cycs_some h]
  have key : ∀ l : List Str, l ≠ [] → ∃ x, x ∈ l ∧ ∀ y, y ∈ l → geC x.cps.toList y.cps.toList := by
    intro l
    induction l with
    | nil => intro h; exact absurd rfl h
    | cons a l ih =>
      intro _
      by_cases hl : l = []
      · subst hl
        exact ⟨a, List.mem_cons_self, fun y hy => by rw [List.mem_singleton.mp hy]; exact ge_self _⟩
      · obtain ⟨x, h1, h2⟩ := ih hl
        rcases ge_total a.cps.toList x.cps.toList with h | h
        · exact ⟨a, List.mem_cons_self, fun y hy => (List.mem_cons.mp hy).elim (fun e => by rw [e]; exact ge_self _) fun hy => ge_trans h (h2 y hy)⟩
        · exact ⟨x, List.mem_cons_of_mem _ h1, fun y hy => (List.mem_cons.mp hy).elim (fun e => by rw [e]; exact h) fun hy => h2 y hy⟩
  obtain ⟨x, h1, h2⟩ := key _ ne
  exact (leastX_is ⟨h1, h2⟩).1
theorem itR_ok {qs : List (Str × Str)} (v : VP qs) (h0 : ("" : Str) ∈ labs qs) : ∀ i : Nat, (i : Int) ≤ gapN qs → VP (itR qs i) ∧ labs (itR qs i) = labs qs ∧ gapN (itR qs i) = gapN qs - i
  | 0, _ => ⟨v, rfl, by show gapN qs = _; omega⟩
  | i + 1, hi => by
    obtain ⟨a, b, c⟩ := itR_ok v h0 i (by omega)
    have hp : 0 < gapN (itR qs i) := by rw [c]; omega
    have hl := has_least hp
    obtain ⟨k1, k2, k3⟩ := key_low a (by rw [b]; exact h0) hl.1
    refine ⟨exB_vp a (by rw [b]; exact h0) k1, (byF_labs _ _).trans b, ?_⟩
    show gapN (exB _ _) = _
    rw [(exB_gap a (by rw [b]; exact h0) k1 k2).1 k3, c]
    omega
end Dv
namespace Dv
open PySem L2 PyProof.Rows
end Dv
namespace Dv
open PySem L2 PyProof.Rows
/-! ### an error without fields -/
abbrev XvN := Rho → Addr → Sto → Prop
section
variable {K : PySem.W.Frag}
def ThenN (K : PySem.W.Frag) (m : Sto) (F : Reg) (H : Hp) (X : XvN) (W : WX) : Prop := ∀ ρ' C m' σ' F' H', X ρ' C m' → Step m F H m' F' H' → StoOk K m' F' H' → EnvOk K F' H' ρ' σ' → W (.ref C) none σ' H'
theorem ThenN.step {m m1 : Sto} {F F1 : Reg} {H H1 : Hp} {X : XvN} {W : WX} (t : ThenN K m F H X W) (s : Step m F H m1 F1 H1) : ThenN K m1 F1 H1 X W := fun ρ' C m' σ' F' H' x s2 S2 E2 => t ρ' C m' σ' F' H' x (s.trans s2) S2 E2
variable {ρ : Rho} {m : Sto} {k : Ko} {X : XvN} {P : PV} {ts : TS} {t1 t2 tb : WX → TS} {te : WX → TE} {tt : TT} {ta : TA}
/-! ### the promise of a def that may raise it -/
/-! ### try -/
end
/-! ### defs -/
/-! ### isinstance of it -/
end Dv
namespace Dv
open PySem L2 PyProof.Rows
open Sem (wp)
/-! ### zip of any number of tuples -/
structure ZSep (z TI TO : Addr) (R : Nat) (it l : Nat → Addr) : Prop where
  zI : TI ≠ z
  zO : TO ≠ z
  IO : TI ≠ TO
  zi : ∀ k, k < R → it k ≠ z
  Ii : ∀ k, k < R → TI ≠ it k
  Oi : ∀ k, k < R → TO ≠ it k
  ii : ∀ k j, k < R → j < R → it k = it j → k = j
  li : ∀ k j, k < R → j < R → l k ≠ it j
  lz : ∀ k, k < R → l k ≠ z
  lO : ∀ k, k < R → l k ≠ TO
structure ZIts (h : Heap) (R : Nat) (it l : Nat → Addr) (row : Nat → Array Value) (n : Nat → Nat) : Prop where
  iter : ∀ k, k < R → h.IsTupleIter (it k) (l k) (n k)
  tup : ∀ k, k < R → h.IsTuple (l k) (row k)
def itsA (R : Nat) (it : Nat → Addr) : Array Value := ((List.range R).map fun k => Value.ref (it k)).toArray
section
variable {prog : Program} {w : World} {A : Around} {E : Value → Shared → Prop} {s : Shared} {z TI TO T : Addr} {R i : Nat} {it l : Nat → Addr} {row : Nat → Array Value}
theorem its_ne (hR : 0 < R) : (itsA R it).isEmpty = false := by
  unfold itsA
  cases R with
  | zero => omega
  | succ n => simp [List.range_succ]
/-- the iterators up to j have moved -/
def upTo2 (i j : Nat) : Nat → Nat := fun k => if k < j then i + 1 else i
structure ZKeep (z : Addr) (R : Nat) (it : Nat → Addr) (h h' : Heap) : Prop where
  size : h'.objs.size = h.objs.size
  get : ∀ c o, c ≠ z → (∀ k, k < R → c ≠ it k) → h.get? c = some o → h'.get? c = some o
theorem its_step {h h' : Heap} {j : Nat} (S : ZSep z TI TO R it l) (hj : j < R) (hI : ZIts h R it l row (upTo2 i j)) (sb : Heap.SameBut (it j) h h') (st : h'.IsTupleIter (it j) (l j) (i + 1)) : ZIts h' R it l row (upTo2 i (j + 1)) := by
  refine ⟨fun k hk => ?_, fun k hk => ?_⟩
  · by_cases e : k = j
    · subst e
      have : upTo2 i (k + 1) k = i + 1 := if_pos (Nat.lt_succ_self _)
      rw [this]
      exact st
    · have e2 : upTo2 i (j + 1) k = upTo2 i j k := by unfold upTo2; split <;> split <;> omega
      rw [e2]
      exact (hI.iter k hk).at fun o q => sb.extBut _ _ (fun z => e (S.ii _ _ hk hj z)) q
  · exact (hI.tup k hk).extBut sb.extBut (S.li k j hk hj)
theorem draws_it (hh : A.handled = none) (S : ZSep z TI TO R it l) {k : Nat} (hk : k < R) : Draws prog w A (it k) [it k, l k] (row k).size (fun j v => (row k)[j]? = some v) (fun j h => h.IsTupleIter (it k) (l k) j ∧ h.IsTuple (l k) (row k)) := Draws.tuple hh (it k) (l k) (S.li k k hk hk) (row k)
theorem drop_cons {α : Type} {xs ys : List α} {x : α} {j : Nat} (h : x :: ys = xs.drop j) : xs[j]? = some x ∧ ys = xs.drop (j + 1) := by
  have e : (xs.drop j)[0]? = some x := by rw [← h]; rfl
  rw [List.getElem?_drop, Nat.add_zero] at e
  refine ⟨e, ?_⟩
  have : xs.drop (j + 1) = (xs.drop j).drop 1 := by rw [List.drop_drop]
  rw [this, ← h]
  rfl
theorem itsA_get {j : Nat} {x : Value} (h : (itsA R it).toList[j]? = some x) : j < R ∧ x = .ref (it j) := by
  unfold itsA at h
  rw [List.getElem?_map] at h
  cases q : (List.range R)[j]? with
  | none => rw [q] at h; cases h
  | some k =>
    rw [q] at h
    have hj := (List.getElem?_eq_some_iff.mp q).1
    rw [List.length_range] at hj
    rw [List.getElem?_range hj] at q
    cases q
    cases h
    exact ⟨hj, rfl⟩
theorem itsA_len : (itsA R it).toList.length = R := by simp [itsA]
def colT (row : Nat → Array Value) (i j : Nat) : Array Value := ((List.range j).map fun k => (row k).getD i .none).toArray
theorem colT_push {j : Nat} {x : Value} (h : (row j)[i]? = some x) : (colT row i j).push x = colT row i (j + 1) := by
  unfold colT
  rw [List.range_succ, List.map_append]
  simp [h]
theorem zn_held {f : Bool} {oT : Obj} {Q : Value → Shared → Prop} (hh : A.handled = none) (S : ZSep z TI TO R it l) (hR : 0 < R) (hz : IsZipHeld s.heap z TI TO T f) (hT : s.heap.get? T = some oT) (hTI : s.heap.get? TI = some { cls := .type "tuple", data := .seq (itsA R it) })
    (hI : ZIts s.heap R it l row fun _ => i) (hlt : ∀ k, k < R → i < (row k).size) (hz24 : R ≤ sizeLine)
    (hQ : ∀ h' tk, IsZipHeld h' z TI TO T true → ZIts h' R it l row (fun _ => i + 1) → h'.get? s.heap.objs.size = some { cls := .type "tuple", data := .seq (colT row i R) } → h'.objs.size = s.heap.objs.size + 1 →
      (∀ c o, c ≠ z → (∀ k, k < R → c ≠ it k) → s.heap.get? c = some o → h'.get? c = some o) → Q (.ref s.heap.objs.size) { s with heap := h', toks := tk }) :
    wpAny (model prog w) A (Builtin.«zip.__next__» ⟨[.ref z], []⟩) (fun fin s' => ∃ v, fin = .done (.ret v) ∧ Q v s') E s := by
  have hne := its_ne (it := it) hR
  obtain ⟨hp, g, d, tk0, os⟩ := s
  show wpAny _ _ (field (.ref z) 2 >>= _) _ _ _
  refine wpAny_bind (wpAny_field hz rfl (x := .bool false) rfl ?_)
  show wpAny _ _ (field (.ref z) 3 >>= _) _ _ _
  refine wpAny_bind (wpAny_field hz rfl (x := .ref TI) rfl ?_)
  refine wpAny_bind (wpAny_seqItems hTI rfl ?_)
  simp only [hne, Bool.false_eq_true, if_false]
  refine wpAny_bind (wpAny_tupleHeld_zip hz hT fun h₁ hz₁ hs₁ => ?_)
  simp only [Bool.false_eq_true, if_false]
  refine wpAny_bind ?_
  refine MeetsSeq2.wpAny_forIn_array _ (fun rest b s' => ∃ j h' tk, rest = (itsA R it).toList.drop j ∧ j ≤ R ∧ b = (none, colT row i j) ∧ s' = ⟨h', g, d, tk, os⟩ ∧ IsZipHeld h' z TI TO T true ∧ ZIts h' R it l row (upTo2 i j) ∧ ZKeep z R it hp h') _ ?turn ?fin _ _ ⟨0, h₁, tk0, rfl, Nat.zero_le _, rfl, rfl, hz₁, ?_, ⟨hs₁.1, fun c o c1 _ e => hs₁.extBut _ _ c1 e⟩⟩
  case turn =>
    rintro x rest b s' ⟨j, h', tk, hr, hj, rfl, rfl, hz', hI', K⟩
    obtain ⟨hx, hrest⟩ := drop_cons hr
    obtain ⟨hjR, rfl⟩ := itsA_get hx
    refine wpAny_bind (wpAny_holding ?_)
    show wpAny _ _ (Builtin.SmallTypes.nextOf (.ref (it j)) >>= _) _ _ _
    have e0 : upTo2 i j j = i := if_neg (Nat.lt_irrefl _)
    have hij := hI'.iter j hjR
    rw [e0] at hij
    refine wpAny_bind ((draws_it hh S hjR).item i _ _ _ (hlt j hjR) ⟨hij, hI'.tup j hjR⟩ fun x h2 tk2 hx2 st2 sb => wpAny_pure ?_)
    refine wpAny_pure ⟨j + 1, h2, tk2, hrest, hjR, ?_, rfl, sb.extBut _ _ (S.zi j hjR).symm hz', its_step S hjR hI' sb st2.1, sb.1.trans K.size, fun c o c1 c2 e => sb.extBut _ _ (c2 j hjR) (K.get c o c1 c2 e)⟩
    rw [colT_push hx2]
  case fin =>
    rintro b s' ⟨j, h', tk, hr, hj, rfl, rfl, hz', hI', K⟩
    have hjR : j = R := by
      have := congrArg List.length hr
      rw [List.length_drop, itsA_len] at this
      simp at this
      omega
    subst hjR
    show wpAny _ _ (newTuple (colT row i j).toList >>= _) _ _ _
    refine wpAny_bind (wpAny_newTuple ?_ (by simp [colT]; exact hz24))
    refine wpAny_pure ⟨_, rfl, ?_⟩
    have hs := K.size
    show Q (.ref h'.objs.size) _
    have hp2 : (h'.push { cls := .type "tuple", data := .seq (colT row i j).toList.toArray }).get? h'.objs.size = some { cls := .type "tuple", data := .seq (colT row i j).toList.toArray } := Heap.get?_push_size _ rfl
    have hz4 : (h'.push { cls := .type "tuple", data := .seq (colT row i j).toList.toArray }).objs.size = h'.objs.size + 1 := Heap.size_push ..
    rw [hs] at hp2 hz4 ⊢
    refine hQ _ tk (Heap.get?_push_of_some _ hz') ⟨fun k hk => ?_, fun k hk => ?_⟩ (by simpa using hp2) hz4 fun c o c1 c2 e => Heap.get?_push_of_some _ (K.get c o c1 c2 e)
    · have := hI'.iter k hk
      have e : upTo2 i j k = i + 1 := if_pos hk
      rw [e] at this
      exact this.at fun o e => Heap.get?_push_of_some _ e
    · obtain ⟨o, ho, q⟩ := hI'.tup k hk
      exact ⟨o, Heap.get?_push_of_some _ ho, q⟩
  · refine ⟨fun k hk => ?_, fun k hk => (hI.tup k hk).extBut hs₁.extBut (S.lz k hk)⟩
    have e : upTo2 i 0 k = i := if_neg (Nat.not_lt_zero _)
    rw [e]
    exact (hI.iter k hk).at fun o q => hs₁.extBut _ _ (S.zi k hk) q
theorem zn_free {Q : Value → Shared → Prop} {old : Array Value} (hh : A.handled = none) (S : ZSep z TI TO R it l) (hR : 0 < R) (hz : IsZip s.heap z TI TO .none) (hTI : s.heap.get? TI = some { cls := .type "tuple", data := .seq (itsA R it) }) (hTO : s.heap.get? TO = some { cls := .type "tuple", data := .seq old }) (hold : old.size = R)
    (hI : ZIts s.heap R it l row fun _ => i) (hlt : ∀ k, k < R → i < (row k).size) (hz24 : R ≤ sizeLine)
    (hQ : ∀ h' tk, IsZipHeld h' z TI TO s.heap.objs.size false → ZIts h' R it l row (fun _ => i + 1) → h'.get? s.heap.objs.size = some { cls := .type "tuple", data := .seq (colT row i R) } → h'.objs.size = s.heap.objs.size + 1 →
      (∀ c o, c ≠ z → c ≠ TO → (∀ k, k < R → c ≠ it k) → s.heap.get? c = some o → h'.get? c = some o) → Q (.ref s.heap.objs.size) { s with heap := h', toks := tk }) :
    wpAny (model prog w) A (Builtin.«zip.__next__» ⟨[.ref z], []⟩) (fun fin s' => ∃ v, fin = .done (.ret v) ∧ Q v s') E s := by
  have hne := its_ne (it := it) hR
  obtain ⟨hp, g, d, tk0, os⟩ := s
  show wpAny _ _ (field (.ref z) 2 >>= _) _ _ _
  refine wpAny_bind (wpAny_field hz rfl (x := .bool false) rfl ?_)
  show wpAny _ _ (field (.ref z) 3 >>= _) _ _ _
  refine wpAny_bind (wpAny_field hz rfl (x := .ref TI) rfl ?_)
  refine wpAny_bind (wpAny_seqItems hTI rfl ?_)
  simp only [hne, Bool.false_eq_true, if_false]
  refine wpAny_bind ?_
  unfold Builtin.SmallTypes.ownedTupleIsFree
  refine wpAny_bind (wpAny_field hz rfl (x := .none) rfl (wpAny_pure ?_))
  simp only [if_true]
  refine wpAny_bind (wpAny_rule ?_)
  refine wpAny_bind (wpAny_field hz rfl (x := .ref TO) rfl ?_)
  refine wpAny_bind (wpAny_setField_rec hz (by simp) fun g0 hz0 hs0 => ?_)
  replace hz0 : IsZip g0 z TI TO .ellipsis := hz0
  replace hs0 : Heap.SameBut z hp g0 := hs0
  refine wpAny_bind ?_
  refine wpAny_forIn_list _ (fun rest b s' => ∃ j h' tk arr, rest = (itsA R it).toList.zipIdx.drop j ∧ j ≤ R ∧ b = (none, ()) ∧ s' = ⟨h', g, d, tk, os⟩ ∧ IsZip h' z TI TO .ellipsis ∧ h'.get? TO = some { cls := .type "tuple", data := .seq arr } ∧ arr.size = R ∧ (∀ k, k < j → arr[k]? = (row k)[i]?) ∧ ZIts h' R it l row (upTo2 i j) ∧ h'.objs.size = hp.objs.size ∧
    (∀ c o, c ≠ z → c ≠ TO → (∀ k, k < R → c ≠ it k) → hp.get? c = some o → h'.get? c = some o)) _ ?turn ?fin _ _ ⟨0, g0, tk0, old, rfl, Nat.zero_le _, rfl, rfl, hz0, hs0.extBut _ _ S.zO hTO, hold, fun k hk => absurd hk (Nat.not_lt_zero _), ?_, hs0.1, fun c o c1 _ _ e => hs0.extBut _ _ c1 e⟩
  case turn =>
    rintro x rest b s' ⟨j, h', tk, arr, hr, hj, rfl, rfl, hz', hO', ha, hA, hI', hsz, K⟩
    obtain ⟨hx, hrest⟩ := drop_cons hr
    rw [List.getElem?_zipIdx] at hx
    obtain ⟨y, hy, rfl⟩ := Option.map_eq_some_iff.mp hx
    obtain ⟨hjR, rfl⟩ := itsA_get hy
    refine wpAny_bind (wpAny_onRaise ?_)
    show wpAny _ _ (Builtin.SmallTypes.nextOf (.ref (it j)) >>= _) _ _ _
    have e0 : upTo2 i j j = i := if_neg (Nat.lt_irrefl _)
    have hij := hI'.iter j hjR
    rw [e0] at hij
    refine wpAny_bind ((draws_it hh S hjR).item i _ _ _ (hlt j hjR) ⟨hij, hI'.tup j hjR⟩ fun x h2 tk2 hx2 st2 sb => wpAny_pure ?_)
    replace sb : Heap.SameBut (it j) h' h2 := sb
    have hO2 := sb.extBut _ _ (S.Oi j hjR) hO'
    refine wpAny_bind (wpAny_seqItems (s := ⟨h2, g, d, tk2, os⟩) hO2 rfl ?_)
    refine wpAny_bind (wpAny_updateSeq (s := ⟨h2, g, d, tk2, os⟩) hO2 rfl ?_ (by rw [ha]; exact hz24) (by show (arr.setIfInBounds _ _).size ≤ _; rw [Array.size_setIfInBounds, ha]; exact Nat.le_succ_of_le hz24))
    refine wpAny_bind (wpAny_letGo (wpAny_pure ?_))
    have oth : ∀ b o, b ≠ TO → h2.get? b = some o → (h2.update TO (Obj.mapSeq (·.setIfInBounds (0 + j) x))).get? b = some o := fun b o hb e => (Heap.get?_update_other _ _ (Ne.symm hb)).trans e
    refine ⟨j + 1, _, tk2, arr.setIfInBounds (0 + j) x, hrest, hjR, rfl, rfl, oth _ _ S.zO.symm (sb.extBut _ _ (S.zi j hjR).symm hz'), ?_, by rw [Array.size_setIfInBounds, ha], fun k hk => ?_, ?_, ?_, fun c o c1 c2 c3 e => oth _ _ c2 (sb.extBut _ _ (c3 j hjR) (K c o c1 c2 c3 e))⟩
    · rw [Heap.get?_update_self _ hO2 rfl]
      simp [Obj.mapSeq]
    · rw [Nat.zero_add, Array.getElem?_setIfInBounds]
      by_cases e : j = k
      · subst e
        rw [if_pos rfl, if_pos (by omega)]
        exact hx2.symm
      · rw [if_neg e]
        exact hA k (by omega)
    · have h3 := its_step S hjR hI' sb st2.1
      exact ⟨fun k hk => (h3.iter k hk).at fun o q => oth _ _ (S.Oi k hk).symm q, fun k hk => by
        obtain ⟨o, ho, q⟩ := h3.tup k hk
        exact ⟨o, oth _ _ (S.lO k hk) ho, q⟩⟩
    · rw [Heap.size_update, sb.1, hsz]
  case fin =>
    rintro b s' ⟨j, h', tk, arr, hr, hj, rfl, rfl, hz', hO', ha, hA, hI', hsz, K⟩
    have hjR : j = R := by
      have := congrArg List.length hr
      rw [List.length_drop, List.length_zipIdx, itsA_len] at this
      simp at this
      omega
    subst hjR
    have ecol : arr = colT row i j := by
      apply Array.ext
      · rw [ha]; simp [colT]
      · intro k h1 h2
        have := hA k (by omega)
        rw [Array.getElem?_eq_getElem h1, Array.getElem?_eq_getElem (hlt k (by omega))] at this
        have e1 := Option.some.inj this
        rw [e1]
        unfold colT
        simp [hlt k (by omega)]
    subst ecol
    refine wpAny_bind (wpAny_seqItems (s := ⟨h', g, d, tk, os⟩) hO' rfl ?_)
    refine wpAny_bind (wpAny_newTuple ?_ (by simp [colT]; exact hz24))
    have hzlt : z < h'.objs.size := Heap.lt_size hz'
    show wpAny _ _ (Builtin.SmallTypes.ownedTupleHandOut (.ref z) (.ref h'.objs.size) >>= _) _ _ ⟨h'.push { cls := .type "tuple", data := .seq (colT row i j).toList.toArray }, g, d, tk, os⟩
    refine wpAny_bind ?_
    unfold Builtin.SmallTypes.ownedTupleHandOut
    have z6 : IsZip (h'.push { cls := .type "tuple", data := .seq (colT row i j).toList.toArray }) z TI TO .ellipsis := Heap.get?_push_of_some _ hz'
    refine wpAny_bind (wpAny_setField_rec z6 (by simp) fun h7 z7 s7 => ?_)
    replace z7 : IsZip h7 z TI TO (rawInt h'.objs.size) := z7
    refine wpAny_setField_rec z7 (by simp) fun h8 z8 s8 => ?_
    replace z8 : IsZip h8 z TI TO (rawInt h'.objs.size) := z8
    replace s7 : Heap.SameBut z (h'.push { cls := .type "tuple", data := .seq (colT row i j).toList.toArray }) h7 := s7
    replace s8 : Heap.SameBut z h7 h8 := s8
    have up : ∀ c o, c ≠ z → h'.get? c = some o → h8.get? c = some o := fun c o c1 e => s8.extBut _ _ c1 (s7.extBut _ _ c1 (Heap.get?_push_of_some _ e))
    have t8 : h8.get? h'.objs.size = some { cls := .type "tuple", data := .seq (colT row i j).toList.toArray } := s8.extBut _ _ (Nat.ne_of_gt hzlt) (s7.extBut _ _ (Nat.ne_of_gt hzlt) (Heap.get?_push_size _ rfl))
    have n8 : h8.objs.size = h'.objs.size + 1 := by rw [s8.1, s7.1, Heap.size_push]
    refine wpAny_pure ⟨_, rfl, ?_⟩
    show Q (.ref h'.objs.size) _
    rw [hsz] at z8 t8 n8 ⊢
    refine hQ h8 tk z8 ⟨fun k hk => ?_, fun k hk => ?_⟩ (by simpa using t8) n8 fun c o c1 c2 c3 e => up _ _ c1 (K c o c1 c2 c3 e)
    · have := hI'.iter k hk
      have e : upTo2 i j k = i + 1 := if_pos hk
      rw [e] at this
      exact this.at fun o e => up _ _ (S.zi k hk) e
    · obtain ⟨o, ho, q⟩ := hI'.tup k hk
      exact ⟨o, up _ _ (S.lz k hk) ho, q⟩
  · refine ⟨fun k hk => ?_, fun k hk => (hI.tup k hk).extBut hs0.extBut (S.lz k hk)⟩
    have e : upTo2 i 0 k = i := if_neg (Nat.not_lt_zero _)
    rw [e]
    exact (hI.iter k hk).at fun o q => hs0.extBut _ _ (S.zi k hk) q
theorem zn_end {f : Bool} {oT : Obj} {Q : Fin → Shared → Prop} (hh : A.handled = none) (S : ZSep z TI TO R it l) (hR : 0 < R) (hz : IsZipHeld s.heap z TI TO T f) (hT : s.heap.get? T = some oT) (hTI : s.heap.get? TI = some { cls := .type "tuple", data := .seq (itsA R it) })
    (hI : ZIts s.heap R it l row fun _ => (row 0).size)
    (hE : ∀ h' e, (∀ c o, c ≠ z → (∀ k, k < R → c ≠ it k) → s.heap.get? c = some o → h'.get? c = some o) → (∃ o, h'.get? e = some o ∧ o.cls = .type "StopIteration") → E (.ref e) { s with heap := h' }) :
    wpAny (model prog w) A (Builtin.«zip.__next__» ⟨[.ref z], []⟩) Q E s := by
  have hne := its_ne (it := it) hR
  obtain ⟨hp, g, d, tk0, os⟩ := s
  show wpAny _ _ (field (.ref z) 2 >>= _) _ _ _
  refine wpAny_bind (wpAny_field hz rfl (x := .bool false) rfl ?_)
  show wpAny _ _ (field (.ref z) 3 >>= _) _ _ _
  refine wpAny_bind (wpAny_field hz rfl (x := .ref TI) rfl ?_)
  refine wpAny_bind (wpAny_seqItems hTI rfl ?_)
  simp only [hne, Bool.false_eq_true, if_false]
  refine wpAny_bind (wpAny_tupleHeld_zip hz hT fun h₁ hz₁ hs₁ => ?_)
  simp only [Bool.false_eq_true, if_false]
  refine wpAny_bind ?_
  rw [← Array.forIn_toList]
  obtain ⟨n, rfl⟩ : ∃ n, R = n + 1 := ⟨R - 1, by omega⟩
  have el : (itsA (n + 1) it).toList = .ref (it 0) :: ((List.range n).map fun k => Value.ref (it (k + 1))) := by
    unfold itsA
    rw [List.range_succ_eq_map]
    simp
  rw [el, List.forIn_cons]
  refine wpAny_bind (wpAny_bind (wpAny_holding ?_))
  show wpAny _ _ (Builtin.SmallTypes.nextOf (.ref (it 0)) >>= _) _ _ _
  refine wpAny_bind ((draws_it hh S (Nat.succ_pos n)).done _ _ _ ⟨(hI.iter 0 (Nat.succ_pos n)).at fun o q => hs₁.extBut _ _ (S.zi 0 (Nat.succ_pos n)) q, (hI.tup 0 (Nat.succ_pos n)).extBut hs₁.extBut (S.lz 0 (Nat.succ_pos n))⟩ fun h' e hs he => ?_)
  exact hE h' e (fun c o c1 c2 q => hs _ _ (c2 0 (Nat.succ_pos n)) (hs₁.extBut _ _ c1 q)) he
end
end Dv
namespace Dv
open PySem L2 PyProof.Rows
open Sem (wp)
section
variable {prog : Program} {w : World} {A : Around} {E : Value → Shared → Prop} {s : Shared} {z TI TO T : Addr} {R C i : Nat} {it l : Nat → Addr} {row : Nat → Array Value}
/-- a zip before turn i; Ts are the tuples that it gave out -/
structure ZW (z TI TO : Addr) (R : Nat) (it l : Nat → Addr) (row : Nat → Array Value) (h : Heap) (i : Nat) (Ts : List Addr) : Prop where
  sep : ZSep z TI TO R it l
  len : Ts.length = i
  outs : ∀ (j : Nat) (T : Addr), Ts[j]? = some T → h.get? T = some { cls := .type "tuple", data := .seq (colT row j R) }
  tI : h.get? TI = some { cls := .type "tuple", data := .seq (itsA R it) }
  its : ZIts h R it l row fun _ => i
  st : (i = 0 ∧ IsZip h z TI TO .none ∧ ∃ old : Array Value, old.size = R ∧ h.get? TO = some { cls := .type "tuple", data := .seq old }) ∨ (∃ T f, IsZipHeld h z TI TO T f ∧ T ∈ Ts)
  apart : ∀ T, T ∈ Ts → T ≠ z ∧ T ≠ TO ∧ ∀ k, k < R → T ≠ it k
  ltO : TO < h.objs.size
  nd : Ts.Nodup
theorem ZW.alive {h : Heap} {Ts : List Addr} (W : ZW z TI TO R it l row h i Ts) (hT : T ∈ Ts) : ∃ o, h.get? T = some o := by
  obtain ⟨j, hj⟩ := List.mem_iff_getElem?.mp hT
  exact ⟨_, W.outs j T hj⟩
theorem ZW.zip {Ts : List Addr} (W : ZW z TI TO R it l row s.heap i Ts) : s.TypeIs (.ref z) "zip" := by
  rcases W.st with ⟨_, hz, _⟩ | ⟨T, f, hz, _⟩
  · exact ⟨_, hz, rfl⟩
  · exact ⟨_, hz, rfl⟩
def InZ (z TI TO : Addr) (R : Nat) (it l : Nat → Addr) (Ts : List Addr) (c : Addr) : Prop := c = z ∨ c = TI ∨ c = TO ∨ (∃ k, k < R ∧ (c = it k ∨ c = l k)) ∨ c ∈ Ts
/-- what a turn changes -/
def ZOut (z TO : Addr) (R : Nat) (it : Nat → Addr) (h h' : Heap) : Prop := ∀ c o, c ≠ z → c ≠ TO → (∀ k, k < R → c ≠ it k) → h.get? c = some o → h'.get? c = some o
theorem ZOut.trans {h1 h2 h3 : Heap} (a : ZOut z TO R it h1 h2) (b : ZOut z TO R it h2 h3) : ZOut z TO R it h1 h3 := fun c o x y v e => b c o x y v (a c o x y v e)
theorem ZW.at {h h' : Heap} {Ts : List Addr} (W : ZW z TI TO R it l row h i Ts) (hs : h.objs.size ≤ h'.objs.size) (k : ∀ c o, h.get? c = some o → InZ z TI TO R it l Ts c → h'.get? c = some o) : ZW z TI TO R it l row h' i Ts where
  sep := W.sep
  len := W.len
  outs := fun j T e => k _ _ (W.outs j T e) (.inr (.inr (.inr (.inr (List.mem_of_getElem? e)))))
  tI := k _ _ W.tI (.inr (.inl rfl))
  its := ⟨fun j hj => (W.its.iter j hj).at fun o q => k _ _ q (.inr (.inr (.inr (.inl ⟨j, hj, .inl rfl⟩)))), fun j hj => by
    obtain ⟨o, ho, q⟩ := W.its.tup j hj
    exact ⟨o, k _ _ ho (.inr (.inr (.inr (.inl ⟨j, hj, .inr rfl⟩)))), q⟩⟩
  st := W.st.imp (fun ⟨e, hz, old, ho, hO⟩ => ⟨e, k _ _ hz (.inl rfl), old, ho, k _ _ hO (.inr (.inr (.inl rfl)))⟩) fun ⟨T, f, hz, hT⟩ => ⟨T, f, k _ _ hz (.inl rfl), hT⟩
  apart := W.apart
  ltO := Nat.lt_of_lt_of_le W.ltO hs
  nd := W.nd
theorem ZW.next {Ts : List Addr} {Q : Option Value → Shared → Prop} (hh : A.handled = none) (hR : 0 < R) (hz24 : R ≤ sizeLine) (hC : ∀ k, k < R → (row k).size = C) (hi : i < C) (W : ZW z TI TO R it l row s.heap i Ts)
    (hQ : ∀ h' tk, ZW z TI TO R it l row h' (i + 1) (Ts ++ [s.heap.objs.size]) → h'.objs.size = s.heap.objs.size + 1 → ZOut z TO R it s.heap h' → Q (some (.ref s.heap.objs.size)) { s with heap := h', toks := tk }) : wpAny (model prog w) A (pyNext (.ref z)) Q E s := by
  have hTy := W.zip
  have S := W.sep
  have hlt : ∀ k, k < R → i < (row k).size := fun k hk => by rw [hC k hk]; exact hi
  have fresh : ∀ {c : Addr} {o : Obj}, s.heap.get? c = some o → s.heap.objs.size ≠ c := fun {c o} e => Nat.ne_of_gt (Heap.lt_size e)
  have aN : ∀ k, k < R → s.heap.objs.size ≠ it k := fun k hk => by obtain ⟨o, ho, _⟩ := W.its.iter k hk; exact fresh ho
  have nO : s.heap.objs.size ≠ TO := Nat.ne_of_gt W.ltO
  have ends : ∀ (h' : Heap) (tk : Nat) (f : Bool), s.heap.objs.size ≠ z → h'.objs.size = s.heap.objs.size + 1 → IsZipHeld h' z TI TO s.heap.objs.size f ∨ (∃ T f, IsZipHeld h' z TI TO T f ∧ T ∈ Ts) → ZIts h' R it l row (fun _ => i + 1) → h'.get? s.heap.objs.size = some { cls := .type "tuple", data := .seq (colT row i R) } → ZOut z TO R it s.heap h' → ZW z TI TO R it l row h' (i + 1) (Ts ++ [s.heap.objs.size]) := by
    intro h' tk f nz hsz hz hI ht K
    refine ⟨S, by rw [List.length_append, W.len]; rfl, fun j T e => ?_, K _ _ S.zI S.IO (fun k hk => S.Ii k hk) W.tI, hI, .inr ?_, fun T hT => ?_, by rw [hsz]; exact Nat.lt_succ_of_lt W.ltO, ?_⟩
    · by_cases hj : j < Ts.length
      · rw [List.getElem?_append_left hj] at e
        obtain ⟨a1, a2, a3⟩ := W.apart T (List.mem_of_getElem? e)
        exact K _ _ a1 a2 a3 (W.outs j T e)
      · rw [List.getElem?_append_right (by omega)] at e
        have hl := W.len
        have h1 := (List.getElem?_eq_some_iff.mp e).1
        have h2 : j = i := by simp at h1; omega
        subst h2
        rw [hl, Nat.sub_self] at e
        cases e
        exact ht
    · rcases hz with hz | ⟨T, f, hz, hT⟩
      · exact ⟨_, _, hz, List.mem_append_right _ List.mem_cons_self⟩
      · exact ⟨T, f, hz, List.mem_append_left _ hT⟩
    · rcases List.mem_append.mp hT with h | h
      · exact W.apart T h
      · rw [List.mem_singleton.mp h]
        exact ⟨nz, nO, aN⟩
    · rw [List.nodup_append]
      refine ⟨W.nd, by simp, fun a ha b hb e => ?_⟩
      obtain ⟨o, ho⟩ := W.alive ha
      exact fresh ho ((List.mem_singleton.mp hb).symm.trans e.symm)
  unfold pyNext
  rcases W.st with ⟨e0, hz, old, ho, hO⟩ | ⟨T, f, hz, hT⟩
  · refine wpAny_bind (wpAny_attempt (wpAny_callSpecial?_slot (name := Str.ofString "__next__") hTy F.slot_zip_next (wpAny_call_entry F.slot_zip_next hTy F.entry_zip_next ?_ (F.args_zip_next_1 _))))
    refine zn_free (old := old) hh S hR hz W.tI hO ho W.its hlt hz24 fun h' tk a1 a2 a3 a4 a5 => wpAny_pure ?_
    exact hQ h' tk (ends h' tk false (fresh hz) a4 (.inl a1) a2 a3 a5) a4 a5
  · obtain ⟨oT, hoT⟩ := W.alive hT
    refine wpAny_bind (wpAny_attempt (wpAny_callSpecial?_slot (name := Str.ofString "__next__") hTy F.slot_zip_next (wpAny_call_entry F.slot_zip_next hTy F.entry_zip_next ?_ (F.args_zip_next_1 _))))
    refine zn_held hh S hR hz hoT W.tI W.its hlt hz24 fun h' tk a1 a2 a3 a4 a5 => wpAny_pure ?_
    exact hQ h' tk (ends h' tk true (fresh hz) a4 (.inr ⟨T, true, a1, hT⟩) a2 a3 fun c o c1 _ c3 e => a5 c o c1 c3 e) a4 fun c o c1 _ c3 e => a5 c o c1 c3 e
theorem ZW.done {Ts : List Addr} {Q : Option Value → Shared → Prop} (hh : A.handled = none) (hR : 0 < R) (h0 : 0 < C) (hC : ∀ k, k < R → (row k).size = C) (W : ZW z TI TO R it l row s.heap C Ts)
    (hQ : ∀ h', ZOut z TO R it s.heap h' → Q none { s with heap := h' }) : wpAny (model prog w) A (pyNext (.ref z)) Q E s := by
  have hTy := W.zip
  unfold pyNext
  rcases W.st with ⟨e0, _⟩ | ⟨T, f, hz, hT⟩
  · omega
  · obtain ⟨oT, hoT⟩ := W.alive hT
    refine wpAny_bind (wpAny_attempt (wpAny_callSpecial?_slot (name := Str.ofString "__next__") hTy F.slot_zip_next (wpAny_call_entry F.slot_zip_next hTy F.entry_zip_next ?_ (F.args_zip_next_1 _))))
    refine zn_end hh W.sep hR hz hoT W.tI (by rw [hC 0 hR]; exact W.its) fun h' e hk he => ?_
    obtain ⟨o, ho, hc⟩ := he
    refine wpAny_bind (wpAny_isInstance (T := "StopIteration") (b := true) ⟨o, ho, hc⟩ isSubtype_stop ?_)
    exact wpAny_pure (hQ _ fun c o c1 _ c3 e => hk c o c1 c3 e)
end
end Dv
namespace Dv
open PySem L2 PyProof.Rows
open Sem (wp)
end Dv
namespace Dv
open PySem L2 PyProof.Rows
end Dv
namespace Dv
open PySem L2 PyProof.Rows
/-! ### law 8: rings, used labels, matched, clear -/
structure GL (r : List (List Nat)) : Prop where
  pos : r ≠ []
  most : r.length ≤ 12
  ok : ∀ l ∈ r, l ≠ [] ∧ Tx l
structure Good (ls : List (List (List Nat))) : Prop where
  most : ls.length ≤ 24
  ok : ∀ r ∈ ls, GL r
def colsN (C : Nat) (fl : List (List (List Nat))) : List (List (List Nat)) := (List.range C).map fun j => fl.map fun r => r.getD j []
def colsL (fl : List (List (List Nat))) : List (List (List Nat)) := colsN (fl.getD 0 []).length fl
theorem VF.head {fl : List (List (List Nat))} (v : VF fl) : ∃ r0, fl[0]? = some r0 ∧ (fl.getD 0 []) = r0 ∧ 0 < r0.length ∧ r0.length ≤ 12 ∧ ∀ r ∈ fl, r.length = r0.length := by
  obtain ⟨c, c0, c1, hc⟩ := v.cols
  cases fl with
  | nil => exact absurd rfl v.pos
  | cons a b =>
    have := hc a List.mem_cons_self
    exact ⟨a, rfl, rfl, by omega, by omega, fun r hr => by rw [hc r hr]; omega⟩
theorem VF.rows {fl : List (List (List Nat))} (v : VF fl) : Good fl where
  most := by have := v.most; omega
  ok r hr := by
    obtain ⟨r0, _, _, h1, h2, h3⟩ := v.head
    have := h3 r hr
    exact ⟨fun e => by subst e; simp at this; omega, by omega, fun l hl => ⟨okL_ne (v.ok r hr l hl), okL_tx (v.ok r hr l hl)⟩⟩
theorem VF.colm {fl : List (List (List Nat))} (v : VF fl) {r : List (List Nat)} (h : r ∈ colsL fl) : r.length = fl.length ∧ ∀ l ∈ r, l ∈ fl.flatten := by
  obtain ⟨r0, h0, e0, h1, h2, h3⟩ := v.head
  unfold colsL colsN at h
  rw [e0] at h
  obtain ⟨j, hj, rfl⟩ := List.mem_map.mp h
  have hj := List.mem_range.mp hj
  refine ⟨List.length_map .., fun l hl => ?_⟩
  obtain ⟨r, hr, rfl⟩ := List.mem_map.mp hl
  have hjr : j < r.length := by rw [h3 r hr]; exact hj
  rw [List.getD_eq_getElem?_getD, List.getElem?_eq_getElem hjr]
  exact List.mem_flatten.mpr ⟨r, hr, List.getElem_mem _⟩
theorem VF.colk {fl : List (List (List Nat))} (v : VF fl) : Good (colsL fl) where
  most := by
    obtain ⟨r0, h0, e0, h1, h2, h3⟩ := v.head
    unfold colsL colsN
    rw [e0, List.length_map, List.length_range]
    omega
  ok r hr := by
    obtain ⟨h1, h2⟩ := v.colm hr
    have h3 := v.most
    have h4 : fl.length ≠ 0 := fun e => v.pos (List.length_eq_zero_iff.mp e)
    refine ⟨fun e => by subst e; simp at h1; omega, by omega, fun l hl => ?_⟩
    obtain ⟨q, hq, hl2⟩ := List.mem_flatten.mp (h2 l hl)
    exact ⟨okL_ne (v.ok q hq l hl2), okL_tx (v.ok q hq l hl2)⟩
def hasL (r : List (List Nat)) : Bool := !(r.filter upN).isEmpty
def oneL (r : List (List Nat)) : Bool := decide ((r.filter upN).length ≤ 1)
def mtch (fl : List (List (List Nat))) : Bool := (fl ++ colsL fl).all oneL
def usedL (ls : List (List (List Nat))) : List (List Nat) := srt ((ls.filter hasL).map mnL)
section
variable {K : PySem.W.Frag} {Pg : Program} {w : World} {m : Sto}
theorem VF.lines {fl : List (List (List Nat))} (v : VF fl) : ∀ r ∈ fl ++ colsL fl, GL r := fun r hr => (List.mem_append.mp hr).elim (v.rows.ok r) (v.colk.ok r)
end
end Dv
namespace Dv
open PySem L2 PyProof.Rows
end Dv
namespace Dv
open PySem L2 PyProof.Rows
open PySem.Calls
open PySem.W (EachIs AllAlike Sortable dataLe dataKind SortsAt sortingHeap)
/-! ### sorted(zip(a, b)) of two tuples of texts -/
abbrev Pr := Str × Str
end Dv
namespace Dv
open PySem L2 PyProof.Rows
end Dv
namespace Dv
open PySem L2 PyProof.Rows
open PySem.W (AllAlike Sortable dataLe)
/-! ### law 12: what the program does -/
/-- floors of any names -/
structure RF (fl : List (List (List Nat))) : Prop where
  pos : fl ≠ []
  most : fl.length ≤ 12
  cols : ∃ c, 0 < c ∧ c ≤ 12 ∧ ∀ r ∈ fl, r.length = c
  ok : ∀ r ∈ fl, ∀ l ∈ r, l ≠ [] ∧ Tx l
  sm : ∀ r ∈ fl, ∀ l ∈ r, l.length ≤ 20
theorem okL_sm {l : List Nat} (h : okL l = true) : l.length ≤ 20 := by
  cases l with
  | nil => cases h
  | cons c r =>
    simp [okL] at h
    simp
    omega
theorem VF.rf {fl : List (List (List Nat))} (v : VF fl) : RF fl := ⟨v.pos, v.most, v.cols, fun r hr l hl => ⟨okL_ne (v.ok r hr l hl), okL_tx (v.ok r hr l hl)⟩, fun r hr l hl => okL_sm (v.ok r hr l hl)⟩
theorem RF.head {fl : List (List (List Nat))} (v : RF fl) : ∃ r0, fl[0]? = some r0 ∧ (fl.getD 0 []) = r0 ∧ 0 < r0.length ∧ r0.length ≤ 12 ∧ ∀ r ∈ fl, r.length = r0.length := by
  obtain ⟨c, c0, c1, hc⟩ := v.cols
  cases fl with
  | nil => exact absurd rfl v.pos
  | cons a b =>
    have := hc a List.mem_cons_self
    exact ⟨a, rfl, rfl, by omega, by omega, fun r hr => by rw [hc r hr]; omega⟩
theorem RF.rows {fl : List (List (List Nat))} (v : RF fl) : Good fl where
  most := by have := v.most; omega
  ok r hr := by
    obtain ⟨r0, _, _, h1, h2, h3⟩ := v.head
    have := h3 r hr
    exact ⟨fun e => by subst e; simp at this; omega, by omega, v.ok r hr⟩
theorem RF.colm {fl : List (List (List Nat))} (v : RF fl) {r : List (List Nat)} (h : r ∈ colsL fl) : r.length = fl.length ∧ (∀ l ∈ r, l ≠ [] ∧ Tx l) ∧ ∀ l ∈ r, l.length ≤ 20 := by
  obtain ⟨r0, h0, e0, h1, h2, h3⟩ := v.head
  unfold colsL colsN at h
  rw [e0] at h
  obtain ⟨j, hj, rfl⟩ := List.mem_map.mp h
  have hj := List.mem_range.mp hj
  refine ⟨List.length_map .., fun l hl => ?_, fun l hl => ?_⟩
  · obtain ⟨r, hr, rfl⟩ := List.mem_map.mp hl
    have hjr : j < r.length := by rw [h3 r hr]; exact hj
    rw [List.getD_eq_getElem?_getD, List.getElem?_eq_getElem hjr]
    exact v.ok r hr _ (List.getElem_mem _)
  · obtain ⟨r, hr, rfl⟩ := List.mem_map.mp hl
    have hjr : j < r.length := by rw [h3 r hr]; exact hj
    rw [List.getD_eq_getElem?_getD, List.getElem?_eq_getElem hjr]
    exact v.sm r hr _ (List.getElem_mem _)
theorem RF.coln {fl : List (List (List Nat))} (v : RF fl) : 0 < (colsL fl).length ∧ (colsL fl).length ≤ 12 := by
  obtain ⟨r0, h0, e0, h1, h2, h3⟩ := v.head
  unfold colsL colsN
  rw [e0, List.length_map, List.length_range]
  omega
theorem RF.colk {fl : List (List (List Nat))} (v : RF fl) : Good (colsL fl) where
  most := by have := v.coln.2; omega
  ok r hr := by
    obtain ⟨h1, h2, _⟩ := v.colm hr
    have h3 := v.most
    have h4 : fl.length ≠ 0 := fun e => v.pos (List.length_eq_zero_iff.mp e)
    exact ⟨fun e => by subst e; simp at h1; omega, by omega, h2⟩
/-! groups -/
def grD (r : List (List Nat)) : PyData := .list ((srt r).map nmD)
def grp (ls : List (List (List Nat))) : List PyData := (ls.map grD).mergeSort (dataLe false id)
theorem grp_len (ls : List (List (List Nat))) : (grp ls).length = ls.length := by
  unfold grp
  rw [(List.mergeSort_perm _ _).length_eq, List.length_map]
theorem nxa_all {k n : Nat} {ds : List PyData} (h : ∀ d, d ∈ ds → Nx k n d) : NxA k (ds.length * (n + 1)) ds := by
  have := nxa_map (f := id) h
  rwa [List.map_id] at this
theorem nx_grp {ls : List (List (List Nat))} (g : Good ls) : Nx 2 (24 * (12 * 2001 + 1)) (.list (grp ls)) := by
  refine (nx_lst (nxa_all (k := 1) (n := 12 * 2001) fun d hd => ?_)).mono (Nat.le_refl _) (Nat.mul_le_mul_right _ (by rw [grp_len]; exact g.most))
  have := (List.mergeSort_perm _ _).mem_iff.mp hd
  obtain ⟨r, hr, rfl⟩ := List.mem_map.mp this
  have gr := g.ok r hr
  have hp := srt_perm r
  refine (nx_lst (nxa_map (k := 0) (n := 2000) fun l hl => nx_str (gr.ok l (hp.mem_iff.mp hl)).2)).mono (Nat.le_refl _) (Nat.mul_le_mul_right _ (by rw [hp.length_eq]; exact gr.most))
def sameG (a b : List (List (List Nat))) : Bool := PyData.eqv (.list (grp a)) (.list (grp b))
def isRe (s g : List (List (List Nat))) : Bool := sameG s g && sameG (colsL s) (colsL g)
/-! alignments -/
def ringS (ls : List (List (List Nat))) : List Str := "" :: (ls.map mnL).map Sx
theorem ringS_len (ls : List (List (List Nat))) : (ringS ls).length = ls.length + 1 := by simp [ringS]
end Dv
namespace Dv
open PySem L2 PyProof.Rows
open PySem.W (AllAlike Sortable dataLe)
/-! ### law 12: what the law computes itself -/
theorem rot_at {α : Type} {ws : List α} {k i : Nat} (hk : k < ws.length) (hi : i < ws.length) : (ws.drop k ++ ws.take k)[i]? = ws[(i + k) % ws.length]? := by
  by_cases h : i < ws.length - k
  · rw [List.getElem?_append_left (by simpa using h), List.getElem?_drop, Nat.mod_eq_of_lt (by omega), Nat.add_comm]
  · rw [List.getElem?_append_right (by simp; omega), List.length_drop, List.getElem?_take, if_pos (by omega)]
    congr 1
    rw [Nat.mod_eq_sub_mod (by omega), Nat.mod_eq_of_lt (by omega)]
    omega
end Dv
namespace Dv
open PySem L2 PyProof.Rows
def pk (fl : List (List (List Nat))) (is js : List Nat) : List (List (List Nat)) := is.map fun i => js.map fun j => (fl.getD i []).getD j []
end Dv
namespace Dv
open PySem L2 PyProof.Rows
/-! ### told -/
/-! ### other floors -/
def ch (C R : Nat) (ns : List (List Nat)) : List (List (List Nat)) := (List.range R).map fun i => (ns.drop (i * C)).take C
end Dv
namespace Dv
open PySem L2 PyProof.Rows
/-! ### a ring turned: its sign -/
end Dv
namespace Dv
open PySem L2 PyProof.Rows
open PySem.W (dataLe)
/-! ### the ring of a floor -/
theorem fl_disj {ls : List (List (List Nat))} (nd : ls.flatten.Nodup) (ne : ∀ r ∈ ls, r ≠ []) : (ls.map mnL).Nodup := by
  induction ls with
  | nil => exact List.nodup_nil
  | cons r ls ih =>
    rw [List.flatten_cons, List.nodup_append] at nd
    obtain ⟨n1, n2, n3⟩ := nd
    rw [List.map_cons, List.nodup_cons]
    refine ⟨fun h => ?_, ih n2 fun q hq => ne q (List.mem_cons_of_mem _ hq)⟩
    obtain ⟨q, hq, e⟩ := List.mem_map.mp h
    have h1 := mnL_mem (ne r List.mem_cons_self)
    have h2 := mnL_mem (ne q (List.mem_cons_of_mem _ hq))
    exact n3 _ h1 _ (List.mem_flatten.mpr ⟨q, hq, h2⟩) e.symm
/-- the lines of a floor, or of its columns -/
structure LN (ls : List (List (List Nat))) : Prop where
  good : Good ls
  nd : ls.flatten.Nodup
  ok : ∀ r ∈ ls, ∀ l ∈ r, okL l = true
  pos : ls ≠ []
theorem LN.ne {ls : List (List (List Nat))} (h : LN ls) : ∀ r ∈ ls, r ≠ [] := fun r hr => (h.good.ok r hr).pos
theorem okL_small {l : List Nat} (h : okL l = true) : l.length ≤ 20 := by
  cases l with
  | nil => cases h
  | cons c t => simp [okL] at h; simp; omega
theorem LN.lab {ls : List (List (List Nat))} (h : LN ls) {l : List Nat} (hl : l ∈ ls.map mnL) : okL l = true := by
  obtain ⟨r, hr, rfl⟩ := List.mem_map.mp hl
  exact h.ok r hr _ (mnL_mem (h.ne r hr))
theorem ring_nd {ls : List (List (List Nat))} (h : LN ls) : (ringS ls).Nodup := by
  unfold ringS
  rw [List.nodup_cons]
  refine ⟨fun q => ?_, ?_⟩
  · obtain ⟨l, hl, e⟩ := List.mem_map.mp q
    have := okL_ne (h.lab hl)
    have e0 : ("" : Str) = Sx [] := by decide +kernel
    rw [e0] at e
    exact this (sx_inj e)
  · exact List.pairwise_map.mpr ((fl_disj h.nd h.ne).imp fun {a b} n e => n (sx_inj e))
theorem ring_tx {ls : List (List (List Nat))} (h : LN ls) : ∀ z ∈ ringS ls, ∃ l, z = Sx l ∧ Tx l ∧ l.length ≤ 20 := fun z hz => by
  rcases List.mem_cons.mp hz with e | hz
  · exact ⟨[], by rw [e]; decide +kernel, ⟨by simp, fun c hc => by cases hc⟩, by simp⟩
  · obtain ⟨l, hl, rfl⟩ := List.mem_map.mp hz
    have := h.lab hl
    exact ⟨l, rfl, okL_tx this, okL_small this⟩
theorem ring_len {ls : List (List (List Nat))} : (ringS ls).length = ls.length + 1 := ringS_len ls
/-- the k-th alignment of a ring with itself -/
def alQ (us : List Str) (k : Nat) : List (Str × Str) := srtQ (us.zip (us.drop k ++ us.take k))
def idleL (ls : List (List (List Nat))) : List (List Nat) := (ls.filter fun r => !hasL r).map mnL
theorem idle_ring (ls : List (List (List Nat))) : ∀ z ∈ (idleL ls).map Sx, z ∈ ringS ls := fun z hz => by
  obtain ⟨l, hl, rfl⟩ := List.mem_map.mp hz
  obtain ⟨r, hr, rfl⟩ := List.mem_map.mp hl
  exact List.mem_cons_of_mem _ (List.mem_map_of_mem (List.mem_map_of_mem (List.mem_filter.mp hr).1))
section
variable {K : PySem.W.Frag} {Pg : Program} {w : World} {m : Sto} {P : PV}
/-! math.factorial -/
def fac (n : Nat) : Nat := Builtin.Math.factorialNat n
end
end Dv
namespace Dv
open PySem L2 PyProof.Rows
end Dv
namespace Dv
open PySem L2 PyProof.Rows
theorem VF.lnR {fl : List (List (List Nat))} (v : VF fl) : LN fl := ⟨v.rows, v.nd, v.ok, v.pos⟩
theorem VF.vfC {fl : List (List (List Nat))} (v : VF fl) : VF (colsL fl) := v.colF
theorem VF.lnC {fl : List (List (List Nat))} (v : VF fl) : LN (colsL fl) := v.vfC.lnR
theorem ring13 {fl : List (List (List Nat))} (v : VF fl) : (ringS fl).length ≤ 13 ∧ (ringS (colsL fl)).length ≤ 13 := by
  rw [ring_len, ring_len]
  have h1 := v.most
  obtain ⟨r0, h0, e0, _, h2, _⟩ := v.head
  have : (colsL fl).length = r0.length := by unfold colsL colsN; rw [e0]; simp
  omega
def oddK (us : List Str) (k : Nat) : Bool := decide (oddN (alQ us k) % 2 = 1)
def agrB (zs : List Str) (p q : List (Str × Str)) : Bool := zs.all fun z => decide (fOf p z = fOf q z)
/-! matched floors -/
theorem up_first2 {x y : List Nat} (hx : okL x = true) (hy : okL y = true) (ux : upN x = true) (uy : ¬ upN y = true) : geC x y := by
  cases x with
  | nil => cases hx
  | cons a s =>
    cases y with
    | nil => cases hy
    | cons b t =>
      unfold geC
      simp only [upN, okL, isUp, isLo, Bool.and_eq_true, Bool.or_eq_true, decide_eq_true_eq] at hx hy ux uy
      unfold Spec.ltCps
      have h1 : ¬ b < a := by omega
      have h2 : a < b := by omega
      have h3 : b ≠ a := by omega
      simp [h1, h2, h3]
end Dv
namespace Dv
open PySem L2 PyProof.Rows
theorem one_mn {r : List (List Nat)} (ok : ∀ y ∈ r, okL y = true) (h1 : oneL r = true) {x : List Nat} (hx : x ∈ r) (ux : upN x = true) : mnL r = x := by
  have h1 : (r.filter upN).length ≤ 1 := of_decide_eq_true h1
  refine (mnL_one hx fun y hy => ?_).symm
  by_cases e : y = x
  · rw [e]; exact ge_self x
  · refine up_first2 (ok x hx) (ok y hy) ux fun uy => e ?_
    have a1 : x ∈ r.filter upN := List.mem_filter.mpr ⟨hx, ux⟩
    have a2 : y ∈ r.filter upN := List.mem_filter.mpr ⟨hy, uy⟩
    match h : r.filter upN, h1 with
    | [], _ => rw [h] at a1; cases a1
    | [z], _ =>
      rw [h] at a1 a2
      rw [List.mem_singleton.mp a1, List.mem_singleton.mp a2]
theorem used_mem {ls : List (List (List Nat))} {l : List Nat} (h : l ∈ usedL ls) : ∃ r ∈ ls, hasL r = true ∧ mnL r = l := by
  obtain ⟨r, hr, rfl⟩ := List.mem_map.mp ((srt_perm _).mem_iff.mp h)
  obtain ⟨h1, h2⟩ := List.mem_filter.mp hr
  exact ⟨r, h1, h2, rfl⟩
theorem mt_used {fl : List (List (List Nat))} (v : VF fl) (hm : mtch fl = true) {l : List Nat} (hl : l ∈ usedL fl) : l ∈ (colsL fl).map mnL := by
  obtain ⟨r, hr, hh, e⟩ := used_mem hl
  have all := List.all_eq_true.mp hm
  obtain ⟨x, hx⟩ : ∃ x, x ∈ r.filter upN := by
    unfold hasL at hh
    cases h : r.filter upN with
    | nil => rw [h] at hh; cases hh
    | cons x t => exact ⟨x, List.mem_cons_self⟩
  obtain ⟨hxr, ux⟩ := List.mem_filter.mp hx
  have e1 := one_mn (v.ok r hr) (all r (List.mem_append_left _ hr)) hxr ux
  have hf : x ∈ fl.flatten := List.mem_flatten.mpr ⟨r, hr, hxr⟩
  obtain ⟨c, hc, hxc⟩ := List.mem_flatten.mp (col_flat v hf)
  have hc : c ∈ colsL fl := hc
  have e2 := one_mn (v.vfC.ok c hc) (all c (List.mem_append_right _ hc)) hxc ux
  rw [← e, e1, ← e2]
  exact List.mem_map_of_mem hc
def usd (fl : List (List (List Nat))) : List Str := "" :: (usedL fl).map Sx
theorem usd_row {fl : List (List (List Nat))} : ∀ z ∈ usd fl, z ∈ ringS fl := fun z hz => by
  rcases List.mem_cons.mp hz with e | hz
  · rw [e]; exact List.mem_cons_self
  · obtain ⟨l, hl, rfl⟩ := List.mem_map.mp hz
    obtain ⟨r, hr, _, e⟩ := used_mem hl
    exact List.mem_cons_of_mem _ (List.mem_map_of_mem (by rw [← e]; exact List.mem_map_of_mem hr))
theorem usd_col {fl : List (List (List Nat))} (v : VF fl) (hm : mtch fl = true) : ∀ z ∈ usd fl, z ∈ ringS (colsL fl) := fun z hz => by
  rcases List.mem_cons.mp hz with e | hz
  · rw [e]; exact List.mem_cons_self
  · obtain ⟨l, hl, rfl⟩ := List.mem_map.mp hz
    exact List.mem_cons_of_mem _ (List.mem_map_of_mem (mt_used v hm hl))
def PG (fl : List (List (List Nat))) (k l : Nat) : Bool := if mtch fl = true then agrB (usd fl) (alQ (ringS fl) k) (alQ (ringS (colsL fl)) l) else oddK (ringS fl) k == oddK (ringS (colsL fl)) l
def CE (fl : List (List (List Nat))) : Nat := if mtch fl = true then fac ((usedL fl).length + 1) else fac ((usedL fl).length + 1) * fac ((usedL (colsL fl)).length + 1) / 2
end Dv
namespace Dv
open PySem L2 PyProof.Rows
open PySem.Calls
/-! ### xs[::-1] of a tuple -/
section
variable {prog : Program} {w : World} {A : Around} {E : Value → Shared → Prop} {s : Shared}
theorem places_rev (n : Nat) : Builtin.Slice.slicePlaces ((n : Int) - 1) (-1) (-1) = n := by
  unfold Builtin.Slice.slicePlaces
  have h1 : ¬ ((-1 : Int) > 0) := by decide
  rw [if_neg h1]
  by_cases h : (n : Int) - 1 > -1
  · rw [if_pos h]
    have e : ((n : Int) - 1 - -1 - 1) / (- -1) + 1 = (n : Int) := by
      rw [show (- -1 : Int) = 1 by decide, Int.ediv_one]
      omega
    rw [e]; rfl
  · rw [if_neg h]
    have : n = 0 := by omega
    rw [this]; rfl
theorem sliceApplied_rev {sl : Addr} {vk : Value} {n : Nat} {Q : Int × Int × Nat → Shared → Prop} (hs : s.heap.IsSliceOf sl .none .none vk) (pk : IsPart vk (some (-1)))
    (h : Q ((n : Int) - 1, -1, n) s) : wpAny (model prog w) A (Builtin.Slice.sliceApplied (.ref sl) (pure (n : Int))) Q E s := by
  obtain ⟨os, hos, hcs, hds⟩ := id hs
  unfold Builtin.Slice.sliceApplied Builtin.Slice.sliceFields
  refine wpAny_bind (wpAny_bind (wpAny_field hos hds (x := .none) rfl (wpAny_bind (wpAny_field hos hds (x := .none) rfl (wpAny_bind (wpAny_field hos hds (x := vk) rfl (wpAny_pure ?_)))))))
  refine wpAny_bind (HT.slicePart_ pk ?_)
  show wpAny _ _ (if ((-1 : Int) == 0) = true then _ else _) _ _ s
  rw [if_neg (by decide)]
  refine wpAny_bind (HT.slicePart_ .none (wpAny_bind (HT.slicePart_ .none (wpAny_bind (wpAny_pure ?_)))))
  show wpAny _ _ (pure ((n : Int) - 1, (-1 : Int), Builtin.Slice.slicePlaces ((n : Int) - 1) (-1) (-1))) _ _ s
  rw [places_rev]
  exact wpAny_pure h
theorem fm_congr {α β : Type} {f g : α → Option β} : ∀ {l : List α}, (∀ x, x ∈ l → f x = g x) → l.filterMap f = l.filterMap g
  | [], _ => rfl
  | x :: l, h => by
    rw [List.filterMap_cons, List.filterMap_cons, h x List.mem_cons_self, fm_congr fun y hy => h y (List.mem_cons_of_mem _ hy)]
theorem pick_rev (xs : Array Value) : ((List.range xs.size).filterMap fun (m : Nat) => xs[(((xs.size : Int) - 1) + (m : Int) * (-1)).toNat]?).toArray = xs.toList.reverse.toArray := by
  have e : (List.range xs.size).filterMap (fun (m : Nat) => xs[(((xs.size : Int) - 1) + (m : Int) * (-1)).toNat]?) = (List.range xs.size).filterMap ((fun k => xs[k]?) ∘ fun k => xs.size - 1 - k) := fm_congr fun m hm => by
    have := List.mem_range.mp hm
    have e2 : (((xs.size : Int) - 1) + (m : Int) * (-1)).toNat = xs.size - 1 - m := by omega
    show xs[_]? = xs[_]?
    rw [e2]
  rw [e, ← List.filterMap_map, PySem.W.krv_range, List.filterMap_reverse, PySem.W.krv_all]
theorem getItem_tuple_rev {t sl : Addr} {items : Array Value} {vk : Value} {Q : Value → Shared → Prop} (ht : IsTup s.heap t items) (hs : s.heap.IsSliceOf sl .none .none vk) (pk : IsPart vk (some (-1)))
    (h : Q (.ref s.heap.objs.size) { s with heap := s.heap.push { cls := .type "tuple", data := .seq items.toList.reverse.toArray } })
    (hsz : items.size ≤ sizeLine) : wpAny (model prog w) A (getItem (.ref t) (.ref sl)) Q E s := by
  have htake : sizeOk (.seq items.toList.reverse.toArray) := by
    show items.toList.reverse.toArray.size ≤ sizeLine
    rw [List.size_toArray, List.length_reverse, Array.length_toList]
    omega
  obtain ⟨os, hos, hcs, hds⟩ := id hs
  have hTs : s.TypeIs (.ref sl) "slice" := ⟨os, hos, hcs⟩
  unfold getItem
  try with_reducible refine wpAny_holding ?_
  first | refine wpAny_bind (wpAny_pure ?_) | skip
  refine wpAny_bind (wpAny_sequenceKey ht.typeIs (by decide) ?_)
  refine wpAny_bind (wpAny_callSpecial?_slot (name := Str.ofString "__getitem__") ht.typeIs PyProof.Rows.slot_tuple_getitem
    (wpAny_call_entry PyProof.Rows.slot_tuple_getitem ht.typeIs entry_tuple_getitem ?_ (args_tuple_getitem _ _)))
  show wpAny _ _ (Builtin.Tuple.tupleItemsOf (.ref t) >>= _) _ _ s
  refine wpAny_bind (PyProof.Rows.tupleItemsOf_ ht ?_)
  refine wpAny_bind (wpAny_typeOf hTs ?_)
  rw [if_pos (by decide)]
  refine wpAny_bind (sliceApplied_rev hs pk ?_)
  have hno : ¬ ((((items.size : Int) - 1) == 0 && (-1 : Int) == 1 && items.size == items.size) = true) := by
    intro q
    rw [Bool.and_eq_true, Bool.and_eq_true] at q
    exact absurd q.1.2 (by decide)
  show wpAny _ _ (if ((((items.size : Int) - 1) == 0 && (-1 : Int) == 1 && items.size == items.size) = true) then _ else _) _ _ s
  rw [if_neg hno, pick_rev]
  first
    | exact wpAny_bind (m := Builtin.Tuple.tupleExact _) (wpAny_newObj_type (wpAny_pure ⟨_, rfl, wpAny_pure h⟩) htake)
    | exact wpAny_bind (m := Builtin.Tuple.tupleExact _) (wpAny_newObj_type (wpAny_bind (wpAny_pure (wpAny_pure ⟨_, rfl, wpAny_pure h⟩))) htake)
    | exact wpAny_bind (wpAny_bind (m := Builtin.Tuple.tupleExact _) (wpAny_newObj_type (wpAny_pure (wpAny_pure ⟨_, rfl, wpAny_pure h⟩)) htake))
    | exact wpAny_bind (wpAny_bind (m := Builtin.Tuple.tupleExact _) (wpAny_newObj_type (wpAny_pure ⟨_, rfl, wpAny_pure h⟩) htake))
end
def tRevT (K : PySem.W.Frag) (te : TE) : TE := fun σ H Q => te σ H fun x H1 => ∃ a xs, x = .ref a ∧ SqT K H1 a xs ∧ ∀ p ob, H1 p = none → ob.dict = none → Q (.ref p) (upd H1 p (.frz ob (.tup xs.reverse)))
theorem pe_revT {X : Cx} {e : Expr} {te : TE} {k : Nat} {p1 p2 p3 pos : Pos} (he : PE X e te) : PE X (.Subscript e (.Slice none none (some (.UnaryOp .USub (.Constant (.int 1) k p1) p2)) p3) pos) (tRevT X.K te) := by
  refine ⟨fun pins s σ H Q I h => ?_⟩
  refine Subscript_ (thn (he.run pins s σ H _ I h) fun v s1 ⟨x, H1, I1, r1, q1⟩ => ?_)
  obtain ⟨a, xs, ex, hx, q⟩ := q1
  subst ex
  cases r1
  have hst : PO X (some (.UnaryOp .USub (.Constant (.int 1) k p1) p2)) (tPart (tUn (rU fun i => .int (-i)) (tC (.int 1)))) := po_some (pe_un un_neg pe_int)
  refine wpAny_Slice (thn (po_none.run pins s1 σ H1 (fun o H2 => o = none ∧ H2 = H1) I1 ⟨rfl, rfl⟩) fun vl s2 ⟨l, H2, I2, pl, el, e2⟩ => ?_)
  subst el e2
  refine thn (po_none.run pins s2 σ H2 (fun o H3 => o = none ∧ H3 = H2) I2 ⟨rfl, rfl⟩) fun vu s3 ⟨u, H3, I3, pu, eu, e3⟩ => ?_
  subst eu e3
  refine thn (hst.run pins s3 σ H3 (fun o H4 => o = some (-1) ∧ H4 = H3) I3 ⟨1, rfl, -1, rfl, rfl, rfl⟩) fun vs s4 ⟨o, H4, I4, ps, eo, e4⟩ => ?_
  subst eo e4
  cases pl
  cases pu
  have I5 : Inv X pins σ H4 { s4 with heap := s4.heap.push { cls := .type "slice", data := .fields #[.none, .none, vs] } } := I4.kept (t' := s4.toks) fun b ob q => Heap.get?_push_of_some _ q
  obtain ⟨its, r, ht, hz⟩ := I5.tuple hx
  have hlen := r.length
  show wpAny (model X.prog X.w) X.A (subscriptTail e (.Slice none none (some (.UnaryOp .USub (.Constant (.int 1) k p1) p2)) p3) (.ref a) (.ref s4.heap.objs.size)) (EP X pins σ Q) X.xe { s4 with heap := s4.heap.push { cls := .type "slice", data := .fields #[.none, .none, vs] } }
  refine tail_any (ops := [.ref a, .ref s4.heap.objs.size]) ht.typeIs (PyProof.Rows.slot_tuple_getitem.lookup) ?_ (by with_unfolding_all rfl)
  refine getItem_tuple_rev ht (Heap.IsSliceOf.new _ .none .none vs) ps ?_ (by rw [List.size_toArray]; omega)
  refine ⟨.ref _, _, inv_tupZ (tk := s4.toks) I5 (fun _ _ a => a) (xs := xs.reverse) (by rw [List.length_reverse]; exact hz) r.reverse, rfl, ?_⟩
  exact q _ _ (I5.hok.fresh (Nat.le_refl _)) rfl
section
variable {K : PySem.W.Frag} {ρ : Rho} {m : Sto} {P : PV} {te td ty : TE}
theorem imAll_rev {F : Reg} {H : Hp} {ds : List PyData} {vs : List V} (h : ImAll K F H ds vs) : ImAll K F H ds.reverse vs.reverse := by
  have hl := imAll_len h
  have key : ∀ (ds : List PyData) (vs : List V), ds.length = vs.length → (∀ (j : Nat) (d : PyData) (v : V), ds[j]? = some d → vs[j]? = some v → Im K F H d v) → ImAll K F H ds vs := by
    intro ds
    induction ds with
    | nil => intro vs e _; exact List.length_eq_zero_iff.mp e.symm
    | cons d ds ih =>
      intro vs e hj
      cases vs with
      | nil => cases e
      | cons v vs => exact ⟨v, vs, rfl, hj 0 d v rfl rfl, ih vs (Nat.succ.inj e) fun j d' v' h1 h2 => hj (j + 1) d' v' h1 h2⟩
  refine key _ _ (by rw [List.length_reverse, List.length_reverse]; exact hl) fun j d v h1 h2 => ?_
  have hj := (List.getElem?_eq_some_iff.mp h1).1
  rw [List.length_reverse] at hj
  rw [List.getElem?_reverse hj] at h1
  rw [List.getElem?_reverse (by omega), ← hl] at h2
  obtain ⟨v2, e2, i2⟩ := imAll_get h h1
  rw [h2] at e2
  cases e2
  exact i2
theorem ev_revT (h : Ev K te ρ m fun s m1 => ∃ ds, s = .d (.tuple ds) ∧ P (.d (.tuple ds.reverse)) m1) : Ev K (tRevT K te) ρ m P := fun σ F H Q E S q =>
  h σ F H _ E S fun s m1 x F1 H1 ⟨ds, e, p⟩ s1 S1 o1 => by
    subst e
    obtain ⟨l, vs, e, hl, i⟩ := im_tup o1
    refine ⟨l, vs, e, hl, fun c ob hc hd => q _ m1 _ _ _ p (s1.trans (step_new S1 hc)) (sto_new S1 hc) ⟨c, _, rfl, .inl ⟨.inl rfl, ob, upd_same, hd⟩, imAll_fix (step_new S1 hc).fix _ _ (imAll_rev i)⟩⟩
theorem ev_revL (h : Ev K te ρ m fun s m1 => ∃ ds, s = .d (.list ds) ∧ P (.d (.list ds.reverse)) m1) : Ev K (tRevL K te) ρ m P := fun σ F H Q E S q =>
  h σ F H _ E S fun s m1 x F1 H1 ⟨ds, e, p⟩ s1 S1 o1 => by
    subst e
    obtain ⟨l, vs, e, hl, i⟩ := im_lst o1
    exact ⟨l, vs, e, SqL.of hl, fun c hc => q _ m1 _ _ _ p (s1.trans (step_new S1 hc)) (sto_new S1 hc) ⟨c, _, rfl, .inl rfl, upd_same, imAll_fix (step_new S1 hc).fix _ _ (imAll_rev i)⟩⟩
/-! ### a dict that is walked -/
end
/-! ### a def with a keyword-only default -/
structure FunAtK (K : PySem.W.Frag) (mg : Str → Option Value) (name : Str) (st : Stmt) (ps : List Str) (dvs : List V) : Prop where
  ex : ∃ f fd ds, mg name = some (.ref f) ∧ Fun K name name st f fd ∧ Vals dvs ds ∧ Binds K fd ps ds
structure DfnK (Pg : Program) (w : World) (K : PySem.W.Frag) (mg : Str → Option Value) (base : Heap) (k : Nat) (name : Str) (ps : List Str) (dvs : List V) (W : WT) : Prop where
  ex : ∃ f fd ds, mg name = some (.ref f) ∧ PySem.W.keepIn K (.ref f) = true ∧ Vals dvs ds ∧ Binds K fd ps ds ∧ DF Pg w K mg base CX0 k f fd ps (SpD K W)
theorem funAtK_mk {K : PySem.W.Frag} {h : Heap} {mg : Str → Option Value} {x : Str} {st : Stmt} {f D : Addr} {oc : Value} {od an : Option Addr} {osl : Array (Option Value)} {doc pm cdv ct : Value} {ps : List Str} {n : Nat} {kw : Str} {v : V} {u : Value} (X : K.In h) (G : h.Ns mainGlobals mg)
    (a : PySem.W.nsIn K mainGlobals x = some (some (.ref f))) (l : K.lookup f = some ⟨oc, od, .func (PySem.W.fnOf x x (defArgs st) (defBody st) (defScope st) .none (.ref D) doc pm an cdv ct), osl⟩) (c : PySem.W.codeIn K cdv x = true) (k : PySem.W.keepIn K (.ref f) = true)
    (hkw : PySem.W.nsIn K D kw = some (some u)) (hv : L2.RelV v u) (hn : n + 1 = ps.length)
    (hb : ∀ (D : Addr) (doc pm : Value) (an : Option Addr) (cdv ct : Value) (us ks : List Value), us.length = n → ks.length = 1 →
      KwChain D ([kw].zip ks) (bindArgs (PySem.W.fnOf x x (defArgs st) (defBody st) (defScope st) .none (.ref D) doc pm an cdv ct) ⟨us, []⟩) (ps.zip (us ++ ks))) : FunAtK K mg x st ps [v] := by
  have F : FunD K x x (defArgs st) (defBody st) (defScope st) [] [(kw, v)] f (PySem.W.fnOf x x (defArgs st) (defBody st) (defScope st) .none (.ref D) doc pm an cdv ct) :=
    ⟨⟨oc, od, .none, .ref D, doc, pm, an, cdv, ct, osl, rfl, l, c, .inl ⟨rfl, rfl⟩, .inr ⟨D, rfl, fun q hq => by
      rw [List.mem_singleton.mp hq]
      exact ⟨u, hkw, hv⟩⟩⟩, k⟩
  obtain ⟨ds, d1, d2⟩ := F.binds0 (ps := ps) n (by simp) (by simpa using hn) fun D doc pm an cdv ct us ks h1 h2 => hb D doc pm an cdv ct us ks h1 h2
  exact ⟨f, _, ds, PySem.W.mg_of X G a, fun_mk l c k, d1, d2⟩
section
variable {Pg : Program} {w : World} {K : PySem.W.Frag} {mg : Str → Option Value} {base : Heap}
theorem dfnK_mk {k : Nat} {name : Str} {st : Stmt} {N ps : List Str} {dvs : List V} {W : WT} {t : TS} (A : FunAtK K mg name st ps dvs) (S : FnScope N ps (defScope st)) (len : ∀ ss m P, W ss m P → ss.length = ps.length)
    (der : ∀ (f : Addr) (cdv : Value) (A : Around) (outer : List Env) (s : Shared) (H : Hp) (E : XK), (A.deeper (envOfC name (defScope st) s.heap.objs.size f cdv)).guards = some [] → Room k (A.deeper (envOfC name (defScope st) s.heap.objs.size f cdv)) →
      PSs (cxOf CX0 Pg w K mg base N name (defScope st) f cdv A outer s H E).nox (defBody st) t)
    (rd : ∀ ss m P, W ss m P → Wp K t (rho N ss) m { nx := fun _ m' => P (.d .none) m', rt := P }) : DfnK Pg w K mg base (k + 1) name ps dvs W := by
  obtain ⟨f, fd, ds, hm, hF, hv, hb⟩ := A.ex
  exact ⟨f, fd, ds, hm, hF.kp, hv, hb, df_data hF S len (der f) rd⟩
variable {X : Cx}
end
end Dv
namespace Dv
open PySem L2 PyProof.Rows
end Dv
namespace Dv
open PySem L2 PyProof.Rows
end Dv
namespace Dv
open PySem L2 PyProof.Rows
/-! ### the partners of a matched floor -/
section
variable {K : PySem.W.Frag} {Pg : Program} {w : World} {m : Sto}
def LD (fl : List (List (List Nat))) (zs : List (List Nat)) : Prop := ∀ l, l ∈ zs ↔ (l ∈ fl.flatten ∧ upN l = true)
theorem LD.tx {fl : List (List (List Nat))} {zs : List (List Nat)} (v : VF fl) (h : LD fl zs) : ∀ l ∈ zs, Tx l := fun l hl => by
  obtain ⟨r, hr, h2⟩ := List.mem_flatten.mp ((h l).mp hl).1
  exact okL_tx (v.ok r hr l h2)
end
end Dv
namespace Dv
open PySem L2 PyProof.Rows
def SubS (m m' : Sto) : Prop := ∀ b u, m b = some u → m' b = some u
theorem SubS.refl {m : Sto} : SubS m m := fun _ _ h => h
theorem SubS.trans {a b c : Sto} (h : SubS a b) (g : SubS b c) : SubS a c := fun x u e => g x u (h x u e)
end Dv
namespace Dv
open PySem L2 PyProof.Rows
/-! ### how many pairs -/
end Dv
namespace Dv
open PySem L2 PyProof.Rows
/-! ### all leaders -/
end Dv
namespace Dv
open PySem L2 PyProof.Rows
/-! ### a or b, any values -/
/-! ### a dict comprehension with two clauses -/
section
variable {ka va ta ia tb ib : Expr} {fa fb : List Expr} {Sc : Scope} {at_ : Pos}
variable {prog : Program} {w : World} {A : Around} {R : Result → Shared → Prop} {s : Shared} {itr : Value} {D : Addr} {V : Env}
/-- what is behind a raise -/
abbrev nb (prog : Program) (w : World) (A : Around) (V : Env) (R : Result → Shared → Prop) : Value → Shared → Prop := notedBy (model prog w) A V fun e s' => R (.error e) s'
end
end Dv
namespace Dv
open PySem L2 PyProof.Rows
open PySem.W (dataLe)
/-! ### a floor and a rearrangement of it: two rings -/
def alR (us ws : List Str) (k : Nat) : List (Str × Str) := srtQ (us.zip (ws.drop k ++ ws.take k))
/-- two rings with the same labels -/
structure RG (us ws : List Str) : Prop where
  nd : us.Nodup
  perm : ws.Perm us
  len : us.length ≤ 13
  tx : ∀ z ∈ us, ∃ l, z = Sx l ∧ Tx l ∧ l.length ≤ 20
theorem RG.eq {us ws : List Str} (h : RG us ws) : us.length = ws.length := h.perm.length_eq.symm
theorem RG.vp {us ws : List Str} (h : RG us ws) {k : Nat} (hk : k < us.length) : VP (alR us ws k) ∧ (labs (alR us ws k)).Perm us := by
  have hl := h.eq
  have lr : (ws.drop k ++ ws.take k).length = us.length := by simp; omega
  have e1 : (us.zip (ws.drop k ++ ws.take k)).map Prod.fst = us := List.map_fst_zip (by omega)
  have e2 : (us.zip (ws.drop k ++ ws.take k)).map Prod.snd = ws.drop k ++ ws.take k := List.map_snd_zip (by omega)
  have hp := srtQ_perm (us.zip (ws.drop k ++ ws.take k))
  have p1 : (labs (alR us ws k)).Perm us := by
    have := hp.map Prod.fst
    rwa [e1] at this
  have p2 : ((alR us ws k).map Prod.snd).Perm us := by
    have := hp.map Prod.snd
    rw [e2] at this
    refine (this.trans ?_).trans h.perm
    conv => rhs; rw [← List.take_append_drop k ws]
    exact List.perm_append_comm
  have hs := srtQ_srt (ps := us.zip (ws.drop k ++ ws.take k)) (by rw [e1]; exact h.nd)
  exact ⟨⟨p1.nodup_iff.mpr h.nd, p2.trans p1.symm, by have := p1.length_eq; rw [labs_len] at this; have := h.len; omega, hs, fun z hz => h.tx z (p1.mem_iff.mp hz)⟩, p1⟩
/-- the offsets whose alignments leave the idle labels -/
def kpR (us ws : List Str) (idle : List Str) : List Nat := (List.range us.length).filter fun k => idle.all fun z => decide (fOf (alR us ws k) z = z)
theorem kpR_lt {us ws idle : List Str} {k : Nat} (h : k ∈ kpR us ws idle) : k < us.length := List.mem_range.mp (List.mem_filter.mp h).1
def oddR (us ws : List Str) (k : Nat) : Bool := decide (oddN (alR us ws k) % 2 = 1)
/-- pairs of offsets -/
def pairR (ks ls : List Nat) (G : Nat → Nat → Bool) : List (Nat × Nat) := ks.flatMap fun k => (ls.filter (G k)).map fun l => (k, l)
/-- goal is a rearrangement of start -/
structure RR (s g : List (List (List Nat))) : Prop where
  vs : VF s
  vg : VF g
  re : isRe s g = true
  row : (ringS g).Perm (ringS s)
  col : (ringS (colsL g)).Perm (ringS (colsL s))
theorem RR.rg {s g : List (List (List Nat))} (h : RR s g) : RG (ringS s) (ringS g) := ⟨ring_nd h.vs.lnR, h.row, (ring13 h.vs).1, ring_tx h.vs.lnR⟩
theorem RR.cg {s g : List (List (List Nat))} (h : RR s g) : RG (ringS (colsL s)) (ringS (colsL g)) := ⟨ring_nd h.vs.lnC, h.col, (ring13 h.vs).2, ring_tx h.vs.lnC⟩
def KRR (s g : List (List (List Nat))) : List Nat := kpR (ringS s) (ringS g) ((idleL s).map Sx)
def PGR (s g : List (List (List Nat))) (k l : Nat) : Bool := if mtch s = true then agrB (usd s) (alR (ringS s) (ringS g) k) (alR (ringS (colsL s)) (ringS (colsL g)) l) else oddR (ringS s) (ringS g) k == oddR (ringS (colsL s)) (ringS (colsL g)) l
def NPR (s g : List (List (List Nat))) : List (Nat × Nat) := pairR (KRR s g) (KRR (colsL s) (colsL g)) (PGR s g)
end Dv
namespace Dv
open PySem L2 PyProof.Rows
open PySem.W (dataLe)
/-! ### dicts from names -/
structure KD (A : List (List Nat)) (V : List Nat → PyData → Prop) (ps : List (Str × PyData)) : Prop where
  ent : ∀ q ∈ ps, ∃ x, q.1 = Sx x ∧ x ∈ A ∧ V x q.2
  key : ∀ x ∈ A, Sx x ∈ ps.map Prod.fst
  nd : (ps.map Prod.fst).Nodup
  len : ps.length ≤ A.length
theorem KD.nil {V : List Nat → PyData → Prop} : KD [] V [] := ⟨(fun q h => nomatch h), (fun q h => nomatch h), List.nodup_nil, Nat.le_refl _⟩
theorem KD.val {A : List (List Nat)} {V : List Nat → PyData → Prop} {ps : List (Str × PyData)} (h : KD A V ps) {x : List Nat} (hx : x ∈ A) : ∃ d, valP ps (Sx x) = some d ∧ V x d := by
  unfold valP
  cases hf : ps.find? (fun q => decide (q.1 = Sx x)) with
  | none =>
    obtain ⟨q, hq, e⟩ := List.mem_map.mp (h.key x hx)
    have := List.find?_eq_none.mp hf q hq
    simp [e] at this
  | some q =>
    have h1 := List.find?_some hf
    have h2 := List.mem_of_find?_eq_some hf
    have e : q.1 = Sx x := by simpa using h1
    obtain ⟨y, a, b, c⟩ := h.ent q h2
    have : y = x := sx_inj (a.symm.trans e)
    subst this
    exact ⟨q.2, rfl, c⟩
theorem KD.has {A : List (List Nat)} {V : List Nat → PyData → Prop} {ps : List (Str × PyData)} (h : KD A V ps) (x : List Nat) : (valP ps (Sx x)).isSome = decide (x ∈ A) := by
  by_cases hx : x ∈ A
  · obtain ⟨d, e, _⟩ := h.val hx
    rw [e, decide_eq_true hx]; rfl
  · rw [decide_eq_false hx]
    unfold valP
    cases hf : ps.find? (fun q => decide (q.1 = Sx x)) with
    | none => rfl
    | some q =>
      have h1 := List.find?_some hf
      have h2 := List.mem_of_find?_eq_some hf
      have e : q.1 = Sx x := by simpa using h1
      obtain ⟨y, a, b, c⟩ := h.ent q h2
      have : y = x := sx_inj (a.symm.trans e)
      exact absurd (this ▸ b) hx
/-- its keys as names -/
def kyN (ps : List (Str × PyData)) : List (List Nat) := ps.map fun q => q.1.cps.toList
theorem kyN_sx (ps : List (Str × PyData)) : (kyN ps).map Sx = ps.map Prod.fst := by
  unfold kyN
  rw [List.map_map]
  exact List.map_congr_left fun q _ => sx_of q.1
theorem KD.mem {A : List (List Nat)} {V : List Nat → PyData → Prop} {ps : List (Str × PyData)} (h : KD A V ps) (x : List Nat) : x ∈ kyN ps ↔ x ∈ A := by
  constructor
  · intro hx
    have : Sx x ∈ ps.map Prod.fst := by rw [← kyN_sx]; exact List.mem_map_of_mem hx
    obtain ⟨q, hq, e⟩ := List.mem_map.mp this
    obtain ⟨y, a, b, _⟩ := h.ent q hq
    rw [sx_inj (e.symm.trans a)]
    exact b
  · intro hx
    have := h.key x hx
    rw [← kyN_sx] at this
    obtain ⟨y, hy, e⟩ := List.mem_map.mp this
    rw [← sx_inj e]
    exact hy
/-! ### lists of the same names -/
theorem perm_of_mem {α : Type} [DecidableEq α] : ∀ {l1 l2 : List α}, l1.Nodup → l2.Nodup → (∀ x, x ∈ l1 ↔ x ∈ l2) → l1.Perm l2
  | [], l2, _, _, h => by
    cases l2 with
    | nil => exact List.Perm.refl _
    | cons y r => exact absurd ((h y).mpr List.mem_cons_self) (by simp)
  | x :: l1, l2, n1, n2, h => by
    have hx := (h x).mp List.mem_cons_self
    have p := List.perm_cons_erase hx
    obtain ⟨a, b⟩ := List.nodup_cons.mp n1
    obtain ⟨c, d⟩ := List.nodup_cons.mp (p.nodup_iff.mp n2)
    refine (List.Perm.cons x (perm_of_mem b d fun y => ?_)).trans p.symm
    constructor
    · intro hy
      have : y ∈ x :: l2.erase x := p.mem_iff.mp ((h y).mp (List.mem_cons_of_mem _ hy))
      exact (List.mem_cons.mp this).resolve_left fun e => a (e ▸ hy)
    · intro hy
      have : y ∈ x :: l1 := (h y).mpr (p.mem_iff.mpr (List.mem_cons_of_mem _ hy))
      exact (List.mem_cons.mp this).resolve_left fun e => c (e ▸ hy)
/-! ### which line a name stands in -/
theorem ln_uniq {x : List Nat} : ∀ {ls : List (List (List Nat))} {i j : Nat} {r q : List (List Nat)}, ls.flatten.Nodup → ls[i]? = some r → ls[j]? = some q → x ∈ r → x ∈ q → i = j
  | [], i, j, r, q, _, h, _, _, _ => by cases h
  | a :: ls, i, j, r, q, nd, hi, hj, hr, hq => by
    rw [List.flatten_cons, List.nodup_append] at nd
    obtain ⟨_, n2, n3⟩ := nd
    have out : ∀ {k : Nat} {t : List (List Nat)}, ls[k]? = some t → x ∈ t → x ∈ ls.flatten := fun {k t} h1 h2 => List.mem_flatten.mpr ⟨t, List.mem_of_getElem? h1, h2⟩
    cases i with
    | zero =>
      cases j with
      | zero => rfl
      | succ j =>
        cases hi
        exact absurd rfl (n3 x hr x (out hj hq))
    | succ i =>
      cases j with
      | zero =>
        cases hj
        exact absurd rfl (n3 x hq x (out hi hr))
      | succ j => rw [ln_uniq n2 (show ls[i]? = some r from hi) (show ls[j]? = some q from hj) hr hq]
def lnI (ls : List (List (List Nat))) (x : List Nat) : Nat := ls.findIdx fun r => decide (x ∈ r)
theorem lnI_ex {ls : List (List (List Nat))} {x : List Nat} (h : x ∈ ls.flatten) : ∃ r, ls[lnI ls x]? = some r ∧ x ∈ r := by
  obtain ⟨r, hr, hx⟩ := List.mem_flatten.mp h
  have hlt : lnI ls x < ls.length := List.findIdx_lt_length_of_exists ⟨r, hr, decide_eq_true hx⟩
  exact ⟨ls[lnI ls x], List.getElem?_eq_getElem hlt, of_decide_eq_true (List.findIdx_getElem (w := hlt))⟩
theorem lnI_at {ls : List (List (List Nat))} {x : List Nat} {i : Nat} {r : List (List Nat)} (nd : ls.flatten.Nodup) (h : ls[i]? = some r) (hx : x ∈ r) : lnI ls x = i := by
  obtain ⟨q, e, hq⟩ := lnI_ex (List.mem_flatten.mpr ⟨r, List.mem_of_getElem? h, hx⟩)
  exact ln_uniq nd e h hq hx
def shr (ls : List (List (List Nat))) (x y : List Nat) : Bool := decide (lnI ls x = lnI ls y)
/-! ### the same lines -/
theorem pw_uniq {α : Type} {le : α → α → Prop} : ∀ {xs ys : List α}, xs.Pairwise le → ys.Pairwise le → (∀ a ∈ xs, ∀ b ∈ xs, le a b → le b a → a = b) → xs.Perm ys → xs = ys
  | [], ys, _, _, _, p => by rw [List.nil_perm.mp p]
  | x :: xs, [], _, _, _, p => by cases List.perm_nil.mp p
  | x :: xs, y :: ys, hx, hy, an, p => by
    obtain ⟨x1, x2⟩ := List.pairwise_cons.mp hx
    obtain ⟨y1, y2⟩ := List.pairwise_cons.mp hy
    have e : x = y := by
      have m1 : x ∈ y :: ys := p.mem_iff.mp List.mem_cons_self
      have m2 : y ∈ x :: xs := p.mem_iff.mpr List.mem_cons_self
      rcases List.mem_cons.mp m1 with e | e
      · exact e
      · rcases List.mem_cons.mp m2 with e2 | e2
        · exact e2.symm
        · exact an x List.mem_cons_self y m2 (x1 y e2) (y1 x e)
    subst e
    rw [pw_uniq x2 y2 (fun a ha b hb => an a (List.mem_cons_of_mem _ ha) b (List.mem_cons_of_mem _ hb)) ((List.perm_cons x).mp p)]
theorem lt_heads {a b : List Nat} (as bs : List (List Nat)) (h : a ≠ b) : PySem.W.dataLt (.list ((a :: as).map nmD)) (.list ((b :: bs).map nmD)) = Spec.ltCps a b := by
  have e : PySem.W.dataLt (nmD a) (nmD b) = Spec.ltCps a b := by
    show PySem.W.dataLt (.str (Sx a)) (.str (Sx b)) = _
    rw [dataLt_strs]
  rw [← e]
  have hne : (Sum.inr (Sx a).cps.toList : Int ⊕ List Nat) ≠ Sum.inr (Sx b).cps.toList := fun q => h (by simpa using Sum.inr.inj q)
  unfold PySem.W.dataLt
  have k1 : PySem.W.keyToks (.list ((a :: as).map nmD)) = [Sum.inl 1] ++ (Sum.inr (Sx a).cps.toList :: PySem.W.keyToksAll (as.map nmD)) := by
    rw [List.map_cons, PySem.W.keyToks, PySem.W.keyToksAll]
    show Sum.inl 1 :: (PySem.W.keyToks (.str (Sx a)) ++ _) = _
    rw [PySem.W.keyToks]
    rfl
  have k2 : PySem.W.keyToks (.list ((b :: bs).map nmD)) = [Sum.inl 1] ++ (Sum.inr (Sx b).cps.toList :: PySem.W.keyToksAll (bs.map nmD)) := by
    rw [List.map_cons, PySem.W.keyToks, PySem.W.keyToksAll]
    show Sum.inl 1 :: (PySem.W.keyToks (.str (Sx b)) ++ _) = _
    rw [PySem.W.keyToks]
    rfl
  rw [k1, k2, PySem.W.lex_pre, PySem.W.lex_atom hne]
  show _ = PyProof.Rows.lexLt itemOrd (PySem.W.keyToks (.str (Sx a))) (PySem.W.keyToks (.str (Sx b)))
  rw [PySem.W.keyToks, PySem.W.keyToks]
/-- lines in order, by their first names -/
def hdO (a b : List (List Nat)) : Bool := !Spec.ltCps (b.headD []) (a.headD [])
theorem hdO_iff {a b : List (List Nat)} : hdO a b = true ↔ geC (a.headD []) (b.headD []) := by
  unfold hdO geC
  rw [Bool.not_eq_true']
theorem grp_hd {ls : List (List (List Nat))} (ne : ∀ r ∈ ls, r ≠ []) (nd : ls.flatten.Nodup) : grp ls = ((ls.map srt).mergeSort hdO).map fun z => .list (z.map nmD) := by
  unfold grp
  have e : ls.map grD = (ls.map srt).map fun z => PyData.list (z.map nmD) := by rw [List.map_map]; rfl
  rw [e]
  refine (PySem.W.sort_maps (r := hdO) (s := dataLe false id) (l := ls.map srt) (fun z => PyData.list (z.map nmD)) fun a ha b hb => ?_).symm
  obtain ⟨r, hr, rfl⟩ := List.mem_map.mp ha
  obtain ⟨q, hq, rfl⟩ := List.mem_map.mp hb
  rw [PySem.W.dataLe_eq]
  obtain ⟨t1, e1⟩ := mnL_head (ne r hr)
  obtain ⟨t2, e2⟩ := mnL_head (ne q hq)
  unfold hdO
  show (!Spec.ltCps ((srt q).headD []) ((srt r).headD [])) = !PySem.W.dataLt (.list ((srt q).map nmD)) (.list ((srt r).map nmD))
  congr 1
  by_cases h : mnL q = mnL r
  · have same : r = q := by
      have m1 := mnL_mem (ne r hr)
      have m2 := mnL_mem (ne q hq)
      obtain ⟨i, hi⟩ := List.mem_iff_getElem?.mp hr
      obtain ⟨j, hj⟩ := List.mem_iff_getElem?.mp hq
      have := ln_uniq nd hi hj m1 (h ▸ m2)
      subst this
      rw [hi] at hj
      exact Option.some.inj hj
    subst same
    have i1 : Spec.ltCps ((srt r).headD []) ((srt r).headD []) = false := ge_self _
    rw [i1]
    unfold PySem.W.dataLt
    cases hq2 : PyProof.Rows.lexLt itemOrd (PySem.W.keyToks (.list ((srt r).map nmD))) (PySem.W.keyToks (.list ((srt r).map nmD))) with
    | false => rfl
    | true =>
      have := PySem.W.lex_pre (PySem.W.keyToks (.list ((srt r).map nmD))) [] []
      rw [List.append_nil, hq2] at this
      cases this
  · rw [e1, e2, lt_heads t2 t1 h]
    rfl
/-- lines with the same names that share lines alike -/
theorem same_srt {ls ks : List (List (List Nat))} (n1 : ls.flatten.Nodup) (n2 : ks.flatten.Nodup) (e1 : ∀ r ∈ ls, r ≠ []) (sm : ∀ x, x ∈ ls.flatten ↔ x ∈ ks.flatten) (sh : ∀ x ∈ ls.flatten, ∀ y ∈ ls.flatten, shr ls x y = shr ks x y) : ∀ r ∈ ls, ∃ q ∈ ks, srt r = srt q := fun r hr => by
  have hx := mnL_mem (e1 r hr)
  obtain ⟨i, hi⟩ := List.mem_iff_getElem?.mp hr
  have fx : mnL r ∈ ls.flatten := List.mem_flatten.mpr ⟨r, hr, hx⟩
  obtain ⟨q, hq, xq⟩ := lnI_ex ((sm _).mp fx)
  have hqm := List.mem_of_getElem? hq
  have sub : ∀ {ls : List (List (List Nat))} {r : List (List Nat)}, ls.flatten.Nodup → r ∈ ls → r.Nodup := fun {ls r} nd hr => by
    induction ls with
    | nil => cases hr
    | cons a t ih =>
      rw [List.flatten_cons, List.nodup_append] at nd
      rcases List.mem_cons.mp hr with e | hr
      · rw [e]; exact nd.1
      · exact ih nd.2.1 hr
  refine ⟨q, hqm, srt_congr (perm_of_mem (sub n1 hr) (sub n2 hqm) fun y => ?_)⟩
  constructor
  · intro hy
    have fy : y ∈ ls.flatten := List.mem_flatten.mpr ⟨r, hr, hy⟩
    have h1 : shr ls (mnL r) y = true := by
      unfold shr
      rw [lnI_at n1 hi hx, lnI_at n1 hi hy]
      exact decide_eq_true rfl
    rw [sh _ fx _ fy] at h1
    have h2 : lnI ks (mnL r) = lnI ks y := of_decide_eq_true h1
    obtain ⟨t, ht, yt⟩ := lnI_ex ((sm _).mp fy)
    rw [← h2, hq] at ht
    cases ht
    exact yt
  · intro hy
    have gy : y ∈ ks.flatten := List.mem_flatten.mpr ⟨q, hqm, hy⟩
    have fy := (sm _).mpr gy
    have h1 : shr ks (mnL r) y = true := by
      unfold shr
      rw [lnI_at n2 hq xq, lnI_at n2 hq hy]
      exact decide_eq_true rfl
    rw [← sh _ fx _ fy] at h1
    have h2 : lnI ls (mnL r) = lnI ls y := of_decide_eq_true h1
    rw [lnI_at n1 hi hx] at h2
    obtain ⟨t, ht, yt⟩ := lnI_ex fy
    rw [← h2, hi] at ht
    cases ht
    exact yt
theorem same_lines {ls ks : List (List (List Nat))} (n1 : ls.flatten.Nodup) (n2 : ks.flatten.Nodup) (e1 : ∀ r ∈ ls, r ≠ []) (e2 : ∀ r ∈ ks, r ≠ []) (sm : ∀ x, x ∈ ls.flatten ↔ x ∈ ks.flatten) (sh : ∀ x ∈ ls.flatten, ∀ y ∈ ls.flatten, shr ls x y = shr ks x y) : (ls.map srt).Perm (ks.map srt) ∧ grp ls = grp ks ∧ (ringS ks).Perm (ringS ls) := by
  have nds : ∀ {ls : List (List (List Nat))}, ls.flatten.Nodup → (∀ r ∈ ls, r ≠ []) → (ls.map srt).Nodup := fun {ls} n e => by
    have := fl_disj n e
    refine List.pairwise_map.mpr ((List.pairwise_map.mp this).imp fun {a b} h q => h ?_)
    unfold mnL
    rw [q]
  have p : (ls.map srt).Perm (ks.map srt) := perm_of_mem (nds n1 e1) (nds n2 e2) fun z => by
    constructor
    · intro hz
      obtain ⟨r, hr, rfl⟩ := List.mem_map.mp hz
      obtain ⟨q, hq, e⟩ := same_srt n1 n2 e1 sm sh r hr
      rw [e]
      exact List.mem_map_of_mem hq
    · intro hz
      obtain ⟨r, hr, rfl⟩ := List.mem_map.mp hz
      obtain ⟨q, hq, e⟩ := same_srt n2 n1 e2 (fun x => (sm x).symm) (fun x hx y hy => (sh x ((sm x).mpr hx) y ((sm y).mpr hy)).symm) r hr
      rw [e]
      exact List.mem_map_of_mem hq
  refine ⟨p, ?_, ?_⟩
  · rw [grp_hd e1 n1, grp_hd e2 n2]
    congr 1
    have tr : ∀ a b c : List (List Nat), hdO a b = true → hdO b c = true → hdO a c = true := fun a b c h1 h2 => hdO_iff.mpr (ge_trans (hdO_iff.mp h1) (hdO_iff.mp h2))
    have tot : ∀ a b : List (List Nat), (hdO a b || hdO b a) = true := fun a b => by
      rw [Bool.or_eq_true]
      exact (ge_total (a.headD []) (b.headD [])).imp hdO_iff.mpr hdO_iff.mpr
    refine pw_uniq (le := fun a b => hdO a b = true) (List.pairwise_mergeSort tr tot _) (List.pairwise_mergeSort tr tot _) (fun a ha b hb h1 h2 => ?_) (((List.mergeSort_perm _ _).trans p).trans (List.mergeSort_perm _ _).symm)
    obtain ⟨r, hr, rfl⟩ := List.mem_map.mp ((List.mergeSort_perm _ _).mem_iff.mp ha)
    obtain ⟨q, hq, rfl⟩ := List.mem_map.mp ((List.mergeSort_perm _ _).mem_iff.mp hb)
    have h1' : geC (mnL r) (mnL q) := hdO_iff.mp h1
    have h2' : geC (mnL q) (mnL r) := hdO_iff.mp h2
    have e := ge_anti h1' h2'
    obtain ⟨i, hi⟩ := List.mem_iff_getElem?.mp hr
    obtain ⟨j, hj⟩ := List.mem_iff_getElem?.mp hq
    have := ln_uniq n1 hi hj (mnL_mem (e1 r hr)) (e ▸ mnL_mem (e1 q hq))
    subst this
    rw [hi] at hj
    rw [Option.some.inj hj]
  · have hm : (ls.map mnL).Perm (ks.map mnL) := by
      have := p.map fun z : List (List Nat) => z.headD []
      rw [List.map_map, List.map_map] at this
      exact this
    exact (List.Perm.cons ("" : Str) (hm.map Sx)).symm
theorem RF.ne {fl : List (List (List Nat))} (v : RF fl) : ∀ r ∈ fl, r ≠ [] := fun r hr => (v.rows.ok r hr).pos
theorem RF.vf {s g : List (List (List Nat))} (vs : VF s) (rg : RF g) (p : s.flatten.Perm g.flatten) : VF g := ⟨rg.pos, rg.most, rg.cols, fun r hr l hl => by
    have : l ∈ s.flatten := p.mem_iff.mpr (List.mem_flatten.mpr ⟨r, hr, hl⟩)
    obtain ⟨q, hq, h⟩ := List.mem_flatten.mp this
    exact vs.ok q hq l h, p.nodup_iff.mp vs.nd⟩
theorem col_iff {fl : List (List (List Nat))} (v : VF fl) (x : List Nat) : x ∈ (colsL fl).flatten ↔ x ∈ fl.flatten := ⟨fun h => by
    obtain ⟨c, hc, hx⟩ := List.mem_flatten.mp h
    exact (v.colm hc).2 x hx, fun h => col_flat v h⟩
theorem rr_mk {s g : List (List (List Nat))} (vs : VF s) (vg : VF g) (p : s.flatten.Perm g.flatten) (h1 : ∀ x ∈ s.flatten, ∀ y ∈ s.flatten, shr s x y = shr g x y) (h2 : ∀ x ∈ s.flatten, ∀ y ∈ s.flatten, shr (colsL s) x y = shr (colsL g) x y) : RR s g := by
  obtain ⟨a1, a2, a3⟩ := same_lines vs.nd vg.nd vs.rf.ne vg.rf.ne (fun x => p.mem_iff) h1
  have vc := vs.vfC
  have gc := vg.vfC
  obtain ⟨b1, b2, b3⟩ := same_lines vc.nd gc.nd vc.rf.ne gc.rf.ne (fun x => by rw [col_iff vs, col_iff vg]; exact p.mem_iff) fun x hx y hy => h2 x ((col_iff vs x).mp hx) y ((col_iff vs y).mp hy)
  refine ⟨vs, vg, ?_, a3, b3⟩
  unfold isRe sameG
  rw [Bool.and_eq_true, ← a2, ← b2]
  exact ⟨(nx_grp vs.rows).refl, (nx_grp vs.colk).refl⟩
end Dv
namespace Dv
open PySem L2 PyProof.Rows
open PySem.W (EachIs AllAlike Sortable dataLe)
/-! ### sorted of a dict whose keys are names, of any length -/
/-! ### == of a list of anything and an empty list -/
/-! ### law 13: what the program does -/
def VL (ls : List (List (List Nat))) (x : List Nat) (d : PyData) : Prop := ∃ (k : Nat) (r : List (List Nat)), ls[k]? = some r ∧ x ∈ r ∧ d = .int (k : Nat)
theorem KD.line {ls : List (List (List Nat))} {ps : List (Str × PyData)} (h : KD ls.flatten (VL ls) ps) (nd : ls.flatten.Nodup) {x : List Nat} (hx : x ∈ ls.flatten) : valP ps (Sx x) = some (.int (lnI ls x : Nat)) := by
  obtain ⟨d, e, k, r, h1, h2, rfl⟩ := h.val hx
  rw [e, lnI_at nd h1 h2]
section
variable {K : PySem.W.Frag} {Pg : Program} {w : World} {m : Sto} {P : PV}
theorem col_flen {s : List (List (List Nat))} (vs : VF s) : (colsL s).flatten.Perm s.flatten := perm_of_mem vs.vfC.nd vs.nd fun x => col_iff vs x
end
end Dv
namespace Dv
open PySem L2 PyProof.Rows
/-! ### what moves do to the rings -/
structure Tn (us ws : List Str) (p : Str → Str) : Prop where
  len : ws.length = us.length
  at_ : ∃ k, k < us.length ∧ ∀ i x, us[i]? = some x → ws[(i + k) % us.length]? = some (p x)
theorem Tn.refl {us : List Str} (h : us ≠ []) : Tn us us id := ⟨rfl, 0, List.length_pos_iff.mpr h, fun i x hi => by
  rw [Nat.add_zero, Nat.mod_eq_of_lt (List.getElem?_eq_some_iff.mp hi).1]
  exact hi⟩
theorem Tn.comp {us ws vs : List Str} {p q : Str → Str} (a : Tn us ws p) (b : Tn ws vs q) : Tn us vs (q ∘ p) := by
  obtain ⟨k1, h1, f1⟩ := a.at_
  obtain ⟨k2, h2, f2⟩ := b.at_
  refine ⟨b.len.trans a.len, (k1 + k2) % us.length, Nat.mod_lt _ (by omega), fun i x hi => ?_⟩
  have := f2 _ _ (f1 i x hi)
  rw [a.len] at this
  have e : ((i + k1) % us.length + k2) % us.length = (i + (k1 + k2) % us.length) % us.length := by
    rw [Nat.mod_add_mod, Nat.add_mod_mod, Nat.add_assoc]
  rw [e] at this
  exact this
theorem tn_move {A B : List Str} {x : Str} (nd : (("" : Str) :: (A ++ x :: B)).Nodup) : Tn ("" :: (A ++ x :: B)) ("" :: (B ++ x :: A)) (sw "" x) := by
  have hn : (("" : Str) :: (A ++ x :: B)).length = A.length + B.length + 2 := by simp; omega
  refine ⟨by simp; omega, B.length + 1, by rw [hn]; omega, fun i y hi => ?_⟩
  rw [hn]
  obtain ⟨n1, n2⟩ := List.nodup_cons.mp nd
  have n3 := (List.nodup_append.mp n2)
  have xA : x ∉ A := fun h => n3.2.2 x h x List.mem_cons_self rfl
  have xB : x ∉ B := (List.nodup_cons.mp n3.2.1).1
  have hil := (List.getElem?_eq_some_iff.mp hi).1
  rw [hn] at hil
  cases i with
  | zero =>
    cases hi
    rw [sw_l, Nat.zero_add, Nat.mod_eq_of_lt (by omega), List.getElem?_cons_succ, List.getElem?_append_right (Nat.le_refl _), Nat.sub_self]
    rfl
  | succ j =>
    rw [List.getElem?_cons_succ] at hi
    have ym := List.mem_of_getElem? hi
    have yg : y ≠ "" := fun e => n1 (e ▸ ym)
    by_cases h1 : j < A.length
    · rw [List.getElem?_append_left h1] at hi
      have yx : y ≠ x := fun e => xA (e ▸ List.mem_of_getElem? hi)
      rw [sw_o yg yx, Nat.mod_eq_of_lt (by omega), show j + 1 + (B.length + 1) = (B.length + 1 + j) + 1 by omega, List.getElem?_cons_succ, List.getElem?_append_right (by omega), show B.length + 1 + j - B.length = j + 1 by omega, List.getElem?_cons_succ]
      exact hi
    · rw [List.getElem?_append_right (by omega)] at hi
      by_cases h2 : j = A.length
      · subst h2
        rw [Nat.sub_self] at hi
        cases hi
        rw [sw_r, show A.length + 1 + (B.length + 1) = A.length + B.length + 2 by omega, Nat.mod_self]
        rfl
      · rw [show j - A.length = (j - A.length - 1) + 1 by omega, List.getElem?_cons_succ] at hi
        have yx : y ≠ x := fun e => xB (e ▸ List.mem_of_getElem? hi)
        have em : (j + 1 + (B.length + 1)) % (A.length + B.length + 2) = (j - A.length - 1) + 1 := by
          rw [show j + 1 + (B.length + 1) = (j - A.length - 1 + 1) + (A.length + B.length + 2) by omega, Nat.add_mod_right, Nat.mod_eq_of_lt (by omega)]
        rw [sw_o yg yx, em, List.getElem?_cons_succ, List.getElem?_append_left (by have := (List.getElem?_eq_some_iff.mp hi).1; omega)]
        exact hi
theorem tn_al {us ws : List Str} {p : Str → Str} (rg : RG us ws) (t : Tn us ws p) : ∃ k, k < us.length ∧ ∀ x ∈ us, fOf (alR us ws k) x = p x := by
  obtain ⟨k, hk, f⟩ := t.at_
  refine ⟨k, hk, fun x hx => ?_⟩
  obtain ⟨i, hi⟩ := List.mem_iff_getElem?.mp hx
  have hl := rg.eq
  have hil := (List.getElem?_eq_some_iff.mp hi).1
  have hr := rot_at (ws := ws) (k := k) (i := i) (by omega) (by omega)
  have := f i x hi
  rw [hl] at this
  rw [this] at hr
  have hz : (us.zip (ws.drop k ++ ws.take k))[i]? = some (x, p x) := List.getElem?_zip_eq_some.mpr ⟨hi, hr⟩
  have hm : (x, p x) ∈ alR us ws k := (srtQ_perm _).mem_iff.mpr (List.mem_of_getElem? hz)
  exact fOf_at (rg.vp hk).1 hm
/-- the labels in order -/
def lbs (us : List Str) : List Str := labs (alR us us 0)
theorem RG.self {us ws : List Str} (rg : RG us ws) : RG us us := ⟨rg.nd, List.Perm.refl _, rg.len, rg.tx⟩
theorem lbs_eq {us ws : List Str} (rg : RG us ws) {k : Nat} (hk : k < us.length) : labs (alR us ws k) = lbs us := by
  obtain ⟨v, p⟩ := rg.vp hk
  obtain ⟨v0, p0⟩ := rg.self.vp (k := 0) (by omega)
  exact sort_one p v.srt p0 v0.srt
theorem lbs_inv {us ws : List Str} (rg : RG us ws) (h : us ≠ []) : inv ltS (lbs us) = 0 := inv_sorted (rg.self.vp (k := 0) (List.length_pos_iff.mpr h)).1.pw
theorem al_map {us ws : List Str} {p : Str → Str} (rg : RG us ws) {k : Nat} (hk : k < us.length) (f : ∀ x ∈ us, fOf (alR us ws k) x = p x) : (alR us ws k).map Prod.snd = (lbs us).map p := by
  obtain ⟨v, pm⟩ := rg.vp hk
  rw [← fOf_map v, lbs_eq rg hk]
  exact List.map_congr_left fun z hz => f z (((lbs_eq rg hk) ▸ pm).mem_iff.mp hz)
theorem odd_par {us ws : List Str} {p : Str → Str} (rg : RG us ws) {k : Nat} (hk : k < us.length) (f : ∀ x ∈ us, fOf (alR us ws k) x = p x) : oddR us ws k = decide (inv ltS ((lbs us).map p) % 2 = 1) := by
  have := (rg.vp hk).1.sign
  rw [al_map rg hk f] at this
  unfold oddR
  rw [decide_eq_decide]
  omega
theorem tn_nd {us ws : List Str} {p : Str → Str} (rg : RG us ws) (t : Tn us ws p) : ((lbs us).map p).Nodup ∧ ∀ z ∈ us, z ∈ (lbs us).map p := by
  obtain ⟨k, hk, f⟩ := tn_al rg t
  obtain ⟨v, pm⟩ := rg.vp hk
  rw [← al_map rg hk f]
  exact ⟨v.perm.nodup_iff.mpr v.nd, fun z hz => v.perm.mem_iff.mpr (pm.mem_iff.mpr hz)⟩
/-! lines -/
theorem mn_perm {a b : List (List Nat)} (h : a.Perm b) : mnL a = mnL b := by
  unfold mnL
  rw [srt_congr h]
theorem ringS_split (a b : List (List (List Nat))) (r : List (List Nat)) : ringS (a ++ r :: b) = ("" : Str) :: ((a.map mnL).map Sx ++ Sx (mnL r) :: (b.map mnL).map Sx) := by
  unfold ringS
  rw [List.map_append, List.map_cons, List.map_append, List.map_cons]
theorem row_step {g : Fl} (v : VF g) {l : List Nat} (hl : l ∈ g.flatten) : ∃ r ∈ g, l ∈ r ∧ Tn (ringS g) (ringS (crX g l)) (sw ("" : Str) (Sx (mnL r))) ∧ ((crX g l).map srt).Perm (g.map srt) := by
  obtain ⟨i, j, h⟩ := at_of hl
  rw [crX_at v h]
  obtain ⟨r, hr, hx⟩ := h
  obtain ⟨a, b, e, ea⟩ := split_at hr
  refine ⟨r, List.mem_of_getElem? hr, List.mem_of_getElem? hx, ?_, ?_⟩
  · have nd := ring_nd v.lnR
    have e2 : (Dv.crF i j g).map mnL = (b ++ r :: a).map mnL := by
      unfold Dv.crF
      rw [e, ← ea, crL_split, List.map_map]
      exact List.map_congr_left fun q _ => mn_perm crL_perm
    have e3 : ringS (Dv.crF i j g) = ringS (b ++ r :: a) := by unfold ringS; rw [e2]
    rw [e3]
    rw [e] at nd ⊢
    rw [ringS_split] at nd ⊢
    rw [ringS_split]
    exact tn_move nd
  · have e2 : (Dv.crF i j g).map srt = (crL i g).map srt := by
      unfold Dv.crF
      rw [List.map_map]
      exact List.map_congr_left fun q _ => srt_congr crL_perm
    rw [e2]
    exact crL_perm.map srt
theorem shr_ex {ls : List (List (List Nat))} (nd : ls.flatten.Nodup) {x y : List Nat} (hx : x ∈ ls.flatten) (hy : y ∈ ls.flatten) : shr ls x y = true ↔ ∃ z ∈ ls.map srt, x ∈ z ∧ y ∈ z := by
  unfold shr
  rw [decide_eq_true_eq]
  constructor
  · intro h
    obtain ⟨r, hr, xr⟩ := lnI_ex hx
    obtain ⟨q, hq, yq⟩ := lnI_ex hy
    rw [← h, hr] at hq
    cases hq
    exact ⟨srt r, List.mem_map_of_mem (List.mem_of_getElem? hr), (srt_perm r).mem_iff.mpr xr, (srt_perm r).mem_iff.mpr yq⟩
  · rintro ⟨z, hz, a, b⟩
    obtain ⟨r, hr, rfl⟩ := List.mem_map.mp hz
    obtain ⟨i, hi⟩ := List.mem_iff_getElem?.mp hr
    rw [lnI_at nd hi ((srt_perm r).mem_iff.mp a), lnI_at nd hi ((srt_perm r).mem_iff.mp b)]
theorem shr_srt {ls ks : List (List (List Nat))} (n1 : ls.flatten.Nodup) (n2 : ks.flatten.Nodup) (sm : ∀ x, x ∈ ls.flatten ↔ x ∈ ks.flatten) (p : (ks.map srt).Perm (ls.map srt)) : ∀ x ∈ ls.flatten, ∀ y ∈ ls.flatten, shr ls x y = shr ks x y := fun x hx y hy => by
  rw [Bool.eq_iff_iff, shr_ex n1 hx hy, shr_ex n2 ((sm x).mp hx) ((sm y).mp hy)]
  exact ⟨fun ⟨z, hz, h⟩ => ⟨z, p.mem_iff.mpr hz, h⟩, fun ⟨z, hz, h⟩ => ⟨z, p.mem_iff.mp hz, h⟩⟩
/-- what a sequence of moves has made of s -/
structure Mv (s g : Fl) (p q : Str → Str) : Prop where
  vg : VF g
  fl : g.flatten.Perm s.flatten
  rw_ : (g.map srt).Perm (s.map srt)
  cw : ((colsL g).map srt).Perm ((colsL s).map srt)
  tr : Tn (ringS s) (ringS g) p
  tc : Tn (ringS (colsL s)) (ringS (colsL g)) q
  ir : ∀ l ∈ idleL s, p (Sx l) = Sx l
  ic : ∀ l ∈ idleL (colsL s), q (Sx l) = Sx l
  pt : (inv ltS ((lbs (ringS s)).map p) + inv ltS ((lbs (ringS (colsL s))).map q)) % 2 = 0
  mt : mtch s = true → ∀ z ∈ usd s, p z = q z ∧ p z ∈ usd s
theorem Mv.rr {s g : Fl} {p q : Str → Str} (v : VF s) (h : Mv s g p q) : RR s g := rr_mk v h.vg h.fl.symm (shr_srt v.nd h.vg.nd (fun x => h.fl.symm.mem_iff) h.rw_) fun x hx y hy => shr_srt v.vfC.nd h.vg.vfC.nd (fun x => by rw [col_iff v, col_iff h.vg]; exact h.fl.symm.mem_iff) h.cw x ((col_iff v x).mpr hx) y ((col_iff v y).mpr hy)
theorem ring_ne (ls : List (List (List Nat))) : ringS ls ≠ [] := fun e => by cases e
theorem rgS {s : Fl} (v : VF s) : RG (ringS s) (ringS s) := ⟨ring_nd v.lnR, List.Perm.refl _, (ring13 v).1, ring_tx v.lnR⟩
theorem Mv.start {s : Fl} (v : VF s) : Mv s s id id := ⟨v, .refl _, .refl _, .refl _, Tn.refl (ring_ne _), Tn.refl (ring_ne _), fun _ _ => rfl, fun _ _ => rfl, by
  rw [List.map_id, List.map_id, lbs_inv (rgS v) (ring_ne _), lbs_inv (rgS v.vfC) (ring_ne _)], fun _ z hz => ⟨rfl, hz⟩⟩
theorem sx_ne {l : List Nat} (h : okL l = true) : Sx l ≠ "" := fun e => by
  have e0 : ("" : Str) = Sx [] := by decide +kernel
  rw [e0] at e
  exact okL_ne h (sx_inj e)
/-- a line with a leader is no idle one -/
theorem used_line {s g : List (List (List Nat))} (nd : s.flatten.Nodup) (ne : ∀ r ∈ s, r ≠ []) (p : (g.map srt).Perm (s.map srt)) {r : List (List Nat)} (hr : r ∈ g) {l : List Nat} (hl : l ∈ r) (ul : upN l = true) : ∃ q ∈ s, mnL r = mnL q ∧ l ∈ q ∧ hasL q = true ∧ ∀ z ∈ idleL s, z ≠ mnL r := by
  obtain ⟨q, hq, e⟩ := List.mem_map.mp (p.mem_iff.mp (List.mem_map_of_mem (f := srt) hr))
  have em : mnL r = mnL q := by unfold mnL; rw [e]
  have lq : l ∈ q := (srt_perm q).mem_iff.mp (by rw [e]; exact (srt_perm r).mem_iff.mpr hl)
  have hh : hasL q = true := by
    unfold hasL
    have : l ∈ q.filter upN := List.mem_filter.mpr ⟨lq, ul⟩
    cases hf : q.filter upN with
    | nil => rw [hf] at this; cases this
    | cons => rfl
  refine ⟨q, hq, em, lq, hh, fun z hz e2 => ?_⟩
  obtain ⟨r0, hr0, rfl⟩ := List.mem_map.mp hz
  obtain ⟨h1, h2⟩ := List.mem_filter.mp hr0
  obtain ⟨i, hi⟩ := List.mem_iff_getElem?.mp h1
  obtain ⟨j, hj⟩ := List.mem_iff_getElem?.mp hq
  have := ln_uniq nd hi hj (mnL_mem (ne r0 h1)) (by rw [e2, em]; exact mnL_mem (ne q hq))
  subst this
  rw [hi] at hj
  cases hj
  rw [hh] at h2
  cases h2
theorem Mv.step {s g : Fl} {p q : Str → Str} (v : VF s) (h : Mv s g p q) {l : List Nat} (hl : l ∈ s.flatten) (ul : upN l = true) : ∃ p' q', Mv s (crX g l) p' q' := by
  have hg : l ∈ g.flatten := h.fl.mem_iff.mpr hl
  have vc := v.vfC
  have gc := h.vg.vfC
  obtain ⟨r, hr, lr, t1, s1⟩ := row_step h.vg hg
  obtain ⟨c, hc, lc, t2, s2⟩ := row_step gc (col_flat h.vg hg)
  have ecol : colsL (crX g l) = crX (colsL g) l := crX_col h.vg hg
  rw [← ecol] at t2 s2
  have nr := v.rf.ne
  have nc := vc.rf.ne
  obtain ⟨r0, hr0, er, lr0, ur, ir⟩ := used_line v.nd nr h.rw_ hr lr ul
  obtain ⟨c0, hc0, ec, lc0, uc, ic⟩ := used_line vc.nd nc h.cw hc lc ul
  have rr := h.rr v
  have okr : okL (mnL r) = true := h.vg.ok r hr _ (mnL_mem (h.vg.rf.ne r hr))
  have okc : okL (mnL c) = true := gc.ok c hc _ (mnL_mem (gc.rf.ne c hc))
  have mr : Sx (mnL r) ∈ ringS s := by rw [er]; exact List.mem_cons_of_mem _ (List.mem_map_of_mem (List.mem_map_of_mem hr0))
  have mc : Sx (mnL c) ∈ ringS (colsL s) := by rw [ec]; exact List.mem_cons_of_mem _ (List.mem_map_of_mem (List.mem_map_of_mem hc0))
  obtain ⟨k1, k2, k3, _⟩ := crX_ok h.vg hg
  refine ⟨sw ("" : Str) (Sx (mnL r)) ∘ p, sw ("" : Str) (Sx (mnL c)) ∘ q, k1, k2.trans h.fl, s1.trans h.rw_, s2.trans h.cw, h.tr.comp t1, h.tc.comp t2, fun z hz => ?_, fun z hz => ?_, ?_, fun hm z hz => ?_⟩
  · show sw ("" : Str) (Sx (mnL r)) (p (Sx z)) = _
    rw [h.ir z hz]
    obtain ⟨q0, hq0, rfl⟩ := List.mem_map.mp hz
    have hq1 := (List.mem_filter.mp hq0).1
    exact sw_o (sx_ne (v.ok q0 hq1 _ (mnL_mem (nr q0 hq1)))) fun e => ir _ hz (sx_inj e)
  · show sw ("" : Str) (Sx (mnL c)) (q (Sx z)) = _
    rw [h.ic z hz]
    obtain ⟨q0, hq0, rfl⟩ := List.mem_map.mp hz
    have hq1 := (List.mem_filter.mp hq0).1
    exact sw_o (sx_ne (vc.ok q0 hq1 _ (mnL_mem (nc q0 hq1)))) fun e => ic _ hz (sx_inj e)
  · obtain ⟨n1, m1⟩ := tn_nd rr.rg h.tr
    obtain ⟨n2, m2⟩ := tn_nd rr.cg h.tc
    have e1 := inv_sw ltS_tot (x := ("" : Str)) (y := Sx (mnL r)) (Ne.symm (sx_ne okr)) n1 (m1 _ List.mem_cons_self) (m1 _ mr)
    have e2 := inv_sw ltS_tot (x := ("" : Str)) (y := Sx (mnL c)) (Ne.symm (sx_ne okc)) n2 (m2 _ List.mem_cons_self) (m2 _ mc)
    have pt := h.pt
    rw [List.map_map] at e1 e2
    omega
  · obtain ⟨h1, h2⟩ := h.mt hm z hz
    have allm := List.all_eq_true.mp hm
    have e1 : mnL r = l := by rw [er]; exact one_mn (v.ok r0 hr0) (allm r0 (List.mem_append_left _ hr0)) lr0 ul
    have e2 : mnL c = l := by rw [ec]; exact one_mn (vc.ok c0 hc0) (allm c0 (List.mem_append_right _ hc0)) lc0 ul
    have lu : Sx l ∈ usd s := by
      refine List.mem_cons_of_mem _ (List.mem_map_of_mem ((srt_perm _).mem_iff.mpr ?_))
      rw [← e1, er]
      exact List.mem_map_of_mem (List.mem_filter.mpr ⟨hr0, ur⟩)
    refine ⟨?_, ?_⟩
    · show sw ("" : Str) (Sx (mnL r)) (p z) = sw ("" : Str) (Sx (mnL c)) (q z)
      rw [e1, e2, h1]
    · show sw ("" : Str) (Sx (mnL r)) (p z) ∈ usd s
      rw [e1]
      exact sw_in List.mem_cons_self lu h2
theorem mv_ok {s : Fl} (v : VF s) : ∀ (ls : List (List Nat)) {g : Fl} {p q : Str → Str}, Mv s g p q → (∀ l ∈ ls, l ∈ s.flatten ∧ upN l = true) → ∃ p' q', Mv s (plF g ls) p' q'
  | [], g, p, q, h, _ => ⟨p, q, h⟩
  | l :: ls, g, p, q, h, hl => by
    obtain ⟨p', q', h'⟩ := h.step v (hl l List.mem_cons_self).1 (hl l List.mem_cons_self).2
    exact mv_ok v ls h' fun x hx => hl x (List.mem_cons_of_mem _ hx)
theorem Mv.pair {s g : Fl} {p q : Str → Str} (v : VF s) (h : Mv s g p q) : ∃ k ∈ KRR s g, ∃ l ∈ KRR (colsL s) (colsL g), PGR s g k l = true := by
  have rr := h.rr v
  obtain ⟨k, hk, f⟩ := tn_al rr.rg h.tr
  obtain ⟨l, hl, f2⟩ := tn_al rr.cg h.tc
  refine ⟨k, List.mem_filter.mpr ⟨List.mem_range.mpr hk, List.all_eq_true.mpr fun z hz => decide_eq_true ?_⟩, l, List.mem_filter.mpr ⟨List.mem_range.mpr hl, List.all_eq_true.mpr fun z hz => decide_eq_true ?_⟩, ?_⟩
  · rw [f z (idle_ring s z hz)]
    obtain ⟨x, hx, rfl⟩ := List.mem_map.mp hz
    exact h.ir x hx
  · rw [f2 z (idle_ring (colsL s) z hz)]
    obtain ⟨x, hx, rfl⟩ := List.mem_map.mp hz
    exact h.ic x hx
  · unfold PGR
    by_cases hm : mtch s = true
    · rw [if_pos hm]
      unfold agrB
      exact List.all_eq_true.mpr fun z hz => decide_eq_true (by rw [f z (usd_row z hz), f2 z (usd_col v hm z hz)]; exact (h.mt hm z hz).1)
    · rw [if_neg hm, odd_par rr.rg hk f, odd_par rr.cg hl f2]
      have := h.pt
      have e : (inv ltS ((lbs (ringS s)).map p) % 2 = 1) ↔ (inv ltS ((lbs (ringS (colsL s))).map q) % 2 = 1) := by omega
      rw [decide_eq_decide.mpr e]
      exact beq_self_eq_true _
/-- moves lead from s to g -/
structure Lead (s g : Fl) : Prop where
  rr : RR s g
  fl : s.flatten.Perm g.flatten
  sr : ∀ x ∈ s.flatten, ∀ y ∈ s.flatten, shr s x y = shr g x y
  sc : ∀ x ∈ s.flatten, ∀ y ∈ s.flatten, shr (colsL s) x y = shr (colsL g) x y
  pr : ∃ k ∈ KRR s g, ∃ l ∈ KRR (colsL s) (colsL g), PGR s g k l = true
theorem Mv.lead {s g : Fl} {p q : Str → Str} (v : VF s) (h : Mv s g p q) : Lead s g := ⟨h.rr v, h.fl.symm, shr_srt v.nd h.vg.nd (fun x => h.fl.symm.mem_iff) h.rw_, fun x hx y hy => shr_srt v.vfC.nd h.vg.vfC.nd (fun x => by rw [col_iff v, col_iff h.vg]; exact h.fl.symm.mem_iff) h.cw x ((col_iff v x).mpr hx) y ((col_iff v y).mpr hy), h.pair v⟩
theorem lead_of {s : Fl} (v : VF s) {ls : List (List Nat)} (hl : ∀ l ∈ ls, l ∈ s.flatten ∧ upN l = true) : Lead s (plF s ls) := by
  obtain ⟨p, q, h⟩ := mv_ok v ls (Mv.start v) hl
  exact h.lead v
theorem lead_back {s : Fl} (v : VF s) {ls : List (List Nat)} (hl : ∀ l ∈ ls, l ∈ s.flatten ∧ upN l = true) : Lead (plF s ls) s := by
  obtain ⟨vg, pm, _, _⟩ := plF_ok ls v fun l h => (hl l h).1
  have := lead_of vg (ls := ls.reverse) fun l h => ⟨pm.mem_iff.mpr (hl l (List.mem_reverse.mp h)).1, (hl l (List.mem_reverse.mp h)).2⟩
  rwa [plF_back ls v fun l h => (hl l h).1] at this
theorem Lead.np {s g : Fl} (h : Lead s g) : NPR s g ≠ [] := by
  obtain ⟨k, hk, l, hl, e⟩ := h.pr
  exact List.ne_nil_of_mem (a := (k, l)) (List.mem_flatMap.mpr ⟨k, hk, List.mem_map.mpr ⟨l, List.mem_filter.mpr ⟨hl, e⟩, rfl⟩⟩)
end Dv
namespace Dv
open PySem L2 PyProof.Rows
/-! ### the way to a goal: what is left of it -/
/-- the label of the line of a name -/
def labL (ls : List (List (List Nat))) (l : List Nat) : List Nat := mnL (ls.getD (lnI ls l) [])
theorem labL_at {ls : List (List (List Nat))} (nd : ls.flatten.Nodup) {r : List (List Nat)} (hr : r ∈ ls) {l : List Nat} (hl : l ∈ r) : labL ls l = mnL r := by
  obtain ⟨i, hi⟩ := List.mem_iff_getElem?.mp hr
  unfold labL
  rw [lnI_at nd hi hl, List.getD_eq_getElem?_getD, hi]
  rfl
theorem labL_srt {ls gs : List (List (List Nat))} (nd : ls.flatten.Nodup) (p : (gs.map srt).Perm (ls.map srt)) {r : List (List Nat)} (hr : r ∈ gs) {l : List Nat} (hl : l ∈ r) : mnL r = labL ls l := by
  obtain ⟨q, hq, e⟩ := List.mem_map.mp (p.mem_iff.mp (List.mem_map_of_mem (f := srt) hr))
  have em : mnL r = mnL q := by unfold mnL; rw [e]
  have lq : l ∈ q := (srt_perm q).mem_iff.mp (by rw [e]; exact (srt_perm r).mem_iff.mpr hl)
  rw [em, labL_at nd hq lq]
theorem row_back {s f g : Fl} (vs : VF s) (vf : VF f) (p : (f.map srt).Perm (s.map srt)) {l : List Nat} (hl : l ∈ f.flatten) {t : Str → Str} (h : Tn (ringS f) (ringS g) t) : Tn (ringS (crX f l)) (ringS g) (t ∘ sw ("" : Str) (Sx (labL s l))) := by
  obtain ⟨k1, k2, _, _⟩ := crX_ok vf hl
  have hl2 : l ∈ (crX f l).flatten := k2.mem_iff.mpr hl
  obtain ⟨_, _, _, _, s1⟩ := row_step vf hl
  obtain ⟨r, hr, lr, t1, _⟩ := row_step k1 hl2
  rw [crX_inv vf hl] at t1
  rw [labL_srt vs.nd (s1.trans p) hr lr] at t1
  exact t1.comp h
/-- what is left to do from f to g: p on the rows, q on the columns; s: where the way began -/
structure To (s f g : Fl) (p q : Str → Str) : Prop where
  vf : VF f
  fl : f.flatten.Perm s.flatten
  rw_ : (f.map srt).Perm (s.map srt)
  cw : ((colsL f).map srt).Perm ((colsL s).map srt)
  tr : Tn (ringS f) (ringS g) p
  tc : Tn (ringS (colsL f)) (ringS (colsL g)) q
theorem To.step {s f g : Fl} {p q : Str → Str} (vs : VF s) (h : To s f g p q) {l : List Nat} (hl : l ∈ s.flatten) : To s (crX f l) g (p ∘ sw ("" : Str) (Sx (labL s l))) (q ∘ sw ("" : Str) (Sx (labL (colsL s) l))) := by
  have hf : l ∈ f.flatten := h.fl.mem_iff.mpr hl
  obtain ⟨k1, k2, _, _⟩ := crX_ok h.vf hf
  have fc := h.vf.vfC
  have hc := col_flat h.vf hf
  have ecol : colsL (crX f l) = crX (colsL f) l := crX_col h.vf hf
  obtain ⟨_, _, _, _, s1⟩ := row_step h.vf hf
  obtain ⟨_, _, _, _, s2⟩ := row_step fc hc
  have t2 := row_back vs.vfC fc h.cw hc h.tc
  rw [← ecol] at t2 s2
  exact ⟨k1, k2.trans h.fl, s1.trans h.rw_, s2.trans h.cw, row_back vs h.vf h.rw_ hf h.tr, t2⟩
def swF (p : Str → Str) : List Str → Str → Str
  | [] => p
  | x :: r => swF (p ∘ sw ("" : Str) x) r
theorem swF_app (p : Str → Str) : ∀ a b, swF p (a ++ b) = swF (swF p a) b := by
  intro a
  induction a generalizing p with
  | nil => intro b; rfl
  | cons x a ih => intro b; exact ih _ b
theorem To.run {s g : Fl} (vs : VF s) : ∀ (ls : List (List Nat)) {f : Fl} {p q : Str → Str}, To s f g p q → (∀ l ∈ ls, l ∈ s.flatten) → To s (plF f ls) g (swF p (ls.map fun l => Sx (labL s l))) (swF q (ls.map fun l => Sx (labL (colsL s) l)))
  | [], _, _, _, h, _ => h
  | l :: ls, _, _, _, h, hl => To.run vs ls (h.step vs (hl l List.mem_cons_self)) fun x hx => hl x (List.mem_cons_of_mem _ hx)
/-! nothing is left -/
theorem tn_id {us ws : List Str} (h0 : us[0]? = some ("" : Str)) (g0 : ws[0]? = some ("" : Str)) (nd : ws.Nodup) {p : Str → Str} (t : Tn us ws p) (hp : ∀ z ∈ us, p z = z) : us = ws := by
  obtain ⟨k, hk, f⟩ := t.at_
  have a := f 0 _ h0
  rw [Nat.zero_add, Nat.mod_eq_of_lt hk, hp _ (List.mem_of_getElem? h0)] at a
  have k0 : k = 0 := (List.getElem?_inj (by rw [t.len]; exact hk) nd).mp (a.trans g0.symm)
  subst k0
  refine List.ext_getElem? fun i => ?_
  by_cases hi : i < us.length
  · have b := f i _ (List.getElem?_eq_getElem hi)
    rw [Nat.add_zero, Nat.mod_eq_of_lt hi, hp _ (List.getElem_mem hi)] at b
    rw [b, List.getElem?_eq_getElem hi]
  · rw [List.getElem?_eq_none (by omega), List.getElem?_eq_none (by rw [t.len]; omega)]
theorem ring_mn {f g : Fl} (h : ringS f = ringS g) : f.map mnL = g.map mnL := by
  have e := (List.cons.inj h).2
  exact map_inj_sx e
where
  map_inj_sx : ∀ {a b : List (List Nat)}, a.map Sx = b.map Sx → a = b
    | [], [], _ => rfl
    | [], _ :: _, e => by cases e
    | _ :: _, [], e => by cases e
    | x :: a, y :: b, e => by
      obtain ⟨e1, e2⟩ := List.cons.inj e
      rw [sx_inj e1, map_inj_sx e2]
/-- the same ring and the same lines: the same lines in the same places -/
theorem line_same {f g : Fl} (vg : VF g) (e : ringS f = ringS g) (p : (f.map srt).Perm (g.map srt)) : ∀ i : Nat, (f.map srt)[i]? = (g.map srt)[i]? := fun i => by
  have em := ring_mn e
  have lf : f.length = g.length := by simpa using congrArg List.length em
  by_cases hi : i < f.length
  · have hig : i < g.length := by omega
    have hm : srt f[i] ∈ g.map srt := p.mem_iff.mp (List.mem_map_of_mem (List.getElem_mem hi))
    obtain ⟨q, hq, eq⟩ := List.mem_map.mp hm
    obtain ⟨j, hj⟩ := List.mem_iff_getElem?.mp hq
    have m1 : mnL f[i] = mnL q := by unfold mnL; rw [eq]
    have m2 : (g.map mnL)[i]? = some (mnL q) := by
      rw [← em, List.getElem?_map, List.getElem?_eq_getElem hi, ← m1]
      rfl
    have m3 : (g.map mnL)[j]? = some (mnL q) := by rw [List.getElem?_map, hj]; rfl
    have nd : (g.map mnL).Nodup := by
      have := (List.nodup_cons.mp (ring_nd vg.lnR)).2
      exact (List.pairwise_map.mp this).imp fun {a b} h e => h (by rw [e])
    have : i = j := (List.getElem?_inj (by simpa using hig) nd).mp (m2.trans m3.symm)
    subst this
    rw [List.getElem?_map, List.getElem?_map, hj, List.getElem?_eq_getElem hi]
    show some (srt f[i]) = some (srt q)
    rw [eq]
  · rw [List.getElem?_eq_none (by simpa using hi), List.getElem?_eq_none (by simp; omega)]
theorem at_srt {f g : Fl} (h : ∀ i : Nat, (f.map srt)[i]? = (g.map srt)[i]?) {i j : Nat} {l : List Nat} (a : At f i j l) : ∃ k, At g i k l := by
  obtain ⟨r, hr, hl⟩ := a
  have := h i
  rw [List.getElem?_map, List.getElem?_map, hr] at this
  cases hg : g[i]? with
  | none => rw [hg] at this; cases this
  | some q =>
    rw [hg] at this
    have e : srt r = srt q := Option.some.inj this
    have lq : l ∈ q := (srt_perm q).mem_iff.mp (by rw [← e]; exact (srt_perm r).mem_iff.mpr (List.mem_of_getElem? hl))
    obtain ⟨k, hk⟩ := List.mem_iff_getElem?.mp lq
    exact ⟨k, q, hg, hk⟩
theorem To.done {s f g : Fl} {p q : Str → Str} (h : To s f g p q) (vg : VF g) (r : (g.map srt).Perm (s.map srt)) (c : ((colsL g).map srt).Perm ((colsL s).map srt)) (hp : ∀ z ∈ ringS f, p z = z) (hq : ∀ z ∈ ringS (colsL f), q z = z) : f = g := by
  have e1 := tn_id rfl rfl (ring_nd vg.lnR) h.tr hp
  have e2 := tn_id rfl rfl (ring_nd vg.lnC) h.tc hq
  have s1 := line_same vg e1 (h.rw_.trans r.symm)
  have s2 := line_same vg.vfC e2 (h.cw.trans c.symm)
  have lf : f.length = g.length := by simpa using congrArg List.length (ring_mn e1)
  have key : ∀ {i j : Nat} {l : List Nat}, At f i j l → At g i j l := fun {i j l} a => by
    obtain ⟨k, b⟩ := at_srt s1 a
    obtain ⟨n, d⟩ := at_srt s2 ((col_at (fl := f) h.vf.wid.1).mpr a)
    have d2 : At g n j l := (col_at (fl := g) vg.wid.1).mp d
    obtain ⟨e3, e4⟩ := at_one vg.nd b d2
    rw [← e3] 
    exact d2
  have wd : Dv.wid f = Dv.wid g := by
    have := congrArg List.length (ring_mn e2)
    have a : (colsL f).length = Dv.wid f := by show ((List.range _).map _).length = _; simp; rfl
    have b : (colsL g).length = Dv.wid g := by show ((List.range _).map _).length = _; simp; rfl
    simp only [List.length_map] at this
    omega
  refine List.ext_getElem (by exact lf) fun i h1 h2 => ?_
  have w1 := h.vf.wid.1 f[i] (List.getElem_mem h1)
  have w2 := vg.wid.1 g[i] (List.getElem_mem h2)
  refine List.ext_getElem (by omega) fun j h3 h4 => ?_
  obtain ⟨r', hr, hl⟩ := key ⟨f[i], List.getElem?_eq_getElem h1, List.getElem?_eq_getElem h3⟩
  rw [List.getElem?_eq_getElem h2] at hr
  cases hr
  rw [List.getElem?_eq_getElem h4] at hl
  exact (Option.some.inj hl).symm
end Dv
namespace Dv
open PySem L2 PyProof.Rows
/-! ### many exchanges -/
def exQ (qs : List (Str × Str)) : List Str → List (Str × Str)
  | [] => qs
  | x :: r => exQ (exB qs x) r
theorem exQ_app (qs : List (Str × Str)) : ∀ a b, exQ qs (a ++ b) = exQ (exQ qs a) b := by
  intro a
  induction a generalizing qs with
  | nil => intro b; rfl
  | cons x a ih => intro b; exact ih _ b
theorem exQ_ok : ∀ {xs : List Str} {qs : List (Str × Str)}, VP qs → ("" : Str) ∈ labs qs → (∀ x ∈ xs, x ∈ labs qs ∧ x ≠ "") → VP (exQ qs xs) ∧ labs (exQ qs xs) = labs qs ∧ (gapN (exQ qs xs) - gapN qs - (xs.length : Int)) % 2 = 0
  | [], qs, v, _, _ => ⟨v, rfl, by show (gapN qs - gapN qs - ((0 : Nat) : Int)) % 2 = 0; omega⟩
  | x :: r, qs, v, h0, h => by
    obtain ⟨hx, ne⟩ := h x List.mem_cons_self
    have e := byF_labs qs (exF (fOf qs) "" x)
    have e : labs (exB qs x) = labs qs := e
    obtain ⟨a, b, c⟩ := exQ_ok (xs := r) (exB_vp v h0 hx) (by rw [e]; exact h0) fun y hy => by rw [e]; exact h y (List.mem_cons_of_mem _ hy)
    refine ⟨a, b.trans e, ?_⟩
    obtain ⟨g1, g2⟩ := exB_gap v h0 hx ne
    have g3 : gapN (exB qs x) = gapN qs - 1 ∨ gapN (exB qs x) = gapN qs + 1 := by
      by_cases hl : lowQ qs x
      · exact .inl (g1 hl)
      · exact .inr (g2 hl)
    show (gapN (exQ (exB qs x) r) - gapN qs - ((r.length + 1 : Nat) : Int)) % 2 = 0
    omega
theorem swF_congr {l : List Str} (h0 : ("" : Str) ∈ l) : ∀ {xs : List Str} {p q : Str → Str}, (∀ x ∈ xs, x ∈ l) → (∀ z ∈ l, p z = q z) → ∀ z ∈ l, swF p xs z = swF q xs z
  | [], _, _, _, h, z, hz => h z hz
  | x :: r, p, q, hx, h, z, hz => swF_congr h0 (xs := r) (fun y hy => hx y (List.mem_cons_of_mem _ hy)) (fun y hy => h _ (sw_in h0 (hx x List.mem_cons_self) hy)) z hz
theorem exQ_at : ∀ {xs : List Str} {qs : List (Str × Str)}, VP qs → ("" : Str) ∈ labs qs → (∀ x ∈ xs, x ∈ labs qs ∧ x ≠ "") → ∀ z ∈ labs qs, fOf (exQ qs xs) z = swF (fOf qs) xs z
  | [], _, _, _, _, _, _ => rfl
  | x :: r, qs, v, h0, h, z, hz => by
    obtain ⟨hx, ne⟩ := h x List.mem_cons_self
    have e : labs (exB qs x) = labs qs := byF_labs qs (exF (fOf qs) "" x)
    have a := exQ_at (xs := r) (exB_vp v h0 hx) (by rw [e]; exact h0) (fun y hy => by rw [e]; exact h y (List.mem_cons_of_mem _ hy)) z (by rw [e]; exact hz)
    refine a.trans ?_
    exact swF_congr h0 (fun y hy => (h y (List.mem_cons_of_mem _ hy)).1) (fun y hy => byF_at v (exF_on v.on h0 hx) hy) z hz
theorem itR_exQ (qs : List (Str × Str)) : ∀ n, itR qs n = exQ qs (gword qs n)
  | 0 => rfl
  | n + 1 => by
    have e : gword qs (n + 1) = gword qs n ++ [leastX (itR qs n)] := by
      unfold gword
      rw [List.range_succ, List.map_append]
      rfl
    rw [e, exQ_app, ← itR_exQ qs n]
    rfl
/-! the word of a permutation -/
noncomputable def gwd (qs : List (Str × Str)) : List Str := gword qs (gapN qs).toNat
theorem gwd_len {qs : List (Str × Str)} (v : VP qs) : ((gwd qs).length : Int) = gapN qs ∧ (gwd qs).length < 27 := by
  obtain ⟨a, b⟩ := gapN_b v
  unfold gwd gword
  rw [List.length_map, List.length_range]
  omega
theorem fix_step {qs : List (Str × Str)} (v : VP qs) {I : List Str} (i0 : ("" : Str) ∉ I) (iq : ∀ z ∈ I, z ∈ labs qs) (h0 : ("" : Str) ∈ labs qs) (fx : ∀ z ∈ I, fOf qs z = z) {x : Str} (hx : x ∈ labs qs) (hn : x ∉ I) : ∀ z ∈ I, fOf (exB qs x) z = z := fun z hz => by
  rw [show fOf (exB qs x) z = exF (fOf qs) "" x z from byF_at v (exF_on v.on h0 hx) (iq z hz), exF_o (fun e : z = "" => i0 (e ▸ hz)) (fun e : z = x => hn (e ▸ hz))]
  exact fx z hz
theorem it_fix {qs : List (Str × Str)} (v : VP qs) {I : List Str} (i0 : ("" : Str) ∉ I) (iq : ∀ z ∈ I, z ∈ labs qs) (h0 : ("" : Str) ∈ labs qs) (fx : ∀ z ∈ I, fOf qs z = z) : ∀ i : Nat, (i : Int) ≤ gapN qs → (∀ z ∈ I, fOf (itR qs i) z = z) ∧ ∀ x ∈ gword qs i, x ∈ labs qs ∧ x ≠ "" ∧ x ∉ I
  | 0, _ => ⟨fx, fun x hx => by cases hx⟩
  | i + 1, hi => by
    obtain ⟨f1, w1⟩ := it_fix v i0 iq h0 fx i (by omega)
    obtain ⟨a, b, c⟩ := itR_ok v h0 i (by omega)
    have hp : 0 < gapN (itR qs i) := by rw [c]; omega
    obtain ⟨k1, k2, k3⟩ := key_low a (by rw [b]; exact h0) (has_least hp).1
    have kn : leastX (itR qs i) ∉ I := fun q => k3.1 (f1 _ q)
    refine ⟨fix_step a i0 (fun z hz => by rw [b]; exact iq z hz) (by rw [b]; exact h0) f1 k1 kn, fun x hx => ?_⟩
    have e : gword qs (i + 1) = gword qs i ++ [leastX (itR qs i)] := by
      unfold gword
      rw [List.range_succ, List.map_append]
      rfl
    rw [e] at hx
    rcases List.mem_append.mp hx with h | h
    · exact w1 x h
    · rw [List.mem_singleton.mp h]
      exact ⟨by rw [← b]; exact k1, k2, kn⟩
theorem gwd_mem {qs : List (Str × Str)} (v : VP qs) {I : List Str} (i0 : ("" : Str) ∉ I) (iq : ∀ z ∈ I, z ∈ labs qs) (h0 : ("" : Str) ∈ labs qs) (fx : ∀ z ∈ I, fOf qs z = z) : ∀ x ∈ gwd qs, x ∈ labs qs ∧ x ≠ "" ∧ x ∉ I :=
  (it_fix v i0 iq h0 fx (gapN qs).toNat (by have := (gapN_b v).1; omega)).2
theorem gwd_id {qs : List (Str × Str)} (v : VP qs) (h0 : ("" : Str) ∈ labs qs) : ∀ z ∈ labs qs, swF (fOf qs) (gwd qs) z = z := fun z hz => by
  obtain ⟨g0, _⟩ := gapN_b v
  obtain ⟨a, b, c⟩ := itR_ok v h0 (gapN qs).toNat (by omega)
  have c0 : gapN (itR qs (gapN qs).toNat) = 0 := by rw [c]; omega
  have m := gwd_mem v (I := []) (fun h => nomatch h) (fun _ h => nomatch h) h0 (fun _ h => nomatch h)
  rw [← exQ_at v h0 (fun x hx => ⟨(m x hx).1, (m x hx).2.1⟩) z hz]
  unfold gwd
  rw [← itR_exQ]
  have hz2 : z ∈ labs (itR qs (gapN qs).toNat) := by rw [b]; exact hz
  obtain ⟨q, hq, rfl⟩ := List.mem_map.mp hz2
  rw [fOf_at a hq]
  exact ((gap_zero a).mp c0 q hq).symm
/-! turns -/
def srcQ (qs : List (Str × Str)) (y : Str) : Str := ((qs.find? fun q => decide (q.2 = y)).map (·.1)).getD y
theorem srcQ_ok {qs : List (Str × Str)} (v : VP qs) {y : Str} (hy : y ∈ labs qs) : srcQ qs y ∈ labs qs ∧ fOf qs (srcQ qs y) = y := by
  obtain ⟨q, hq, e⟩ := List.mem_map.mp (v.perm.mem_iff.mpr hy)
  unfold srcQ
  cases h : qs.find? fun q => decide (q.2 = y) with
  | none =>
    have := List.find?_eq_none.mp h q hq
    simp [e] at this
  | some r =>
    have hr := List.mem_of_find?_eq_some h
    have er : r.2 = y := by simpa using List.find?_some h
    show r.1 ∈ labs qs ∧ fOf qs r.1 = y
    exact ⟨List.mem_map_of_mem hr, by rw [fOf_at v hr, er]⟩
theorem srcQ_of {qs : List (Str × Str)} (v : VP qs) {x y : Str} (hx : x ∈ labs qs) (hy : y ∈ labs qs) (e : fOf qs x = y) : srcQ qs y = x := by
  obtain ⟨a, b⟩ := srcQ_ok v hy
  exact v.on.inj _ _ a hx (b.trans e.symm)
def turnC (x a b : Str) : List Str := if x = "" then [a, b] else [x, a, b, x]
def cy3 (x c d : Str) (z : Str) : Str := if x = "" then sw "" c (sw "" d z) else sw "" x (sw "" c (sw "" d (sw "" x z)))
theorem cy3_x {x c d : Str} (cd : c ≠ d) (c0 : c ≠ "") (d0 : d ≠ "") (xc : x ≠ c) (xd : x ≠ d) : cy3 x c d x = d := by
  unfold cy3
  by_cases h : x = ""
  · rw [if_pos h, h, sw_l, sw_o d0 (Ne.symm cd)]
  · rw [if_neg h, sw_r, sw_l, sw_o d0 (Ne.symm cd), sw_o d0 (Ne.symm xd)]
theorem cy3_c {x c d : Str} (cd : c ≠ d) (c0 : c ≠ "") (d0 : d ≠ "") (xc : x ≠ c) (xd : x ≠ d) : cy3 x c d c = x := by
  unfold cy3
  by_cases h : x = ""
  · rw [if_pos h, sw_o c0 cd, sw_r, h]
  · rw [if_neg h, sw_o c0 (Ne.symm xc), sw_o c0 cd, sw_r, sw_l]
theorem cy3_o {x c d z : Str} (zx : z ≠ x) (zc : z ≠ c) (zd : z ≠ d) (c0 : c ≠ "") (d0 : d ≠ "") (xc : x ≠ c) (xd : x ≠ d) : cy3 x c d z = z := by
  unfold cy3
  by_cases h : x = ""
  · rw [h] at zx
    rw [if_pos h, sw_o zx zd, sw_o zx zc]
  · rw [if_neg h]
    by_cases z0 : z = ""
    · rw [z0, sw_l, sw_o h xd, sw_o h xc, sw_r]
    · rw [sw_o z0 zx, sw_o z0 zd, sw_o z0 zc, sw_o z0 zx]
/-- the columns' side of a way by turns: L the label of a name's line, a and b two names of one line the other way -/
structure TB (Λ I : List Str) (L : Str → Str) (a b : Str) : Prop where
  g0 : ("" : Str) ∈ Λ
  i0 : ("" : Str) ∉ I
  iq : ∀ z ∈ I, z ∈ Λ
  la : L a ∈ Λ ∧ L a ≠ "" ∧ L a ∉ I
  lb : L b ∈ Λ ∧ L b ≠ "" ∧ L b ∉ I
  ne : L a ≠ L b
  self : ∀ x ∈ Λ, x ≠ "" → x ∉ I → L x = x
structure CI (Λ I : List Str) (qs : List (Str × Str)) : Prop where
  vp : VP qs
  lb : labs qs = Λ
  fx : ∀ z ∈ I, fOf qs z = z
  ev : gapN qs % 2 = 0
theorem TB.swap {Λ I : List Str} {L : Str → Str} {a b : Str} (t : TB Λ I L a b) : TB Λ I L b a := ⟨t.g0, t.i0, t.iq, t.lb, t.la, Ne.symm t.ne, t.self⟩
theorem turn_map {Λ I : List Str} {L : Str → Str} {a b x : Str} (t : TB Λ I L a b) (hx : x ∈ Λ) (hi : x ∉ I) (p : Str → Str) : (∀ z, swF p ((turnC x a b).map L) z = p (cy3 x (L a) (L b) z)) ∧ (∀ y ∈ (turnC x a b).map L, y ∈ Λ ∧ y ≠ "") ∧ ((turnC x a b).map L).length % 2 = 0 ∧ (turnC x a b).length ≤ 4 := by
  unfold turnC cy3
  by_cases h : x = ""
  · rw [if_pos h]
    refine ⟨fun z => by rw [if_pos h]; rfl, fun y hy => ?_, by simp, by simp⟩
    simp only [List.map_cons, List.map_nil, List.mem_cons, List.not_mem_nil, or_false] at hy
    rcases hy with rfl | rfl
    · exact ⟨t.la.1, t.la.2.1⟩
    · exact ⟨t.lb.1, t.lb.2.1⟩
  · rw [if_neg h]
    have e := t.self x hx h hi
    refine ⟨fun z => by rw [if_neg h]; simp only [List.map_cons, List.map_nil, e]; rfl, fun y hy => ?_, by simp, by simp⟩
    simp only [List.map_cons, List.map_nil, List.mem_cons, List.not_mem_nil, or_false] at hy
    rcases hy with rfl | rfl | rfl | rfl
    · rw [e]; exact ⟨hx, h⟩
    · exact ⟨t.la.1, t.la.2.1⟩
    · exact ⟨t.lb.1, t.lb.2.1⟩
    · rw [e]; exact ⟨hx, h⟩
theorem turn_ci {Λ I : List Str} {L : Str → Str} {a b x : Str} (t : TB Λ I L a b) (hx : x ∈ Λ) (hi : x ∉ I) (xa : x ≠ L a) (xb : x ≠ L b) {qs : List (Str × Str)} (c : CI Λ I qs) : CI Λ I (exQ qs ((turnC x a b).map L)) ∧ ∀ z ∈ Λ, fOf (exQ qs ((turnC x a b).map L)) z = fOf qs (cy3 x (L a) (L b) z) := by
  obtain ⟨m1, m2, m3, _⟩ := turn_map t hx hi (fOf qs)
  have g0 : ("" : Str) ∈ labs qs := by rw [c.lb]; exact t.g0
  have m2' : ∀ y ∈ (turnC x a b).map L, y ∈ labs qs ∧ y ≠ "" := fun y hy => by rw [c.lb]; exact m2 y hy
  obtain ⟨v, e, g⟩ := exQ_ok c.vp g0 m2'
  have at_ : ∀ z ∈ Λ, fOf (exQ qs ((turnC x a b).map L)) z = fOf qs (cy3 x (L a) (L b) z) := fun z hz => by
    rw [exQ_at c.vp g0 m2' z (by rw [c.lb]; exact hz), m1]
  refine ⟨⟨v, e.trans c.lb, fun z hz => ?_, ?_⟩, at_⟩
  · rw [at_ z (t.iq z hz), cy3_o (fun e : z = x => hi (e ▸ hz)) (fun e : z = L a => t.la.2.2 (e ▸ hz)) (fun e : z = L b => t.lb.2.2 (e ▸ hz)) t.la.2.1 t.lb.2.1 xa xb]
    exact c.fx z hz
  · have := c.ev
    omega
def turnT (L : Str → Str) (a b : Str) (qs : List (Str × Str)) (y : Str) : List Str := if srcQ qs y = L a then turnC y b a else if srcQ qs y = L b then turnC y a b else turnC (srcQ qs y) a b
/-- one place: turns until it is right -/
def wayP (L : Str → Str) (a b : Str) (y : Str) : Nat → List (Str × Str) → List Str
  | 0, _ => []
  | n + 1, qs => if srcQ qs y = y then [] else turnT L a b qs y ++ wayP L a b y n (exQ qs ((turnT L a b qs y).map L))
def colR (L : Str → Str) (a b : Str) : List Str → List (Str × Str) → List Str
  | [], _ => []
  | y :: r, qs => wayP L a b y 2 qs ++ colR L a b r (exQ qs ((wayP L a b y 2 qs).map L))
/-- what may stand in a way -/
def Al (Λ I : List Str) (a b : Str) (t : List Str) : Prop := ∀ x ∈ t, x = a ∨ x = b ∨ (x ∈ Λ ∧ x ≠ "" ∧ x ∉ I)
theorem al_turn {Λ I : List Str} {a b x : Str} (hx : x ∈ Λ) (hi : x ∉ I) : Al Λ I a b (turnC x a b) ∧ Al Λ I a b (turnC x b a) := by
  unfold turnC
  by_cases h : x = ""
  · rw [if_pos h, if_pos h]
    constructor
    · intro y hy
      simp only [List.mem_cons, List.not_mem_nil, or_false] at hy
      rcases hy with rfl | rfl <;> simp
    · intro y hy
      simp only [List.mem_cons, List.not_mem_nil, or_false] at hy
      rcases hy with rfl | rfl <;> simp
  · rw [if_neg h, if_neg h]
    constructor
    · intro y hy
      simp only [List.mem_cons, List.not_mem_nil, or_false] at hy
      rcases hy with rfl | rfl | rfl | rfl
      · exact .inr (.inr ⟨hx, h, hi⟩)
      · exact .inl rfl
      · exact .inr (.inl rfl)
      · exact .inr (.inr ⟨hx, h, hi⟩)
    · intro y hy
      simp only [List.mem_cons, List.not_mem_nil, or_false] at hy
      rcases hy with rfl | rfl | rfl | rfl
      · exact .inr (.inr ⟨hx, h, hi⟩)
      · exact .inr (.inl rfl)
      · exact .inl rfl
      · exact .inr (.inr ⟨hx, h, hi⟩)
/-- what a turn does for a place that is not right -/
theorem turnT_ok {Λ I : List Str} {L : Str → Str} {a b : Str} (t : TB Λ I L a b) {qs : List (Str × Str)} (c : CI Λ I qs) {y : Str} (hy : y ∈ Λ) (ya : y ≠ L a) (yb : y ≠ L b) (hn : srcQ qs y ≠ y) :
    CI Λ I (exQ qs ((turnT L a b qs y).map L)) ∧ Al Λ I a b (turnT L a b qs y) ∧ (turnT L a b qs y).length ≤ 4 ∧ (∀ z ∈ Λ, z ≠ L a → z ≠ L b → z ≠ y → fOf qs z = z → fOf (exQ qs ((turnT L a b qs y).map L)) z = z) ∧
    ((srcQ qs y = L a ∨ srcQ qs y = L b) → fOf (exQ qs ((turnT L a b qs y).map L)) y = y) ∧ (srcQ qs y ≠ L a → srcQ qs y ≠ L b → fOf (exQ qs ((turnT L a b qs y).map L)) (L a) = y) := by
  have hyq : y ∈ labs qs := by rw [c.lb]; exact hy
  obtain ⟨s1, s2⟩ := srcQ_ok c.vp hyq
  have yi : y ∉ I := fun h => hn (srcQ_of c.vp hyq hyq (c.fx y h))
  have cd := t.ne
  unfold turnT
  by_cases h1 : srcQ qs y = L a
  · rw [if_pos h1]
    obtain ⟨k1, k2⟩ := turn_ci t.swap hy yi yb ya c
    refine ⟨k1, (al_turn hy yi).2, (turn_map t.swap hy yi id).2.2.2, fun z hz za zb zy fz => ?_, fun _ => ?_, fun q => absurd h1 q⟩
    · rw [k2 z hz, cy3_o zy zb za t.lb.2.1 t.la.2.1 yb ya, fz]
    · rw [k2 y hy, cy3_x (Ne.symm cd) t.lb.2.1 t.la.2.1 yb ya, ← h1, s2]
  · rw [if_neg h1]
    by_cases h2 : srcQ qs y = L b
    · rw [if_pos h2]
      obtain ⟨k1, k2⟩ := turn_ci t hy yi ya yb c
      refine ⟨k1, (al_turn hy yi).1, (turn_map t hy yi id).2.2.2, fun z hz za zb zy fz => ?_, fun _ => ?_, fun _ q => absurd h2 q⟩
      · rw [k2 z hz, cy3_o zy za zb t.la.2.1 t.lb.2.1 ya yb, fz]
      · rw [k2 y hy, cy3_x cd t.la.2.1 t.lb.2.1 ya yb, ← h2, s2]
    · rw [if_neg h2]
      have sx : srcQ qs y ∈ Λ := by rw [← c.lb]; exact s1
      have si : srcQ qs y ∉ I := fun h => hn ((c.fx _ h).symm.trans s2)
      obtain ⟨k1, k2⟩ := turn_ci t sx si h1 h2 c
      refine ⟨k1, (al_turn sx si).1, (turn_map t sx si id).2.2.2, fun z hz za zb zy fz => ?_, fun q => q.elim (fun q => absurd q h1) fun q => absurd q h2, fun _ _ => ?_⟩
      · have zs : z ≠ srcQ qs y := fun e => zy (by rw [← fz, e, s2])
        rw [k2 z hz, cy3_o zs za zb t.la.2.1 t.lb.2.1 h1 h2, fz]
      · rw [k2 _ t.la.1, cy3_c cd t.la.2.1 t.lb.2.1 h1 h2, s2]
theorem wayP_ok {Λ I : List Str} {L : Str → Str} {a b : Str} (t : TB Λ I L a b) {qs : List (Str × Str)} (c : CI Λ I qs) {y : Str} (hy : y ∈ Λ) (ya : y ≠ L a) (yb : y ≠ L b) :
    CI Λ I (exQ qs ((wayP L a b y 2 qs).map L)) ∧ Al Λ I a b (wayP L a b y 2 qs) ∧ (wayP L a b y 2 qs).length ≤ 8 ∧ (∀ z ∈ Λ, z ≠ L a → z ≠ L b → z ≠ y → fOf qs z = z → fOf (exQ qs ((wayP L a b y 2 qs).map L)) z = z) ∧ fOf (exQ qs ((wayP L a b y 2 qs).map L)) y = y := by
  have hyq : y ∈ labs qs := by rw [c.lb]; exact hy
  by_cases h0 : srcQ qs y = y
  · have e : wayP L a b y 2 qs = [] := if_pos h0
    rw [e]
    refine ⟨c, fun x h => by (cases h), by simp, fun z _ _ _ _ fz => fz, ?_⟩
    have := (srcQ_ok c.vp hyq).2
    rw [h0] at this
    exact this
  · obtain ⟨k1, k2, k3, k4, k5, k6⟩ := turnT_ok t c hy ya yb h0
    generalize hq : exQ qs ((turnT L a b qs y).map L) = q1 at *
    have hy1 : y ∈ labs q1 := by rw [k1.lb]; exact hy
    have e1 : wayP L a b y 2 qs = turnT L a b qs y ++ wayP L a b y 1 q1 := by
      rw [← hq]
      exact if_neg h0
    by_cases h1 : srcQ qs y = L a ∨ srcQ qs y = L b
    · have f1 := k5 h1
      have e2 : wayP L a b y 1 q1 = [] := if_pos (srcQ_of k1.vp hy1 hy1 f1)
      rw [e1, e2, List.append_nil, hq]
      exact ⟨k1, k2, by omega, k4, f1⟩
    · have f1 := k6 (fun e => h1 (.inl e)) (fun e => h1 (.inr e))
      have hs : srcQ q1 y = L a := srcQ_of k1.vp (by rw [k1.lb]; exact t.la.1) hy1 f1
      have n1 : srcQ q1 y ≠ y := by rw [hs]; exact Ne.symm ya
      obtain ⟨j1, j2, j3, j4, j5, _⟩ := turnT_ok t k1 hy ya yb n1
      have e2 : wayP L a b y 1 q1 = turnT L a b q1 y := by
        have : wayP L a b y 1 q1 = turnT L a b q1 y ++ [] := if_neg n1
        rw [this, List.append_nil]
      rw [e1, e2, List.map_append, exQ_app, hq]
      refine ⟨j1, fun x hx => (List.mem_append.mp hx).elim (k2 x) (j2 x), by rw [List.length_append]; omega, fun z hz za zb zy fz => j4 z hz za zb zy (k4 z hz za zb zy fz), j5 (.inl hs)⟩
theorem colR_ok {Λ I : List Str} {L : Str → Str} {a b : Str} (t : TB Λ I L a b) : ∀ (ys : List Str) {qs : List (Str × Str)} (D : List Str), CI Λ I qs → (∀ y ∈ ys, y ∈ Λ ∧ y ≠ L a ∧ y ≠ L b) → (∀ y ∈ D, y ∈ Λ ∧ y ≠ L a ∧ y ≠ L b ∧ fOf qs y = y) →
    CI Λ I (exQ qs ((colR L a b ys qs).map L)) ∧ Al Λ I a b (colR L a b ys qs) ∧ (colR L a b ys qs).length ≤ 8 * ys.length ∧ (∀ y, y ∈ D ∨ y ∈ ys → fOf (exQ qs ((colR L a b ys qs).map L)) y = y)
  | [], qs, D, c, _, hD => ⟨c, fun x h => by (cases h), by simp [colR], fun y h => h.elim (fun h => (hD y h).2.2.2) fun h => by (cases h)⟩
  | y :: r, qs, D, c, hy, hD => by
    obtain ⟨h1, h2, h3⟩ := hy y List.mem_cons_self
    obtain ⟨k1, k2, k3, k4, k5⟩ := wayP_ok t c h1 h2 h3
    obtain ⟨j1, j2, j3, j4⟩ := colR_ok t r (qs := exQ qs ((wayP L a b y 2 qs).map L)) (y :: D) k1 (fun z hz => hy z (List.mem_cons_of_mem _ hz)) fun z hz => by
      rcases List.mem_cons.mp hz with rfl | hz
      · exact ⟨h1, h2, h3, k5⟩
      · obtain ⟨d1, d2, d3, d4⟩ := hD z hz
        by_cases e : z = y
        · rw [e]; exact ⟨h1, h2, h3, k5⟩
        · exact ⟨d1, d2, d3, k4 z d1 d2 d3 e d4⟩
    have e : colR L a b (y :: r) qs = wayP L a b y 2 qs ++ colR L a b r (exQ qs ((wayP L a b y 2 qs).map L)) := rfl
    rw [e, List.map_append, exQ_app]
    refine ⟨j1, fun x hx => (List.mem_append.mp hx).elim (k2 x) (j2 x), by rw [List.length_append, List.length_cons]; omega, fun z hz => ?_⟩
    rcases hz with h | h
    · exact j4 z (.inl (List.mem_cons_of_mem _ h))
    · rcases List.mem_cons.mp h with rfl | h
      · exact j4 _ (.inl List.mem_cons_self)
      · exact j4 z (.inr h)
/-- all but two right, and even: all right -/
theorem even_id {Λ I : List Str} {c d : Str} (hc : c ∈ Λ) (hd : d ∈ Λ) (cd : c ≠ d) {qs : List (Str × Str)} (k : CI Λ I qs) (h : ∀ z ∈ Λ, z ≠ c → z ≠ d → fOf qs z = z) : ∀ z ∈ Λ, fOf qs z = z := by
  have on := k.vp.on
  rw [k.lb] at on
  have hcc : fOf qs c = c ∨ fOf qs c = d := by
    by_cases e1 : fOf qs c = c
    · exact .inl e1
    · by_cases e2 : fOf qs c = d
      · exact .inr e2
      · exfalso
        have := h _ (on.to c hc) e1 e2
        exact e1 (on.inj _ _ (on.to c hc) hc this)
  have hdd : fOf qs d = c ∨ fOf qs d = d := by
    by_cases e1 : fOf qs d = c
    · exact .inl e1
    · by_cases e2 : fOf qs d = d
      · exact .inr e2
      · exfalso
        have := h _ (on.to d hd) e1 e2
        exact e2 (on.inj _ _ (on.to d hd) hd this)
  rcases hcc with e | e
  · have ed : fOf qs d = d := hdd.resolve_left fun q => cd (on.inj _ _ hc hd (e.trans q.symm))
    intro z hz
    by_cases zc : z = c
    · rw [zc]; exact e
    · by_cases zd : z = d
      · rw [zd]; exact ed
      · exact h z hz zc zd
  · exfalso
    have ed : fOf qs d = c := hdd.resolve_right fun q => cd (on.inj _ _ hc hd (e.trans q.symm))
    have em : (labs qs).map (fOf qs) = (labs qs).map (sw c d) := List.map_congr_left fun z hz => by
      rw [k.lb] at hz
      by_cases zc : z = c
      · rw [zc, e, sw_l]
      · by_cases zd : z = d
        · rw [zd, ed, sw_r]
        · rw [h z hz zc zd, sw_o zc zd]
    have i0 : inv ltS (labs qs) = 0 := inv_sorted k.vp.pw
    have i1 := inv_sw ltS_tot cd k.vp.nd (by rw [k.lb]; exact hc) (by rw [k.lb]; exact hd)
    have s := k.vp.sign
    rw [← fOf_map k.vp, em] at s
    have g := gapN_par (qs := qs)
    have ev := k.ev
    omega
end Dv
namespace Dv
open PySem L2 PyProof.Rows
/-! ### a way of both sides -/
theorem rowQ {L : Str → Str} {a b : Str} (h : L a = L b) (x : Str) (p : Str → Str) : swF p ((turnC x a b).map L) = p ∧ swF p ((turnC x b a).map L) = p := by
  have two : ∀ (q : Str → Str) (r : Str), (q ∘ sw ("" : Str) r) ∘ sw ("" : Str) r = q := fun q r => funext fun z => by
    show q (sw "" r (sw "" r z)) = q z
    rw [sw_sw]
  unfold turnC
  by_cases e : x = ""
  · rw [if_pos e, if_pos e]
    simp only [List.map_cons, List.map_nil, h]
    exact ⟨two p _, two p _⟩
  · rw [if_neg e, if_neg e]
    simp only [List.map_cons, List.map_nil, h]
    have : swF p [L x, L b, L b, L x] = p := by
      show (((p ∘ sw "" (L x)) ∘ sw "" (L b)) ∘ sw "" (L b)) ∘ sw "" (L x) = p
      rw [two, two]
    exact ⟨this, this⟩
theorem rowT {L1 L2 : Str → Str} {a b : Str} (h : L1 a = L1 b) (qs : List (Str × Str)) (y : Str) (p : Str → Str) : swF p ((turnT L2 a b qs y).map L1) = p := by
  unfold turnT
  split
  · exact (rowQ h y p).2
  · split
    · exact (rowQ h y p).1
    · exact (rowQ h _ p).1
theorem rowW {L1 L2 : Str → Str} {a b : Str} (h : L1 a = L1 b) (y : Str) (p : Str → Str) : ∀ (n : Nat) (qs : List (Str × Str)), swF p ((wayP L2 a b y n qs).map L1) = p
  | 0, _ => rfl
  | n + 1, qs => by
    unfold wayP
    split
    · rfl
    · rw [List.map_append, swF_app, rowT h, rowW h y p n]
theorem rowR {L1 L2 : Str → Str} {a b : Str} (h : L1 a = L1 b) (p : Str → Str) : ∀ (ys : List Str) (qs : List (Str × Str)), swF p ((colR L2 a b ys qs).map L1) = p
  | [], _ => rfl
  | y :: r, qs => by
    unfold colR
    rw [List.map_append, swF_app, rowW h, rowR h p r]
def plcs (L : Str → Str) (a b : Str) (qs : List (Str × Str)) : List Str := (labs qs).filter fun x => !(decide (x = L a) || decide (x = L b))
def colW (L : Str → Str) (a b : Str) (qs : List (Str × Str)) : List Str := colR L a b (plcs L a b qs) qs
noncomputable def routeW (P Q : List (Str × Str)) (L2 : Str → Str) (a b : Str) : List Str := gwd P ++ colW L2 a b (exQ Q ((gwd P).map L2))
theorem routeW_ok {P Q : List (Str × Str)} {I1 I2 : List Str} {L1 L2 : Str → Str} {a b : Str} (vP : VP P) (vQ : VP Q) (gP : ("" : Str) ∈ labs P) (i0 : ("" : Str) ∉ I1) (iq : ∀ z ∈ I1, z ∈ labs P) (fP : ∀ z ∈ I1, fOf P z = z) (fQ : ∀ z ∈ I2, fOf Q z = z)
    (h1 : ∀ x ∈ labs P, x ≠ "" → x ∉ I1 → L1 x = x ∧ L2 x ∈ labs Q ∧ L2 x ≠ "" ∧ L2 x ∉ I2) (tb : TB (labs Q) I2 L2 a b) (hab : L1 a = L1 b) (sg : (oddN P + oddN Q) % 2 = 0) :
    (∀ z ∈ labs P, swF (fOf P) ((routeW P Q L2 a b).map L1) z = z) ∧ (∀ z ∈ labs Q, swF (fOf Q) ((routeW P Q L2 a b).map L2) z = z) ∧
    (∀ x ∈ routeW P Q L2 a b, x = a ∨ x = b ∨ (x ∈ labs P ∧ x ≠ "" ∧ x ∉ I1) ∨ (x ∈ labs Q ∧ x ≠ "" ∧ x ∉ I2)) ∧ (routeW P Q L2 a b).length ≤ 200 := by
  have gm := gwd_mem vP i0 iq gP fP
  obtain ⟨gl, gl2⟩ := gwd_len vP
  have self : (gwd P).map L1 = gwd P := by
    conv => rhs; rw [← List.map_id (gwd P)]
    exact List.map_congr_left fun x hx => (h1 x (gm x hx).1 (gm x hx).2.1 (gm x hx).2.2).1
  have m2 : ∀ y ∈ (gwd P).map L2, y ∈ labs Q ∧ y ≠ "" ∧ y ∉ I2 := fun y hy => by
    obtain ⟨x, hx, rfl⟩ := List.mem_map.mp hy
    exact (h1 x (gm x hx).1 (gm x hx).2.1 (gm x hx).2.2).2
  obtain ⟨v2, l2, p2⟩ := exQ_ok vQ tb.g0 fun y hy => ⟨(m2 y hy).1, (m2 y hy).2.1⟩
  have at2 := exQ_at vQ tb.g0 fun y hy => ⟨(m2 y hy).1, (m2 y hy).2.1⟩
  have c0 : CI (labs Q) I2 (exQ Q ((gwd P).map L2)) := by
    refine ⟨v2, l2, ?_, ?_⟩
    · have key : ∀ (xs : List Str) (qs : List (Str × Str)), VP qs → labs qs = labs Q → (∀ z ∈ I2, fOf qs z = z) → (∀ y ∈ xs, y ∈ labs Q ∧ y ≠ "" ∧ y ∉ I2) → ∀ z ∈ I2, fOf (exQ qs xs) z = z := by
        intro xs
        induction xs with
        | nil => intro qs _ _ f _; exact f
        | cons x r ih =>
          intro qs v e f h
          obtain ⟨a1, a2, a3⟩ := h x List.mem_cons_self
          have g0 : ("" : Str) ∈ labs qs := by rw [e]; exact tb.g0
          have hx : x ∈ labs qs := by rw [e]; exact a1
          exact ih (exB qs x) (exB_vp v g0 hx) ((byF_labs qs _).trans e) (fix_step v tb.i0 (fun z hz => by rw [e]; exact tb.iq z hz) g0 f hx a3) fun y hy => h y (List.mem_cons_of_mem _ hy)
      exact key _ Q vQ rfl fQ m2
    · rw [List.length_map] at p2
      have a1 := gapN_par (qs := P)
      have a2 := gapN_par (qs := Q)
      omega
  have pl : ∀ y ∈ plcs L2 a b (exQ Q ((gwd P).map L2)), y ∈ labs Q ∧ y ≠ L2 a ∧ y ≠ L2 b := fun y hy => by
    obtain ⟨q1, q2⟩ := List.mem_filter.mp hy
    rw [l2] at q1
    simp only [Bool.not_eq_true', Bool.or_eq_false_iff, decide_eq_false_iff_not] at q2
    exact ⟨q1, q2.1, q2.2⟩
  obtain ⟨c1, c2, c3, c4⟩ := colR_ok tb (plcs L2 a b (exQ Q ((gwd P).map L2))) [] c0 pl (fun y h => by cases h)
  have lp : (plcs L2 a b (exQ Q ((gwd P).map L2))).length ≤ 13 := by
    refine Nat.le_trans (List.length_filter_le ..) ?_
    have : (labs (exQ Q ((gwd P).map L2))).length = (exQ Q ((gwd P).map L2)).length := List.length_map ..
    rw [this]
    exact v2.len
  have e : routeW P Q L2 a b = gwd P ++ colR L2 a b (plcs L2 a b (exQ Q ((gwd P).map L2))) (exQ Q ((gwd P).map L2)) := rfl
  refine ⟨fun z hz => ?_, fun z hz => ?_, fun x hx => ?_, ?_⟩
  · rw [e, List.map_append, swF_app, rowR hab, self]
    exact gwd_id vP gP z hz
  · rw [e, List.map_append, swF_app]
    have hx2 : ∀ y ∈ (colR L2 a b (plcs L2 a b (exQ Q ((gwd P).map L2))) (exQ Q ((gwd P).map L2))).map L2, y ∈ labs (exQ Q ((gwd P).map L2)) ∧ y ≠ "" := fun y hy => by
      obtain ⟨x, hx, rfl⟩ := List.mem_map.mp hy
      rw [l2]
      rcases c2 x hx with rfl | rfl | ⟨q1, q2, q3⟩
      · exact ⟨tb.la.1, tb.la.2.1⟩
      · exact ⟨tb.lb.1, tb.lb.2.1⟩
      · rw [tb.self x q1 q2 q3]; exact ⟨q1, q2⟩
    have a3 := exQ_at v2 (by rw [l2]; exact tb.g0) hx2 z (by rw [l2]; exact hz)
    have a4 := swF_congr (l := labs Q) tb.g0 (fun y hy => by have := (hx2 y hy).1; rwa [l2] at this) at2 z hz
    rw [← a4, ← a3]
    refine even_id tb.la.1 tb.lb.1 tb.ne c1 (fun y hy ya yb => c4 y (.inr (List.mem_filter.mpr ⟨by rw [l2]; exact hy, ?_⟩))) z hz
    simp [ya, yb]
  · rw [e] at hx
    rcases List.mem_append.mp hx with h | h
    · exact .inr (.inr (.inl (gm x h)))
    · rcases c2 x h with h | h | h
      · exact .inl h
      · exact .inr (.inl h)
      · exact .inr (.inr (.inr h))
  · rw [e, List.length_append]
    omega
/-- one leader in each line: the rows' word does for both -/
theorem routeM_ok {P Q : List (Str × Str)} {I1 I2 U : List Str} {L2 : Str → Str} (vP : VP P) (gP : ("" : Str) ∈ labs P) (i0 : ("" : Str) ∉ I1) (iq : ∀ z ∈ I1, z ∈ labs P) (fP : ∀ z ∈ I1, fOf P z = z) (fQ : ∀ z ∈ I2, fOf Q z = z) (j0 : ("" : Str) ∉ I2)
    (u0 : ("" : Str) ∈ U) (uP : ∀ z ∈ U, z ∈ labs P) (ag : ∀ z ∈ U, fOf P z = fOf Q z) (h1 : ∀ x ∈ labs P, x ≠ "" → x ∉ I1 → L2 x = x ∧ x ∈ U ∧ x ∉ I2) (h2 : ∀ z ∈ labs Q, z ∈ U ∨ z ∈ I2) :
    ∀ z ∈ labs Q, swF (fOf Q) ((gwd P).map L2) z = z := fun z hz => by
  have gm := gwd_mem vP i0 iq gP fP
  have self : (gwd P).map L2 = gwd P := by
    conv => rhs; rw [← List.map_id (gwd P)]
    exact List.map_congr_left fun x hx => (h1 x (gm x hx).1 (gm x hx).2.1 (gm x hx).2.2).1
  rw [self]
  rcases h2 z hz with hu | hi
  · rw [← swF_congr (l := U) u0 (fun x hx => (h1 x (gm x hx).1 (gm x hx).2.1 (gm x hx).2.2).2.1) ag z hu]
    exact gwd_id vP gP z (uP z hu)
  · have key : ∀ (xs : List Str) (p : Str → Str), (∀ x ∈ xs, x ∉ I2) → p z = z → swF p xs z = z := by
      intro xs
      induction xs with
      | nil => intro p _ h; exact h
      | cons x r ih =>
        intro p hx h
        refine ih _ (fun y hy => hx y (List.mem_cons_of_mem _ hy)) ?_
        show p (sw "" x z) = z
        rw [sw_o (fun e : z = "" => j0 (e ▸ hi)) (fun e : z = x => hx x List.mem_cons_self (e ▸ hi))]
        exact h
    exact key _ _ (fun x hx => (h1 x (gm x hx).1 (gm x hx).2.1 (gm x hx).2.2).2.2) (fQ z hi)
end Dv
namespace Dv
open PySem L2 PyProof.Rows
/-! ### the way from a floor to one that moves lead to -/
noncomputable def nmU (z : Str) : List Nat := Classical.epsilon fun l => z = Sx l
theorem nmU_sx (l : List Nat) : nmU (Sx l) = l := by
  have h : Sx l = Sx (nmU (Sx l)) := Classical.epsilon_spec (p := fun k => Sx l = Sx k) ⟨l, rfl⟩
  exact (sx_inj h).symm
noncomputable def LR (s : Fl) (z : Str) : Str := Sx (labL s (nmU z))
/-- a leader's line -/
theorem up_mn {r : List (List Nat)} (ok : ∀ y ∈ r, okL y = true) (h : hasL r = true) : upN (mnL r) = true := by
  obtain ⟨x, hx⟩ : ∃ x, x ∈ r.filter upN := by
    unfold hasL at h
    cases hf : r.filter upN with
    | nil => rw [hf] at h; cases h
    | cons x t => exact ⟨x, List.mem_cons_self⟩
  obtain ⟨hxr, ux⟩ := List.mem_filter.mp hx
  have ne : r ≠ [] := List.ne_nil_of_mem hxr
  have hm := mnL_mem ne
  by_cases u : upN (mnL r) = true
  · exact u
  · exfalso
    have a := up_first2 (ok x hxr) (ok _ hm) ux u
    have e := ge_anti a (mnL_le hxr)
    rw [← e] at u
    exact u ux
theorem ring_lab {s : Fl} (v : VF s) {x : Str} (hx : x ∈ ringS s) (h0 : x ≠ "") (hi : x ∉ (idleL s).map Sx) : ∃ l, x = Sx l ∧ l ∈ s.flatten ∧ upN l = true ∧ labL s l = l ∧ ∃ r ∈ s, hasL r = true ∧ mnL r = l := by
  rcases List.mem_cons.mp hx with e | hx
  · exact absurd e h0
  · obtain ⟨l, hl, rfl⟩ := List.mem_map.mp hx
    obtain ⟨r, hr, rfl⟩ := List.mem_map.mp hl
    have ne := v.rf.ne r hr
    have hm := mnL_mem ne
    have hh : hasL r = true := by
      by_cases h : hasL r = true
      · exact h
      · exact absurd (List.mem_map_of_mem (List.mem_map_of_mem (List.mem_filter.mpr ⟨hr, by simpa using h⟩))) hi
    exact ⟨mnL r, rfl, List.mem_flatten.mpr ⟨r, hr, hm⟩, up_mn (v.ok r hr) hh, labL_at v.nd hr hm, r, hr, hh, rfl⟩
theorem used_lab {s : Fl} (v : VF s) {l : List Nat} (hl : l ∈ s.flatten) (ul : upN l = true) : Sx (labL s l) ∈ ringS s ∧ Sx (labL s l) ≠ "" ∧ Sx (labL s l) ∉ (idleL s).map Sx := by
  obtain ⟨r, hr, lr⟩ := List.mem_flatten.mp hl
  obtain ⟨q, hq, e, lq, _, hi⟩ := used_line v.nd v.rf.ne (List.Perm.refl _) hr lr ul
  have el := labL_at v.nd hr lr
  refine ⟨?_, ?_, fun h => ?_⟩
  · rw [el]
    exact List.mem_cons_of_mem _ (List.mem_map_of_mem (List.mem_map_of_mem hr))
  · rw [el]
    exact sx_ne (v.ok r hr _ (mnL_mem (v.rf.ne r hr)))
  · obtain ⟨z, hz, ez⟩ := List.mem_map.mp h
    exact hi z hz ((sx_inj ez).trans el)
theorem idle_0 {s : Fl} (v : VF s) : ("" : Str) ∉ (idleL s).map Sx := fun h => by
  obtain ⟨z, hz, e⟩ := List.mem_map.mp h
  obtain ⟨r, hr, rfl⟩ := List.mem_map.mp hz
  have h1 := (List.mem_filter.mp hr).1
  exact sx_ne (v.ok r h1 _ (mnL_mem (v.rf.ne r h1))) e
/-! columns of columns -/
theorem at_ext {f g : Fl} (vf : VF f) (vg : VF g) (lf : f.length = g.length) (wd : Dv.wid f = Dv.wid g) (key : ∀ {i j : Nat} {l : List Nat}, At f i j l → At g i j l) : f = g := by
  refine List.ext_getElem lf fun i h1 h2 => ?_
  have w1 := vf.wid.1 f[i] (List.getElem_mem h1)
  have w2 := vg.wid.1 g[i] (List.getElem_mem h2)
  refine List.ext_getElem (by omega) fun j h3 h4 => ?_
  obtain ⟨r', hr, hl⟩ := key ⟨f[i], List.getElem?_eq_getElem h1, List.getElem?_eq_getElem h3⟩
  rw [List.getElem?_eq_getElem h2] at hr
  cases hr
  rw [List.getElem?_eq_getElem h4] at hl
  exact (Option.some.inj hl).symm
theorem cols_l (f : Fl) : (colsL f).length = Dv.wid f := by
  show ((List.range _).map _).length = _
  simp
  rfl
theorem cols_w {f : Fl} (v : VF f) : Dv.wid (colsL f) = f.length := by
  have h := v.wid.2.1
  have : (colsL f)[0]? = some (f.map fun r => r.getD 0 []) := by
    show ((List.range _).map _)[0]? = _
    have h' : 0 < (f.getD 0 []).length := h
    rw [List.getElem?_map, List.getElem?_range h']
    rfl
  show ((colsL f).getD 0 []).length = _
  rw [List.getD_eq_getElem?_getD, this]
  simp
theorem col_col {f : Fl} (v : VF f) : colsL (colsL f) = f := by
  refine at_ext v.vfC.vfC v (by rw [cols_l, cols_w v]) (by rw [cols_w v.vfC, cols_l]) fun {i j l} h => ?_
  have h1 : At (colsL f) j i l := (col_at (fl := colsL f) v.vfC.wid.1).mp h
  exact (col_at (fl := f) v.wid.1).mp h1
/-! two leaders of a line -/
def mate1 (r : List (List Nat)) : Option (List Nat × List Nat) :=
  match r.filter upN with
  | x :: y :: _ => some (x, y)
  | _ => none
def mates (ls : Fl) : Option (List Nat × List Nat) := ls.findSome? mate1
theorem mate1_ok {r : List (List Nat)} (nd : r.Nodup) {q : List Nat × List Nat} (h : mate1 r = some q) : q.1 ∈ r ∧ q.2 ∈ r ∧ q.1 ≠ q.2 ∧ upN q.1 = true ∧ upN q.2 = true := by
  unfold mate1 at h
  split at h
  · rename_i x y t e
    cases h
    have m1 : x ∈ r.filter upN := by rw [e]; simp
    have m2 : y ∈ r.filter upN := by rw [e]; simp
    have n2 : (r.filter upN).Nodup := nd.filter _
    rw [e] at n2
    obtain ⟨a1, a2⟩ := List.mem_filter.mp m1
    obtain ⟨b1, b2⟩ := List.mem_filter.mp m2
    exact ⟨a1, b1, fun q => (List.nodup_cons.mp n2).1 (by rw [show x = y from q]; exact List.mem_cons_self), a2, b2⟩
  · cases h
theorem mate1_no {r : List (List Nat)} (h : mate1 r = none) : oneL r = true := by
  unfold mate1 at h
  unfold oneL
  refine decide_eq_true ?_
  split at h
  · cases h
  · rename_i hne
    match e : r.filter upN with
    | [] => simp
    | [x] => simp
    | x :: y :: t => exact absurd e (hne x y t)
theorem mates_ok {ls : Fl} (v : VF ls) {q : List Nat × List Nat} (h : mates ls = some q) : ∃ r ∈ ls, q.1 ∈ r ∧ q.2 ∈ r ∧ q.1 ≠ q.2 ∧ upN q.1 = true ∧ upN q.2 = true := by
  obtain ⟨r, hr, e⟩ := List.exists_of_findSome?_eq_some h
  exact ⟨r, hr, mate1_ok ((List.pairwise_flatten.mp v.nd).1 r hr) e⟩
theorem mates_no {ls : Fl} (h : mates ls = none) : ls.all oneL = true := List.all_eq_true.mpr fun r hr => mate1_no (List.findSome?_eq_none_iff.mp h r hr)
theorem mates_two {s : Fl} (hm : ¬ mtch s = true) (h : mates s = none) : ∃ q, mates (colsL s) = some q := by
  cases e : mates (colsL s) with
  | some q => exact ⟨q, rfl⟩
  | none =>
    refine absurd ?_ hm
    unfold mtch
    rw [List.all_append, mates_no h, mates_no e]
    rfl
/-- two names of one row have not one column -/
theorem mates_col {s : Fl} (v : VF s) {r : List (List Nat)} (hr : r ∈ s) {x y : List Nat} (hx : x ∈ r) (hy : y ∈ r) (ne : x ≠ y) : labL (colsL s) x ≠ labL (colsL s) y := fun e => by
  obtain ⟨i, hi⟩ := List.mem_iff_getElem?.mp hr
  obtain ⟨j, hj⟩ := List.mem_iff_getElem?.mp hx
  obtain ⟨k, hk⟩ := List.mem_iff_getElem?.mp hy
  obtain ⟨c, hc, hc2⟩ := (col_at (fl := s) v.wid.1).mpr (⟨r, hi, hj⟩ : At s i j x)
  obtain ⟨d, hd, hd2⟩ := (col_at (fl := s) v.wid.1).mpr (⟨r, hi, hk⟩ : At s i k y)
  have vc := v.vfC
  have hc : (colsL s)[j]? = some c := hc
  have hd : (colsL s)[k]? = some d := hd
  have e1 := labL_at vc.nd (List.mem_of_getElem? hc) (List.mem_of_getElem? hc2)
  have e2 := labL_at vc.nd (List.mem_of_getElem? hd) (List.mem_of_getElem? hd2)
  rw [e1, e2] at e
  have := ln_uniq vc.nd hc hd (mnL_mem (vc.rf.ne c (List.mem_of_getElem? hc))) (by rw [e]; exact mnL_mem (vc.rf.ne d (List.mem_of_getElem? hd)))
  subst this
  rw [hj] at hk
  exact ne (Option.some.inj hk)
/-! the way -/
theorem al_tn {us ws : List Str} (rg : RG us ws) {k : Nat} (hk : k < us.length) : Tn us ws (fOf (alR us ws k)) := by
  refine ⟨rg.eq.symm, k, hk, fun i x hi => ?_⟩
  have hl := rg.eq
  have hil := (List.getElem?_eq_some_iff.mp hi).1
  have hr := rot_at (ws := ws) (k := k) (i := i) (by omega) (by omega)
  rw [hl]
  have hlt : (i + k) % ws.length < ws.length := Nat.mod_lt _ (by omega)
  rw [List.getElem?_eq_getElem hlt] at hr ⊢
  have hz : (us.zip (ws.drop k ++ ws.take k))[i]? = some (x, ws[(i + k) % ws.length]) := List.getElem?_zip_eq_some.mpr ⟨hi, hr⟩
  have hm : (x, ws[(i + k) % ws.length]) ∈ alR us ws k := (srtQ_perm _).mem_iff.mpr (List.mem_of_getElem? hz)
  rw [fOf_at (rg.vp hk).1 hm]
noncomputable def fstP (s g : Fl) : Nat × Nat := (NPR s g).headD (0, 0)
noncomputable def pP (s g : Fl) : List (Str × Str) := alR (ringS s) (ringS g) (fstP s g).1
noncomputable def qP (s g : Fl) : List (Str × Str) := alR (ringS (colsL s)) (ringS (colsL g)) (fstP s g).2
noncomputable def routeF (s g : Fl) : List Str :=
  if mtch s = true then gwd (pP s g)
  else match mates s with
    | some q => routeW (pP s g) (qP s g) (LR (colsL s)) (Sx q.1) (Sx q.2)
    | none => match mates (colsL s) with
      | some q => routeW (qP s g) (pP s g) (LR s) (Sx q.1) (Sx q.2)
      | none => []
/-- of one side -/
structure Sid (s : Fl) (us ws : List Str) (P : List (Str × Str)) : Prop where
  vp : VP P
  lb : ∀ z, z ∈ labs P ↔ z ∈ ringS s
  fx : ∀ z ∈ (idleL s).map Sx, fOf P z = z
theorem sid_mk {s g : Fl} (rg : RG (ringS s) (ringS g)) {k : Nat} (h : k ∈ KRR s g) : Sid s (ringS s) (ringS g) (alR (ringS s) (ringS g) k) := by
  obtain ⟨v, p⟩ := rg.vp (kpR_lt h)
  exact ⟨v, fun z => p.mem_iff, fun z hz => of_decide_eq_true (List.all_eq_true.mp (List.mem_filter.mp h).2 z hz)⟩
theorem lead_fst {s g : Fl} (h : NPR s g ≠ []) : (fstP s g).1 ∈ KRR s g ∧ (fstP s g).2 ∈ KRR (colsL s) (colsL g) ∧ PGR s g (fstP s g).1 (fstP s g).2 = true := by
  have hm : fstP s g ∈ NPR s g := by
    unfold fstP
    cases e : NPR s g with
    | nil => exact absurd e h
    | cons a t => exact List.mem_cons_self
  obtain ⟨k, hk, hm⟩ := List.mem_flatMap.mp hm
  obtain ⟨l, hl, e⟩ := List.mem_map.mp hm
  obtain ⟨h1, h2⟩ := List.mem_filter.mp hl
  rw [← e]
  exact ⟨hk, h1, h2⟩
theorem lab_self {s t : Fl} (v : VF s) (vt : VF t) (fl : ∀ l, l ∈ s.flatten ↔ l ∈ t.flatten) {x : Str} (hx : x ∈ ringS s) (h0 : x ≠ "") (hi : x ∉ (idleL s).map Sx) : LR s x = x ∧ LR t x ∈ ringS t ∧ LR t x ≠ "" ∧ LR t x ∉ (idleL t).map Sx := by
  obtain ⟨l, rfl, hl, ul, e, _⟩ := ring_lab v hx h0 hi
  unfold LR
  rw [nmU_sx, e]
  exact ⟨rfl, used_lab vt ((fl l).mp hl) ul⟩
theorem tb_mk {s t : Fl} (v : VF s) (vt : VF t) (fl : ∀ l, l ∈ s.flatten ↔ l ∈ t.flatten) {Q : List (Str × Str)} (sd : ∀ z, z ∈ labs Q ↔ z ∈ ringS t) {a b : List Nat} (ha : a ∈ s.flatten) (hb : b ∈ s.flatten) (ua : upN a = true) (ub : upN b = true) (ne : labL t a ≠ labL t b) : TB (labs Q) ((idleL t).map Sx) (LR t) (Sx a) (Sx b) := by
  obtain ⟨a1, a2, a3⟩ := used_lab vt ((fl a).mp ha) ua
  obtain ⟨b1, b2, b3⟩ := used_lab vt ((fl b).mp hb) ub
  have ea : LR t (Sx a) = Sx (labL t a) := by unfold LR; rw [nmU_sx]
  have eb : LR t (Sx b) = Sx (labL t b) := by unfold LR; rw [nmU_sx]
  refine ⟨(sd _).mpr List.mem_cons_self, idle_0 vt, fun z hz => (sd z).mpr (idle_ring t z hz), ?_, ?_, ?_, fun x hx h0 hi => ?_⟩
  · rw [ea]; exact ⟨(sd _).mpr a1, a2, a3⟩
  · rw [eb]; exact ⟨(sd _).mpr b1, b2, b3⟩
  · rw [ea, eb]; exact fun e => ne (sx_inj e)
  · exact (lab_self vt vt (fun _ => Iff.rfl) ((sd x).mp hx) h0 hi).1
theorem odd_sum {us ws vs xs : List Str} {k l : Nat} (h : (oddR us ws k == oddR vs xs l) = true) : (oddN (alR us ws k) + oddN (alR vs xs l)) % 2 = 0 := by
  have e := eq_of_beq h
  unfold oddR at e
  rw [decide_eq_decide] at e
  omega
theorem wway {s t : Fl} (v : VF s) (vt : VF t) (fl : ∀ l, l ∈ s.flatten ↔ l ∈ t.flatten) {us ws us' ws' : List Str} {P Q : List (Str × Str)} (sp : Sid s us ws P) (sq : Sid t us' ws' Q) {a b : List Nat} {r : List (List Nat)} (hr : r ∈ s) (ha : a ∈ r) (hb : b ∈ r) (ua : upN a = true) (ub : upN b = true) (ne : labL t a ≠ labL t b) (sg : (oddN P + oddN Q) % 2 = 0) :
    (∀ z ∈ ringS s, swF (fOf P) ((routeW P Q (LR t) (Sx a) (Sx b)).map (LR s)) z = z) ∧ (∀ z ∈ ringS t, swF (fOf Q) ((routeW P Q (LR t) (Sx a) (Sx b)).map (LR t)) z = z) ∧ (∀ x ∈ routeW P Q (LR t) (Sx a) (Sx b), ∃ l, x = Sx l ∧ l ∈ s.flatten ∧ upN l = true) ∧ (routeW P Q (LR t) (Sx a) (Sx b)).length ≤ 200 := by
  have fa : a ∈ s.flatten := List.mem_flatten.mpr ⟨r, hr, ha⟩
  have fb : b ∈ s.flatten := List.mem_flatten.mpr ⟨r, hr, hb⟩
  have tb := tb_mk v vt fl sq.lb fa fb ua ub ne
  have hab : LR s (Sx a) = LR s (Sx b) := by
    unfold LR
    rw [nmU_sx, nmU_sx, labL_at v.nd hr ha, labL_at v.nd hr hb]
  obtain ⟨k1, k2, k3, k4⟩ := routeW_ok (I1 := (idleL s).map Sx) (L1 := LR s) sp.vp sq.vp ((sp.lb _).mpr List.mem_cons_self) (idle_0 v) (fun z hz => (sp.lb z).mpr (idle_ring s z hz)) sp.fx sq.fx (fun x hx h0 hi => by
    obtain ⟨q1, q2, q3, q4⟩ := lab_self v vt fl ((sp.lb x).mp hx) h0 hi
    exact ⟨q1, (sq.lb _).mpr q2, q3, q4⟩) tb hab sg
  refine ⟨fun z hz => k1 z ((sp.lb z).mpr hz), fun z hz => k2 z ((sq.lb z).mpr hz), fun x hx => ?_, k4⟩
  rcases k3 x hx with e | e | ⟨q1, q2, q3⟩ | ⟨q1, q2, q3⟩
  · exact ⟨a, e, fa, ua⟩
  · exact ⟨b, e, fb, ub⟩
  · obtain ⟨l, e, hl, ul, _⟩ := ring_lab v ((sp.lb x).mp q1) q2 q3
    exact ⟨l, e, hl, ul⟩
  · obtain ⟨l, e, hl, ul, _⟩ := ring_lab vt ((sq.lb x).mp q1) q2 q3
    exact ⟨l, e, (fl l).mpr hl, ul⟩
/-- both sides are right at the end, and who plays are leaders -/
theorem route_way {s g : Fl} (rr : RR s g) (np : NPR s g ≠ []) : (∀ z ∈ ringS s, swF (fOf (pP s g)) ((routeF s g).map (LR s)) z = z) ∧ (∀ z ∈ ringS (colsL s), swF (fOf (qP s g)) ((routeF s g).map (LR (colsL s))) z = z) ∧ (∀ x ∈ routeF s g, ∃ l, x = Sx l ∧ l ∈ s.flatten ∧ upN l = true) ∧ (routeF s g).length ≤ 200 := by
  obtain ⟨h1, h2, h3⟩ := lead_fst np
  have v := rr.vs
  have vc := v.vfC
  have sp := sid_mk rr.rg h1
  have sq := sid_mk (s := colsL s) (g := colsL g) rr.cg h2
  have fl : ∀ l, l ∈ s.flatten ↔ l ∈ (colsL s).flatten := fun l => (col_iff v l).symm
  unfold routeF
  by_cases hm : mtch s = true
  · rw [if_pos hm]
    have gP : ("" : Str) ∈ labs (pP s g) := (sp.lb _).mpr List.mem_cons_self
    have iq : ∀ z ∈ (idleL s).map Sx, z ∈ labs (pP s g) := fun z hz => (sp.lb z).mpr (idle_ring s z hz)
    have gm := gwd_mem sp.vp (idle_0 v) iq gP sp.fx
    have gl : (gwd (pP s g)).length < 27 := (gwd_len sp.vp).2
    have ag : agrB (usd s) (pP s g) (qP s g) = true := by
      have := h3
      unfold PGR at this
      rwa [if_pos hm] at this
    have allm := List.all_eq_true.mp hm
    have lead1 : ∀ x ∈ labs (pP s g), x ≠ "" → x ∉ (idleL s).map Sx → LR s x = x ∧ LR (colsL s) x = x ∧ x ∈ usd s ∧ x ∉ (idleL (colsL s)).map Sx := fun x hx h0 hi => by
      obtain ⟨l, rfl, hl, ul, e, r, hr, hh, em⟩ := ring_lab v ((sp.lb x).mp hx) h0 hi
      obtain ⟨c, hc, lc⟩ := List.mem_flatten.mp ((fl l).mp hl)
      have ec : labL (colsL s) l = l := by
        rw [labL_at vc.nd hc lc]
        exact one_mn (vc.ok c hc) (allm c (List.mem_append_right _ hc)) lc ul
      have uc := used_lab vc ((fl l).mp hl) ul
      rw [ec] at uc
      unfold LR
      rw [nmU_sx, e, ec]
      exact ⟨rfl, rfl, List.mem_cons_of_mem _ (List.mem_map_of_mem ((srt_perm _).mem_iff.mpr (by rw [← em]; exact List.mem_map_of_mem (List.mem_filter.mpr ⟨hr, hh⟩)))), uc.2.2⟩
    have self : (gwd (pP s g)).map (LR s) = gwd (pP s g) := by
      conv => rhs; rw [← List.map_id (gwd (pP s g))]
      exact List.map_congr_left fun x hx => (lead1 x (gm x hx).1 (gm x hx).2.1 (gm x hx).2.2).1
    refine ⟨fun z hz => ?_, fun z hz => ?_, fun x hx => ?_, by omega⟩
    · rw [self]
      exact gwd_id sp.vp gP z ((sp.lb z).mpr hz)
    · refine routeM_ok (I1 := (idleL s).map Sx) (I2 := (idleL (colsL s)).map Sx) (U := usd s) sp.vp gP (idle_0 v) iq sp.fx sq.fx (idle_0 vc) List.mem_cons_self (fun z hz => (sp.lb z).mpr (usd_row z hz)) (fun z hz => of_decide_eq_true (List.all_eq_true.mp ag z hz)) (fun x hx h0 hi => (lead1 x hx h0 hi).2) (fun y hy => ?_) z ((sq.lb z).mpr hz)
      by_cases y0 : y = ""
      · rw [y0]; exact .inl List.mem_cons_self
      · by_cases yi : y ∈ (idleL (colsL s)).map Sx
        · exact .inr yi
        · obtain ⟨l, rfl, hl, ul, e, _⟩ := ring_lab vc ((sq.lb y).mp hy) y0 yi
          have hl2 := (fl l).mpr hl
          obtain ⟨r, hr, lr⟩ := List.mem_flatten.mp hl2
          have em := one_mn (v.ok r hr) (allm r (List.mem_append_left _ hr)) lr ul
          obtain ⟨q, hq, e3, lq, hh, _⟩ := used_line v.nd v.rf.ne (List.Perm.refl _) hr lr ul
          refine .inl (List.mem_cons_of_mem _ (List.mem_map_of_mem ((srt_perm _).mem_iff.mpr ?_)))
          rw [← em, e3]
          exact List.mem_map_of_mem (List.mem_filter.mpr ⟨hq, hh⟩)
    · obtain ⟨l, e, hl, ul, _⟩ := ring_lab v ((sp.lb x).mp (gm x hx).1) (gm x hx).2.1 (gm x hx).2.2
      exact ⟨l, e, hl, ul⟩
  · rw [if_neg hm]
    have sg : (oddN (pP s g) + oddN (qP s g)) % 2 = 0 := by
      have := h3
      unfold PGR at this
      rw [if_neg hm] at this
      exact odd_sum this
    cases e : mates s with
    | some q =>
      obtain ⟨r, hr, q1, q2, q3, q4, q5⟩ := mates_ok v e
      exact wway v vc fl sp sq hr q1 q2 q4 q5 (mates_col v hr q1 q2 q3) sg
    | none =>
      obtain ⟨q, e2⟩ := mates_two hm e
      obtain ⟨r, hr, q1, q2, q3, q4, q5⟩ := mates_ok vc e2
      have ne := mates_col vc hr q1 q2 q3
      rw [col_col v] at ne
      obtain ⟨k1, k2, k3, k4⟩ := wway vc v (fun l => (fl l).symm) sq sp hr q1 q2 q4 q5 ne (by rw [Nat.add_comm]; exact sg)
      simp only [e2]
      exact ⟨k2, k1, fun x hx => by
        obtain ⟨l, a, b, c⟩ := k3 x hx
        exact ⟨l, a, (fl l).mpr b, c⟩, k4⟩
/-- the way leads -/
theorem route_leads {s g : Fl} (rr : RR s g) (np : NPR s g ≠ []) (r : (g.map srt).Perm (s.map srt)) (c : ((colsL g).map srt).Perm ((colsL s).map srt)) : plF s ((routeF s g).map nmU) = g := by
  obtain ⟨h1, h2, h3⟩ := lead_fst np
  obtain ⟨k1, k2, k3, _⟩ := route_way rr np
  have v := rr.vs
  have t0 : To s s g (fOf (pP s g)) (fOf (qP s g)) := ⟨v, .refl _, .refl _, .refl _, al_tn rr.rg (kpR_lt h1), al_tn rr.cg (kpR_lt h2)⟩
  have hm : ∀ l ∈ (routeF s g).map nmU, l ∈ s.flatten := fun l hl => by
    obtain ⟨x, hx, rfl⟩ := List.mem_map.mp hl
    obtain ⟨l, rfl, b, _⟩ := k3 x hx
    rw [nmU_sx]
    exact b
  have t := To.run v _ t0 hm
  rw [List.map_map, List.map_map] at t
  have ring : ∀ {f : Fl}, (f.map srt).Perm (s.map srt) → ∀ z ∈ ringS f, z ∈ ringS s := fun {f} p z hz => by
    rcases List.mem_cons.mp hz with e | hz
    · rw [e]; exact List.mem_cons_self
    · obtain ⟨l, hl, rfl⟩ := List.mem_map.mp hz
      obtain ⟨q, hq, rfl⟩ := List.mem_map.mp hl
      obtain ⟨q2, h4, h5⟩ := List.mem_map.mp (p.mem_iff.mp (List.mem_map_of_mem (f := srt) hq))
      have : mnL q = mnL q2 := by unfold mnL; rw [h5]
      rw [this]
      exact List.mem_cons_of_mem _ (List.mem_map_of_mem (List.mem_map_of_mem h4))
  have ringc : ∀ {f : Fl}, ((colsL f).map srt).Perm ((colsL s).map srt) → ∀ z ∈ ringS (colsL f), z ∈ ringS (colsL s) := fun {f} p z hz => by
    rcases List.mem_cons.mp hz with e | hz
    · rw [e]; exact List.mem_cons_self
    · obtain ⟨l, hl, rfl⟩ := List.mem_map.mp hz
      obtain ⟨q, hq, rfl⟩ := List.mem_map.mp hl
      obtain ⟨q2, h4, h5⟩ := List.mem_map.mp (p.mem_iff.mp (List.mem_map_of_mem (f := srt) hq))
      have : mnL q = mnL q2 := by unfold mnL; rw [h5]
      rw [this]
      exact List.mem_cons_of_mem _ (List.mem_map_of_mem (List.mem_map_of_mem h4))
  exact t.done rr.vg r c (fun z hz => k1 z (ring t.rw_ z hz)) fun z hz => k2 z (ringc t.cw z hz)
end Dv
namespace PySem.AutoSeq1
open PySem
end PySem.AutoSeq1
namespace Dv
open PySem L2 PyProof.Rows
end Dv
namespace Dv
open PySem L2 PyProof.Rows
section
variable {K : PySem.W.Frag} {Pg : Program} {w : World}
/-- a tuple or a list -/
def sqB (b : Bool) (ds : List PyData) : PyData := match b with | true => .tuple ds | false => .list ds
theorem ei_sqB {K : PySem.W.Frag} {ρ : Rho} {m : Sto} {tl : TE} {P : List Sl → (Sto → Prop) → Sto → Prop} (b : Bool) (h : Ev K tl ρ m fun s m1 => ∃ ds, s = .d (sqB b ds) ∧ P (ds.map .d) Any m1) : EvI K (iSeqU K tl) ρ m P := by
  cases b with
  | true => exact ei_tup h
  | false => exact ei_lst h
end
end Dv
namespace Dv
open PySem L2 PyProof.Rows
end Dv
namespace Dv
open PySem L2 PyProof.Rows
/-! ### sorted(set(names)) -/
/-- a set of the texts l, whose table can be walked -/
def TSet (P : Program) (w : World) (h : Heap) (a : Addr) (l : List Str) : Prop :=
  ∃ D : Froz.SD, h.get? a = some (Froz.sObj "set" D) ∧ Froz.TxOk P w D l ∧ Ris D.2.2.place.toList ∧ (w.params.followText "set-order" = true ∨ D.2.2.led = true)
section
variable {P : Program} {w : World} {A : Around} {E : Value → Shared → Prop} {s : Shared}
theorem TSet.at {h h' : Heap} {a : Addr} {l : List Str} (T : TSet P w h a l) (k : ∀ o, h.get? a = some o → h'.get? a = some o) : TSet P w h' a l := by
  obtain ⟨D, e, r⟩ := T
  exact ⟨D, k _ e, r⟩
end
end Dv
namespace Dv
open PySem L2 PyProof.Rows
open PySem.W (dataLe)
end Dv
namespace Dv
open PySem L2 PyProof.Rows
theorem nx_flo {fl : Fl} (v : VF fl) : Nx 2 (12 * (12 * 2001 + 1)) (flD fl) := nx_floor (fun r hr => ⟨by
  obtain ⟨c, c0, c1, hc⟩ := v.cols
  rw [hc r hr]
  exact c1, fun l hl => okL_tx (v.ok r hr l hl)⟩) v.most
/-! ### from a floor to itself -/
/-- the lines of a floor that moves lead to -/
theorem Lead.lines {s g : Fl} (h : Lead s g) : (g.map srt).Perm (s.map srt) ∧ ((colsL g).map srt).Perm ((colsL s).map srt) := by
  have vs := h.rr.vs
  have vg := h.rr.vg
  have vc := vs.vfC
  have gc := vg.vfC
  exact ⟨(same_lines vs.nd vg.nd vs.rf.ne vg.rf.ne (fun x => h.fl.mem_iff) h.sr).1.symm, (same_lines vc.nd gc.nd vc.rf.ne gc.rf.ne (fun x => by rw [col_iff vs, col_iff vg]; exact h.fl.mem_iff) fun x hx y hy => h.sc x ((col_iff vs x).mp hx) y ((col_iff vs y).mp hy)).1.symm⟩
theorem Lead.route {s g : Fl} (h : Lead s g) : plF s ((routeF s g).map nmU) = g ∧ (∀ l ∈ (routeF s g).map nmU, l ∈ s.flatten ∧ upN l = true) ∧ (routeF s g).length ≤ 200 ∧ (routeF s g).map PyData.str = ((routeF s g).map nmU).map nmD := by
  obtain ⟨_, _, k3, k4⟩ := route_way h.rr h.np
  refine ⟨route_leads h.rr h.np h.lines.1 h.lines.2, fun l hl => ?_, k4, ?_⟩
  · obtain ⟨x, hx, rfl⟩ := List.mem_map.mp hl
    obtain ⟨l, rfl, b, c⟩ := k3 x hx
    rw [nmU_sx]
    exact ⟨b, c⟩
  · rw [List.map_map]
    refine List.map_congr_left fun x hx => ?_
    obtain ⟨l, rfl, _⟩ := k3 x hx
    show PyData.str (Sx l) = nmD (nmU (Sx l))
    rw [nmU_sx]
section
variable {K : PySem.W.Frag} {Pg : Program} {w : World}
def W_playT : WT := fun ss m P => ∃ (fl : Fl) (ls : List (List Nat)) (d : PyData), ss = [.d (flD fl), .d d] ∧ (d = .list (ls.map nmD) ∨ d = .tuple (ls.map nmD)) ∧ VF fl ∧ (∀ l ∈ ls, l ∈ fl.flatten ∧ upN l = true) ∧ P (.d (flD (plF fl ls))) m
def t_playT (K : PySem.W.Frag) (Pg : Program) (w : World) : TS :=
  (tSeq (tFor (iSeqU K (tVar 1)) (gName 2)
    (tAsg (tCall (SpD K W_l_cross) [] E0 (tCons (tVar 0) (tCons (tVar 2) tNil))) (gName 0)))
    (tRet (tVar 0)))
theorem rd_playT (ss : List Sl) (m : Sto) (P : PV) (h : W_playT ss m P) : Wp K (t_playT K Pg w) (rho ["floor", "names", "name"] ss) m { nx := fun _ m' => P (.d .none) m', rt := P } := by
  obtain ⟨fl, ls, d, rfl, hd, v, hls, p⟩ := h
  have body : ∀ j l ρ' m', ls[j]? = some l → (∃ s2, ρ' = [some (.d (flD (plF fl (ls.take j)))), some (.d d), s2] ∧ m' = m) → Wp K (tAsg (tCall (SpD K W_l_cross) [] E0 (tCons (tVar 0) (tCons (tVar 2) tNil))) (gName 0)) (ρ'.set 2 (some (.d (nmD l)))) m' { nx := fun ρ' m' => ∃ s2, ρ' = [some (.d (flD (plF fl (ls.take (j + 1))))), some (.d d), s2] ∧ m' = m, rt := P, bk := fun ρ' m' => Wp K (tRet (tVar 0)) ρ' m' { nx := fun _ m' => P (.d .none) m', rt := P }, ct := fun ρ' m' => ∃ s2, ρ' = [some (.d (flD (plF fl (ls.take (j + 1))))), some (.d d), s2] ∧ m' = m } := by
    rintro j l ρ' m' hl ⟨s2, rfl, rfl⟩
    have ld := lead_of v (ls := ls.take j) fun x hx => hls x (List.mem_of_mem_take hx)
    have hm : l ∈ (plF fl (ls.take j)).flatten := ld.fl.mem_iff.mp (hls l (List.mem_of_getElem? hl)).1
    have e : plF fl (ls.take (j + 1)) = crX (plF fl (ls.take j)) l := by
      rw [List.take_add_one, hl, plF_app]
      rfl
    obtain ⟨i, k, hat⟩ := at_of hm
    refine wp_set <| ev_call0 <| ea_cons <| ev_var rfl <| ea_cons <| ev_var rfl <| ea_nil ⟨_, l, i, k, rfl, ld.rr.vg, hat, ?_⟩
    have e2 := e.trans (crX_at ld.rr.vg hat)
    refine ⟨some (.d (nmD l)), ?_, rfl⟩
    rw [e2]
    rfl
  have fin : ∀ ρ' m', (∃ s2, ρ' = [some (.d (flD (plF fl (ls.take ls.length)))), some (.d d), s2] ∧ m' = m) → Wp K (tRet (tVar 0)) ρ' m' { nx := fun _ m' => P (.d .none) m', rt := P } := by
    rintro ρ' m' ⟨s2, rfl, rfl⟩
    rw [List.take_length]
    exact wp_ret <| ev_var rfl p
  rcases hd with rfl | rfl
  · exact wp_seq <| wp_forL (toD := nmD) <| ei_lst <| ev_var rfl ⟨_, rfl, ls, fun j ρ' m' => ∃ s2, ρ' = [some (.d (flD (plF fl (ls.take j)))), some (.d (.list (ls.map nmD))), s2] ∧ m' = m, rfl, ⟨_, by rw [List.take_zero]; rfl, rfl⟩, fun _ _ _ _ => trivial, body, fin⟩
  · exact wp_seq <| wp_forL (toD := nmD) <| ei_tup <| ev_var rfl ⟨_, rfl, ls, fun j ρ' m' => ∃ s2, ρ' = [some (.d (flD (plF fl (ls.take j)))), some (.d (.tuple (ls.map nmD))), s2] ∧ m' = m, rfl, ⟨_, by rw [List.take_zero]; rfl, rfl⟩, fun _ _ _ _ => trivial, body, fin⟩
end
end Dv
namespace Dv
open PySem L2 PyProof.Rows
/-! ### no reason: moves lead -/
/-- the same from the other side -/
theorem Lead.symm {s g : Fl} (h : Lead s g) : Lead g s := by
  obtain ⟨r1, r2, _, _⟩ := h.route
  have := lead_back h.rr.vs r2
  rwa [r1] at this
end Dv
namespace Dv
open PySem L2 PyProof.Rows
/-! ### first routes -/
end Dv
namespace Dv
open PySem L2 PyProof.Rows PySem.Calls
end Dv
namespace Dv
open PySem L2 PyProof.Rows PySem.Calls
/-! ### reversed(range(n)) -/
end Dv
namespace Dv
open PySem L2 PyProof.Rows PySem.Calls
/-! ### is a floor clear, where `or` is of any values -/
end Dv
namespace Dv
open PySem L2 PyProof.Rows
end Dv
namespace Dv
open PySem L2 PyProof.Rows
/-! ### law 13: what the law computes itself -/
def sd (b : Bool) : Nat := if b = true then 1 else 0
def wd (b : Bool) : Str := if b = true then "column" else "row"
end Dv
namespace Dv
open PySem L2 PyProof.Rows
/-! ### a tuple repeated; zip of two tuples; found + .. that will change -/
/-! ### reasons checked -/
end Dv
namespace Dv
open PySem L2 PyProof.Rows PySem.Calls
/-! ### zip of a tuple and a list -/
structure TnX (z TI TO i1 i2 a b : Addr) (i : Nat) (h : Heap) : Prop where
  z : IsZip h z TI TO .none
  tI : IsTupOf2 h TI (.ref i1) (.ref i2)
  tO : ∃ x y, IsTupOf2 h TO x y
  t1 : h.IsTupleIter i1 a i
  t2 : h.IsListIter i2 b i
theorem TnX.all {z TI TO i1 i2 a b : Addr} {i : Nat} {h : Heap} (t : TnX z TI TO i1 i2 a b i h) : ∀ c ∈ [z, TI, TO, i1, i2], ∃ o, h.get? c = some o ∧ ∀ v, o.data ≠ .cell v := fun c hc => by
  obtain ⟨x, y, hO⟩ := t.tO
  obtain ⟨o1, e1, _, d1⟩ := t.t1
  obtain ⟨o2, e2, _, d2⟩ := t.t2
  simp only [List.mem_cons, List.not_mem_nil, or_false] at hc
  rcases hc with e | e | e | e | e
  · exact ⟨_, e ▸ t.z, fun v q => by cases q⟩
  · exact ⟨_, e ▸ t.tI, fun v q => by cases q⟩
  · exact ⟨_, e ▸ hO, fun v q => by cases q⟩
  · exact ⟨o1, e ▸ e1, fun v q => by rw [d1] at q; cases q⟩
  · exact ⟨o2, e ▸ e2, fun v q => by rw [d2] at q; cases q⟩
theorem TnX.at {z TI TO i1 i2 a b : Addr} {i : Nat} {h h' : Heap} (t : TnX z TI TO i1 i2 a b i h) (k : ∀ c ∈ [z, TI, TO, i1, i2], ∀ o, h.get? c = some o → h'.get? c = some o) : TnX z TI TO i1 i2 a b i h' where
  z := k z (by simp) _ t.z
  tI := k TI (by simp) _ t.tI
  tO := by obtain ⟨x, y, q⟩ := t.tO; exact ⟨x, y, k TO (by simp) _ q⟩
  t1 := t.t1.at fun o q => k i1 (by simp) o q
  t2 := t.t2.at fun o q => k i2 (by simp) o q
end Dv
namespace Dv
open PySem L2 PyProof.Rows PySem.Calls
/-! ### of one leader in each line the columns are no farther than the rows -/
/-! ### what is left to do of each side -/
end Dv
namespace Dv
open PySem L2 PyProof.Rows PySem.Calls
/-! ### two clauses, the inner one over pairs -/
/-! ### pairs of data, nothing changes -/
/-! ### where a row and a column cross -/
end Dv
namespace Dv.Q
open PySem L2 PyProof.Rows
/-! ### what is raised -/
abbrev Flds := List Str × List PyData
abbrev Xv := Rho → Addr → Flds → Sto → Prop
section
variable {K : PySem.W.Frag}
def ThenW (K : PySem.W.Frag) (m : Sto) (F : Reg) (H : Hp) (X : Xv) (W : WX) : Prop := ∀ ρ' C fs d m' σ' F' H', X ρ' C fs m' → m' d = none → Step m F H (put m' d (.obj fs.1 fs.2)) F' H' → StoOk K (put m' d (.obj fs.1 fs.2)) F' H' → EnvOk K F' H' ρ' σ' → W (.ref C) (some d) σ' H'
def ThenE (K : PySem.W.Frag) (m : Sto) (F : Reg) (H : Hp) (X : Addr → Flds → Sto → Prop) (E : XK) : Prop := ∀ C fs d m' F' H', X C fs m' → m' d = none → Step m F H (put m' d (.obj fs.1 fs.2)) F' H' → StoOk K (put m' d (.obj fs.1 fs.2)) F' H' → E (.ref C) (some d) H'
theorem ThenW.step {m m1 : Sto} {F F1 : Reg} {H H1 : Hp} {X : Xv} {W : WX} (t : ThenW K m F H X W) (s : Step m F H m1 F1 H1) : ThenW K m1 F1 H1 X W := fun ρ' C fs d m' σ' F' H' x hd s2 S2 E2 => t ρ' C fs d m' σ' F' H' x hd (s.trans s2) S2 E2
/-- a statement that may raise -/
def WpW (K : PySem.W.Frag) (tb : WX → TS) (ρ : Rho) (m : Sto) (k : Ko) (X : Xv) : Prop :=
  ∀ (D : Ends) (W : WX) (σ : L2.St) (F : Reg) (H : Hp), EnvOk K F H ρ σ → StoOk K m F H →
    (∀ ρ' m' σ' F' H', k.nx ρ' m' → Step m F H m' F' H' → StoOk K m' F' H' → EnvOk K F' H' ρ' σ' → D.nx σ' H') →
    (∀ s m' v F' H', k.rt s m' → Step m F H m' F' H' → StoOk K m' F' H' → SlOk K F' H' s v → D.rt v H') →
    (∀ ρ' m' σ' F' H', k.bk ρ' m' → Step m F H m' F' H' → StoOk K m' F' H' → EnvOk K F' H' ρ' σ' → D.bk σ' H') →
    (∀ ρ' m' σ' F' H', k.ct ρ' m' → Step m F H m' F' H' → StoOk K m' F' H' → EnvOk K F' H' ρ' σ' → D.ct σ' H') → ThenW K m F H X W → tb W D σ H
/-- an expression that may raise -/
def EvW (K : PySem.W.Frag) (te : WX → TE) (ρ : Rho) (m : Sto) (P : PV) (X : Xv) : Prop :=
  ∀ (W : WX) (σ : L2.St) (F : Reg) (H : Hp) (Q : VK), EnvOk K F H ρ σ → StoOk K m F H → Then K m F H P Q → ThenW K m F H X W → te W σ H Q
variable {ρ : Rho} {m : Sto} {k : Ko} {X : Xv} {P : PV} {ts : TS} {t1 t2 tb : WX → TS} {te : WX → TE} {tt : TT} {ta : TA}
theorem wpw_of (h : Wp K ts ρ m k) : WpW K (fun _ => ts) ρ m k X := fun D W σ F H E S q1 q2 q3 q4 _ => h D σ F H E S q1 q2 q3 q4
theorem wpw_at {D : Ends} {W : WX} {m0 m1 : Sto} {F0 F1 : Reg} {H0 H1 : Hp} {σ : L2.St} {ρ1 : Rho} (s1 : Step m0 F0 H0 m1 F1 H1) (E : EnvOk K F1 H1 ρ1 σ) (S1 : StoOk K m1 F1 H1) (w : WpW K tb ρ1 m1 k X)
    (q1 : ∀ ρ' m' σ' F' H', k.nx ρ' m' → Step m0 F0 H0 m' F' H' → StoOk K m' F' H' → EnvOk K F' H' ρ' σ' → D.nx σ' H')
    (q2 : ∀ s m' v F' H', k.rt s m' → Step m0 F0 H0 m' F' H' → StoOk K m' F' H' → SlOk K F' H' s v → D.rt v H')
    (q3 : ∀ ρ' m' σ' F' H', k.bk ρ' m' → Step m0 F0 H0 m' F' H' → StoOk K m' F' H' → EnvOk K F' H' ρ' σ' → D.bk σ' H')
    (q4 : ∀ ρ' m' σ' F' H', k.ct ρ' m' → Step m0 F0 H0 m' F' H' → StoOk K m' F' H' → EnvOk K F' H' ρ' σ' → D.ct σ' H') (q5 : ThenW K m0 F0 H0 X W) : tb W D σ H1 :=
  w D W σ F1 H1 E S1 (fun a b c d f e s2 S2 => q1 a b c d f e (s1.trans s2) S2) (fun a b c d f e s2 S2 => q2 a b c d f e (s1.trans s2) S2) (fun a b c d f e s2 S2 => q3 a b c d f e (s1.trans s2) S2) (fun a b c d f e s2 S2 => q4 a b c d f e (s1.trans s2) S2) (q5.step s1)
theorem wpw_seq (h : WpW K t1 ρ m { k with nx := fun ρ' m' => WpW K t2 ρ' m' k X } X) : WpW K (fun W => tSeq (t1 W) (t2 W)) ρ m k X := fun D W σ F H E S q1 q2 q3 q4 q5 =>
  h { D with nx := t2 W D } W σ F H E S (fun ρ' m' σ' F' H' w s1 S1 E1 => wpw_at (D := D) s1 E1 S1 w q1 q2 q3 q4 q5) q2 q3 q4 q5
theorem wpw_if (h : EvT K tt ρ m fun b m1 => if b = true then WpW K t1 ρ m1 k X else WpW K t2 ρ m1 k X) : WpW K (fun W => tIfS tt (t1 W) (t2 W)) ρ m k X := fun D W σ F H E S q1 q2 q3 q4 q5 =>
  h σ F H _ E S fun b m1 F1 H1 w s1 S1 => by
    cases b with
    | true => exact wpw_at (D := D) s1 (envOk_step s1 E) S1 w q1 q2 q3 q4 q5
    | false => exact wpw_at (D := D) s1 (envOk_step s1 E) S1 w q1 q2 q3 q4 q5
theorem wpw_for {wi : TI} {g : TG} (h : EvI K wi ρ m fun xs C m1 => ∃ Iv : Nat → Rho → Sto → Prop, Iv 0 ρ m1 ∧ (∀ i ρ' m', Iv i ρ' m' → C m') ∧
      (∀ i x ρ' m', xs[i]? = some x → Iv i ρ' m' → ∃ js, Gt K g js x ρ' m' fun ρ2 m2 => WpW K tb ρ2 m2 { k with nx := Iv (i + 1), ct := Iv (i + 1), bk := k.nx } X) ∧ ∀ ρ' m', Iv xs.length ρ' m' → k.nx ρ' m') :
    WpW K (fun W => tFor wi g (tb W)) ρ m k X := fun D W σ F H E S q1 q2 q3 q4 q5 =>
  h σ F H _ E S fun xs C m1 F1 H1 J ⟨Iv, h0, hC, hs, hd⟩ s1 S1 w => by
    refine for_it w (fun i σ' H' => ∃ ρ' m' F', Iv i ρ' m' ∧ Step m1 F1 H1 m' F' H' ∧ StoOk K m' F' H' ∧ EnvOk K F' H' ρ' σ') ⟨ρ, m1, F1, h0, Step.refl, S1, envOk_step s1 E⟩ (fun i σ' H' _ ⟨ρ', m', F', a, b, c, d⟩ => ⟨m', F', hC i ρ' m' a, b, c⟩) ?_
      (fun σ' H' ⟨ρ', m', F', a, b, c, d⟩ => q1 ρ' m' σ' F' H' (hd ρ' m' a) (s1.trans b) c d)
    rintro i x σ' H' H2 hi ⟨ρ', m', F', a, b, c, d⟩ y
    obtain ⟨F2, s2, S2, sl, hx, o2⟩ := y m' F' (hC i ρ' m' a) b c
    obtain ⟨js, gt⟩ := hs i sl ρ' m' hx a
    refine gt σ' F2 H2 x _ (envOk_step s2 d) S2 o2 fun ρ3 m3 σ3 F3 H3 wp s3 S3 E3 _ => ?_
    have st : Step m1 F1 H1 m3 F3 H3 := (b.trans s2).trans s3
    exact wp _ W σ3 F3 H3 E3 S3 (fun a' b' c' f' d' e s4 S4 E4 => ⟨a', b', f', e, st.trans s4, S4, E4⟩) (fun a b c d f e s4 S4 => q2 a b c d f e ((s1.trans st).trans s4) S4) (fun a b c d f e s4 S4 E4 => q1 a b c d f e ((s1.trans st).trans s4) S4 E4) (fun a' b' c' f' d' e s4 S4 E4 => ⟨a', b', f', e, st.trans s4, S4, E4⟩) (q5.step (s1.trans st))
theorem evw_of {t : TE} (h : Ev K t ρ m P) : EvW K (fun _ => t) ρ m P X := fun W σ F H Q E S q _ => h σ F H Q E S q
theorem wpw_set {i : Nat} (h : EvW K te ρ m (fun s m1 => k.nx (ρ.set i (some s)) m1) X) : WpW K (fun W => tAsg (te W) (gName i)) ρ m k X := fun D W σ F H E S q1 _ _ _ q5 =>
  h W σ F H _ E S (fun s m1 v F1 H1 p s1 S1 o1 => q1 _ m1 _ F1 H1 p s1 S1 (envOk_set (envOk_step s1 E) i o1)) q5
theorem wpw_drop (h : EvW K te ρ m (fun _ m1 => k.nx ρ m1) X) : WpW K (fun W => tDrop (te W)) ρ m k X := fun D W σ F H E S q1 _ _ _ q5 =>
  h W σ F H _ E S (fun s m1 v F1 H1 p s1 S1 o1 => q1 _ m1 _ F1 H1 p s1 S1 (envOk_step s1 E)) q5
theorem wpw_ret (h : EvW K te ρ m k.rt X) : WpW K (fun W => tRet (te W)) ρ m k X := fun D W σ F H E S _ q2 _ _ q5 => h W σ F H _ E S q2 q5
/-! ### the promise of a def that may raise -/
abbrev WTX := List Sl → Sto → PV → (Addr → Flds → Sto → Prop) → Prop
def SpX (K : PySem.W.Frag) (W : WTX) : Sp := fun vs H Q E => ∃ (ss : List Sl) (m : Sto) (F : Reg) (P : PV) (Y : Addr → Flds → Sto → Prop), SlsOk K F H ss vs ∧ StoOk K m F H ∧ W ss m P Y ∧ Then K m F H P Q ∧ ThenE K m F H Y E
theorem spX_len {W : WTX} {n : Nat} (h : ∀ ss m P Y, W ss m P Y → ss.length = n) {vs : List V} {H : Hp} {Q : VK} {E : XK} (w : SpX K W vs H Q E) : vs.length = n := by
  obtain ⟨ss, m, F, P, Y, o, _, w, _⟩ := w
  rw [← paired_len o]
  exact h ss m P Y w
theorem bodyX {W : WTX} {N : List Str} {tb : WX → TS} (h : ∀ ss m P Y, W ss m P Y → WpW K tb (rho N ss) m { nx := fun _ m' => P (.d .none) m', rt := P } (fun _ => Y)) {vs : List V} {H : Hp} {Q : VK} {E : XK} (w : SpX K W vs H Q E) :
    tb (fun cls d _ H' => E cls d H') { nx := fun _ H' => Q .non H', rt := Q } (L2.start N vs) H := by
  obtain ⟨ss, m, F, P, Y, o, S, w, q, qx⟩ := w
  exact h ss m P Y w _ _ _ F _ (envOk_start o) S (fun ρ' m' σ' F' H' p s1 S1 _ => q _ m' _ F' H' p s1 S1 rfl) q (fun _ _ _ _ _ p => p.elim) (fun _ _ _ _ _ p => p.elim) fun ρ' C fs d m' σ' F' H' y hd s1 S1 _ => qx C fs d m' F' H' y hd s1 S1
theorem evw_call {W0 : WTX} (h : EvA K ta ρ m fun ss m1 => W0 ss m1 P (fun C fs m' => X ρ C fs m')) : EvW K (fun W => tCallS (SpX K W0) (WE W) ta) ρ m P X := fun W σ F H Q E S q q5 =>
  h σ F H _ E S fun ss m1 vs F1 H1 w s1 S1 o1 => ⟨ss, m1, F1, P, _, o1, S1, w, fun s m' v F' H' p s2 S2 o2 => q s m' v F' H' p (s1.trans s2) S2 o2, fun C fs d m' F' H' y hd s2 S2 => q5 ρ C fs d m' σ F' H' y hd (s1.trans s2) S2 (envOk_step (s1.trans s2) E)⟩
end
section
variable {Pg : Program} {w : World} {K : PySem.W.Frag} {mg : Str → Option Value} {base : Heap}
/-- a def that may raise -/
structure DfnX (Pg : Program) (w : World) (K : PySem.W.Frag) (mg : Str → Option Value) (base : Heap) (k : Nat) (name : Str) (ps : List Str) (W : WTX) : Prop where
  ex : ∃ f fd, mg name = some (.ref f) ∧ PySem.W.keepIn K (.ref f) = true ∧ Binds K fd ps [] ∧ DF Pg w K mg base (CX Pg w) k f fd ps (SpX K W)
theorem dfnX_mk {k : Nat} {name : Str} {st : Stmt} {N ps : List Str} {W : WTX} {tb : WX → TS} (A : FunAt K mg name st ps) (S : FnScope N ps (defScope st)) (len : ∀ ss m P Y, W ss m P Y → ss.length = ps.length)
    (der : ∀ (f : Addr) (cdv : Value) (A : Around) (outer : List Env) (s : Shared) (H : Hp) (E : XK), (A.deeper (envOfC name (defScope st) s.heap.objs.size f cdv)).guards = some [] → Room k (A.deeper (envOfC name (defScope st) s.heap.objs.size f cdv)) →
      PSs (cxOf (CX Pg w) Pg w K mg base N name (defScope st) f cdv A outer s H E) (defBody st) (tb fun cls d _ H' => E cls d H'))
    (rd : ∀ ss m P Y, W ss m P Y → WpW K tb (rho N ss) m { nx := fun _ m' => P (.d .none) m', rt := P } (fun _ => Y)) : DfnX Pg w K mg base (k + 1) name ps W := by
  obtain ⟨f, fd, hm, hF, hb⟩ := A.ex
  refine ⟨f, fd, hm, hF.kp, hb, ?_⟩
  obtain ⟨oc, od, kV, doc, pm, an, cdv, ct, osl, rfl, lk, hcd⟩ := hF.ex
  exact df_of lk hcd S (fun vs H Q E h => spX_len len h) fun A outer s H vs Q E hg hr h => ⟨_, der f cdv A outer s H E hg hr, bodyX rd h⟩
section
variable {X : Cx} {W : WX}
theorem pe_fnX {j k : Nat} {x : Str} {ps : List Str} {W0 : WTX} {p pos : Pos} {e : Expr} {es : List Expr} {t : TA} (D : DfnX X.prog X.w X.K X.mg X.base j x ps W0) (tk : Takes X W) (hgd : X.A.guards = some []) (hr : Room k X.A) (h : j ≤ k) (hg : Gl X x) (ha : PA X (e :: es) t)
    (hdb : (x == ("__debug__" : Str)) = false := by decide) (he : starEach (e :: es) X.env = (false, eval e X.env) :: starEach es X.env := by rfl) (hpl : (backTo pos (starEach es X.env)).any (·.1) = false := by rfl) :
    PE X (.Call (.Name x p) (e :: es) [] pos) (tCallS (SpX X.K W0) (WE W) t) := by
  obtain ⟨f, fd, hm, hk, hb, F⟩ := D.ex
  constructor
  intro pins s σ H Q I h2
  refine wpAny_Call_Name_kw (ld_glob I hg hm ?_ hdb)
  refine PySem.W.callWith_K (h₀ := X.base) I.ok.mod.kin hk (thn (ha.run pos pins s σ H _ I h2) ?_) he hpl
  rintro us s1 ⟨vs, H1, I1, r, q⟩
  exact ⟨I1.kIn, run_dfS F hgd (hr.mono h) hb (passAt tk σ) I1 r q⟩
end
end
section
variable {K : PySem.W.Frag}
theorem wpw_raise {ρ : Rho} {m : Sto} {k : Ko} {X : Xv} {ta : TA} {C : Addr} {ns : List Str} (h : EvA K ta ρ m fun ss m1 => ∃ ds : List PyData, ss = ds.map Sl.d ∧ ds.length = ns.length ∧ ds.length ≤ 1000 ∧ X ρ C (ns, ds) m1) :
    WpW K (fun W _ σ H => tMkO C (spIni C ns) [] ta σ H fun cls d H' => W cls d σ H') ρ m k X := fun D W σ F H E S _ _ _ _ q5 =>
  h σ F H _ E S fun ss m1 us F1 H1 ⟨ds, hv, hl, hl2, x⟩ s1 S1 o1 => by
    subst hv
    have z := slsOk_im o1
    have zl := imAll_len z
    refine ⟨by omega, fun a ha => ⟨a, us, by rw [List.append_nil], by omega, upd_same, fun d H' hd ne h1 h2 h3 => ⟨rfl, d, _, h1, h2, ?_, ?_⟩⟩⟩
    · rwa [upd_ne ne] at hd
    · have hd1 : H1 d = none := by rwa [upd_ne ne] at hd
      have e : upd (L2.del H' a) d (.xd (ns.zip us).reverse) = upd H1 d (.xd (ns.zip us).reverse) := by
        funext b
        by_cases h4 : b = d
        · rw [h4, upd_same, upd_same]
        · rw [upd_ne h4, upd_ne h4]
          by_cases h5 : b = a
          · rw [h5, ha]
            exact if_pos rfl
          · have : L2.del H' a b = H' b := if_neg h5
            rw [this, h3 b h5 h4, upd_ne h5]
      show W _ _ σ (upd (L2.del H' a) d (.xd (ns.zip us).reverse))
      rw [e]
      have sn : Step m1 F1 H1 (put m1 d (.obj ns ds)) F1 (upd H1 d (.xd (ns.zip us).reverse)) := step_newM S1 hd1
      exact q5 ρ C (ns, ds) d m1 σ F1 _ x (sto_none S1 hd1) (s1.trans sn) (sto_put S1 (not_reg S1 hd1) ⟨us, upd_same, imAll_fix sn.fix ds us z⟩) (envOk_step (s1.trans sn) E)
theorem wp_try {ρ : Rho} {m : Sto} {k : Ko} {tb : WX → TS} {ts : Addr → Value → Option Addr → TS} {c : Value} {i : Nat} {XS : Xv} (h : WpW K tb ρ m k XS)
    (hx : ∀ ρ' C fs m', XS ρ' C fs m' → PySem.W.exmOne K (.ref C) c = some true ∧ ∀ a d, m' d = none → Wp K (ts a (.ref C) (some d)) (ρ'.set i (some (.v (.ref a)))) (put m' d (.obj fs.1 fs.2)) { nx := fun ρ2 m2 => k.nx (ρ2.set i none) m2, rt := k.rt, bk := fun ρ2 m2 => k.bk (ρ2.set i none) m2, ct := fun ρ2 m2 => k.ct (ρ2.set i none) m2 }) :
    Wp K (tTry K c i ts tb) ρ m k := fun D σ F H E S q1 q2 q3 q4 =>
  h D _ σ F H E S q1 q2 q3 q4 fun ρ' C fs d m' σ' F' H' x hd s1 S1 E1 => by
    obtain ⟨e, g⟩ := hx ρ' C fs m' x
    refine ⟨true, e, fun _ a ha => ?_, fun z => nomatch z⟩
    have un : ∀ {F H} {ρ2 : Rho} {σ2 : L2.St}, EnvOk K F H ρ2 σ2 → EnvOk K F H (ρ2.set i none) (σ2.set i none) := fun E => paired_set (F := SlO K _ _) (x := none) (y := none) (fun _ e => nomatch e) i E
    refine g a d hd _ (σ'.set i (some (.ref a))) F' H' (envOk_set (s := .v (.ref a)) E1 i rfl) S1 (fun ρ2 m2 σ2 F2 H2 p s2 S2 E2 => q1 _ m2 _ F2 H2 p (s1.trans s2) S2 (un E2)) (fun s m2 v F2 H2 p s2 S2 o2 => q2 s m2 v F2 H2 p (s1.trans s2) S2 o2)
      (fun ρ2 m2 σ2 F2 H2 p s2 S2 E2 => q3 _ m2 _ F2 H2 p (s1.trans s2) S2 (un E2)) (fun ρ2 m2 σ2 F2 H2 p s2 S2 E2 => q4 _ m2 _ F2 H2 p (s1.trans s2) S2 (un E2))
theorem ev_xf {ρ : Rho} {m : Sto} {P : PV} {te : TE} {a C : Addr} {d : Addr} {n : Str} {x : PyData} (h : Ev K te ρ m fun s m1 => s = .v (.ref a) ∧ m1 d = some (.obj [n] [x]) ∧ P (.d x) m1) : Ev K (tXf a (.ref C) (some d) C n te) ρ m P := fun σ F H Q E S q =>
  h σ F H _ E S fun s m1 x' F1 H1 ⟨e, hm, p⟩ s1 S1 o1 => by
    subst e
    obtain ⟨vs, hd, hi⟩ := (S1.mu d _ hm).1
    obtain ⟨v, r, e, h1, h2⟩ := hi
    subst e
    have h2 : r = [] := h2
    subst h2
    exact ⟨o1, rfl, d, _, v, rfl, hd, by simp, q (.d x) m1 v F1 H1 p s1 S1 h1⟩
theorem rc_isA {m : Sto} {P : PV} {a d D c : Addr} {Ds : List Addr} {ns : List Str} {ds : List PyData} {b : Bool} (hD : D ∈ Ds) (hm : m d = some (.obj ns ds)) (hk : PySem.W.kitOne K (.ref D) (.ref c) = some b) (p : P (.d (.bool b)) m) : RC K (rIsA K Ds a (.ref D) (some d)) [.v (.ref a), .v (.ref c)] m P := fun xs F H Q o S q => by
  obtain ⟨x, y, e, o1, o2⟩ := sls2 o
  cases (show x = .ref a from o1)
  cases (show y = .ref c from o2)
  obtain ⟨vs, hv, _⟩ := (S.mu d _ hm).1
  exact ⟨D, hD, .ref c, .ref c, b, rfl, ⟨d, _, rfl, hv⟩, e, fun u hu => hu, hk, q _ m _ F H p Step.refl S rfl⟩
theorem ev_xfA {ρ : Rho} {m : Sto} {P : PV} {te : TE} {a C : Addr} {Ds : List Addr} {d : Addr} {n : Str} {x : PyData} (hC : C ∈ Ds) (h : Ev K te ρ m fun s m1 => s = .v (.ref a) ∧ m1 d = some (.obj [n] [x]) ∧ P (.d x) m1) : Ev K (tXfA a (.ref C) (some d) Ds n te) ρ m P := fun σ F H Q E S q =>
  ⟨C, hC, ev_xf h σ F H Q E S q⟩
end
/-! ### a def that may raise, with one keyword-only parameter -/
structure FunAtK (K : PySem.W.Frag) (mg : Str → Option Value) (name : Str) (st : Stmt) (ps : List Str) (dvs : List V) (n : Nat) (kw : Str) : Prop where
  ex : ∃ f fd ds, mg name = some (.ref f) ∧ Fun K name name st f fd ∧ Vals dvs ds ∧ Binds K fd ps ds ∧ KBn K fd ps n [kw] (fun us ws => us ++ ws) (fun vs zs => vs ++ zs)
theorem funAtK_mk {K : PySem.W.Frag} {h : Heap} {mg : Str → Option Value} {x : Str} {st : Stmt} {f D : Addr} {oc : Value} {od an : Option Addr} {osl : Array (Option Value)} {doc pm cdv ct : Value} {ps : List Str} {n : Nat} {kw : Str} {v : V} {u : Value} (X : K.In h) (G : h.Ns mainGlobals mg)
    (a : PySem.W.nsIn K mainGlobals x = some (some (.ref f))) (l : K.lookup f = some ⟨oc, od, .func (PySem.W.fnOf x x (defArgs st) (defBody st) (defScope st) .none (.ref D) doc pm an cdv ct), osl⟩) (c : PySem.W.codeIn K cdv x = true) (k : PySem.W.keepIn K (.ref f) = true)
    (hkw : PySem.W.nsIn K D kw = some (some u)) (hv : L2.RelV v u) (hn : n + 1 = ps.length)
    (hb : ∀ (D : Addr) (doc pm : Value) (an : Option Addr) (cdv ct : Value) (us ks : List Value), us.length = n → ks.length = 1 →
      KwChain D ([kw].zip ks) (bindArgs (PySem.W.fnOf x x (defArgs st) (defBody st) (defScope st) .none (.ref D) doc pm an cdv ct) ⟨us, []⟩) (ps.zip (us ++ ks)))
    (hb2 : ∀ (D : Addr) (doc pm : Value) (an : Option Addr) (cdv ct : Value) (us ks : List Value), us.length = n → ks.length = 1 →
      bindArgs (PySem.W.fnOf x x (defArgs st) (defBody st) (defScope st) .none (.ref D) doc pm an cdv ct) ⟨us, [kw].zip ks⟩ = pure (ps.zip (us ++ ks))) : FunAtK K mg x st ps [v] n kw := by
  have F : FunD K x x (defArgs st) (defBody st) (defScope st) [] [(kw, v)] f (PySem.W.fnOf x x (defArgs st) (defBody st) (defScope st) .none (.ref D) doc pm an cdv ct) :=
    ⟨⟨oc, od, .none, .ref D, doc, pm, an, cdv, ct, osl, rfl, l, c, .inl ⟨rfl, rfl⟩, .inr ⟨D, rfl, fun q hq => by
      rw [List.mem_singleton.mp hq]
      exact ⟨u, hkw, hv⟩⟩⟩, k⟩
  obtain ⟨ds, d1, d2⟩ := F.binds0 (ps := ps) n (by simp) (by simpa using hn) fun D doc pm an cdv ct us ks h1 h2 => hb D doc pm an cdv ct us ks h1 h2
  exact ⟨f, _, ds, PySem.W.mg_of X G a, fun_mk l c k, d1, d2, ⟨fun s us ws _ h1 h2 => BindsTo.of_eq (hb2 D doc pm an cdv ct us ws h1 h2), fun h1 h2 => h1.append h2⟩⟩
structure DfnK (Pg : Program) (w : World) (K : PySem.W.Frag) (mg : Str → Option Value) (base : Heap) (k : Nat) (name : Str) (ps : List Str) (dvs : List V) (n : Nat) (kw : Str) (W : WTX) : Prop where
  ex : ∃ f fd ds, mg name = some (.ref f) ∧ PySem.W.keepIn K (.ref f) = true ∧ Vals dvs ds ∧ Binds K fd ps ds ∧ KBn K fd ps n [kw] (fun us ws => us ++ ws) (fun vs zs => vs ++ zs) ∧ DF Pg w K mg base (CX Pg w) k f fd ps (SpX K W)
section
variable {Pg : Program} {w : World} {K : PySem.W.Frag} {mg : Str → Option Value} {base : Heap}
theorem dfnK_mk {k n : Nat} {kw : Str} {name : Str} {st : Stmt} {N ps : List Str} {dvs : List V} {W : WTX} {tb : WX → TS} (A : FunAtK K mg name st ps dvs n kw) (S : FnScope N ps (defScope st)) (len : ∀ ss m P Y, W ss m P Y → ss.length = ps.length)
    (der : ∀ (f : Addr) (cdv : Value) (A : Around) (outer : List Env) (s : Shared) (H : Hp) (E : XK), (A.deeper (envOfC name (defScope st) s.heap.objs.size f cdv)).guards = some [] → Room k (A.deeper (envOfC name (defScope st) s.heap.objs.size f cdv)) →
      PSs (cxOf (CX Pg w) Pg w K mg base N name (defScope st) f cdv A outer s H E) (defBody st) (tb fun cls d _ H' => E cls d H'))
    (rd : ∀ ss m P Y, W ss m P Y → WpW K tb (rho N ss) m { nx := fun _ m' => P (.d .none) m', rt := P } (fun _ => Y)) : DfnK Pg w K mg base (k + 1) name ps dvs n kw W := by
  obtain ⟨f, fd, ds, hm, hF, hv, hb, hk⟩ := A.ex
  refine ⟨f, fd, ds, hm, hF.kp, hv, hb, hk, ?_⟩
  obtain ⟨oc, od, kV, doc, pm, an, cdv, ct, osl, rfl, lk, hcd⟩ := hF.ex
  exact df_of lk hcd S (fun vs H Q E h => spX_len len h) fun A outer s H vs Q E hg hr h => ⟨_, der f cdv A outer s H E hg hr, bodyX rd h⟩
end
def tCallSK (sp : Sp) (n m : Nat) (E : L2.St → XK) (t tk : TA) : TE := fun σ H Q => t σ H fun vs H1 => tk σ H1 fun zs H2 => vs.length = n ∧ zs.length = m ∧ sp (vs ++ zs) H2 Q (E σ)
section
variable {X : Cx} {W : WX}
theorem run_dfB {k : Nat} {f : Addr} {fd : FuncData} {ps : List Str} {sp : Sp} {E : XK} {CX : CXT} {pins : List (Addr × Obj)} {σ : L2.St} {H : Hp} {s : Shared} {Q : VK} {us bs : List Value} {ks : List (Str × Value)} {vs : List V} (F : DF X.prog X.w X.K X.mg X.base CX k f fd ps sp) (hg : X.A.guards = some []) (hr : Room k X.A) (hb2 : BindsTo s fd ⟨us, ks⟩ (ps.zip bs))
    (hx : PassesAt CX X σ E) (I : Inv X pins σ H s) (r : Vals vs bs) (h : sp vs H Q E) : wpAny (model X.prog X.w) X.A (call (.ref f) us ks) (EP X pins σ Q) X.xe s := by
  apply wpAny_call
  apply codeAny_mono (F.run X.A X.stack s H ⟨us, ks⟩ _ _ Q E hg hr I.env0 hb2 r h)
  intro r s' hq
  match r, hq with
  | .error e, hq => exact hx pins H s e s' I hq
  | .ok (.ret u), hq => exact I.after hq
  | .ok .next, hq => exact False.elim hq
  | .ok .brk, hq => exact False.elim hq
  | .ok .cont, hq => exact False.elim hq
theorem pe_fnW {j k n : Nat} {kw x : Str} {ps : List Str} {dvs : List V} {W0 : WTX} {p pos : Pos} {e : Expr} {es : List Expr} {kws : List Keyword} {t t2 : TA} (D : DfnK X.prog X.w X.K X.mg X.base j x ps dvs n kw W0) (tk : Takes X W) (hgd : X.A.guards = some []) (hr : Room k X.A) (h : j ≤ k) (hg : Gl X x) (ha : PA X (e :: es) t) (hkw : PK X kws t2)
    (hall : (backToKw pos (keywordEach kws X.env)).all (·.1.isSome) = true := by rfl) (hks : (backToKw pos (keywordEach kws X.env)).filterMap (·.1) = [kw] := by rfl)
    (hdb : (x == ("__debug__" : Str)) = false := by decide) (he : starEach (e :: es) X.env = (false, eval e X.env) :: starEach es X.env := by rfl)
    (hpl : ((backTo pos (starEach (e :: es) X.env)).any (·.1) || (backToKw pos (keywordEach kws X.env)).any (·.1.isNone)) = false := by rfl) :
    PE X (.Call (.Name x p) (e :: es) kws pos) (tCallSK (SpX X.K W0) n 1 (WE W) t t2) := by
  obtain ⟨f, fd, ds, hm, hk, hv, _, hb, F⟩ := D.ex
  refine ⟨fun pins s σ H Q I h2 => ?_⟩
  refine wpAny_Call_Name_kw (ld_glob I hg hm ?_ hdb)
  refine PySem.W.callWith_KW (h₀ := X.base) I.ok.mod.kin hk hall (thn (ha.run pos pins s σ H _ I h2) fun us s1 ⟨vs, H1, I1, r, q⟩ => ?_) hpl he
  refine thn (hkw.run pos pins s1 σ H1 _ I1 q) fun ws s2 ⟨zs, H2, I2, rz, l1, l2, q2⟩ => ⟨I2.kIn, ?_⟩
  rw [hks]
  exact run_dfB F hgd (hr.mono h) (hb.to s2 us ws I2.kIn (r.length.symm.trans l1) (rz.length.symm.trans l2)) (passAt tk σ) I2 (hb.rel r rz) q2
end
section
variable {K : PySem.W.Frag} {ρ : Rho} {m : Sto} {P : PV} {X : Xv} {ta tk : TA}
theorem evw_callK {W0 : WTX} {n n2 : Nat} (h : EvA K ta ρ m fun ss m1 => EvA K tk ρ m1 fun zs m2 => ss.length = n ∧ zs.length = n2 ∧ W0 (ss ++ zs) m2 P (fun C fs m' => X ρ C fs m')) : EvW K (fun W => tCallSK (SpX K W0) n n2 (WE W) ta tk) ρ m P X := fun W σ F H Q E S q q5 =>
  h σ F H _ E S fun ss m1 vs F1 H1 hk s1 S1 o1 => hk σ F1 H1 _ (envOk_step s1 E) S1 fun zs m2 ws F2 H2 ⟨l1, l2, w⟩ s2 S2 o2 =>
    ⟨(paired_len o1).symm.trans l1, (paired_len o2).symm.trans l2, ss ++ zs, m2, F2, P, _, paired_app (slsOk_step s2 o1) o2, S2, w, fun s m' v F' H' p s3 S3 o3 => q s m' v F' H' p ((s1.trans s2).trans s3) S3 o3, fun C fs d m' F' H' y hd s3 S3 => q5 ρ C fs d m' σ F' H' y hd ((s1.trans s2).trans s3) S3 (envOk_step ((s1.trans s2).trans s3) E)⟩
end
end Dv.Q
namespace Dv.Q
open PySem L2 PyProof.Rows
/-! ### a floor with another name in its last place -/
def zz : List Nat := [122, 122, 122, 122, 122, 122]
theorem zzS : ("zzzzzz" : Str) = Sx zz := by decide +kernel
theorem zz_tx : Tx zz := by
  have : okL zz = true := rfl
  exact okL_tx this
theorem gf_zz {R C : Nat} {fl : Fl} (g : GF R C fl) : zz ∉ fl.flatten := fun h => by
  obtain ⟨st, sh, hst, hf⟩ := g.form
  obtain ⟨r, hr, hl⟩ := List.mem_flatten.mp h
  obtain ⟨nu, e⟩ := hf r hr _ hl
  have e0 : lowN zz = zz := by decide
  rw [e0] at e
  unfold zz nmL at e
  split at e
  · split at e <;> simp at e
  · simp at e
  · simp at e
  · simp at e
  · have := congrArg List.length e
    simp at this
    omega
  · simp at e
end Dv.Q
namespace Dv
open PySem L2 PyProof.Rows PySem.Calls
/-! ### routes of floors where all are leaders, and of floors with one leader in each line -/
end Dv
namespace Dv
open PySem L2 PyProof.Rows
/-! ### a reason is one of the kinds, and holds -/
end Dv
namespace Dv
open PySem L2 PyProof.Rows
end Dv
namespace Dv
open PySem L2 PyProof.Rows
/-! ### law 18: is a reason right? -/
end Dv
namespace Dv
open PySem L2 PyProof.Rows
end Dv
namespace Dv
open PySem L2 PyProof.Rows
end Dv
namespace Dv.U
open PySem L2 PyProof.Rows
/-! ### what is raised -/
abbrev Flds := List Str × List PyData
abbrev Xv := Rho → Addr → Option Flds → Sto → Prop
section
variable {K : PySem.W.Frag}
def ThenW (K : PySem.W.Frag) (m : Sto) (F : Reg) (H : Hp) (X : Xv) (W : WX) : Prop :=
  (∀ ρ' C fs d m' σ' F' H', X ρ' C (some fs) m' → m' d = none → Step m F H (put m' d (.obj fs.1 fs.2)) F' H' → StoOk K (put m' d (.obj fs.1 fs.2)) F' H' → EnvOk K F' H' ρ' σ' → W (.ref C) (some d) σ' H') ∧
  ∀ ρ' C m' σ' F' H', X ρ' C none m' → Step m F H m' F' H' → StoOk K m' F' H' → EnvOk K F' H' ρ' σ' → W (.ref C) none σ' H'
def ThenE (K : PySem.W.Frag) (m : Sto) (F : Reg) (H : Hp) (X : Addr → Option Flds → Sto → Prop) (E : XK) : Prop :=
  (∀ C fs d m' F' H', X C (some fs) m' → m' d = none → Step m F H (put m' d (.obj fs.1 fs.2)) F' H' → StoOk K (put m' d (.obj fs.1 fs.2)) F' H' → E (.ref C) (some d) H') ∧
  ∀ C m' F' H', X C none m' → Step m F H m' F' H' → StoOk K m' F' H' → E (.ref C) none H'
theorem ThenW.step {m m1 : Sto} {F F1 : Reg} {H H1 : Hp} {X : Xv} {W : WX} (t : ThenW K m F H X W) (s : Step m F H m1 F1 H1) : ThenW K m1 F1 H1 X W :=
  ⟨fun ρ' C fs d m' σ' F' H' x hd s2 S2 E2 => t.1 ρ' C fs d m' σ' F' H' x hd (s.trans s2) S2 E2, fun ρ' C m' σ' F' H' x s2 S2 E2 => t.2 ρ' C m' σ' F' H' x (s.trans s2) S2 E2⟩
/-- a statement that may raise -/
def WpW (K : PySem.W.Frag) (tb : WX → TS) (ρ : Rho) (m : Sto) (k : Ko) (X : Xv) : Prop :=
  ∀ (D : Ends) (W : WX) (σ : L2.St) (F : Reg) (H : Hp), EnvOk K F H ρ σ → StoOk K m F H →
    (∀ ρ' m' σ' F' H', k.nx ρ' m' → Step m F H m' F' H' → StoOk K m' F' H' → EnvOk K F' H' ρ' σ' → D.nx σ' H') →
    (∀ s m' v F' H', k.rt s m' → Step m F H m' F' H' → StoOk K m' F' H' → SlOk K F' H' s v → D.rt v H') →
    (∀ ρ' m' σ' F' H', k.bk ρ' m' → Step m F H m' F' H' → StoOk K m' F' H' → EnvOk K F' H' ρ' σ' → D.bk σ' H') →
    (∀ ρ' m' σ' F' H', k.ct ρ' m' → Step m F H m' F' H' → StoOk K m' F' H' → EnvOk K F' H' ρ' σ' → D.ct σ' H') → ThenW K m F H X W → tb W D σ H
/-- an expression that may raise -/
def EvW (K : PySem.W.Frag) (te : WX → TE) (ρ : Rho) (m : Sto) (P : PV) (X : Xv) : Prop :=
  ∀ (W : WX) (σ : L2.St) (F : Reg) (H : Hp) (Q : VK), EnvOk K F H ρ σ → StoOk K m F H → Then K m F H P Q → ThenW K m F H X W → te W σ H Q
variable {ρ : Rho} {m : Sto} {k : Ko} {X : Xv} {P : PV} {ts : TS} {t1 t2 tb : WX → TS} {te : WX → TE} {tt : TT} {ta : TA}
theorem wpw_of (h : Wp K ts ρ m k) : WpW K (fun _ => ts) ρ m k X := fun D W σ F H E S q1 q2 q3 q4 _ => h D σ F H E S q1 q2 q3 q4
theorem wpw_at {D : Ends} {W : WX} {m0 m1 : Sto} {F0 F1 : Reg} {H0 H1 : Hp} {σ : L2.St} {ρ1 : Rho} (s1 : Step m0 F0 H0 m1 F1 H1) (E : EnvOk K F1 H1 ρ1 σ) (S1 : StoOk K m1 F1 H1) (w : WpW K tb ρ1 m1 k X)
    (q1 : ∀ ρ' m' σ' F' H', k.nx ρ' m' → Step m0 F0 H0 m' F' H' → StoOk K m' F' H' → EnvOk K F' H' ρ' σ' → D.nx σ' H')
    (q2 : ∀ s m' v F' H', k.rt s m' → Step m0 F0 H0 m' F' H' → StoOk K m' F' H' → SlOk K F' H' s v → D.rt v H')
    (q3 : ∀ ρ' m' σ' F' H', k.bk ρ' m' → Step m0 F0 H0 m' F' H' → StoOk K m' F' H' → EnvOk K F' H' ρ' σ' → D.bk σ' H')
    (q4 : ∀ ρ' m' σ' F' H', k.ct ρ' m' → Step m0 F0 H0 m' F' H' → StoOk K m' F' H' → EnvOk K F' H' ρ' σ' → D.ct σ' H') (q5 : ThenW K m0 F0 H0 X W) : tb W D σ H1 :=
  w D W σ F1 H1 E S1 (fun a b c d f e s2 S2 => q1 a b c d f e (s1.trans s2) S2) (fun a b c d f e s2 S2 => q2 a b c d f e (s1.trans s2) S2) (fun a b c d f e s2 S2 => q3 a b c d f e (s1.trans s2) S2) (fun a b c d f e s2 S2 => q4 a b c d f e (s1.trans s2) S2) (q5.step s1)
theorem wpw_seq (h : WpW K t1 ρ m { k with nx := fun ρ' m' => WpW K t2 ρ' m' k X } X) : WpW K (fun W => tSeq (t1 W) (t2 W)) ρ m k X := fun D W σ F H E S q1 q2 q3 q4 q5 =>
  h { D with nx := t2 W D } W σ F H E S (fun ρ' m' σ' F' H' w s1 S1 E1 => wpw_at (D := D) s1 E1 S1 w q1 q2 q3 q4 q5) q2 q3 q4 q5
theorem wpw_if (h : EvT K tt ρ m fun b m1 => if b = true then WpW K t1 ρ m1 k X else WpW K t2 ρ m1 k X) : WpW K (fun W => tIfS tt (t1 W) (t2 W)) ρ m k X := fun D W σ F H E S q1 q2 q3 q4 q5 =>
  h σ F H _ E S fun b m1 F1 H1 w s1 S1 => by
    cases b with
    | true => exact wpw_at (D := D) s1 (envOk_step s1 E) S1 w q1 q2 q3 q4 q5
    | false => exact wpw_at (D := D) s1 (envOk_step s1 E) S1 w q1 q2 q3 q4 q5
theorem wpw_for {wi : TI} {g : TG} (h : EvI K wi ρ m fun xs C m1 => ∃ Iv : Nat → Rho → Sto → Prop, Iv 0 ρ m1 ∧ (∀ i ρ' m', Iv i ρ' m' → C m') ∧
      (∀ i x ρ' m', xs[i]? = some x → Iv i ρ' m' → ∃ js, Gt K g js x ρ' m' fun ρ2 m2 => WpW K tb ρ2 m2 { k with nx := Iv (i + 1), ct := Iv (i + 1), bk := k.nx } X) ∧ ∀ ρ' m', Iv xs.length ρ' m' → k.nx ρ' m') :
    WpW K (fun W => tFor wi g (tb W)) ρ m k X := fun D W σ F H E S q1 q2 q3 q4 q5 =>
  h σ F H _ E S fun xs C m1 F1 H1 J ⟨Iv, h0, hC, hs, hd⟩ s1 S1 w => by
    refine for_it w (fun i σ' H' => ∃ ρ' m' F', Iv i ρ' m' ∧ Step m1 F1 H1 m' F' H' ∧ StoOk K m' F' H' ∧ EnvOk K F' H' ρ' σ') ⟨ρ, m1, F1, h0, Step.refl, S1, envOk_step s1 E⟩ (fun i σ' H' _ ⟨ρ', m', F', a, b, c, d⟩ => ⟨m', F', hC i ρ' m' a, b, c⟩) ?_
      (fun σ' H' ⟨ρ', m', F', a, b, c, d⟩ => q1 ρ' m' σ' F' H' (hd ρ' m' a) (s1.trans b) c d)
    rintro i x σ' H' H2 hi ⟨ρ', m', F', a, b, c, d⟩ y
    obtain ⟨F2, s2, S2, sl, hx, o2⟩ := y m' F' (hC i ρ' m' a) b c
    obtain ⟨js, gt⟩ := hs i sl ρ' m' hx a
    refine gt σ' F2 H2 x _ (envOk_step s2 d) S2 o2 fun ρ3 m3 σ3 F3 H3 wp s3 S3 E3 _ => ?_
    have st : Step m1 F1 H1 m3 F3 H3 := (b.trans s2).trans s3
    exact wp _ W σ3 F3 H3 E3 S3 (fun a' b' c' f' d' e s4 S4 E4 => ⟨a', b', f', e, st.trans s4, S4, E4⟩) (fun a b c d f e s4 S4 => q2 a b c d f e ((s1.trans st).trans s4) S4) (fun a b c d f e s4 S4 E4 => q1 a b c d f e ((s1.trans st).trans s4) S4 E4) (fun a' b' c' f' d' e s4 S4 E4 => ⟨a', b', f', e, st.trans s4, S4, E4⟩) (q5.step (s1.trans st))
theorem evw_of {t : TE} (h : Ev K t ρ m P) : EvW K (fun _ => t) ρ m P X := fun W σ F H Q E S q _ => h σ F H Q E S q
theorem wpw_set {i : Nat} (h : EvW K te ρ m (fun s m1 => k.nx (ρ.set i (some s)) m1) X) : WpW K (fun W => tAsg (te W) (gName i)) ρ m k X := fun D W σ F H E S q1 _ _ _ q5 =>
  h W σ F H _ E S (fun s m1 v F1 H1 p s1 S1 o1 => q1 _ m1 _ F1 H1 p s1 S1 (envOk_set (envOk_step s1 E) i o1)) q5
theorem wpw_drop (h : EvW K te ρ m (fun _ m1 => k.nx ρ m1) X) : WpW K (fun W => tDrop (te W)) ρ m k X := fun D W σ F H E S q1 _ _ _ q5 =>
  h W σ F H _ E S (fun s m1 v F1 H1 p s1 S1 o1 => q1 _ m1 _ F1 H1 p s1 S1 (envOk_step s1 E)) q5
theorem wpw_ret (h : EvW K te ρ m k.rt X) : WpW K (fun W => tRet (te W)) ρ m k X := fun D W σ F H E S _ q2 _ _ q5 => h W σ F H _ E S q2 q5
/-! ### the promise of a def that may raise -/
abbrev WTX := List Sl → Sto → PV → (Addr → Option Flds → Sto → Prop) → Prop
def SpX (K : PySem.W.Frag) (W : WTX) : Sp := fun vs H Q E => ∃ (ss : List Sl) (m : Sto) (F : Reg) (P : PV) (Y : Addr → Option Flds → Sto → Prop), SlsOk K F H ss vs ∧ StoOk K m F H ∧ W ss m P Y ∧ Then K m F H P Q ∧ ThenE K m F H Y E
theorem spX_len {W : WTX} {n : Nat} (h : ∀ ss m P Y, W ss m P Y → ss.length = n) {vs : List V} {H : Hp} {Q : VK} {E : XK} (w : SpX K W vs H Q E) : vs.length = n := by
  obtain ⟨ss, m, F, P, Y, o, _, w, _⟩ := w
  rw [← paired_len o]
  exact h ss m P Y w
theorem bodyX {W : WTX} {N : List Str} {tb : WX → TS} (h : ∀ ss m P Y, W ss m P Y → WpW K tb (rho N ss) m { nx := fun _ m' => P (.d .none) m', rt := P } (fun _ => Y)) {vs : List V} {H : Hp} {Q : VK} {E : XK} (w : SpX K W vs H Q E) :
    tb (fun cls d _ H' => E cls d H') { nx := fun _ H' => Q .non H', rt := Q } (L2.start N vs) H := by
  obtain ⟨ss, m, F, P, Y, o, S, w, q, qx⟩ := w
  exact h ss m P Y w _ _ _ F _ (envOk_start o) S (fun ρ' m' σ' F' H' p s1 S1 _ => q _ m' _ F' H' p s1 S1 rfl) q (fun _ _ _ _ _ p => p.elim) (fun _ _ _ _ _ p => p.elim) ⟨fun ρ' C fs d m' σ' F' H' y hd s1 S1 _ => qx.1 C fs d m' F' H' y hd s1 S1, fun ρ' C m' σ' F' H' y s1 S1 _ => qx.2 C m' F' H' y s1 S1⟩
theorem evw_call {W0 : WTX} (h : EvA K ta ρ m fun ss m1 => W0 ss m1 P (fun C fs m' => X ρ C fs m')) : EvW K (fun W => tCallS (SpX K W0) (WE W) ta) ρ m P X := fun W σ F H Q E S q q5 =>
  h σ F H _ E S fun ss m1 vs F1 H1 w s1 S1 o1 => ⟨ss, m1, F1, P, _, o1, S1, w, fun s m' v F' H' p s2 S2 o2 => q s m' v F' H' p (s1.trans s2) S2 o2, ⟨fun C fs d m' F' H' y hd s2 S2 => q5.1 ρ C fs d m' σ F' H' y hd (s1.trans s2) S2 (envOk_step (s1.trans s2) E), fun C m' F' H' y s2 S2 => q5.2 ρ C m' σ F' H' y (s1.trans s2) S2 (envOk_step (s1.trans s2) E)⟩⟩
end
section
variable {Pg : Program} {w : World} {K : PySem.W.Frag} {mg : Str → Option Value} {base : Heap}
/-- a def that may raise -/
structure DfnX (Pg : Program) (w : World) (K : PySem.W.Frag) (mg : Str → Option Value) (base : Heap) (k : Nat) (name : Str) (ps : List Str) (W : WTX) : Prop where
  ex : ∃ f fd, mg name = some (.ref f) ∧ PySem.W.keepIn K (.ref f) = true ∧ Binds K fd ps [] ∧ DF Pg w K mg base (CX Pg w) k f fd ps (SpX K W)
theorem dfnX_mk {k : Nat} {name : Str} {st : Stmt} {N ps : List Str} {W : WTX} {tb : WX → TS} (A : FunAt K mg name st ps) (S : FnScope N ps (defScope st)) (len : ∀ ss m P Y, W ss m P Y → ss.length = ps.length)
    (der : ∀ (f : Addr) (cdv : Value) (A : Around) (outer : List Env) (s : Shared) (H : Hp) (E : XK), (A.deeper (envOfC name (defScope st) s.heap.objs.size f cdv)).guards = some [] → Room k (A.deeper (envOfC name (defScope st) s.heap.objs.size f cdv)) →
      PSs (cxOf (CX Pg w) Pg w K mg base N name (defScope st) f cdv A outer s H E) (defBody st) (tb fun cls d _ H' => E cls d H'))
    (rd : ∀ ss m P Y, W ss m P Y → WpW K tb (rho N ss) m { nx := fun _ m' => P (.d .none) m', rt := P } (fun _ => Y)) : DfnX Pg w K mg base (k + 1) name ps W := by
  obtain ⟨f, fd, hm, hF, hb⟩ := A.ex
  refine ⟨f, fd, hm, hF.kp, hb, ?_⟩
  obtain ⟨oc, od, kV, doc, pm, an, cdv, ct, osl, rfl, lk, hcd⟩ := hF.ex
  exact df_of lk hcd S (fun vs H Q E h => spX_len len h) fun A outer s H vs Q E hg hr h => ⟨_, der f cdv A outer s H E hg hr, bodyX rd h⟩
section
variable {X : Cx} {W : WX}
theorem pe_fnX {j k : Nat} {x : Str} {ps : List Str} {W0 : WTX} {p pos : Pos} {e : Expr} {es : List Expr} {t : TA} (D : DfnX X.prog X.w X.K X.mg X.base j x ps W0) (tk : Takes X W) (hgd : X.A.guards = some []) (hr : Room k X.A) (h : j ≤ k) (hg : Gl X x) (ha : PA X (e :: es) t)
    (hdb : (x == ("__debug__" : Str)) = false := by decide) (he : starEach (e :: es) X.env = (false, eval e X.env) :: starEach es X.env := by rfl) (hpl : (backTo pos (starEach es X.env)).any (·.1) = false := by rfl) :
    PE X (.Call (.Name x p) (e :: es) [] pos) (tCallS (SpX X.K W0) (WE W) t) := by
  obtain ⟨f, fd, hm, hk, hb, F⟩ := D.ex
  constructor
  intro pins s σ H Q I h2
  refine wpAny_Call_Name_kw (ld_glob I hg hm ?_ hdb)
  refine PySem.W.callWith_K (h₀ := X.base) I.ok.mod.kin hk (thn (ha.run pos pins s σ H _ I h2) ?_) he hpl
  rintro us s1 ⟨vs, H1, I1, r, q⟩
  exact ⟨I1.kIn, run_dfS F hgd (hr.mono h) hb (passAt tk σ) I1 r q⟩
end
end
section
variable {K : PySem.W.Frag}
theorem wpw_raise {ρ : Rho} {m : Sto} {k : Ko} {X : Xv} {ta : TA} {C : Addr} {ns : List Str} (h : EvA K ta ρ m fun ss m1 => ∃ ds : List PyData, ss = ds.map Sl.d ∧ ds.length = ns.length ∧ ds.length ≤ 1000 ∧ X ρ C (some (ns, ds)) m1) :
    WpW K (fun W _ σ H => tMkO C (spIni C ns) [] ta σ H fun cls d H' => W cls d σ H') ρ m k X := fun D W σ F H E S _ _ _ _ q5 =>
  h σ F H _ E S fun ss m1 us F1 H1 ⟨ds, hv, hl, hl2, x⟩ s1 S1 o1 => by
    subst hv
    have z := slsOk_im o1
    have zl := imAll_len z
    refine ⟨by omega, fun a ha => ⟨a, us, by rw [List.append_nil], by omega, upd_same, fun d H' hd ne h1 h2 h3 => ⟨rfl, d, _, h1, h2, ?_, ?_⟩⟩⟩
    · rwa [upd_ne ne] at hd
    · have hd1 : H1 d = none := by rwa [upd_ne ne] at hd
      have e : upd (L2.del H' a) d (.xd (ns.zip us).reverse) = upd H1 d (.xd (ns.zip us).reverse) := by
        funext b
        by_cases h4 : b = d
        · rw [h4, upd_same, upd_same]
        · rw [upd_ne h4, upd_ne h4]
          by_cases h5 : b = a
          · rw [h5, ha]
            exact if_pos rfl
          · have : L2.del H' a b = H' b := if_neg h5
            rw [this, h3 b h5 h4, upd_ne h5]
      show W _ _ σ (upd (L2.del H' a) d (.xd (ns.zip us).reverse))
      rw [e]
      have sn : Step m1 F1 H1 (put m1 d (.obj ns ds)) F1 (upd H1 d (.xd (ns.zip us).reverse)) := step_newM S1 hd1
      exact q5.1 ρ C (ns, ds) d m1 σ F1 _ x (sto_none S1 hd1) (s1.trans sn) (sto_put S1 (not_reg S1 hd1) ⟨us, upd_same, imAll_fix sn.fix ds us z⟩) (envOk_step (s1.trans sn) E)
theorem wp_try {ρ : Rho} {m : Sto} {k : Ko} {tb : WX → TS} {ts : Addr → Value → Option Addr → TS} {c : Value} {i : Nat} {XS : Xv} (h : WpW K tb ρ m k XS)
    (hx : ∀ ρ' C fs m', XS ρ' C (some fs) m' → PySem.W.exmOne K (.ref C) c = some true ∧ ∀ a d, m' d = none → Wp K (ts a (.ref C) (some d)) (ρ'.set i (some (.v (.ref a)))) (put m' d (.obj fs.1 fs.2)) { nx := fun ρ2 m2 => k.nx (ρ2.set i none) m2, rt := k.rt, bk := fun ρ2 m2 => k.bk (ρ2.set i none) m2, ct := fun ρ2 m2 => k.ct (ρ2.set i none) m2 })
    (hn : ∀ ρ' C m', XS ρ' C none m' → PySem.W.exmOne K (.ref C) c = some true ∧ ∀ a, Wp K (ts a (.ref C) none) (ρ'.set i (some (.v (.ref a)))) m' { nx := fun ρ2 m2 => k.nx (ρ2.set i none) m2, rt := k.rt, bk := fun ρ2 m2 => k.bk (ρ2.set i none) m2, ct := fun ρ2 m2 => k.ct (ρ2.set i none) m2 }) :
    Wp K (tTry K c i ts tb) ρ m k := fun D σ F H E S q1 q2 q3 q4 => by
  have un : ∀ {F H} {ρ2 : Rho} {σ2 : L2.St}, EnvOk K F H ρ2 σ2 → EnvOk K F H (ρ2.set i none) (σ2.set i none) := fun E => paired_set (F := SlO K _ _) (x := none) (y := none) (fun _ e => nomatch e) i E
  refine h D _ σ F H E S q1 q2 q3 q4 ⟨fun ρ' C fs d m' σ' F' H' x hd s1 S1 E1 => ?_, fun ρ' C m' σ' F' H' x s1 S1 E1 => ?_⟩
  · obtain ⟨e, g⟩ := hx ρ' C fs m' x
    refine ⟨true, e, fun _ a ha => ?_, fun z => nomatch z⟩
    refine g a d hd _ (σ'.set i (some (.ref a))) F' H' (envOk_set (s := .v (.ref a)) E1 i rfl) S1 (fun ρ2 m2 σ2 F2 H2 p s2 S2 E2 => q1 _ m2 _ F2 H2 p (s1.trans s2) S2 (un E2)) (fun s m2 v F2 H2 p s2 S2 o2 => q2 s m2 v F2 H2 p (s1.trans s2) S2 o2)
      (fun ρ2 m2 σ2 F2 H2 p s2 S2 E2 => q3 _ m2 _ F2 H2 p (s1.trans s2) S2 (un E2)) (fun ρ2 m2 σ2 F2 H2 p s2 S2 E2 => q4 _ m2 _ F2 H2 p (s1.trans s2) S2 (un E2))
  · obtain ⟨e, g⟩ := hn ρ' C m' x
    refine ⟨true, e, fun _ a ha => ?_, fun z => nomatch z⟩
    refine g a _ (σ'.set i (some (.ref a))) F' H' (envOk_set (s := .v (.ref a)) E1 i rfl) S1 (fun ρ2 m2 σ2 F2 H2 p s2 S2 E2 => q1 _ m2 _ F2 H2 p (s1.trans s2) S2 (un E2)) (fun s m2 v F2 H2 p s2 S2 o2 => q2 s m2 v F2 H2 p (s1.trans s2) S2 o2)
      (fun ρ2 m2 σ2 F2 H2 p s2 S2 E2 => q3 _ m2 _ F2 H2 p (s1.trans s2) S2 (un E2)) (fun ρ2 m2 σ2 F2 H2 p s2 S2 E2 => q4 _ m2 _ F2 H2 p (s1.trans s2) S2 (un E2))
theorem ev_xf {ρ : Rho} {m : Sto} {P : PV} {te : TE} {a C : Addr} {d : Addr} {n : Str} {x : PyData} (h : Ev K te ρ m fun s m1 => s = .v (.ref a) ∧ m1 d = some (.obj [n] [x]) ∧ P (.d x) m1) : Ev K (tXf a (.ref C) (some d) C n te) ρ m P := fun σ F H Q E S q =>
  h σ F H _ E S fun s m1 x' F1 H1 ⟨e, hm, p⟩ s1 S1 o1 => by
    subst e
    obtain ⟨vs, hd, hi⟩ := (S1.mu d _ hm).1
    obtain ⟨v, r, e, h1, h2⟩ := hi
    subst e
    have h2 : r = [] := h2
    subst h2
    exact ⟨o1, rfl, d, _, v, rfl, hd, by simp, q (.d x) m1 v F1 H1 p s1 S1 h1⟩
theorem rc_isA {m : Sto} {P : PV} {a d D c : Addr} {Ds : List Addr} {ns : List Str} {ds : List PyData} {b : Bool} (hD : D ∈ Ds) (hm : m d = some (.obj ns ds)) (hk : PySem.W.kitOne K (.ref D) (.ref c) = some b) (p : P (.d (.bool b)) m) : RC K (rIsA K Ds a (.ref D) (some d)) [.v (.ref a), .v (.ref c)] m P := fun xs F H Q o S q => by
  obtain ⟨x, y, e, o1, o2⟩ := sls2 o
  cases (show x = .ref a from o1)
  cases (show y = .ref c from o2)
  obtain ⟨vs, hv, _⟩ := (S.mu d _ hm).1
  exact ⟨D, hD, .ref c, .ref c, b, rfl, ⟨d, _, rfl, hv⟩, e, fun u hu => hu, hk, q _ m _ F H p Step.refl S rfl⟩
theorem ev_xfA {ρ : Rho} {m : Sto} {P : PV} {te : TE} {a C : Addr} {Ds : List Addr} {d : Addr} {n : Str} {x : PyData} (hC : C ∈ Ds) (h : Ev K te ρ m fun s m1 => s = .v (.ref a) ∧ m1 d = some (.obj [n] [x]) ∧ P (.d x) m1) : Ev K (tXfA a (.ref C) (some d) Ds n te) ρ m P := fun σ F H Q E S q =>
  ⟨C, hC, ev_xf h σ F H Q E S q⟩
end
/-! ### a def that may raise, with one keyword-only parameter -/
structure FunAtK (K : PySem.W.Frag) (mg : Str → Option Value) (name : Str) (st : Stmt) (ps : List Str) (dvs : List V) (n : Nat) (kw : Str) : Prop where
  ex : ∃ f fd ds, mg name = some (.ref f) ∧ Fun K name name st f fd ∧ Vals dvs ds ∧ Binds K fd ps ds ∧ KBn K fd ps n [kw] (fun us ws => us ++ ws) (fun vs zs => vs ++ zs)
theorem funAtK_mk {K : PySem.W.Frag} {h : Heap} {mg : Str → Option Value} {x : Str} {st : Stmt} {f D : Addr} {oc : Value} {od an : Option Addr} {osl : Array (Option Value)} {doc pm cdv ct : Value} {ps : List Str} {n : Nat} {kw : Str} {v : V} {u : Value} (X : K.In h) (G : h.Ns mainGlobals mg)
    (a : PySem.W.nsIn K mainGlobals x = some (some (.ref f))) (l : K.lookup f = some ⟨oc, od, .func (PySem.W.fnOf x x (defArgs st) (defBody st) (defScope st) .none (.ref D) doc pm an cdv ct), osl⟩) (c : PySem.W.codeIn K cdv x = true) (k : PySem.W.keepIn K (.ref f) = true)
    (hkw : PySem.W.nsIn K D kw = some (some u)) (hv : L2.RelV v u) (hn : n + 1 = ps.length)
    (hb : ∀ (D : Addr) (doc pm : Value) (an : Option Addr) (cdv ct : Value) (us ks : List Value), us.length = n → ks.length = 1 →
      KwChain D ([kw].zip ks) (bindArgs (PySem.W.fnOf x x (defArgs st) (defBody st) (defScope st) .none (.ref D) doc pm an cdv ct) ⟨us, []⟩) (ps.zip (us ++ ks)))
    (hb2 : ∀ (D : Addr) (doc pm : Value) (an : Option Addr) (cdv ct : Value) (us ks : List Value), us.length = n → ks.length = 1 →
      bindArgs (PySem.W.fnOf x x (defArgs st) (defBody st) (defScope st) .none (.ref D) doc pm an cdv ct) ⟨us, [kw].zip ks⟩ = pure (ps.zip (us ++ ks))) : FunAtK K mg x st ps [v] n kw := by
  have F : FunD K x x (defArgs st) (defBody st) (defScope st) [] [(kw, v)] f (PySem.W.fnOf x x (defArgs st) (defBody st) (defScope st) .none (.ref D) doc pm an cdv ct) :=
    ⟨⟨oc, od, .none, .ref D, doc, pm, an, cdv, ct, osl, rfl, l, c, .inl ⟨rfl, rfl⟩, .inr ⟨D, rfl, fun q hq => by
      rw [List.mem_singleton.mp hq]
      exact ⟨u, hkw, hv⟩⟩⟩, k⟩
  obtain ⟨ds, d1, d2⟩ := F.binds0 (ps := ps) n (by simp) (by simpa using hn) fun D doc pm an cdv ct us ks h1 h2 => hb D doc pm an cdv ct us ks h1 h2
  exact ⟨f, _, ds, PySem.W.mg_of X G a, fun_mk l c k, d1, d2, ⟨fun s us ws _ h1 h2 => BindsTo.of_eq (hb2 D doc pm an cdv ct us ws h1 h2), fun h1 h2 => h1.append h2⟩⟩
structure DfnK (Pg : Program) (w : World) (K : PySem.W.Frag) (mg : Str → Option Value) (base : Heap) (k : Nat) (name : Str) (ps : List Str) (dvs : List V) (n : Nat) (kw : Str) (W : WTX) : Prop where
  ex : ∃ f fd ds, mg name = some (.ref f) ∧ PySem.W.keepIn K (.ref f) = true ∧ Vals dvs ds ∧ Binds K fd ps ds ∧ KBn K fd ps n [kw] (fun us ws => us ++ ws) (fun vs zs => vs ++ zs) ∧ DF Pg w K mg base (CX Pg w) k f fd ps (SpX K W)
section
variable {Pg : Program} {w : World} {K : PySem.W.Frag} {mg : Str → Option Value} {base : Heap}
theorem dfnK_mk {k n : Nat} {kw : Str} {name : Str} {st : Stmt} {N ps : List Str} {dvs : List V} {W : WTX} {tb : WX → TS} (A : FunAtK K mg name st ps dvs n kw) (S : FnScope N ps (defScope st)) (len : ∀ ss m P Y, W ss m P Y → ss.length = ps.length)
    (der : ∀ (f : Addr) (cdv : Value) (A : Around) (outer : List Env) (s : Shared) (H : Hp) (E : XK), (A.deeper (envOfC name (defScope st) s.heap.objs.size f cdv)).guards = some [] → Room k (A.deeper (envOfC name (defScope st) s.heap.objs.size f cdv)) →
      PSs (cxOf (CX Pg w) Pg w K mg base N name (defScope st) f cdv A outer s H E) (defBody st) (tb fun cls d _ H' => E cls d H'))
    (rd : ∀ ss m P Y, W ss m P Y → WpW K tb (rho N ss) m { nx := fun _ m' => P (.d .none) m', rt := P } (fun _ => Y)) : DfnK Pg w K mg base (k + 1) name ps dvs n kw W := by
  obtain ⟨f, fd, ds, hm, hF, hv, hb, hk⟩ := A.ex
  refine ⟨f, fd, ds, hm, hF.kp, hv, hb, hk, ?_⟩
  obtain ⟨oc, od, kV, doc, pm, an, cdv, ct, osl, rfl, lk, hcd⟩ := hF.ex
  exact df_of lk hcd S (fun vs H Q E h => spX_len len h) fun A outer s H vs Q E hg hr h => ⟨_, der f cdv A outer s H E hg hr, bodyX rd h⟩
end
def tCallSK (sp : Sp) (n m : Nat) (E : L2.St → XK) (t tk : TA) : TE := fun σ H Q => t σ H fun vs H1 => tk σ H1 fun zs H2 => vs.length = n ∧ zs.length = m ∧ sp (vs ++ zs) H2 Q (E σ)
section
variable {X : Cx} {W : WX}
theorem run_dfB {k : Nat} {f : Addr} {fd : FuncData} {ps : List Str} {sp : Sp} {E : XK} {CX : CXT} {pins : List (Addr × Obj)} {σ : L2.St} {H : Hp} {s : Shared} {Q : VK} {us bs : List Value} {ks : List (Str × Value)} {vs : List V} (F : DF X.prog X.w X.K X.mg X.base CX k f fd ps sp) (hg : X.A.guards = some []) (hr : Room k X.A) (hb2 : BindsTo s fd ⟨us, ks⟩ (ps.zip bs))
    (hx : PassesAt CX X σ E) (I : Inv X pins σ H s) (r : Vals vs bs) (h : sp vs H Q E) : wpAny (model X.prog X.w) X.A (call (.ref f) us ks) (EP X pins σ Q) X.xe s := by
  apply wpAny_call
  apply codeAny_mono (F.run X.A X.stack s H ⟨us, ks⟩ _ _ Q E hg hr I.env0 hb2 r h)
  intro r s' hq
  match r, hq with
  | .error e, hq => exact hx pins H s e s' I hq
  | .ok (.ret u), hq => exact I.after hq
  | .ok .next, hq => exact False.elim hq
  | .ok .brk, hq => exact False.elim hq
  | .ok .cont, hq => exact False.elim hq
theorem pe_fnW {j k n : Nat} {kw x : Str} {ps : List Str} {dvs : List V} {W0 : WTX} {p pos : Pos} {e : Expr} {es : List Expr} {kws : List Keyword} {t t2 : TA} (D : DfnK X.prog X.w X.K X.mg X.base j x ps dvs n kw W0) (tk : Takes X W) (hgd : X.A.guards = some []) (hr : Room k X.A) (h : j ≤ k) (hg : Gl X x) (ha : PA X (e :: es) t) (hkw : PK X kws t2)
    (hall : (backToKw pos (keywordEach kws X.env)).all (·.1.isSome) = true := by rfl) (hks : (backToKw pos (keywordEach kws X.env)).filterMap (·.1) = [kw] := by rfl)
    (hdb : (x == ("__debug__" : Str)) = false := by decide) (he : starEach (e :: es) X.env = (false, eval e X.env) :: starEach es X.env := by rfl)
    (hpl : ((backTo pos (starEach (e :: es) X.env)).any (·.1) || (backToKw pos (keywordEach kws X.env)).any (·.1.isNone)) = false := by rfl) :
    PE X (.Call (.Name x p) (e :: es) kws pos) (tCallSK (SpX X.K W0) n 1 (WE W) t t2) := by
  obtain ⟨f, fd, ds, hm, hk, hv, _, hb, F⟩ := D.ex
  refine ⟨fun pins s σ H Q I h2 => ?_⟩
  refine wpAny_Call_Name_kw (ld_glob I hg hm ?_ hdb)
  refine PySem.W.callWith_KW (h₀ := X.base) I.ok.mod.kin hk hall (thn (ha.run pos pins s σ H _ I h2) fun us s1 ⟨vs, H1, I1, r, q⟩ => ?_) hpl he
  refine thn (hkw.run pos pins s1 σ H1 _ I1 q) fun ws s2 ⟨zs, H2, I2, rz, l1, l2, q2⟩ => ⟨I2.kIn, ?_⟩
  rw [hks]
  exact run_dfB F hgd (hr.mono h) (hb.to s2 us ws I2.kIn (r.length.symm.trans l1) (rz.length.symm.trans l2)) (passAt tk σ) I2 (hb.rel r rz) q2
end
section
variable {K : PySem.W.Frag} {ρ : Rho} {m : Sto} {P : PV} {X : Xv} {ta tk : TA}
theorem evw_callK {W0 : WTX} {n n2 : Nat} (h : EvA K ta ρ m fun ss m1 => EvA K tk ρ m1 fun zs m2 => ss.length = n ∧ zs.length = n2 ∧ W0 (ss ++ zs) m2 P (fun C fs m' => X ρ C fs m')) : EvW K (fun W => tCallSK (SpX K W0) n n2 (WE W) ta tk) ρ m P X := fun W σ F H Q E S q q5 =>
  h σ F H _ E S fun ss m1 vs F1 H1 hk s1 S1 o1 => hk σ F1 H1 _ (envOk_step s1 E) S1 fun zs m2 ws F2 H2 ⟨l1, l2, w⟩ s2 S2 o2 =>
    ⟨(paired_len o1).symm.trans l1, (paired_len o2).symm.trans l2, ss ++ zs, m2, F2, P, _, paired_app (slsOk_step s2 o1) o2, S2, w, fun s m' v F' H' p s3 S3 o3 => q s m' v F' H' p ((s1.trans s2).trans s3) S3 o3, ⟨fun C fs d m' F' H' y hd s3 S3 => q5.1 ρ C fs d m' σ F' H' y hd ((s1.trans s2).trans s3) S3 (envOk_step ((s1.trans s2).trans s3) E), fun C m' F' H' y s3 S3 => q5.2 ρ C m' σ F' H' y ((s1.trans s2).trans s3) S3 (envOk_step ((s1.trans s2).trans s3) E)⟩⟩
end
end Dv.U
namespace Dv.U
open PySem L2 PyProof.Rows
/-! ### the least number, the first route, and what they raise -/
section
variable {Pg : Program} {w : World} {K : PySem.W.Frag} {mg : Str → Option Value} {base : Heap}
/-- where it does not raise, a def that may raise is one that does not -/
theorem dfnX_quiet {k : Nat} {name : Str} {ps : List Str} {W0 : WT} {WX : WTX} (D : DfnX Pg w K mg base k name ps WX) (h : ∀ ss m P, W0 ss m P → WX ss m P fun _ _ _ => False) : Dfn Pg w K mg base k name ps W0 := by
  obtain ⟨f, fd, hm, hk, hb, F⟩ := D.ex
  have up : ∀ vs H Q E, SpD K W0 vs H Q E → SpX K WX vs H Q (fun _ _ _ => False) := fun vs H Q E ⟨ss, m, F, P, o, S, w, q⟩ => ⟨ss, m, F, P, fun _ _ _ => False, o, S, h ss m P w, q, ⟨fun _ _ _ _ _ _ y => y.elim, fun _ _ _ _ y => y.elim⟩⟩
  refine ⟨f, fd, hm, hk, hb, ⟨fun vs H Q E w => F.len vs H Q _ (up vs H Q E w), fun A outer s H args us vs Q E g hr e0 hbi r w => ?_⟩⟩
  refine codeAny_mono (F.run A outer s H args us vs Q (fun _ _ _ => False) g hr e0 hbi r (up vs H Q E w)) fun r s' hq => ?_
  match r, hq with
  | .error e, hq => obtain ⟨_, _, _, _, _, _, _, _, _, _, _, _, z⟩ := hq; exact z.elim
  | .ok (.ret u), hq => exact hq
  | .ok .next, hq => exact hq
  | .ok .brk, hq => exact hq
  | .ok .cont, hq => exact hq
end
/-! isinstance of what has fields or none -/
end Dv.U
namespace Dv.U
open PySem L2 PyProof.Rows
/-! ### the gap distance of a dict, and of two lines -/
end Dv.U
namespace Dv.U
open PySem L2 PyProof.Rows
/-! ### routes that lead -/
end Dv.U
namespace Dv
open PySem L2 PyProof.Rows
/-! ### rows and columns in another order -/
structure Rea (s g : Fl) : Prop where
  vs : VF s
  vg : VF g
  fl : g.flatten.Perm s.flatten
  rw_ : (g.map srt).Perm (s.map srt)
  cw : ((colsL g).map srt).Perm ((colsL s).map srt)
theorem Rea.sh {s g : Fl} (h : Rea s g) : (∀ x ∈ s.flatten, ∀ y ∈ s.flatten, shr s x y = shr g x y) ∧ ∀ x ∈ s.flatten, ∀ y ∈ s.flatten, shr (colsL s) x y = shr (colsL g) x y :=
  ⟨shr_srt h.vs.nd h.vg.nd (fun x => h.fl.symm.mem_iff) h.rw_, fun x hx y hy => shr_srt h.vs.vfC.nd h.vg.vfC.nd (fun x => by rw [col_iff h.vs, col_iff h.vg]; exact h.fl.symm.mem_iff) h.cw x ((col_iff h.vs x).mpr hx) y ((col_iff h.vs y).mpr hy)⟩
theorem Rea.rr {s g : Fl} (h : Rea s g) : RR s g := rr_mk h.vs h.vg h.fl.symm h.sh.1 h.sh.2
theorem Rea.trans {s g f : Fl} (a : Rea s g) (b : Rea g f) : Rea s f := ⟨a.vs, b.vg, b.fl.trans a.fl, b.rw_.trans a.rw_, b.cw.trans a.cw⟩
theorem Rea.cols {s g : Fl} (h : Rea s g) : Rea (colsL s) (colsL g) :=
  ⟨h.vs.vfC, h.vg.vfC, (col_flen h.vg).trans (h.fl.trans (col_flen h.vs).symm), h.cw, by rw [col_col h.vs, col_col h.vg]; exact h.rw_⟩
/-! two exchanged -/
/-! floors where all are leaders -/
end Dv
namespace Dv.U
open PySem L2 PyProof.Rows
/-! ### single lines -/
end Dv.U
namespace Dv.U
open PySem L2 PyProof.Rows
/-! ### floors with other names -/
def mpF (f : List Nat → List Nat) (s : Fl) : Fl := s.map (List.map f)
structure Fn (f : List Nat → List Nat) (s : Fl) : Prop where
  inj : ∀ x ∈ s.flatten, ∀ y ∈ s.flatten, f x = f y → x = y
  ok : ∀ x ∈ s.flatten, okL (f x) = true
  up : ∀ x ∈ s.flatten, upN x = true → f x = x
theorem Fn.perm {f : List Nat → List Nat} {s g : Fl} (h : Fn f s) (p : g.flatten.Perm s.flatten) : Fn f g :=
  ⟨fun x hx y hy => h.inj x (p.mem_iff.mp hx) y (p.mem_iff.mp hy), fun x hx => h.ok x (p.mem_iff.mp hx), fun x hx => h.up x (p.mem_iff.mp hx)⟩
theorem mp_flat (f : List Nat → List Nat) (s : Fl) : (mpF f s).flatten = s.flatten.map f := by
  unfold mpF
  rw [List.map_flatten]
theorem nd_map {f : List Nat → List Nat} {xs : List (List Nat)} (nd : xs.Nodup) (inj : ∀ x ∈ xs, ∀ y ∈ xs, f x = f y → x = y) : (xs.map f).Nodup := by
  unfold List.Nodup at nd ⊢
  rw [List.pairwise_map]
  exact nd.imp_of_mem fun {a b} ha hb ne e => ne (inj a ha b hb e)
theorem Fn.vf {f : List Nat → List Nat} {s : Fl} (h : Fn f s) (v : VF s) : VF (mpF f s) := by
  obtain ⟨c, c0, c1, hc⟩ := v.cols
  refine ⟨fun e => v.pos (List.map_eq_nil_iff.mp e), by unfold mpF; rw [List.length_map]; exact v.most, ⟨c, c0, c1, fun r hr => ?_⟩, fun r hr l hl => ?_, ?_⟩
  · obtain ⟨q, hq, rfl⟩ := List.mem_map.mp hr
    rw [List.length_map]
    exact hc q hq
  · obtain ⟨q, hq, rfl⟩ := List.mem_map.mp hr
    obtain ⟨x, hx, rfl⟩ := List.mem_map.mp hl
    exact h.ok x (List.mem_flatten.mpr ⟨q, hq, hx⟩)
  · rw [mp_flat]
    exact nd_map v.nd h.inj
theorem Fn.lead {f : List Nat → List Nat} {s : Fl} (h : Fn f s) {l : List Nat} (hl : l ∈ s.flatten) (u : upN l = true) : f l ∈ (mpF f s).flatten ∧ upN (f l) = true :=
  ⟨by rw [mp_flat]; exact List.mem_map_of_mem hl, by rw [h.up l hl u]; exact u⟩
theorem cols_mp {f : List Nat → List Nat} {s : Fl} (v : VF s) : colsL (mpF f s) = mpF f (colsL s) := by
  obtain ⟨r0, h0, e0, h1, h2, h3⟩ := v.head
  have e1 : ((mpF f s).getD 0 []).length = r0.length := by
    unfold mpF
    rw [List.getD_eq_getElem?_getD, List.getElem?_map, h0]
    exact List.length_map ..
  unfold colsL colsN
  rw [e1, e0]
  unfold mpF
  rw [List.map_map]
  refine List.map_congr_left fun j hj => ?_
  have hj := List.mem_range.mp hj
  show (s.map (List.map f)).map (fun r => r.getD j []) = (s.map fun r => r.getD j []).map f
  rw [List.map_map, List.map_map]
  refine List.map_congr_left fun r hr => ?_
  have : j < r.length := by rw [h3 r hr]; exact hj
  show (r.map f).getD j [] = f (r.getD j [])
  rw [List.getD_eq_getElem?_getD, List.getD_eq_getElem?_getD, List.getElem?_map, List.getElem?_eq_getElem this]
  rfl
theorem srt_mp {f : List Nat → List Nat} {s g : Fl} (p : (g.map srt).Perm (s.map srt)) : ((mpF f g).map srt).Perm ((mpF f s).map srt) := by
  have e : ∀ t : Fl, (mpF f t).map srt = (t.map srt).map fun z => srt (z.map f) := fun t => by
    unfold mpF
    rw [List.map_map, List.map_map]
    exact List.map_congr_left fun r _ => srt_congr ((srt_perm r).symm.map f)
  rw [e, e]
  exact p.map _
theorem Rea.mp {f : List Nat → List Nat} {s g : Fl} (r : Rea s g) (h : Fn f s) : Rea (mpF f s) (mpF f g) :=
  ⟨h.vf r.vs, (h.perm r.fl).vf r.vg, by rw [mp_flat, mp_flat]; exact r.fl.map f, srt_mp r.rw_, by rw [cols_mp r.vs, cols_mp r.vg]; exact srt_mp r.cw⟩
/-! moves counted -/
end Dv.U
namespace Dv.U
open PySem L2 PyProof.Rows
/-! ### more leaders, no fewer floors -/
def mU (ls : Fl) : Nat := (usedL ls).length
/-! leaders counted -/
/-! two rows, two columns, two leaders -/
end Dv.U
namespace Dv.U
open PySem L2 PyProof.Rows
/-! ### all leaders: only signs -/
end Dv.U
namespace Dv.U
open PySem L2 PyProof.Rows
/-! ### rows and columns picked -/
end Dv.U
namespace Dv.U
open PySem L2 PyProof.Rows
/-! ### the search through all moves -/
def ldr (fl : Fl) (l : List Nat) : Prop := l ∈ fl.flatten ∧ upN l = true
structure Bfs (fl : Fl) (gs : List Fl) : Prop where
  mem : fl ∈ gs
  nd : gs.Nodup
  all : ∀ g ∈ gs, ∃ ls, (∀ l ∈ ls, ldr fl l) ∧ plF fl ls = g
theorem Bfs.start (fl : Fl) : Bfs fl [fl] := by
  refine ⟨List.mem_cons_self, by simp, fun g hg => ?_⟩
  rw [List.mem_singleton.mp hg]
  exact ⟨[], (fun l h => nomatch h), rfl⟩
theorem Bfs.vf {fl : Fl} {gs : List Fl} (h : Bfs fl gs) (v : VF fl) {g : Fl} (hg : g ∈ gs) : VF g ∧ g.flatten.Perm fl.flatten := by
  obtain ⟨ls, h1, rfl⟩ := h.all g hg
  obtain ⟨a, b, _, _⟩ := plF_ok ls v fun l hl => (h1 l hl).1
  exact ⟨a, b⟩
theorem Bfs.add {fl : Fl} {gs : List Fl} (h : Bfs fl gs) {g : Fl} (hg : g ∈ gs) {l : List Nat} (hl : ldr fl l) (hn : crX g l ∉ gs) : Bfs fl (gs ++ [crX g l]) := by
  refine ⟨List.mem_append_left _ h.mem, ?_, fun x hx => ?_⟩
  · rw [List.nodup_append]
    exact ⟨h.nd, by simp, fun a ha b hb e => hn (by rw [← List.mem_singleton.mp hb, ← e]; exact ha)⟩
  · rcases List.mem_append.mp hx with q | q
    · exact h.all x q
    · rw [List.mem_singleton.mp q]
      obtain ⟨ls, h1, rfl⟩ := h.all g hg
      refine ⟨ls ++ [l], fun z hz => ?_, by rw [plF_app]; rfl⟩
      rcases List.mem_append.mp hz with w | w
      · exact h1 z w
      · rw [List.mem_singleton.mp w]; exact hl
def cldTo (fl : Fl) (gs : List Fl) (k : Nat) : Prop := ∀ i g, i < k → gs[i]? = some g → ∀ l, ldr fl l → crX g l ∈ gs
end Dv.U
namespace Dv.U
open PySem L2 PyProof.Rows
/-! ### words in order -/
end Dv.U
namespace Dv.U
open PySem L2 PyProof.Rows
/-! ### ways and their words -/
/-! the word by the least exchanges is the least -/
/-! a way for floors where all are leaders -/
end Dv.U
namespace Dv.U
open PySem L2 PyProof.Rows
/-! ### first routes are the least of the ways -/
end Dv.U
namespace Dv.U
open PySem L2 PyProof.Rows
/-! ### the search knows the distances -/
structure DI (fl : Fl) (gs : List Fl) (ns : List Int) (idx : Nat) : Prop where
  z0 : gs[0]? = some fl ∧ ns[0]? = some 0
  has : ∀ (i : Nat) (g : Fl) (n : Int), gs[i]? = some g → ns[i]? = some n → ∃ ls, (∀ l ∈ ls, ldr fl l) ∧ plF fl ls = g ∧ (ls.length : Int) = n
  sorted : ∀ (i j : Nat) (a b : Int), i ≤ j → ns[i]? = some a → ns[j]? = some b → a ≤ b
  near : ∀ (j : Nat) (b c : Int), ns[j]? = some b → ns[idx]? = some c → b ≤ c + 1
  edge : ∀ (i : Nat) (g : Fl) (a : Int), i < idx → gs[i]? = some g → ns[i]? = some a → ∀ l, ldr fl l → ∀ (j : Nat) (b : Int), gs[j]? = some (crX g l) → ns[j]? = some b → b ≤ a + 1
theorem one_at {α : Type} {x y : α} {i : Nat} (h : ([x] : List α)[i]? = some y) : i = 0 ∧ x = y := by
  cases i with
  | zero => exact ⟨rfl, Option.some.inj h⟩
  | succ i => simp at h
theorem DI.start (fl : Fl) : DI fl [fl] [0] 0 := by
  refine ⟨⟨rfl, rfl⟩, fun i g n h1 h2 => ?_, fun i j a b _ h1 h2 => ?_, fun j b c h1 h2 => ?_, fun i g a hi => by omega⟩
  · obtain ⟨_, rfl⟩ := one_at h1
    obtain ⟨_, rfl⟩ := one_at h2
    exact ⟨[], (fun l h => nomatch h), rfl, rfl⟩
  · obtain ⟨_, rfl⟩ := one_at h1
    obtain ⟨_, rfl⟩ := one_at h2
    exact Int.le_refl _
  · obtain ⟨_, rfl⟩ := one_at h1
    obtain ⟨_, rfl⟩ := one_at h2
    decide
theorem snoc_at {α : Type} {xs : List α} {x y : α} {i : Nat} (h : (xs ++ [x])[i]? = some y) : xs[i]? = some y ∨ (i = xs.length ∧ y = x) := by
  by_cases q : i < xs.length
  · rw [List.getElem?_append_left q] at h
    exact .inl h
  · rw [List.getElem?_append_right (by omega)] at h
    obtain ⟨e1, e2⟩ := one_at h
    exact .inr ⟨by omega, e2.symm⟩
theorem DI.add {fl : Fl} {gs : List Fl} {ns : List Int} {idx : Nat} (h : DI fl gs ns idx) (hb : Bfs fl gs) (hn : ns.length = gs.length) {cur : Fl} (hc : gs[idx]? = some cur) (cl : cldTo fl gs idx) {l : List Nat} (hl : ldr fl l) (hx : crX cur l ∉ gs) {c : Int} (hcn : ns[idx]? = some c) : DI fl (gs ++ [crX cur l]) (ns ++ [c + 1]) idx := by
  have g0 := (List.getElem?_eq_some_iff.mp h.z0.1).1
  have n0 := (List.getElem?_eq_some_iff.mp h.z0.2).1
  have gi := (List.getElem?_eq_some_iff.mp hc).1
  have ni := (List.getElem?_eq_some_iff.mp hcn).1
  refine ⟨⟨by rw [List.getElem?_append_left g0]; exact h.z0.1, by rw [List.getElem?_append_left n0]; exact h.z0.2⟩, fun i g n h1 h2 => ?_, fun i j a b hij h1 h2 => ?_, fun j b d h1 h2 => ?_, fun i g a hi h1 h2 l' hl' j b h3 h4 => ?_⟩
  · rcases snoc_at h1 with q | ⟨q, rfl⟩
    · rw [List.getElem?_append_left (by rw [hn]; exact (List.getElem?_eq_some_iff.mp q).1)] at h2
      exact h.has i g n q h2
    · rcases snoc_at h2 with z | ⟨_, rfl⟩
      · have := (List.getElem?_eq_some_iff.mp z).1
        omega
      · obtain ⟨ls, a, e, b⟩ := h.has idx cur c hc hcn
        refine ⟨ls ++ [l], fun x hx => ?_, by rw [plF_app, e]; rfl, by rw [List.length_append]; simp; omega⟩
        rcases List.mem_append.mp hx with y | y
        · exact a x y
        · rw [List.mem_singleton.mp y]; exact hl
  · rcases snoc_at h1 with q1 | ⟨q1, rfl⟩
    · rcases snoc_at h2 with q2 | ⟨q2, rfl⟩
      · exact h.sorted i j a b hij q1 q2
      · exact h.near i a c q1 hcn
    · rcases snoc_at h2 with q2 | ⟨q2, rfl⟩
      · have := (List.getElem?_eq_some_iff.mp q2).1
        omega
      · exact Int.le_refl _
  · rw [List.getElem?_append_left ni, hcn] at h2
    cases h2
    rcases snoc_at h1 with q1 | ⟨q1, rfl⟩
    · exact h.near j b c q1 hcn
    · exact Int.le_refl _
  · rw [List.getElem?_append_left (by omega)] at h1 h2
    have inn := cl i g hi h1 l' hl'
    rcases snoc_at h3 with q | ⟨_, e⟩
    · rw [List.getElem?_append_left (by rw [hn]; exact (List.getElem?_eq_some_iff.mp q).1)] at h4
      exact h.edge i g a hi h1 h2 l' hl' j b q h4
    · rw [e] at inn
      exact absurd inn hx
theorem DI.next {fl : Fl} {gs : List Fl} {ns : List Int} {idx : Nat} (h : DI fl gs ns idx) (hn : ns.length = gs.length) {cur : Fl} (hc : gs[idx]? = some cur) : DI fl gs ns (idx + 1) := by
  have gi := (List.getElem?_eq_some_iff.mp hc).1
  have hcn : ns[idx]? = some ns[idx] := List.getElem?_eq_getElem (by omega)
  refine ⟨h.z0, h.has, h.sorted, fun j b c h1 h2 => ?_, fun i g a hi h1 h2 l hl j b h3 h4 => ?_⟩
  · have a := h.near j b _ h1 hcn
    have b := h.sorted idx (idx + 1) _ c (by omega) hcn h2
    omega
  · by_cases e : i = idx
    · subst e
      exact h.near j b a h4 h2
    · exact h.edge i g a (by omega) h1 h2 l hl j b h3 h4
end Dv.U
namespace Dv
open PySem L2 PyProof.Rows
/-! ### len and list of a dict whose keys are floors -/
end Dv
namespace Dv.U
open PySem L2 PyProof.Rows
/-! ### law 39 -/
end Dv.U
namespace Dv.U
open PySem L2 PyProof.Rows
/-! ### clear floors, drawn -/
end Dv.U
namespace Dv.U
open PySem L2 PyProof.Rows
/-! ### the least shortest route, step by step -/
end Dv.U
namespace Dv.U
open PySem L2 PyProof.Rows
/-! ### law 22 -/
end Dv.U
namespace Dv.U
open PySem L2 PyProof.Rows
/-! ### pairs of dicts that lie in the store -/
end Dv.U
namespace Dv.U
open PySem L2 PyProof.Rows
/-! ### the law's own least number -/
end Dv.U
namespace Dv.U
open PySem L2 PyProof.Rows
/-! ### clear floors of any size -/
end Dv.U
namespace Dv.U
open PySem L2 PyProof.Rows
/-! ### law 20 -/
end Dv.U
namespace Dv.U
open PySem L2 PyProof.Rows
/-! ### a def that raises nothing, called within an except suite with the caught error -/
end Dv.U
namespace Dv
open PySem L2 PyProof.Rows
/-! ### objects of an own class -/
end Dv
namespace Dv
open PySem L2 PyProof.Rows
/-! ### over data -/
section
variable {K : PySem.W.Frag} {ρ : Rho} {m : Sto} {P : PV} {te tv : TE} {C a dx : Addr} {W : WT}
abbrev DFl := List (Str × PyData)
/-! operators and calls -/
/-! f"..." -/
end
/-! ### methods of the text -/
end Dv
namespace Dv
open PySem L2 PyProof.Rows
/-! ### objects whose fields hold addresses: they stand in the store as they are -/
end Dv
namespace Dv.U
open PySem L2 PyProof.Rows
/-! ### methods, quiet or raising, with a keyword-only parameter or none -/
/-- a def with one keyword-only parameter that does not raise -/
structure DfnQ (Pg : Program) (w : World) (K : PySem.W.Frag) (mg : Str → Option Value) (base : Heap) (k : Nat) (name : Str) (ps : List Str) (dvs : List V) (n : Nat) (kw : Str) (W : WT) : Prop where
  ex : ∃ f fd ds, mg name = some (.ref f) ∧ PySem.W.keepIn K (.ref f) = true ∧ Vals dvs ds ∧ Binds K fd ps ds ∧ KBn K fd ps n [kw] (fun us ws => us ++ ws) (fun vs zs => vs ++ zs) ∧ DF Pg w K mg base CX0 k f fd ps (SpD K W)
section
variable {Pg : Program} {w : World} {K : PySem.W.Frag} {mg : Str → Option Value} {base : Heap} {C : Addr}
theorem df_quiet {k : Nat} {f : Addr} {fd : FuncData} {ps : List Str} {W0 : WT} {W1 : WTX} (F : DF Pg w K mg base (CX Pg w) k f fd ps (SpX K W1)) (h : ∀ ss m P, W0 ss m P → W1 ss m P fun _ _ _ => False) : DF Pg w K mg base CX0 k f fd ps (SpD K W0) := by
  have up : ∀ vs H Q E, SpD K W0 vs H Q E → SpX K W1 vs H Q (fun _ _ _ => False) := fun vs H Q E ⟨ss, m, F, P, o, S, w, q⟩ => ⟨ss, m, F, P, fun _ _ _ => False, o, S, h ss m P w, q, ⟨fun _ _ _ _ _ _ y => y.elim, fun _ _ _ _ y => y.elim⟩⟩
  refine ⟨fun vs H Q E w => F.len vs H Q _ (up vs H Q E w), fun A outer s H args us vs Q E g hr e0 hbi r w => ?_⟩
  refine codeAny_mono (F.run A outer s H args us vs Q (fun _ _ _ => False) g hr e0 hbi r (up vs H Q E w)) fun r s' hq => ?_
  match r, hq with
  | .error e, hq => obtain ⟨_, _, _, _, _, _, _, _, _, _, _, _, z⟩ := hq; exact z.elim
  | .ok (.ret u), hq => exact hq
  | .ok .next, hq => exact hq
  | .ok .brk, hq => exact hq
  | .ok .cont, hq => exact hq
end
section
variable {X : Cx} {W : WX} {C : Addr} {k j n : Nat} {m kw x : Str} {ps : List Str} {dvs : List V} {W0 : WT} {W1 : WTX} {o e : Expr} {es : List Expr} {kws : List Keyword} {ta : TE} {t t2 : TA} {p pos apos : Pos}
theorem run_O2 {f : Addr} {fd : FuncData} {pins : List (Addr × Obj)} {σ : L2.St} {H : Hp} {s : Shared} {Q : VK} {us bs : List Value} {ks : List (Str × Value)} {vs : List V} (F : DF X.prog X.w X.K X.mg X.base CX0 k f fd ps (SpD X.K W0)) (hg : X.A.guards = some []) (hr : Room k X.A) (hb2 : BindsTo s fd ⟨us, ks⟩ (ps.zip bs))
    (I : Inv X pins σ H s) (r : Vals vs bs) (h : SpD X.K W0 vs H Q E0) : wpAny (model X.prog X.w) X.A (call (.ref f) us ks) (EP X pins σ Q) X.xe s := run_dfB (E := E0) F hg hr hb2 (fun pins H s e s' I hq => pass0 pins σ H s e s' I hq) I r h
/-- f(e, .., kw=z), a def that does not raise -/
theorem pe_fnQ (D : DfnQ X.prog X.w X.K X.mg X.base k x ps dvs n kw W0) (hgd : X.A.guards = some []) (hr : Room j X.A) (h : k ≤ j) (hg : Gl X x) (ha : PA X (e :: es) t) (hkw : PK X kws t2)
    (hall : (backToKw pos (keywordEach kws X.env)).all (·.1.isSome) = true := by rfl) (hks : (backToKw pos (keywordEach kws X.env)).filterMap (·.1) = [kw] := by rfl)
    (hdb : (x == ("__debug__" : Str)) = false := by decide) (he : starEach (e :: es) X.env = (false, eval e X.env) :: starEach es X.env := by rfl)
    (hpl : ((backTo pos (starEach (e :: es) X.env)).any (·.1) || (backToKw pos (keywordEach kws X.env)).any (·.1.isNone)) = false := by rfl) :
    PE X (.Call (.Name x p) (e :: es) kws pos) (tCallSK (SpD X.K W0) n 1 (fun _ => E0) t t2) := by
  obtain ⟨f, fd, ds, hm, hk, hv, _, hb, F⟩ := D.ex
  refine ⟨fun pins s σ H Q I h2 => ?_⟩
  refine wpAny_Call_Name_kw (ld_glob I hg hm ?_ hdb)
  refine PySem.W.callWith_KW (h₀ := X.base) I.ok.mod.kin hk hall (thn (ha.run pos pins s σ H _ I h2) fun us s1 ⟨vs, H1, I1, r, q⟩ => ?_) hpl he
  refine thn (hkw.run pos pins s1 σ H1 _ I1 q) fun ws s2 ⟨zs, H2, I2, rz, l1, l2, q2⟩ => ⟨I2.kIn, ?_⟩
  rw [hks]
  exact run_O2 F hgd (hr.mono h) (hb.to s2 us ws I2.kIn (r.length.symm.trans l1) (rz.length.symm.trans l2)) I2 (hb.rel r rz) q2
/-- f(e, ..), the default fills up -/
theorem pe_fnQD (D : DfnQ X.prog X.w X.K X.mg X.base k x ps dvs n kw W0) (hgd : X.A.guards = some []) (hr : Room j X.A) (h : k ≤ j) (hg : Gl X x) (ha : PA X (e :: es) t)
    (hdb : (x == ("__debug__" : Str)) = false := by decide) (he : starEach (e :: es) X.env = (false, eval e X.env) :: starEach es X.env := by rfl) (hpl : (backTo pos (starEach es X.env)).any (·.1) = false := by rfl) :
    PE X (.Call (.Name x p) (e :: es) [] pos) (tCall (SpD X.K W0) dvs E0 t) := by
  obtain ⟨f, fd, ds, hm, hk, hv, hb, _, F⟩ := D.ex
  exact pe_dcall F hgd (hr.mono h) hg hm hk hb hv pass0 ha hdb he hpl
end
section
variable {K : PySem.W.Frag} {ρ : Rho} {m : Sto} {P : PV} {X : Xv} {te : TE} {t tk : TA} {C : Addr} {W0 : WT} {W1 : WTX} {nm : Str}
theorem ev_callQ {n n2 : Nat} (h : EvA K t ρ m fun ss m1 => EvA K tk ρ m1 fun zs m2 => ss.length = n ∧ zs.length = n2 ∧ W0 (ss ++ zs) m2 P) : Ev K (tCallSK (SpD K W0) n n2 (fun _ => E0) t tk) ρ m P := fun σ F H Q E S q =>
  h σ F H _ E S fun ss m1 vs F1 H1 hk s1 S1 o1 => hk σ F1 H1 _ (envOk_step s1 E) S1 fun zs m2 ws F2 H2 ⟨l1, l2, w⟩ s2 S2 o2 =>
    ⟨(paired_len o1).symm.trans l1, (paired_len o2).symm.trans l2, ss ++ zs, m2, F2, P, paired_app (slsOk_step s2 o1) o2, S2, w, fun s m' v F' H' p s3 S3 o3 => q s m' v F' H' p ((s1.trans s2).trans s3) S3 o3⟩
end
end Dv.U
namespace Dv
open PySem L2 PyProof.Rows
/-! ### texts of the script language: partition, startswith, int(text), str(number) -/
end Dv
namespace Dv
open PySem L2 PyProof.Rows
/-! ### math.lcm of two numbers -/
end Dv
namespace Dv
open PySem L2 PyProof.Rows
/-! ### {key: datum for .. if ..} of one clause -/
end Dv
namespace Dv
open PySem L2 PyProof.Rows
/-! ### for k, v in d.items() -/
end Dv
namespace Dv
open PySem L2 PyProof.Rows
/-! ### a ring turned by a permutation: labels_after -/
end Dv
namespace Dv
open PySem L2 PyProof.Rows
/-! ### exchanges with the gap, as the program makes them -/
/-- what stands where, after the exchanges -/
def srcF (f : Str → Str) : List Str → Str → Str
  | [] => f
  | l :: ls => srcF (fun z => if z = l then f "" else if z = "" then f l else f z) ls
end Dv
namespace Dv
open PySem L2 PyProof.Rows
/-! ### lines put where a permutation of their ring puts them: lines_after -/
end Dv
namespace Dv
open PySem L2 PyProof.Rows PySem.Spec
/-! ### tuple * count -/
end Dv
namespace Dv
open PySem L2 PyProof.Rows
section
variable {K : PySem.W.Frag} {Pg : Program} {w : World} {m : Sto} {P : PV}
def W_locate_leader7 : WT := fun ss m P => ∃ (fl : Fl) (i j : Nat) (l : List Nat), ss = [.d (flD fl), .d (nmD l)] ∧ VF fl ∧ At fl i j l ∧ upN l = true ∧ P (.d (.tuple [.int (i : Nat), .int (j : Nat)])) m
def W_check_leaders : WT := fun ss m P => ∃ (fl : Fl) (ls : List (List Nat)), ss = [.d (flD fl), .d (.tuple (ls.map nmD))] ∧ VF fl ∧ (∀ l ∈ ls, l ∈ fl.flatten ∧ upN l = true) ∧ P (.d .none) m
def t_check_leaders (K : PySem.W.Frag) (Pg : Program) (w : World) : TS :=
  (tFor (iSeqU K (tVar 1)) (gName 2)
    (tDrop (tCall (SpD K W_locate_leader7) [] E0 (tCons (tVar 0) (tCons (tVar 2) tNil)))))
theorem rd_check_leaders (ss : List Sl) (m : Sto) (P : PV) (h : W_check_leaders ss m P) : Wp K (t_check_leaders K Pg w) (rho ["floor", "names", "name"] ss) m { nx := fun _ m' => P (.d .none) m', rt := P } := by
  obtain ⟨fl, ls, rfl, v, hl, p⟩ := h
  refine wp_forL (toD := nmD) <| ei_tup <| ev_var rfl ⟨_, rfl, ls, fun _ ρ' m' => ∃ s2, ρ' = [some (.d (flD fl)), some (.d (.tuple (ls.map nmD))), s2] ∧ m' = m, rfl, ⟨_, rfl, rfl⟩, fun _ _ _ _ => trivial, ?_, ?_⟩
  · rintro k l ρ' m' hk ⟨s2, rfl, rfl⟩
    obtain ⟨h1, h2⟩ := hl l (List.mem_of_getElem? hk)
    obtain ⟨i, j, g⟩ := at_of h1
    exact wp_drop <| ev_call0 <| ea_cons <| ev_var rfl <| ea_cons <| ev_var rfl <| ea_nil ⟨fl, i, j, l, rfl, v, g, h2, _, rfl, rfl⟩
  · rintro ρ' m' ⟨s2, rfl, rfl⟩
    exact p
def W_cross7 : WT := fun ss m P => ∃ (fl : Fl) (l : List Nat), ss = [.d (flD fl), .d (nmD l)] ∧ VF fl ∧ l ∈ fl.flatten ∧ upN l = true ∧ P (.d (flD (crX fl l))) m
def t_cross7 (K : PySem.W.Frag) (Pg : Program) (w : World) : TS :=
  (tSeq (tAsg (tCall (SpD K W_locate_leader7) [] E0 (tCons (tVar 0) (tCons (tVar 1) tNil))) (gTup K 2 (gCons (gName 2) (gCons (gName 3) gNil))))
    (tRet (tCB (rTupleC K) (tCons (tLc (iSeqU K (tCall (SpD K W_crossed) [] E0 (tCons (tVar 0) (tCons (tVar 2) tNil)))) (gName 4) tYes (tCall (SpD K W_crossed) [] E0 (tCons (tVar 4) (tCons (tVar 3) tNil))) [4]) tNil))))
theorem rd_cross7 (ss : List Sl) (m : Sto) (P : PV) (h : W_cross7 ss m P) : Wp K (t_cross7 K Pg w) (rho ["floor", "name", "row", "column", "names"] ss) m { nx := fun _ m' => P (.d .none) m', rt := P } := by
  obtain ⟨fl, l, rfl, v, hl, hu, p⟩ := h
  obtain ⟨i, j, g⟩ := at_of hl
  rw [crX_at v g] at p
  obtain ⟨C, hi, hj, h12, hC⟩ := v.wide g
  have hm := v.most
  refine wp_seq <| wp_asg <| ev_call0 <| ea_cons <| ev_var rfl <| ea_cons <| ev_var rfl <| ea_nil ⟨fl, i, j, l, rfl, v, g, hu, [2, 3], gt_pair ?_⟩
  refine wp_ret <| ev_cb <| ea_cons <| ev_lcF (toD := rwD) List.mem_cons_self <| ei_tup <| ev_call0 <| ea_cons <| ev_var rfl <| ea_cons <| ev_var rfl <| ea_nil ⟨fl.map rwD, i, rfl, by rw [List.length_map]; exact hi, by rw [List.length_map]; omega, _, rfl, crL i fl, fun _ => true, fun r => rwD (crL j r), ?_, trivial, ?_, fun q hq => ⟨et_yes ⟨rfl, rfl⟩, fun _ => ?_⟩, ?_⟩
  · rw [crL_map]
  · rw [crL_len hi]; omega
  · have hqc := hC q (crL_mem hq)
    refine ev_call0 <| ea_cons <| ev_var rfl <| ea_cons <| ev_var rfl <| ea_nil ⟨q.map nmD, j, rfl, by rw [List.length_map]; omega, by rw [List.length_map]; omega, ?_, rfl⟩
    rw [crL_map]
  · refine ea_nil <| rc_tupleL ?_
    rw [List.filter_eq_self.mpr (fun _ _ => rfl)]
    have e : (crL i fl).map (fun r => rwD (crL j r)) = (Dv.crF i j fl).map rwD := by unfold Dv.crF; rw [List.map_map]; rfl
    rw [e]
    exact p
end
end Dv
namespace Dv.U
open PySem L2 PyProof.Rows
/-! ### a table of floors -/
def nmsD (ls : List (List Nat)) : PyData := .tuple (ls.map nmD)
def entD (f : Fl) (h u : List (List Nat)) : PyData := .tuple [flD f, nmsD h, nmsD u]
def Ldr (f : Fl) (ls : List (List Nat)) : Prop := ∀ l ∈ ls, l ∈ f.flatten ∧ upN l = true
theorem Ldr.rev {f : Fl} {ls : List (List Nat)} (h : Ldr f ls) : Ldr f ls.reverse := fun l hl => h l (List.mem_reverse.mp hl)
section
variable {K : PySem.W.Frag} {Pg : Program} {w : World}
def W_playQ : WT := fun ss m P => ∃ (fl : Fl) (ls : List (List Nat)) (b : Bool), ss = [.d (flD fl), .d (nmsD ls), .d (.bool b)] ∧ VF fl ∧ Ldr fl ls ∧ P (.d (flD (plF fl (if b = true then ls.reverse else ls)))) m
end
end Dv.U
namespace Dv.U
open PySem L2 PyProof.Rows
/-! ### law 36 -/
def OkE (N : Nat) (d : PyData) : Prop := ∃ f h u, d = entD f h u ∧ VF f ∧ Ldr f h ∧ Ldr f u ∧ h.length + u.length ≤ N
structure GoodP (N : Nat) (ps : List (Str × PyData)) : Prop where
  ky : ∀ p ∈ ps, ∃ t, p.1 = Sx t ∧ Tx t
  ok : ∀ p ∈ ps, OkE N p.2
  nd : (ps.map Prod.fst).Nodup
theorem OkE.mono {N N' : Nat} {d : PyData} (h : OkE N d) (hn : N ≤ N') : OkE N' d := by
  obtain ⟨f, a, b, e, v, h1, h2, h3⟩ := h
  exact ⟨f, a, b, e, v, h1, h2, by omega⟩
theorem GoodP.mono {N N' : Nat} {ps : List (Str × PyData)} (h : GoodP N ps) (hn : N ≤ N') : GoodP N' ps := ⟨h.ky, fun p hp => (h.ok p hp).mono hn, h.nd⟩
end Dv.U
namespace Dv.U
open PySem L2 PyProof.Rows
theorem flatten_mem {α : Type} {n : Nat} {ls : List α} {x : α} (h : x ∈ (List.replicate n ls).flatten) : x ∈ ls := by
  obtain ⟨y, hy, hx⟩ := List.mem_flatten.mp h
  rw [(List.mem_replicate.mp hy).2] at hx
  exact hx
theorem flatten_len {α : Type} {n : Nat} {ls : List α} : (List.replicate n ls).flatten.length = n * ls.length := by
  induction n with
  | zero => simp
  | succ n ih => rw [List.replicate_succ, List.flatten_cons, List.length_append, ih, Nat.succ_mul, Nat.add_comm]
end Dv.U
namespace Dv.U
open PySem L2 PyProof.Rows
/-! ### law 38: one table led -/
theorem Ldr.of {f : Fl} (v : VF f) {ls qs : List (List Nat)} (hq : Ldr f qs) (h : Ldr (Dv.plF f qs) ls) : Ldr f ls := fun l hl => by
  obtain ⟨_, b2, _, _⟩ := plF_ok qs v fun x hx => (hq x hx).1
  exact ⟨b2.mem_iff.mp (h l hl).1, (h l hl).2⟩
end Dv.U
namespace Dv.U
open PySem L2 PyProof.Rows
end Dv.U
namespace Dv.U
open PySem L2 PyProof.Rows
/-! ### law 38: two tables -/
/-- what one table and the floors kept for it hold, for the keys that are placed -/
structure Kept (N : Nat) (ks : List Str) (ps fs : List (Str × PyData)) : Prop where
  k1 : ps.map Prod.fst = ks
  k2 : fs.map Prod.fst = ks
  ok : ∀ k ∈ ks, ∃ f h u, valP fs k = some (flD f) ∧ VF f ∧ Ldr f h ∧ Ldr f u ∧ valP ps k = some (entD (plF f h) h u) ∧ h.length + u.length ≤ N
theorem valP_none {ps : List (Str × PyData)} {k : Str} (h : k ∉ ps.map Prod.fst) : (ps.any fun p => decide (p.1 = k)) = false := by
  refine Bool.eq_false_iff.mpr fun e => ?_
  obtain ⟨p, hp, e2⟩ := List.any_eq_true.mp e
  exact h (List.mem_map.mpr ⟨p, hp, of_decide_eq_true e2⟩)
/-- a new key -/
theorem Kept.new {N : Nat} {ks : List Str} {ps fs : List (Str × PyData)} (g : Kept N ks ps fs) {k : Str} (hk : k ∉ ks) {f : Fl} (v : VF f) : Kept N (ks ++ [k]) (putP ps k (entD f [] [])) (putP fs k (flD f)) where
  k1 := by unfold putP; rw [if_neg (by rw [valP_none (by rw [g.k1]; exact hk)]; exact Bool.false_ne_true), List.map_append, g.k1]; rfl
  k2 := by unfold putP; rw [if_neg (by rw [valP_none (by rw [g.k2]; exact hk)]; exact Bool.false_ne_true), List.map_append, g.k2]; rfl
  ok := fun z hz => by
    by_cases e : z = k
    · subst e
      exact ⟨f, [], [], by rw [valP_put, if_pos rfl], v, (fun _ h => nomatch h), (fun _ h => nomatch h), by rw [valP_put, if_pos rfl]; rfl, Nat.zero_le _⟩
    · have hz' : z ∈ ks := by
        rcases List.mem_append.mp hz with h | h
        · exact h
        · exact absurd (List.mem_singleton.mp h) e
      obtain ⟨f0, h0, u0, h1, h2, h3, h4, h5, h6⟩ := g.ok z hz'
      exact ⟨f0, h0, u0, by rw [valP_put, if_neg e]; exact h1, h2, h3, h4, by rw [valP_put, if_neg e]; exact h5, h6⟩
end Dv.U
namespace Dv.U
open PySem L2 PyProof.Rows
end Dv.U
namespace Dv.U
open PySem L2 PyProof.Rows
/-! find_route as it does not raise, by a name of its own here -/
end Dv.U
namespace Dv
open PySem L2 PyProof.Rows
/-! ### the effect of moves makes of a floor what the moves make of it: mathematics -/
/-- the permutation that exchanges with the gap give -/
def exG (us L : List Str) : List (Str × Str) := srtQ (us.map fun y => (srcF id L y, y))
/-! lines by their labels -/
end Dv
namespace Dv.U
open PySem L2 PyProof.Rows
/-! ### effects of moves -/
section
variable {K : PySem.W.Frag} {Pg : Program} {w : World} {m : Sto} {P : PV} {ρ : Rho}
def rwL (fl : Fl) (ls : List (List Nat)) : List Str := ls.map fun l => Sx (labL fl l)
end
end Dv.U
namespace Dv
open PySem L2 PyProof.Rows
/-! ### a, b = x, y with plain names; name = {..} on one line -/
end Dv
namespace Dv
open PySem L2 PyProof.Rows
/-! ### the first wrong position of anything -/
abbrev rowAt (fl : List (List (List Nat))) (i : Nat) : List (List Nat) := fl.getD i []
def wide (fl : List (List (List Nat))) (i : Nat) : Nat := max (rowAt fl i).length (rowAt fl 0).length
end Dv
namespace Dv
open PySem L2 PyProof.Rows
/-! ### texts -/
def line (r : List (List Nat)) : Str := Txt.join " " (r.map Sx)
/-! ### texts taken apart -/
end Dv
namespace Dv
open PySem L2 PyProof.Rows
/-! ### pairs of labels as data -/
/-! ### texts -/
end Dv
namespace Dv
open PySem L2 PyProof.Rows
section
variable {K : PySem.W.Frag} {Pg : Program} {w : World} {m : Sto} {mg : Str → Option Value}
/-! the effects -/
def eF (qs rs : List (Str × Str)) : DFl := [("rows", .tuple (qs.map pqD)), ("columns", .tuple (rs.map pqD))]
def EfA (CF : Addr) (m : Sto) (a : Addr) (qs rs : List (Str × Str)) : Prop := ∃ dx, m a = some (.ins CF dx (eF qs rs))
end
end Dv
namespace Dv
open PySem L2 PyProof.Rows
/-! ### two images exchanged -/
/-! ### the list of lists -/
end Dv
namespace Dv
open PySem L2 PyProof.Rows
abbrev Prs := List (Str × Str)
end Dv
namespace Dv
open PySem L2 PyProof.Rows
/-! ### powers -/
def per : Nat := 6227020800
section
variable {α : Type} [DecidableEq α]
def pw (f : α → α) (c : Int) (z : α) : α := it f (c % (per : Int)).toNat z
end
/-! ### on lists of pairs -/
end Dv
namespace Dv
open PySem L2 PyProof.Rows
/-! ### methods that are called by name -/
end Dv
namespace Dv
open PySem L2 PyProof.Rows
end Dv
namespace Dv.U
open PySem L2 PyProof.Rows
/-! ### tokens -/
/-! ### counts -/
end Dv.U
namespace Dv.U
open PySem L2 PyProof.Rows
end Dv.U
namespace Dv.U
open PySem L2 PyProof.Rows
/-! ### the script is read -/
end Dv.U
namespace Dv.U
open PySem L2 PyProof.Rows
/-! ### names that are no leaders, raised -/
abbrev nameU (l : List Nat) : Option Flds := some (["name"], [.str (Sx l)])
/-- the first name that is no leader: true where it is not on the floor -/
def bads (fl : Fl) : List (List Nat) → Option (Bool × List Nat)
  | [] => none
  | l :: r => if l ∉ fl.flatten then some (true, l) else if upN l = false then some (false, l) else bads fl r
theorem bads_cons (fl : Fl) (l : List Nat) (r : List (List Nat)) : bads fl (l :: r) = if l ∉ fl.flatten then some (true, l) else if upN l = false then some (false, l) else bads fl r := rfl
theorem bads_none {fl : Fl} : ∀ {ls : List (List Nat)}, bads fl ls = none → Ldr fl ls
  | [], _ => fun l h => nomatch h
  | l :: r, h => by
    rw [bads_cons] at h
    by_cases h1 : l ∉ fl.flatten
    · rw [if_pos h1] at h; cases h
    · rw [if_neg h1] at h
      by_cases h2 : upN l = false
      · rw [if_pos h2] at h; cases h
      · rw [if_neg h2] at h
        intro x hx
        rcases List.mem_cons.mp hx with e | hx
        · rw [e]; exact ⟨Classical.not_not.mp h1, by simpa using h2⟩
        · exact bads_none h x hx
theorem bads_of {fl : Fl} : ∀ {ls : List (List Nat)}, Ldr fl ls → bads fl ls = none
  | [], _ => rfl
  | l :: r, h => by
    obtain ⟨a, b⟩ := h l List.mem_cons_self
    rw [bads_cons, if_neg (fun q => q a), if_neg (by rw [b]; simp)]
    exact bads_of fun x hx => h x (List.mem_cons_of_mem _ hx)
section
variable {K : PySem.W.Frag} {Pg : Program} {w : World} {m : Sto}
theorem raise_nameU {ρ : Rho} {m : Sto} {k : Ko} {X : Xv} {C : Addr} {l : List Nat} {i : Nat} (h : ρ[i]? = some (some (.d (nmD l)))) (x : X ρ C (nameU l) m) : WpW K (fun W _ σ H => tMkO C (spIni C ["name"]) [] (tCons (tVar i) tNil) σ H fun cls d H' => W cls d σ H') ρ m k X :=
  wpw_raise <| ea_cons <| ev_var h <| ea_nil ⟨[.str (Sx l)], rfl, rfl, by simp, x⟩
def WX_locate (CU : Addr) : WTX := fun ss m P Y => ∃ (fl : Fl) (l : List Nat), ss = [.d (flD fl), .d (nmD l)] ∧ VF fl ∧ Tx l ∧ (∀ i j, At fl i j l → P (.d (prD (i, j))) m) ∧ (l ∉ fl.flatten → Y CU (nameU l) m)
def t_locate (K : PySem.W.Frag) (Pg : Program) (w : World) (CU : Addr) (W : WX) : TS :=
  (tSeq (tFor (iEnumU K (tCons (tVar 0) tNil)) (gTup K 2 (gCons (gName 2) (gCons (gName 3) gNil)))
    (tIfS (tTest (tOp (rInU K Pg w) (tVar 1) (tVar 3)))
    (tRet (tTupZ (tCons (tVar 2) (tCons (tTM K (rTIx K) (tVar 3) (tVar 1)) tNil))))
    tNext))
    (fun _ σ H => tMkO CU (spIni CU ["name"]) [] (tCons (tVar 1) tNil) σ H fun cls d H' => W cls d σ H'))
theorem rd_locate (CU : Addr) (ss : List Sl) (m : Sto) (P : PV) (Y : Addr → Option Flds → Sto → Prop) (h : WX_locate CU ss m P Y) : WpW K (t_locate K Pg w CU) (rho ["floor", "name", "row", "names"] ss) m { nx := fun _ m' => P (.d .none) m', rt := P } (fun _ => Y) := by
  obtain ⟨fl, l, rfl, v, hT, p, y⟩ := h
  have hS := v.short
  refine wpw_seq <| wpw_of <| wp_enum (toD := rwD) <| ea_cons <| ev_var rfl <| ea_nil ⟨fl, fun k ρ' m' => ∃ s2 s3, ρ' = [some (.d (flD fl)), some (.d (nmD l)), s2, s3] ∧ m' = m ∧ l ∉ (fl.take k).flatten, rfl, ⟨_, _, rfl, rfl, by simp⟩, ?_, ?_⟩
  · rintro k rk ρ' m' hk ⟨s2, s3, rfl, rfl, hn⟩
    have hmk : rk ∈ fl := List.mem_of_getElem? hk
    refine wp_if <| et_test <| ev_op <| ev_var rfl <| ev_var rfl <| ri_tup (shaped_str hT) (shaped_names fun l hl => (hS.2 rk hmk).2 l hl).1 ⟨_, rfl, ite_b (fun h1 => ?_) (fun h1 => wp_next ⟨_, _, rfl, rfl, ?_⟩)⟩
    · rw [anyEq_names] at h1
      have hm : l ∈ rk := of_decide_eq_true h1
      obtain ⟨j, hj⟩ := List.mem_iff_getElem?.mp hm
      refine wp_ret <| ev_tup <| ea_cons <| ev_var rfl <| ea_cons <| ev_tm <| ev_var rfl ⟨_, rfl, ev_var rfl ?_⟩
      rw [nms_str]
      refine rm_tindex (j := j) (by rw [List.getElem?_map, hj]; rfl) (fun a ha q => ?_) <| ea_nil ⟨[.int (k : Nat), .int (j : Nat)], rfl, by simp, p k j ⟨rk, hk, hj⟩⟩
      rw [List.getElem?_map] at q
      cases hq : rk[a]? with
      | none => rw [hq] at q; cases q
      | some x =>
        rw [hq] at q
        have : x = l := sx_inj (Option.some.inj q)
        subst this
        exact first_at v.nd hk hj a ha hq
    · rw [anyEq_names] at h1
      rw [take_flat hk, List.mem_append]
      rintro (q | q)
      · exact hn q
      · exact of_decide_eq_false h1 q
  · rintro ρ' m' ⟨s2, s3, rfl, rfl, hn⟩
    rw [List.take_length] at hn
    exact raise_nameU rfl (y hn)
def WX_locate_leader (CU CN : Addr) : WTX := fun ss m P Y => ∃ (fl : Fl) (l : List Nat), ss = [.d (flD fl), .d (nmD l)] ∧ VF fl ∧ Tx l ∧ (∀ i j, At fl i j l → upN l = true → P (.d (prD (i, j))) m) ∧ (l ∉ fl.flatten → Y CU (nameU l) m) ∧ (l ∈ fl.flatten → upN l = false → Y CN (nameU l) m)
def t_locate_leader (K : PySem.W.Frag) (Pg : Program) (w : World) (CU : Addr) (CN : Addr) (W : WX) : TS :=
  (tSeq (tAsg (tCallS (SpX K (WX_locate CU)) (WE W) (tCons (tVar 0) (tCons (tVar 1) tNil))) (gName 2))
    (tSeq (tIfS (tNot (tTr K (tCall (SpD K W_is_leader) [] E0 (tCons (tVar 1) tNil))))
    (fun _ σ H => tMkO CN (spIni CN ["name"]) [] (tCons (tVar 1) tNil) σ H fun cls d H' => W cls d σ H')
    tNext)
    (tRet (tVar 2))))
theorem rd_locate_leader (CU : Addr) (CN : Addr) (ss : List Sl) (m : Sto) (P : PV) (Y : Addr → Option Flds → Sto → Prop) (h : WX_locate_leader CU CN ss m P Y) : WpW K (t_locate_leader K Pg w CU CN) (rho ["floor", "name", "place"] ss) m { nx := fun _ m' => P (.d .none) m', rt := P } (fun _ => Y) := by
  obtain ⟨fl, l, rfl, v, hT, p, y, z⟩ := h
  refine wpw_seq <| wpw_set <| evw_call <| ea_cons <| ev_var rfl <| ea_cons <| ev_var rfl <| ea_nil ⟨fl, l, rfl, v, hT, fun i j hat => ?_, y⟩
  obtain ⟨r, hr, hl⟩ := List.mem_flatten.mp hat.mem
  have hne := (v.named r hr l hl).1
  cases l with
  | nil => exact absurd rfl hne
  | cons c t =>
  have ht : t.length ≤ 2000 := by have := hT.1; simp at this; omega
  refine wpw_seq <| wpw_if <| et_not <| et_tr <| ev_call0 <| ea_cons <| ev_var rfl <| ea_nil ⟨c, t, rfl, ht, _, tr_bool, ite_b (fun h1 => ?_) (fun h1 => ?_)⟩
  · exact raise_nameU rfl (z hat.mem (by show isUp c = false; simpa using h1))
  · exact wpw_of <| wp_next <| wpw_ret <| evw_of <| ev_var rfl <| p i j hat (by show isUp c = true; simpa using h1)
def WX_check_leaders (CU CN : Addr) : WTX := fun ss m P Y => ∃ (fl : Fl) (ls : List (List Nat)) (b : Bool), ss = [.d (flD fl), .d (sqB b (ls.map nmD))] ∧ VF fl ∧ (∀ l ∈ ls, Tx l) ∧
  (∀ l, bads fl ls = some (true, l) → Y CU (nameU l) m) ∧ (∀ l, bads fl ls = some (false, l) → Y CN (nameU l) m) ∧ (bads fl ls = none → P (.d .none) m)
def t_check_leaders (K : PySem.W.Frag) (Pg : Program) (w : World) (CU : Addr) (CN : Addr) (W : WX) : TS :=
  (tFor (iSeqU K (tVar 1)) (gName 2)
    (tDrop (tCallS (SpX K (WX_locate_leader CU CN)) (WE W) (tCons (tVar 0) (tCons (tVar 2) tNil)))))
theorem rd_check_leaders (CU : Addr) (CN : Addr) (ss : List Sl) (m : Sto) (P : PV) (Y : Addr → Option Flds → Sto → Prop) (h : WX_check_leaders CU CN ss m P Y) : WpW K (t_check_leaders K Pg w CU CN) (rho ["floor", "names", "name"] ss) m { nx := fun _ m' => P (.d .none) m', rt := P } (fun _ => Y) := by
  obtain ⟨fl, ls, b, rfl, v, hT, y, z, p⟩ := h
  refine wpw_for <| ei_sqB b <| ev_var rfl ⟨_, rfl, fun i ρ' m' => ∃ s2, ρ' = [some (.d (flD fl)), some (.d (sqB b (ls.map nmD))), s2] ∧ m' = m ∧ bads fl ls = bads fl (ls.drop i), ⟨_, rfl, rfl, rfl⟩, fun _ _ _ _ => trivial, ?_, ?_⟩
  · rintro i x ρ' m' hx ⟨s2, rfl, rfl, hb⟩
    rw [List.getElem?_map, List.getElem?_map] at hx
    cases hli : ls[i]? with
    | none => rw [hli] at hx; cases hx
    | some l =>
    rw [hli] at hx
    cases hx
    have hlm := List.mem_of_getElem? hli
    have hdr : ls.drop i = l :: ls.drop (i + 1) := by
      obtain ⟨h1, h2⟩ := List.getElem?_eq_some_iff.mp hli
      rw [List.drop_eq_getElem_cons h1, h2]
    rw [hdr, bads_cons] at hb
    refine ⟨[2], gt_name ?_⟩
    refine wpw_drop <| evw_call <| ea_cons <| ev_var rfl <| ea_cons <| ev_var rfl <| ea_nil ⟨fl, l, rfl, v, hT l hlm, fun i' j' hat hu => ?_, fun hn => ?_, fun hm hu => ?_⟩
    · rw [if_neg (fun q => q hat.mem), if_neg (by rw [hu]; simp)] at hb
      exact ⟨_, rfl, rfl, hb⟩
    · rw [if_pos hn] at hb
      exact y l hb
    · rw [if_neg (fun q => q hm), if_pos hu] at hb
      exact z l hb
  · rintro ρ' m' ⟨s2, rfl, rfl, hb⟩
    rw [List.length_map, List.length_map, List.drop_length] at hb
    exact p hb
end
end Dv.U
namespace Dv.U
open PySem L2 PyProof.Rows
/-! ### methods that raise, without a keyword-only parameter -/
/-! ### the table's methods, where they may raise -/
section
variable {K : PySem.W.Frag} {Pg : Program} {w : World}
theorem q_locate_leader7 (CU CN : Addr) : ∀ ss m P, W_locate_leader7 ss m P → WX_locate_leader CU CN ss m P fun _ _ _ => False := fun ss m P ⟨fl, i, j, l, e, v, hat, hu, p⟩ => by
  refine ⟨fl, l, e, v, ?_, fun i' j' hat' _ => ?_, fun h => absurd hat.mem h, fun _ h => by rw [hu] at h; cases h⟩
  · obtain ⟨r, hr, h2⟩ := List.mem_flatten.mp hat.mem
    exact okL_tx (v.ok r hr l h2)
  · obtain ⟨rfl, rfl⟩ := at_one v.nd hat hat'
    exact p
def WX_playX (CU CN : Addr) : WTX := fun ss m P Y => ∃ (fl : Fl) (ls : List (List Nat)) (b : Bool), ss = [.d (flD fl), .d (nmsD ls), .d (.bool b)] ∧ VF fl ∧ (∀ l ∈ ls, Tx l) ∧
  (∀ l, bads fl ls = some (true, l) → Y CU (nameU l) m) ∧ (∀ l, bads fl ls = some (false, l) → Y CN (nameU l) m) ∧ (bads fl ls = none → P (.d (flD (plF fl (if b = true then ls.reverse else ls)))) m)
def t_playX (K : PySem.W.Frag) (Pg : Program) (w : World) (CU CN : Addr) (W : WX) : TS :=
  (tSeq (tDrop (tCallS (SpX K (WX_check_leaders CU CN)) (WE W) (tCons (tVar 0) (tCons (tVar 1) tNil))))
    (tSeq (tAsg (tVar 0) (gName 3))
    (tSeq (tFor (iSeqU K (tIf (tTr K (tVar 2)) (tRevT K (tVar 1)) (tVar 1))) (gName 4)
    (tAsg (tCall (SpD K W_cross7) [] E0 (tCons (tVar 3) (tCons (tVar 4) tNil))) (gName 3)))
    (tRet (tVar 3)))))
theorem rd_playX (CU CN : Addr) (ss : List Sl) (m : Sto) (P : PV) (Y : Addr → Option Flds → Sto → Prop) (h : WX_playX CU CN ss m P Y) : WpW K (t_playX K Pg w CU CN) (rho ["floor", "names", "reverse", "played", "name"] ss) m { nx := fun _ m' => P (.d .none) m', rt := P } (fun _ => Y) := by
  obtain ⟨fl, ls, b, rfl, v, hT, y1, y2, p⟩ := h
  refine wpw_seq <| wpw_drop <| evw_call <| ea_cons <| ev_var rfl <| ea_cons <| ev_var rfl <| ea_nil ⟨fl, ls, true, rfl, v, hT, y1, y2, fun hb => wpw_of ?_⟩
  have p := p hb
  have hl := bads_none hb
  refine wp_seq <| wp_set <| ev_var rfl ?_
  generalize hq : (if b = true then ls.reverse else ls) = qs at p
  have hl' : Ldr fl qs := by
    rw [← hq]
    split
    · exact hl.rev
    · exact hl
  refine wp_seq <| wp_forL (toD := nmD) <| ei_tup <| ev_if <| et_tr <| ev_var rfl ⟨b, tr_bool, ?_⟩
  have fin : ∃ (ys : List (List Nat)) (Iv : Nat → Rho → Sto → Prop), (qs.map nmD).map Sl.d = (ys.map nmD).map Sl.d ∧ Iv 0 [some (.d (flD fl)), some (.d (nmsD ls)), some (.d (.bool b)), some (.d (flD fl)), none] m ∧ (∀ i ρ' m', Iv i ρ' m' → Any m') ∧
      (∀ i y ρ' m', ys[i]? = some y → Iv i ρ' m' → Wp K (tAsg (tCall (SpD K W_cross7) [] E0 (tCons (tVar 3) (tCons (tVar 4) tNil))) (gName 3)) (ρ'.set 4 (some (.d (nmD y)))) m' { nx := Iv (i + 1), ct := Iv (i + 1), bk := fun ρ' m' => Wp K (tRet (tVar 3)) ρ' m' { nx := fun _ m' => P (.d .none) m', rt := P }, rt := P }) ∧
      ∀ ρ' m', Iv ys.length ρ' m' → Wp K (tRet (tVar 3)) ρ' m' { nx := fun _ m' => P (.d .none) m', rt := P } := by
    refine ⟨qs, fun k ρ' m' => ∃ s4, ρ' = [some (.d (flD fl)), some (.d (nmsD ls)), some (.d (.bool b)), some (.d (flD (plF fl (qs.take k)))), s4] ∧ m' = m, rfl, ⟨_, rfl, rfl⟩, fun _ _ _ _ => trivial, ?_, ?_⟩
    · rintro k l ρ' m' hk ⟨s4, rfl, rfl⟩
      obtain ⟨h1, h2⟩ := hl' l (List.mem_of_getElem? hk)
      obtain ⟨b1, b2, _, _⟩ := plF_ok (qs.take k) v fun x hx => (hl' x (List.mem_of_mem_take hx)).1
      refine wp_set <| ev_call0 <| ea_cons <| ev_var rfl <| ea_cons <| ev_var rfl <| ea_nil ⟨_, l, rfl, b1, b2.mem_iff.mpr h1, h2, some (.d (nmD l)), ?_, rfl⟩
      have e : plF fl (qs.take (k + 1)) = crX (plF fl (qs.take k)) l := by
        rw [List.take_add_one, hk]
        exact plF_app fl _ [l]
      rw [e]
      rfl
    · rintro ρ' m' ⟨s4, rfl, rfl⟩
      rw [List.take_length]
      exact wp_ret <| ev_var rfl p
  refine ite_b (fun q => ?_) (fun q => ?_)
  · rw [if_pos q] at hq
    refine ev_revT <| ev_var rfl ⟨_, rfl, _, rfl, ?_⟩
    rw [← List.map_reverse, hq]
    exact fin
  · rw [if_neg (by rw [q]; exact Bool.false_ne_true)] at hq
    subst hq
    exact ev_var rfl ⟨_, rfl, fin⟩
end
end Dv.U
namespace Dv.U
open PySem L2 PyProof.Rows
end Dv.U
namespace Dv.U
open PySem L2 PyProof.Rows
end Dv.U
namespace Dv
open PySem L2 PyProof.Rows
/-! ### a dict of objects, a stack of objects -/
end Dv
namespace Dv
open PySem L2 PyProof.Rows
open PySem.W (dataLe)
/-! ### sorted(set(names)), names a list: all the names, in order -/
end Dv
namespace Dv.U
open PySem L2 PyProof.Rows
/-! ### effects of scripts -/
abbrev PP := Prs × Prs
def exP (fl : Fl) (ls : List (List Nat)) : PP := (exG (ringS fl) (rwL fl ls), exG (ringS (colsL fl)) (rwL (colsL fl) ls))
def OkP (fl : Fl) (p : PP) : Prop := VP p.1 ∧ VP p.2 ∧ labs p.1 = labs (exP fl []).1 ∧ labs p.2 = labs (exP fl []).2
end Dv.U
namespace Dv.U
open PySem L2 PyProof.Rows
/-! ### the effect of the parts of a script -/
def Ext (m m' : Sto) : Prop := ∀ b u, m b = some u → m' b = some u
theorem Ext.refl {m : Sto} : Ext m m := fun _ _ h => h
theorem Ext.trans {a b c : Sto} (h : Ext a b) (k : Ext b c) : Ext a c := fun x u q => k x u (h x u q)
theorem Ext.new {m m' : Sto} {x : Addr} (h : Ext m m') (hx : m' x = none) (u : Mu) : Ext m (put m' x u) := fun b v q => by
  have := h b v q
  rw [put_ne (fun e => by rw [e, hx] at this; cases this)]
  exact this
theorem efa_ext {CEf : Addr} {m m' : Sto} {a : Addr} {q r : Prs} (h : EfA CEf m a q r) (e : Ext m m') : EfA CEf m' a q r := let ⟨dx, k⟩ := h; ⟨dx, e a _ k⟩
/-- objects on a stack, the top first -/
def StkR (CEf : Addr) (m : Sto) (ras : List Addr) (stk : List PP) : Prop := Paired (fun a (p : PP) => EfA CEf m a p.1 p.2) ras stk
theorem StkR.mono {CEf : Addr} {m m' : Sto} {ras : List Addr} {stk : List PP} (h : StkR CEf m ras stk) (k : ∀ a q r, EfA CEf m a q r → EfA CEf m' a q r) : StkR CEf m' ras stk := Paired.mapP h fun _ _ z => k _ _ _ z
def opS (o : Bool) : Str := if o = true then "~(" else "("
def opD (o : Bool) : PyData := .str (opS o)
end Dv.U
namespace Dv.U
open PySem L2 PyProof.Rows
section
variable {K : PySem.W.Frag} {Pg : Program} {w : World} {m : Sto}
/-- what stands at a turn -/
structure At5 (CEf : Addr) (fl : Fl) (m4 : Sto) (L O : Addr) (m' : Sto) (ras : List Addr) (stk : List PP) (ops : List Bool) : Prop where
  keep : ∀ b u, b ≠ L → b ≠ O → m4 b = some u → m' b = some u
  l : m' L = some (.refs ras.reverse)
  o : m' O = some (.lst (ops.reverse.map opD))
  st : StkR CEf m' ras stk
  len : stk.length = ops.length + 1
  ok : ∀ p ∈ stk, OkP fl p
theorem At5.ext {CEf : Addr} {fl : Fl} {m4 : Sto} {L O : Addr} {m' m2 : Sto} {ras : List Addr} {stk : List PP} {ops : List Bool} (h : At5 CEf fl m4 L O m' ras stk ops) (e : Ext m' m2) : At5 CEf fl m4 L O m2 ras stk ops :=
  ⟨fun b u h1 h2 h3 => e b u (h.keep b u h1 h2 h3), e _ _ h.l, e _ _ h.o, h.st.mono fun a q r k => efa_ext k e, h.len, h.ok⟩
theorem At5.ne {CEf : Addr} {fl : Fl} {m4 : Sto} {L O : Addr} {m' : Sto} {ras : List Addr} {stk : List PP} {ops : List Bool} (h : At5 CEf fl m4 L O m' ras stk ops) : L ≠ O := fun e => by
  have a := h.l
  rw [e, h.o] at a
  cases a
end
end Dv.U
namespace Dv.U
open PySem L2 PyProof.Rows
/-! ### an effect applied, the period of a ring -/
end Dv.U
namespace Dv.U
open PySem L2 PyProof.Rows
end Dv.U
namespace Dv.U
open PySem L2 PyProof.Rows
/-! ### xs[i] += e -/
def BB : Nat := 1000000000000000000
/-- the bound by the depth: the top is at depth d; n tokens in all -/
def Bnd : Nat → Nat → List Nat → Prop
  | _, _, [] => True
  | n, d, a :: r => ∃ k j, k + j ≤ n ∧ a ≤ k * BB ^ (7 - d) ∧ Bnd j (d - 1) r
theorem Bnd.cons {n d a : Nat} {r : List Nat} : Bnd n d (a :: r) ↔ ∃ k j, k + j ≤ n ∧ a ≤ k * BB ^ (7 - d) ∧ Bnd j (d - 1) r := Iff.rfl
theorem bb_one {n : Nat} (h : 0 < n) : BB ≤ BB ^ n := by
  have := Nat.pow_le_pow_right (show 0 < BB by decide) h
  rwa [Nat.pow_one] at this
theorem Bnd.nm {n d c a : Nat} {r : List Nat} (h : Bnd n d (a :: r)) (hd : d ≤ 6) (hc : c ≤ BB) : Bnd (n + 1) d ((a + c) :: r) := by
  obtain ⟨k, j, h1, h2, h3⟩ := h
  refine ⟨k + 1, j, by omega, ?_, h3⟩
  have := bb_one (n := 7 - d) (by omega)
  rw [Nat.add_mul, Nat.one_mul]
  omega
theorem Bnd.cl {n d c a b : Nat} {r : List Nat} (h : Bnd n d (a :: b :: r)) (hd : d ≤ 6) (h0 : 0 < d) (hc : c ≤ BB) : Bnd (n + 1) (d - 1) ((b + a * c) :: r) := by
  obtain ⟨k, j, h1, h2, k2, j2, h3, h4, h5⟩ := h
  refine ⟨k + k2, j2, by omega, ?_, h5⟩
  have e : 7 - (d - 1) = (7 - d) + 1 := by omega
  rw [e, Nat.pow_succ] at h4 ⊢
  have h6 : a * c ≤ (k * BB ^ (7 - d)) * BB := Nat.mul_le_mul h2 hc
  rw [Nat.mul_assoc] at h6
  rw [Nat.add_mul]
  omega
end Dv.U
namespace Dv.U
open PySem L2 PyProof.Rows
/-! ### a walk over what may raise -/
end Dv.U
namespace Dv.U
open PySem L2 PyProof.Rows
/-! ### the law's own scripts -/
end Dv.U
namespace Dv.U
open PySem L2 PyProof.Rows
/-! ### law 37: the law's own defs -/
end Dv.U
namespace Dv.Q
open PySem L2 PyProof.Rows
end Dv.Q
namespace Dv.U
open PySem L2 PyProof.Rows
open Dv.Q (gf_zz)
theorem gf_z6 {R C : Nat} {fl : Fl} (g : GF R C fl) : ([122, 122, 122, 122, 122, 122] : List Nat) ∉ fl.flatten := gf_zz g
/-! ### a twinned floor has no item zzzzzz -/
theorem low_z6 {R C : Nat} {fl : Fl} (g : GF R C fl) {l : List Nat} (hl : l ∈ fl.flatten) : lowN l ≠ [122, 122, 122, 122, 122, 122] := fun e0 => by
  obtain ⟨st, sh, hst, hf⟩ := g.form
  obtain ⟨r, hr, hl⟩ := List.mem_flatten.mp hl
  obtain ⟨nu, e⟩ := hf r hr _ hl
  rw [e0] at e
  unfold nmL at e
  split at e
  · split at e <;> simp at e
  · simp at e
  · simp at e
  · simp at e
  · have := congrArg List.length e
    simp at this
    omega
  · simp at e
theorem z6_twin {R C : Nat} {fl : Fl} (g : GF R C fl) {c : Nat} {t o : List Nat} (hl : (c :: t) ∈ fl.flatten) (hu : isUp c = true) : ([122, 122, 122, 122, 122, 122] : List Nat) ∉ (fl.map fun r => r.map (twin o ((c + 32) :: t))).flatten := fun h => by
  obtain ⟨r', hr', h2⟩ := List.mem_flatten.mp h
  obtain ⟨r, hr, rfl⟩ := List.mem_map.mp hr'
  obtain ⟨l, hlr, e⟩ := List.mem_map.mp h2
  unfold twin at e
  split at e
  · have hlow : isUp (c + 32) = false := by simp [isUp] at hu ⊢; omega
    have elow : lowN ((c + 32) :: t) = lowN (c :: t) := by simp only [lowN, hlow, hu, if_pos]; rw [if_neg Bool.false_ne_true]
    rw [e] at elow
    have e0 : lowN [122, 122, 122, 122, 122, 122] = [122, 122, 122, 122, 122, 122] := by decide
    rw [e0] at elow
    exact low_z6 g hl elow.symm
  · exact gf_z6 g (by rw [← e]; exact List.mem_flatten.mpr ⟨r, hr, hlr⟩)
section
variable {K : PySem.W.Frag} {Pg : Program} {w : World}
def W_twinnedZ : WT := fun ss m P => ∃ (a : Addr) (R C : Nat) (fl : List (List (List Nat))) (u : List PyData) (n : Nat), ss = [.m a, .d (flD fl)] ∧ GF R C fl ∧ m a = some (.lst u) ∧ SrcL u n ∧ n ≤ 400000 ∧
  ∀ fl' u', VF fl' → ([122, 122, 122, 122, 122, 122] : List Nat) ∉ fl'.flatten → SrcL u' (n + 3) → P (.d (flD fl')) (put m a (.lst u'))
theorem rd_twinnedZ (ss : List Sl) (m : Sto) (P : PV) (h : W_twinnedZ ss m P) : Wp K (t_twinned K Pg w) (rho ["source", "floor", "leaders", "others", "cells", "leader", "other", "twin", "name"] ss) m { nx := fun _ m' => P (.d .none) m', rt := P } := by
  obtain ⟨a, R, C, fl, u, n, rfl, g, hm, hu, hn, p⟩ := h
  have v := g.vf
  have hS := v.short
  have hN := v.named
  refine wp_seq <| wp_set <| ev_call0 <| ea_cons <| ev_var rfl <| ea_nil ⟨fl, rfl, hN, hS, fun ys hys _ => ?_⟩
  obtain ⟨zs, hzs, rfl⟩ := perm_map (f := Sx) hys rfl
  rw [← nms_str]
  have hzm : ∀ l, l ∈ zs ↔ (l ∈ fl.flatten ∧ upN l = true) := fun l => by rw [hzs.mem_iff, List.mem_filter]
  have hzT : ∀ l ∈ zs, Tx l := fun l hl => by
    obtain ⟨r, hr, h2⟩ := List.mem_flatten.mp ((hzm l).mp hl).1
    exact (hN r hr l h2).2
  refine wp_seq <| wp_set <| ev_lst <| ea_nil ⟨[], rfl, by simp, wp_seq <| wp_forL (toD := rwD) <| ei_tup <| ev_var rfl ⟨_, rfl, fl, fun i ρ' m' => ∃ s4, ρ' = [some (.m a), some (.d (flD fl)), some (.d (.list (zs.map nmD))), some (.d (.list (((fl.take i).flatten.filter fun l => !decide (l ∈ zs)).map nmD))), s4, none, none, none, none] ∧ m' = m, rfl, ⟨_, rfl, rfl⟩, fun _ _ _ _ => trivial, ?_, ?_⟩⟩
  · rintro i r ρ' m' hr ⟨s4, rfl, rfl⟩
    have hmr : r ∈ fl := List.mem_of_getElem? hr
    refine wp_set <| ev_op <| ev_var rfl <| ev_lcF (toD := nmD) List.mem_cons_self <| ei_tup <| ev_var rfl ⟨_, rfl, r, fun l => !decide (l ∈ zs), nmD, rfl, trivial, ?_, fun l hl => ⟨?_, fun _ => ev_var rfl ⟨rfl, rfl⟩⟩, ?_⟩
    · have := (hS.2 r hmr).1; omega
    · refine et_test <| ev_op <| ev_var rfl <| ev_var rfl <| rni_lst (shaped_str (hN r hmr l hl).2) (shaped_names hzT).2 ⟨_, rfl, ?_, rfl⟩
      rw [anyEq_names]
    · refine ra_lst ?_ ⟨some (.d (rwD r)), ?_, rfl⟩
      · have a1 := flat_len hS (fl.take i) fun r hr => List.mem_of_mem_take hr
        have a2 : (fl.take i).length ≤ 100 := by rw [List.length_take]; have := hS.1; omega
        have a3 := (hS.2 r hmr).1
        have a4 := List.length_filter_le (fun l => !decide (l ∈ zs)) (fl.take i).flatten
        have a5 := List.length_filter_le (fun l => !decide (l ∈ zs)) r
        rw [List.length_map, List.length_map]
        omega
      · rw [take_flat hr, List.filter_append, List.map_append]
        rfl
  rintro ρ' m' ⟨s4, rfl, rfl⟩
  rw [List.take_of_length_le (Nat.le_refl _)]
  have hos : ∀ l ∈ fl.flatten.filter (fun l => !decide (l ∈ zs)), l ∈ fl.flatten ∧ upN l = false := fun l hl => by
    obtain ⟨h1, h2⟩ := List.mem_filter.mp hl
    refine ⟨h1, ?_⟩
    have h3 : l ∉ zs := by simpa using h2
    rw [hzm] at h3
    cases hh : upN l with
    | false => rfl
    | true => exact absurd ⟨h1, hh⟩ h3
  have hol : (fl.flatten.filter fun l => !decide (l ∈ zs)).length ≤ 100000 := by
    have a1 := flat_len hS fl fun r hr => hr
    have a2 := hS.1
    have := List.length_filter_le (fun l => !decide (l ∈ zs)) fl.flatten
    omega
  have hzl : zs.length ≤ 100000 := by
    have a0 := hzs.length_eq
    have a1 := flat_len hS fl fun r hr => hr
    have a2 := hS.1
    have := List.length_filter_le upN fl.flatten
    omega
  revert hos hol
  generalize (fl.flatten.filter fun l => !decide (l ∈ zs)) = os
  intro hos hol
  have hoT : ∀ l ∈ os, Tx l := fun l hl => by
    obtain ⟨r, hr, h2⟩ := List.mem_flatten.mp (hos l hl).1
    exact (hN r hr l h2).2
  have keep : P (.d (flD fl)) m' := by
    have := p fl u v (gf_z6 g) (hu.mono (by omega))
    rw [put_self hm] at this
    exact this
  refine wp_seq <| wp_if <| et_or <| et_test <| ev_op <| ev_var rfl <| ev_lst <| ea_nil ⟨[], rfl, by simp, re_eq (shaped_names hzT).2 rfl ⟨_, rfl, ite_b (fun h1 => ?_) (fun h1 => ?_)⟩⟩
  · exact ite_b (fun _ => wp_ret <| ev_var rfl keep) (fun q => nomatch q)
  refine et_or <| et_test <| ev_op <| ev_var rfl <| ev_lst <| ea_nil ⟨[], rfl, by simp, re_eq (shaped_names hoT).2 rfl ⟨_, rfl, ite_b (fun h2 => ?_) (fun h2 => ?_)⟩⟩
  · exact ite_b (fun _ => wp_ret <| ev_var rfl keep) (fun q => nomatch q)
  refine et_test <| ev_op <| ev_call0 <| ea_cons <| ev_var rfl <| ea_cons <| ev_int <| ea_nil ⟨a, _, u, n, rfl, by decide, by decide, hm, hu, by omega, fun r0 u1 _ hu1 => ev_int <| rl_gt ⟨_, rfl, ite_b (fun _ => ?_) (fun _ => wp_next ?_)⟩⟩
  · exact wp_ret <| ev_var rfl <| p fl u1 v (gf_z6 g) (hu1.mono (by omega))
  rw [eqv_nil] at h1 h2
  have z0 : 0 < zs.length := by cases zs with
    | nil => cases h1
    | cons _ _ => simp
  have o0 : 0 < os.length := by cases os with
    | nil => cases h2
    | cons _ _ => simp
  refine wp_seq <| wp_set <| ev_op <| ev_var rfl <| ev_call0 <| ea_cons <| ev_var rfl <| ea_cons <| ev_cb <| ea_cons <| ev_var rfl <| ea_nil <| rc_lenL <| ea_nil ⟨a, _, u1, _, rfl, by rw [List.length_map]; omega, by rw [List.length_map]; omega, put_same, hu1, by omega, fun i u2 hi hu2 => ?_⟩
  rw [List.length_map] at hi
  have hil : i < zs.length := by omega
  refine rx_lst (atI_map rfl (List.getElem?_eq_getElem hil)) ?_
  rw [put_put]
  refine wp_seq <| wp_set <| ev_op <| ev_var rfl <| ev_call0 <| ea_cons <| ev_var rfl <| ea_cons <| ev_cb <| ea_cons <| ev_var rfl <| ea_nil <| rc_lenL <| ea_nil ⟨a, _, u2, _, rfl, by rw [List.length_map]; omega, by rw [List.length_map]; omega, put_same, hu2, by omega, fun j u3 hj hu3 => ?_⟩
  rw [List.length_map] at hj
  have hjl : j < os.length := by omega
  refine rx_lst (atI_map rfl (List.getElem?_eq_getElem hjl)) ?_
  rw [put_put]
  obtain ⟨lm, lu⟩ := (hzm _).mp (List.getElem_mem hil)
  have lT := hzT _ (List.getElem_mem hil)
  obtain ⟨om, ou⟩ := hos _ (List.getElem_mem hjl)
  have oT := hoT _ (List.getElem_mem hjl)
  generalize zs[i] = l at lm lu lT ⊢
  generalize os[j] = o at om ou oT ⊢
  cases l with
  | nil => cases lu
  | cons c t =>
  have hc : isUp c = true := lu
  have hl : (Sx (c :: t)).length ≤ 100000 := by rw [sx_len]; have := lT.1; omega
  refine wp_seq <| wp_set <| ev_op <| ev_m0 <| ev_op <| ev_var rfl <| ev_int <| rx_str hl atI_zero ⟨_, rfl, rm_lower (by rw [sx_len [c]]; simp) <| ev_sl <| ev_var rfl <| eo_some <| ev_int ⟨_, rfl, eo_no <| rz_str hl ?_⟩⟩
  show RO K (rAddU K) (.d (.str (Txt.lower (Sx [c])))) _ _ _
  rw [lower_up hc, cutS_tail]
  refine ra_str (by rw [sx_len, sx_len]; have := lT.1; simp at this ⊢; omega) ?_
  rw [sx_app]
  have tT : Tx ((c + 32) :: t) := by
    refine ⟨by have := lT.1; simpa using this, fun d hd => ?_⟩
    rcases List.mem_cons.mp hd with e | e
    · simp [isUp] at hc; omega
    · exact lT.2 d (List.mem_cons_of_mem _ e)
  refine wp_ret <| ev_cb <| ea_cons <| ev_lcF (toD := rwD) List.mem_cons_self <| ei_tup <| ev_var rfl ⟨_, rfl, fl, fun _ => true, fun r => rwD (r.map (twin o ((c + 32) :: t))), rfl, trivial, by have := hS.1; omega, fun r hr => ⟨et_yes ⟨rfl, rfl⟩, fun _ => ?_⟩, ?_⟩
  · refine ev_cb <| ea_cons <| ev_lcF (toD := nmD) List.mem_cons_self <| ei_tup <| ev_var rfl ⟨_, rfl, r, fun _ => true, fun l => nmD (twin o ((c + 32) :: t) l), rfl, trivial, by have := (hS.2 r hr).1; omega, fun l hl => ⟨et_yes ⟨rfl, rfl⟩, fun _ => ?_⟩, ?_⟩
    · refine ev_if <| et_test <| ev_op <| ev_var rfl <| ev_var rfl <| re_eq (shaped_str (hN r hr l hl).2) (shaped_str oT) ⟨_, rfl, ite_b (fun q => ev_var rfl ⟨?_, rfl⟩) (fun q => ev_var rfl ⟨?_, rfl⟩)⟩
      · rw [eqv_nm] at q
        exact congrArg (fun z => Sl.d (nmD z)) (if_pos (of_decide_eq_true q)).symm
      · rw [eqv_nm] at q
        exact congrArg (fun z => Sl.d (nmD z)) (if_neg (of_decide_eq_false q)).symm
    · refine ea_nil <| rc_tupleL ⟨?_, rfl⟩
      rw [List.filter_eq_self.mpr (fun _ _ => rfl)]
      show Sl.d (.tuple _) = .d (.tuple _)
      rw [List.map_map]
      rfl
  · refine ea_nil <| rc_tupleL ?_
    rw [List.filter_eq_self.mpr (fun _ _ => rfl)]
    have e : (fl.map fun r => rwD (r.map (twin o ((c + 32) :: t)))) = (fl.map fun r => r.map (twin o ((c + 32) :: t))).map rwD := by rw [List.map_map]; rfl
    rw [e]
    exact p _ u3 (g.twinned lm hc om ou) (z6_twin g lm hc) hu3
end
end Dv.U
namespace Dv.U
open PySem L2 PyProof.Rows
/-! ### law 23 -/
open Dv.Q (zz gf_zz)
end Dv.U
namespace Dv.U
open PySem L2 PyProof.Rows
open Dv.Q (zz zz_tx)
/-! ### law 37 -/
theorem bads_app {fl : Fl} {r : List (List Nat)} : ∀ {as : List (List Nat)}, Ldr fl as → bads fl (as ++ r) = bads fl r
  | [], _ => rfl
  | l :: as, h => by
    obtain ⟨h1, h2⟩ := h l List.mem_cons_self
    rw [List.cons_append, bads_cons, if_neg (fun q => q h1), if_neg (by rw [h2]; simp)]
    exact bads_app fun x hx => h x (List.mem_cons_of_mem _ hx)
theorem nx_lit37 {k : Nat} {z : Str} (l : List Nat) (h : z = Sx l) (h2 : Tx l) : Nx k 2000 (.str z) := by
  rw [h]
  exact nx_str h2
/-- what is due, compared with itself -/
def Eq37 (d : PyData) : Prop := SeqAt.shaped d = true ∧ PyData.eqv d d = true
theorem eq_due {w : Str} (l : List Nat) (hw : w = Sx l) (hl : Tx l) {x : PyData} {n : Nat} (h : Nx 0 n x) (hn : n ≤ 2000) : Eq37 (.tuple [.str w, x]) := by
  have n1 : Nx 1 5000 (.tuple [.str w, x]) := (nx_tup (nxa_cons (nx_lit37 l hw hl) (nxa_cons h nxa_nil))).mono (Nat.le_refl _) (by omega)
  exact ⟨n1.shaped (by decide), n1.refl⟩
end Dv.U
namespace Dv.U
open PySem L2 PyProof.Rows
end Dv.U
namespace Dv.U
open PySem L2 PyProof.Rows
open Dv.Q (zz zz_tx)
/-! ### law 6 -/
theorem dfnK_quiet6 {Pg : Program} {w : World} {K : PySem.W.Frag} {mg : Str → Option Value} {base : Heap} {k n : Nat} {kw x : Str} {ps : List Str} {dvs : List V} {W0 : WT} {W1 : WTX} (D : DfnK Pg w K mg base k x ps dvs n kw W1) (h : ∀ ss m P, W0 ss m P → W1 ss m P fun _ _ _ => False) : DfnQ Pg w K mg base k x ps dvs n kw W0 := by
  obtain ⟨f, fd, ds, hm, hk, hv, hb, hb2, F⟩ := D.ex
  exact ⟨f, fd, ds, hm, hk, hv, hb, hb2, df_quiet F h⟩
theorem q_playQ (CU CN : Addr) : ∀ ss m P, W_playQ ss m P → WX_playX CU CN ss m P fun _ _ _ => False := fun ss m P ⟨fl, ls, b, e, v, h, p⟩ =>
  ⟨fl, ls, b, e, v, fun l hl => by
    obtain ⟨r, hr, hl2⟩ := List.mem_flatten.mp (h l hl).1
    exact okL_tx (v.ok r hr l hl2), fun l hb => (by rw [bads_of h] at hb; cases hb), fun l hb => (by rw [bads_of h] at hb; cases hb), fun _ => p⟩
/-- what the law tells of a play that fails, or not -/
def told6D : Option (Bool × List Nat) → PyData
  | none => .none
  | some (true, l) => .tuple [.str "unknown", nmD l]
  | some (false, l) => .tuple [.str "not leader", nmD l]
theorem unk_tx : Tx [117, 110, 107, 110, 111, 119, 110] := ⟨by decide, by decide⟩
theorem notl_tx : Tx [110, 111, 116, 32, 108, 101, 97, 100, 101, 114] := ⟨by decide, by decide⟩
theorem eq_told {b : Bool} {l : List Nat} (h : Tx l) : Eq37 (told6D (some (b, l))) := by
  cases b with
  | true => exact eq_due [117, 110, 107, 110, 111, 119, 110] (by decide +kernel) unk_tx (nx_str h) (by decide)
  | false => exact eq_due [110, 111, 116, 32, 108, 101, 97, 100, 101, 114] (by decide +kernel) notl_tx (nx_str h) (by decide)
section
variable {K : PySem.W.Frag} {Pg : Program} {w : World}
theorem ev_playQ {ρ : Rho} {m : Sto} {P : PV} {tr : TA} (h : EvA K tr ρ m fun ss m1 => W_playQ (ss ++ [.d (.bool false)]) m1 P) : Ev K (tCall (SpD K W_playQ) [.bl false] E0 tr) ρ m P := ev_call (dss := [.d (.bool false)]) (fun F H => .cons rfl .nil) h
def W_told6 : WT := fun ss m P => ∃ fl ls b, ss = [.d (flD fl), .d (nmsD ls), .d (.bool b)] ∧ VF fl ∧ (∀ l ∈ ls, Tx l) ∧ P (.d (told6D (bads fl ls))) m
def t_told6 (K : PySem.W.Frag) (Pg : Program) (w : World) (CE CN CU : Addr) : TS :=
  (tSeq (tAsg (tC .non) (gName 3))
    (tSeq (tTry K (.ref CE) 4 (fun a cls d =>
    (tSeq (tAsg (tC (.str "other")) (gName 3))
    (tSeq (tIfS (tTr K (tCB (rIsA K [CU, CN] a cls d) (tCons (tVar 4) (tCons (tC (.ref CN)) tNil))))
    (tAsg (tTupZ (tCons (tC (.str "not leader")) (tCons (tXfA a cls d [CU, CN] "name" (tVar 4)) tNil))) (gName 3))
    tNext)
    (tIfS (tTr K (tCB (rIsA K [CU, CN] a cls d) (tCons (tVar 4) (tCons (tC (.ref CU)) tNil))))
    (tAsg (tTupZ (tCons (tC (.str "unknown")) (tCons (tXfA a cls d [CU, CN] "name" (tVar 4)) tNil))) (gName 3))
    tNext)))) (fun W =>
    (tDrop (tCallSK (SpX K (WX_playX CU CN)) 2 1 (WE W) (tCons (tVar 0) (tCons (tVar 1) tNil)) (tCons (tVar 2) tNil)))))
    (tRet (tVar 3))))
theorem rd_told6 (CE CN CU : Addr) (xN : PySem.W.exmOne K (.ref CN) (.ref CE) = some true) (xU : PySem.W.exmOne K (.ref CU) (.ref CE) = some true) (tNU : PySem.W.kitOne K (.ref CN) (.ref CU) = some false) (tUN : PySem.W.kitOne K (.ref CU) (.ref CN) = some false)
    (ss : List Sl) (m : Sto) (P : PV) (h : W_told6 ss m P) : Wp K (t_told6 K Pg w CE CN CU) (rho ["floor", "names", "backwards", "found", "e"] ss) m { nx := fun _ m' => P (.d .none) m', rt := P } := by
  obtain ⟨fl, ls, b, rfl, v, hT, p⟩ := h
  unfold t_told6
  have mU : CU ∈ [CU, CN] := List.mem_cons_self
  have mN : CN ∈ [CU, CN] := List.mem_cons_of_mem _ List.mem_cons_self
  refine wp_seq <| wp_set <| ev_non ?_
  refine wp_seq <| wp_try (XS := fun ρ' C o m' => ρ' = [some (.d (flD fl)), some (.d (nmsD ls)), some (.d (.bool b)), some (.d .none), none] ∧ m' = m ∧ ∃ q l, bads fl ls = some (q, l) ∧ o = nameU l ∧ C = if q = true then CU else CN) ?_ ?_ ?_
  · refine wpw_drop <| evw_callK <| ea_cons <| ev_var rfl <| ea_cons <| ev_var rfl <| ea_nil <| ea_cons <| ev_var rfl <| ea_nil ⟨rfl, rfl, fl, ls, b, rfl, v, hT, fun l hb => ⟨rfl, rfl, true, l, hb, rfl, rfl⟩, fun l hb => ⟨rfl, rfl, false, l, hb, rfl, rfl⟩, fun hb => ?_⟩
    rw [hb] at p
    exact wp_ret <| ev_var rfl p
  · rintro ρ' C fs m' ⟨rfl, rfl, q, l, hb, e2, rfl⟩
    cases e2
    rw [hb] at p
    cases q with
    | true =>
      refine ⟨xU, fun a dd hd => ?_⟩
      show Wp K _ _ _ _
      refine wp_seq <| wp_set <| ev_str ?_
      refine wp_seq <| wp_if <| et_tr <| ev_cb <| ea_cons <| ev_var rfl <| ea_cons <| ev_raw <| ea_nil <| rc_isA mU put_same tUN ⟨_, tr_bool, ?_⟩
      rw [if_neg Bool.false_ne_true]
      refine wp_next <| wp_if <| et_tr <| ev_cb <| ea_cons <| ev_var rfl <| ea_cons <| ev_raw <| ea_nil <| rc_isA mU put_same kit_self ⟨_, tr_bool, ?_⟩
      rw [if_pos rfl]
      refine wp_set <| ev_tup <| ea_cons <| ev_str <| ea_cons <| ev_xfA mU <| ev_var rfl ⟨rfl, put_same, ea_nil ⟨[_, _], rfl, by simp, ?_⟩⟩
      refine wp_ret <| ev_del <| ev_var rfl ⟨dd, _, put_same, ?_⟩
      rw [del_put hd]
      exact p
    | false =>
      refine ⟨xN, fun a dd hd => ?_⟩
      show Wp K _ _ _ _
      refine wp_seq <| wp_set <| ev_str ?_
      refine wp_seq <| wp_if <| et_tr <| ev_cb <| ea_cons <| ev_var rfl <| ea_cons <| ev_raw <| ea_nil <| rc_isA mN put_same kit_self ⟨_, tr_bool, ?_⟩
      rw [if_pos rfl]
      refine wp_set <| ev_tup <| ea_cons <| ev_str <| ea_cons <| ev_xfA mN <| ev_var rfl ⟨rfl, put_same, ea_nil ⟨[_, _], rfl, by simp, ?_⟩⟩
      refine wp_if <| et_tr <| ev_cb <| ea_cons <| ev_var rfl <| ea_cons <| ev_raw <| ea_nil <| rc_isA mN put_same tNU ⟨_, tr_bool, ?_⟩
      rw [if_neg Bool.false_ne_true]
      refine wp_next <| wp_ret <| ev_del <| ev_var rfl ⟨dd, _, put_same, ?_⟩
      rw [del_put hd]
      exact p
  · rintro ρ' C m' ⟨rfl, rfl, q, l, hb, e2, _⟩
    cases e2
def t_law6 (K : PySem.W.Frag) (Pg : Program) (w : World) : TS :=
  (tSeq (tFor (iRng1 (tCons (tCB (rMaxC) (tCons (tC (.int 1)) (tCons (tCB (rMinC) (tCons (tC (.int 3)) (tCons (tCB (rLenC K) (tCons (tVar 0) tNil)) tNil))) tNil))) tNil)) (gName 1)
    (tSeq (tAsg (tCall (SpD K W_source) [] E0 (tCons (tVar 0) (tCons (tVar 1) tNil))) (gName 2))
    (tSeq (tAsg (tCall (SpD K W_twinnedZ) [] E0 (tCons (tVar 2) (tCons (tCall (SpD K W_floor) [] E0 (tCons (tVar 2) (tCons (tC (.int 144)) tNil))) tNil))) (gName 3))
    (tSeq (tAsg (tCall (SpD K W_leaders) [] E0 (tCons (tVar 3) tNil)) (gName 4))
    (tSeq (tAsg (tLst tNil) (gName 5))
    (tSeq (tIfS (tTest (tOp (rNeU K) (tVar 4) (tLst tNil)))
    (tSeq (tAsg (tLc (iRng1 (tCons (tCall (SpD K W_draw) [] E0 (tCons (tVar 2) (tCons (tC (.int 61)) tNil))) tNil)) (gName 15) tYes (tOp (rIx K) (tVar 4) (tCall (SpD K W_draw) [] E0 (tCons (tVar 2) (tCons (tCB (rLenC K) (tCons (tVar 4) tNil)) tNil)))) [15]) (gName 5))
    (tAsg (tOp (rMulU) (tVar 5) (tOp (rIx K) (tLst (tCons (tC (.int 1)) (tCons (tC (.int 1)) (tCons (tC (.int 1)) (tCons (tC (.int 80)) tNil))))) (tCall (SpD K W_draw) [] E0 (tCons (tVar 2) (tCons (tC (.int 4)) tNil))))) (gName 5)))
    tNext)
    (tSeq (tAsg (tCall (SpD K W_playT) [] E0 (tCons (tVar 3) (tCons (tVar 5) tNil))) (gName 6))
    (tSeq (tIfS (tOr (tTest (tOp (rNeU K) (tCall (SpD K W_playQ) [.bl false] E0 (tCons (tVar 3) (tCons (tCB (rTupleC K) (tCons (tVar 5) tNil)) tNil))) (tVar 6))) (tTest (tOp (rNeU K) (tCallSK (SpD K W_playQ) 2 1 (fun _ => E0) (tCons (tVar 3) (tCons (tCB (rTupleC K) (tCons (tVar 5) tNil)) tNil)) (tCons (tC (.bl false)) tNil)) (tVar 6))))
    (tRet (tC (.bl false)))
    tNext)
    (tSeq (tIfS (tTest (tOp (rNeU K) (tCB (rRepr K) (tCons (tCallSK (SpD K W_playQ) 2 1 (fun _ => E0) (tCons (tVar 3) (tCons (tCB (rTupleC K) (tCons (tVar 5) tNil)) tNil)) (tCons (tC (.bl true)) tNil)) tNil)) (tCB (rRepr K) (tCons (tCall (SpD K W_playT) [] E0 (tCons (tVar 3) (tCons (tRevL K (tVar 5)) tNil))) tNil))))
    (tRet (tC (.bl false)))
    tNext)
    (tSeq (tIfS (tOr (tTest (tOp (rNeU K) (tCall (SpD K W_playQ) [.bl false] E0 (tCons (tVar 3) (tCons (tTupZ tNil) tNil))) (tVar 3))) (tTest (tOp (rNeU K) (tCB (rRepr K) (tCons (tCall (SpD K W_playQ) [.bl false] E0 (tCons (tVar 3) (tCons (tCB (rTupleC K) (tCons (tVar 5) tNil)) tNil))) tNil)) (tCB (rRepr K) (tCons (tVar 6) tNil)))))
    (tRet (tC (.bl false)))
    tNext)
    (tSeq (tAsg (tLst (tCons (tC (.str "zzzzzz")) tNil)) (gName 7))
    (tSeq (tFor (iSeqU K (tVar 3)) (gName 8)
    (tAsg (tOp (rAddU K) (tVar 7) (tLc (iSeqU K (tVar 8)) (gName 16) (tTest (tOp (rNotInU K Pg w) (tVar 16) (tVar 4))) (tVar 16) [16])) (gName 7)))
    (tSeq (tAsg (tCall (SpD K W_draw) [] E0 (tCons (tVar 2) (tCons (tOp (rAddU K) (tCB (rLenC K) (tCons (tVar 5) tNil)) (tC (.int 1))) tNil))) (gName 9))
    (tSeq (tAsg (tOp (rIx K) (tVar 7) (tCall (SpD K W_draw) [] E0 (tCons (tVar 2) (tCons (tCB (rLenC K) (tCons (tVar 7) tNil)) tNil)))) (gName 10))
    (tSeq (tAsg (tOp (rIx K) (tVar 7) (tCall (SpD K W_draw) [] E0 (tCons (tVar 2) (tCons (tCB (rLenC K) (tCons (tVar 7) tNil)) tNil)))) (gName 11))
    (tSeq (tAsg (tOp (rAddU K) (tOp (rAddU K) (tOp (rAddU K) (tSl (rSlU K) (tVar 5) tNoPart (tPart (tVar 9))) (tLst (tCons (tVar 10) tNil))) (tSl (rSlU K) (tVar 5) (tPart (tVar 9)) tNoPart)) (tLst (tCons (tVar 11) tNil))) (gName 12))
    (tSeq (tAsg (tIf (tTest (tOp (rEqU K) (tVar 10) (tC (.str "zzzzzz")))) (tTupZ (tCons (tC (.str "unknown")) (tCons (tVar 10) tNil))) (tTupZ (tCons (tC (.str "not leader")) (tCons (tVar 10) tNil)))) (gName 13))
    (tFor (iSeqU K (tTupZ (tCons (tC (.bl false)) (tCons (tC (.bl true)) (tCons (tC (.bl false)) tNil))))) (gName 14)
    (tSeq (tIfS (tTest (tOp (rNeU K) (tCall (SpD K W_told6) [] E0 (tCons (tVar 3) (tCons (tCB (rTupleC K) (tCons (tVar 12) tNil)) (tCons (tVar 14) tNil)))) (tVar 13)))
    (tRet (tC (.bl false)))
    tNext)
    (tIfS (tTest (tOp (rNotN0) (tCall (SpD K W_told6) [] E0 (tCons (tVar 3) (tCons (tCB (rTupleC K) (tCons (tVar 5) tNil)) (tCons (tVar 14) tNil)))) (tC .non)))
    (tRet (tC (.bl false)))
    tNext))))))))))))))))))))
    (tRet (tC (.bl true))))
theorem rd_law6 (ss : List Sl) (m : Sto) (P : PV) (h : WLaw ss m P) : Wp K (t_law6 K Pg w) (rho ["script", "index", "source", "floor", "leaders", "names", "due", "others", "cells", "spot", "odd", "last", "wrong", "error", "backwards", "step", "name"] ss) m { nx := fun _ m' => P (.d .none) m', rt := P } := by
  obtain ⟨ns, rfl, hl, _, p⟩ := h
  obtain ⟨t, ht, et⟩ := turns_ok (k := 3) hl (by decide)
  refine wp_seq <| wp_rng <| ea_cons <| ev_cb <| ea_cons <| ev_int <| ea_cons <| ev_cb <| ea_cons <| ev_int <| ea_cons <| ev_cb <| ea_cons <| ev_var rfl <| ea_nil <| rc_lenF <| ea_nil <| rc_min2 <| ea_nil <| rc_max2 <| ea_nil ⟨t, fun i ρ' m' => ∃ s1 s2 s3 s4 s5 s6 s7 s8 s9 s10 s11 s12 s13 s14, ρ' = [some (.f (ns.map .int)), s1, s2, s3, s4, s5, s6, s7, s8, s9, s10, s11, s12, s13, s14, none, none], ?_, by omega, ⟨_, _, _, _, _, _, _, _, _, _, _, _, _, _, rfl⟩, ?_, ?_⟩
  · rw [List.length_map]
    exact congrArg (fun z => [Sl.d (.int z)]) et
  · rintro i ρ' m0 hi ⟨s1, s2, s3, s4, s5, s6, s7, s8, s9, s10, s11, s12, s13, s14, rfl⟩
    refine wp_seq <| wp_set <| ev_call0 <| ea_cons <| ev_var rfl <| ea_cons <| ev_var rfl <| ea_nil ⟨ns, i, rfl, hl, by omega, fun s u0 hs0 hu0 => ?_⟩
    refine wp_seq <| wp_set <| ev_call0 <| ea_cons <| ev_var rfl <| ea_cons <| ev_call0 <| ea_cons <| ev_var rfl <| ea_cons <| ev_int <| ea_nil ⟨s, 144, u0, 0, rfl, by decide, by decide, put_same, hu0, by decide, fun R C fl0 u1 hG _ hu1 => ?_⟩
    rw [put_put]
    refine ea_nil ⟨s, R, C, fl0, u1, _, rfl, hG, put_same, hu1, by omega, fun fl u2 v nz hu2 => ?_⟩
    rw [put_put]
    have nz : zz ∉ fl.flatten := nz
    have hS := v.short
    have hN := v.named
    refine wp_seq <| wp_set <| ev_call0 <| ea_cons <| ev_var rfl <| ea_nil ⟨fl, rfl, v.named, v.short, fun ys hys _ => ?_⟩
    obtain ⟨zs, hzs, rfl⟩ := perm_map (f := Sx) hys rfl
    rw [← nms_str]
    have hzm : ∀ l, l ∈ zs ↔ (l ∈ fl.flatten ∧ upN l = true) := fun l => by rw [hzs.mem_iff, List.mem_filter]
    have hok : ∀ l ∈ fl.flatten, okL l = true := fun l hl => by
      obtain ⟨r, hr, h2⟩ := List.mem_flatten.mp hl
      exact v.ok r hr l h2
    have hzT : ∀ l ∈ zs, Tx l := fun l hl => okL_tx (hok l ((hzm l).mp hl).1)
    have hz144 : zs.length ≤ 144 := by
      have := hzs.length_eq
      rw [this]
      exact Nat.le_trans (List.length_filter_le ..) (flat144' v)
    refine wp_seq <| wp_set <| ev_lst <| ea_nil ⟨[], rfl, by simp, ?_⟩
    refine wp_seqJ' (fun ρ' m' => ∃ (nl : List (List Nat)) (u' : List PyData), ρ' = [some (.f (ns.map .int)), some (.d (.int (i : Nat))), some (.m s), some (.d (flD fl)), some (.d (.list (zs.map nmD))), some (.d (.list (nl.map nmD))), s6, s7, s8, s9, s10, s11, s12, s13, s14, none, none] ∧ (∀ l ∈ nl, l ∈ zs) ∧ nl.length ≤ 4800 ∧ m' = put m0 s (.lst u') ∧ SrcL u' 10000) ?_ ?_
    · refine wp_if <| et_test <| ev_op <| ev_var rfl <| ev_lst <| ea_nil ⟨[], rfl, by simp, re_ne (shaped_names hzT).2 (by rfl) ⟨_, rfl, ite_b (fun q => ?_) (fun _ => wp_next ⟨[], u2, rfl, (fun l h => nomatch h), by simp, rfl, hu2.mono (by omega)⟩)⟩⟩
      have hz0 : 0 < zs.length := by
        rw [eqv_nil] at q
        cases zs with
        | nil => cases q
        | cons => simp
      refine wp_seq <| wp_set <| ev_lc <| ei_rng1 <| ea_cons <| ev_call0 <| ea_cons <| ev_var rfl <| ea_cons <| ev_int <| ea_nil ⟨s, 61, u2, _, rfl, by decide, by decide, put_same, hu2, by omega, fun r u3 hr hu3 => ?_⟩
      rw [put_put]
      refine ea_nil ⟨_, rfl, by omega, by omega, fun k acc m' => ∃ u' ls, SrcL u' (8000 + k) ∧ m' = put m0 s (.lst u') ∧ acc = ls.map nmD ∧ (∀ l ∈ ls, l ∈ zs) ∧ ls.length = k ∧ k ≤ r, ⟨u3, [], hu3.mono (by omega), rfl, rfl, (fun l h => nomatch h), rfl, Nat.zero_le _⟩, fun _ _ _ _ => trivial, ?_, ?_⟩
      · rintro k x acc m' hx ⟨u', ls, hu', rfl, rfl, hls, hk, hkr⟩
        have hk2 : k < r := by
          have := (List.getElem?_eq_some_iff.mp hx).1
          simpa using this
        refine ⟨by rw [List.length_map]; omega, [15], by simp, gt_name <| et_yes ?_⟩
        rw [if_pos rfl]
        refine ev_op <| ev_var rfl <| ev_call0 <| ea_cons <| ev_var rfl <| ea_cons <| ev_cb <| ea_cons <| ev_var rfl <| ea_nil <| rc_lenL <| ea_nil ⟨s, _, u', _, rfl, by rw [List.length_map]; omega, by rw [List.length_map]; omega, put_same, hu', by omega, fun r2 u4 hr2 hu4 => ?_⟩
        rw [List.length_map] at hr2
        have hr2' : r2 < zs.length := by omega
        rw [put_put]
        refine rx_lst (atI_map rfl (List.getElem?_eq_getElem hr2')) ⟨_, rfl, u4, ls ++ [zs[r2]], hu4.mono (by omega), rfl, by rw [List.map_append]; rfl, fun l hl => ?_, by rw [List.length_append, hk]; rfl, hk2⟩
        rcases List.mem_append.mp hl with h | h
        · exact hls l h
        · rw [List.mem_singleton.mp h]; exact List.getElem_mem _
      · rintro acc m' ⟨u', ls, hu', rfl, rfl, hls, hk, hkr⟩
        have hl60 : ls.length ≤ 60 := by
          have : ((r : Nat) : Int) < 61 := hr
          have e0 : (((r : Nat) : Int) - 0).toNat = r := by omega
          omega
        refine wp_set <| ev_op <| ev_var rfl <| ev_op <| ev_lst <| ea_cons <| ev_int <| ea_cons <| ev_int <| ea_cons <| ev_int <| ea_cons <| ev_int <| ea_nil ⟨[_, _, _, _], rfl, by simp, ev_call0 <| ea_cons <| ev_var rfl <| ea_cons <| ev_int <| ea_nil ⟨s, 4, u', _, rfl, by decide, by decide, put_same, hu', by simp; omega, fun r5 u5 hr5 hu5 => ?_⟩⟩
        rw [put_put]
        have hx : ∃ c : Nat, c ≤ 80 ∧ atI [PyData.int 1, .int 1, .int 1, .int 80] ((r5 : Nat) : Int) = some (.int (c : Nat)) := by
          have : r5 < 4 := by omega
          match r5, this with
          | 0, _ => exact ⟨1, by decide, rfl⟩
          | 1, _ => exact ⟨1, by decide, rfl⟩
          | 2, _ => exact ⟨1, by decide, rfl⟩
          | 3, _ => exact ⟨80, by decide, rfl⟩
        obtain ⟨c, c1, ac⟩ := hx
        refine rx_lst ac <| rm_lst (by omega) (by omega) (by rw [List.length_map]; omega) ?_
        rw [Int.toNat_natCast]
        have ef : (List.replicate c (ls.map nmD)).flatten = ((List.replicate c ls).flatten).map nmD := by
          rw [List.map_flatten, List.map_replicate]
        rw [ef]
        refine ⟨(List.replicate c ls).flatten, u5, rfl, fun l hl => hls l (flatten_mem hl), ?_, rfl, hu5.mono (by simp; omega)⟩
        rw [flatten_len]
        exact Nat.le_trans (Nat.mul_le_mul c1 hl60) (by decide)
    rintro ρ' m' ⟨nl, u4, rfl, hnl, hn48, rfl, hu4⟩
    have hnf : Ldr fl nl := fun l hl => (hzm l).mp (hnl l hl)
    have hT : ∀ l ∈ nl, Tx l := fun l hl => hzT l (hnl l hl)
    obtain ⟨v1, _, _, _⟩ := plF_ok nl v fun l hl => (hnf l hl).1
    obtain ⟨v2, _, _, _⟩ := plF_ok nl.reverse v fun l hl => (hnf l (List.mem_reverse.mp hl)).1
    have n0 := nx_flo v
    have n1 := nx_flo v1
    have n2 := nx_flo v2
    refine wp_seq <| wp_set <| ev_call0 <| ea_cons <| ev_var rfl <| ea_cons <| ev_var rfl <| ea_nil ⟨fl, nl, _, rfl, .inl rfl, v, hnf, ?_⟩
    refine wp_seq <| wp_if <| et_or <| et_test <| ev_op <| ev_playQ <| ea_cons <| ev_var rfl <| ea_cons <| ev_cb <| ea_cons <| ev_var rfl <| ea_nil <| rc_tupleL <| ea_nil ⟨fl, nl, false, rfl, v, hnf, ev_var rfl <| re_ne (n1.shaped (by decide)) (n1.shaped (by decide)) ⟨_, rfl, ?_⟩⟩
    rw [show (if false = true then nl.reverse else nl) = nl from if_neg Bool.false_ne_true, n1.refl, if_neg (by decide)]
    refine et_test <| ev_op <| ev_callQ <| ea_cons <| ev_var rfl <| ea_cons <| ev_cb <| ea_cons <| ev_var rfl <| ea_nil <| rc_tupleL <| ea_nil <| ea_cons <| ev_bl <| ea_nil ⟨rfl, rfl, fl, nl, false, rfl, v, hnf, ev_var rfl <| re_ne (n1.shaped (by decide)) (n1.shaped (by decide)) ⟨_, rfl, ?_⟩⟩
    rw [show (if false = true then nl.reverse else nl) = nl from if_neg Bool.false_ne_true, n1.refl, if_neg (by decide)]
    refine wp_next <| wp_seq <| wp_if <| et_test <| ev_op <| ev_cb <| ea_cons <| ev_callQ <| ea_cons <| ev_var rfl <| ea_cons <| ev_cb <| ea_cons <| ev_var rfl <| ea_nil <| rc_tupleL <| ea_nil <| ea_cons <| ev_bl <| ea_nil ⟨rfl, rfl, fl, nl, true, rfl, v, hnf, ?_⟩
    refine ea_nil <| rc_repr n2.sh n2.hd (n2.shaped (by decide)) (n2.len (by decide)) <| ev_cb <| ea_cons <| ev_call0 <| ea_cons <| ev_var rfl <| ea_cons <| ev_revL <| ev_var rfl ⟨_, rfl, ?_⟩
    rw [← List.map_reverse]
    refine ea_nil ⟨fl, nl.reverse, _, rfl, .inl rfl, v, fun l hl => hnf l (List.mem_reverse.mp hl), ea_nil <| rc_repr n2.sh n2.hd (n2.shaped (by decide)) (n2.len (by decide)) <| re_neS ⟨_, rfl, ite_b (fun q => by simp at q) (fun _ => wp_next ?_)⟩⟩
    refine wp_seq <| wp_if <| et_or <| et_test <| ev_op <| ev_playQ <| ea_cons <| ev_var rfl <| ea_cons <| ev_tup <| ea_nil ⟨[], rfl, by simp, ea_nil ⟨fl, [], false, rfl, v, (fun _ h => nomatch h), ev_var rfl <| re_ne (n0.shaped (by decide)) (n0.shaped (by decide)) ⟨_, rfl, ?_⟩⟩⟩
    rw [show plF fl (if false = true then ([] : List (List Nat)).reverse else []) = fl from rfl, n0.refl, if_neg (by decide)]
    refine et_test <| ev_op <| ev_cb <| ea_cons <| ev_playQ <| ea_cons <| ev_var rfl <| ea_cons <| ev_cb <| ea_cons <| ev_var rfl <| ea_nil <| rc_tupleL <| ea_nil ⟨fl, nl, false, rfl, v, hnf, ea_nil <| rc_repr n1.sh n1.hd (n1.shaped (by decide)) (n1.len (by decide)) <| ev_cb <| ea_cons <| ev_var rfl <| ea_nil <| rc_repr n1.sh n1.hd (n1.shaped (by decide)) (n1.len (by decide)) <| re_neS ⟨_, rfl, ite_b (fun q => by simp at q) (fun _ => wp_next ?_)⟩⟩
    -- names that are none of a leader
    refine wp_seq <| wp_set <| ev_lst <| ea_cons <| ev_str <| ea_nil ⟨[_], rfl, by simp, ?_⟩
    refine wp_seq <| wp_forL (toD := rwD) <| ei_tup <| ev_var rfl ⟨_, rfl, fl, fun j ρ' m' => ∃ s8, ρ' = [some (.f (ns.map .int)), some (.d (.int (i : Nat))), some (.m s), some (.d (flD fl)), some (.d (.list (zs.map nmD))), some (.d (.list (nl.map nmD))), some (.d (flD (plF fl nl))), some (.d (.list ((zz :: (fl.take j).flatten.filter fun l => !decide (l ∈ zs)).map nmD))), s8, s9, s10, s11, s12, s13, s14, none, none] ∧ m' = put m0 s (.lst u4), rfl, ⟨s8, ?_, rfl⟩, fun _ _ _ _ => trivial, ?_, ?_⟩
    · show _ = [some (.f (ns.map .int)), some (.d (.int (i : Nat))), some (.m s), some (.d (flD fl)), some (.d (.list (zs.map nmD))), some (.d (.list (nl.map nmD))), some (.d (flD (plF fl nl))), some (.d (.list ((zz :: ([] : List (List Nat))).map nmD))), s8, s9, s10, s11, s12, s13, s14, none, none]
      rw [show ((zz :: ([] : List (List Nat))).map nmD) = [PyData.str "zzzzzz"] by rw [Dv.Q.zzS]; rfl]
      rfl
    · rintro j r ρ' m' hr ⟨s8, rfl, rfl⟩
      have hmr : r ∈ fl := List.mem_of_getElem? hr
      refine wp_set <| ev_op <| ev_var rfl <| ev_lcF (toD := nmD) List.mem_cons_self <| ei_tup <| ev_var rfl ⟨_, rfl, r, fun l => !decide (l ∈ zs), nmD, rfl, trivial, ?_, fun l hl => ⟨?_, fun _ => ev_var rfl ⟨rfl, rfl⟩⟩, ?_⟩
      · have := (hS.2 r hmr).1; omega
      · refine et_test <| ev_op <| ev_var rfl <| ev_var rfl <| rni_lst (shaped_str (hN r hmr l hl).2) (shaped_names hzT).2 ⟨_, rfl, ?_, rfl⟩
        rw [anyEq_names]
      · refine ra_lst ?_ ⟨some (.d (rwD r)), ?_, rfl⟩
        · have a1 := flat_len hS (fl.take j) fun r hr => List.mem_of_mem_take hr
          have a2 : (fl.take j).length ≤ 100 := by rw [List.length_take]; have := hS.1; omega
          have a3 := (hS.2 r hmr).1
          have a4 := List.length_filter_le (fun l => !decide (l ∈ zs)) (fl.take j).flatten
          have a5 := List.length_filter_le (fun l => !decide (l ∈ zs)) r
          rw [List.length_map, List.length_map, List.length_cons]
          omega
        · rw [take_flat hr, List.filter_append, ← List.cons_append, List.map_append]
          rfl
    rintro ρ' m' ⟨s8, rfl, rfl⟩
    rw [List.take_of_length_le (Nat.le_refl _)]
    have hos : ∀ l ∈ zz :: fl.flatten.filter (fun l => !decide (l ∈ zs)), l = zz ∨ (l ≠ zz ∧ l ∈ fl.flatten ∧ upN l = false) := fun l hl => by
      rcases List.mem_cons.mp hl with h | h
      · exact .inl h
      · obtain ⟨h1, h2⟩ := List.mem_filter.mp h
        refine .inr ⟨fun e => nz (e ▸ h1), h1, ?_⟩
        have h3 : l ∉ zs := by simpa using h2
        rw [hzm] at h3
        cases hh : upN l with
        | false => rfl
        | true => exact absurd ⟨h1, hh⟩ h3
    have hol : (zz :: fl.flatten.filter fun l => !decide (l ∈ zs)).length ≤ 200 := by
      have a1 := flat144' v
      have := List.length_filter_le (fun l => !decide (l ∈ zs)) fl.flatten
      rw [List.length_cons]
      omega
    have ho0 : 0 < (zz :: fl.flatten.filter fun l => !decide (l ∈ zs)).length := by simp
    generalize (zz :: fl.flatten.filter fun l => !decide (l ∈ zs)) = os at hos hol ho0 ⊢
    have hoT : ∀ l ∈ os, Tx l := fun l hl => by
      rcases hos l hl with rfl | ⟨_, h, _⟩
      · exact zz_tx
      · exact okL_tx (hok l h)
    refine wp_seq <| wp_set <| ev_call0 <| ea_cons <| ev_var rfl <| ea_cons <| ev_op <| ev_cb <| ea_cons <| ev_var rfl <| ea_nil <| rc_lenL <| ev_int <| ra_int <| ea_nil ⟨s, _, u4, _, rfl, by rw [List.length_map]; omega, by rw [List.length_map]; omega, put_same, hu4, by omega, fun sp u5 hsp hu5 => ?_⟩
    rw [put_put]
    refine wp_seq <| wp_set <| ev_op <| ev_var rfl <| ev_call0 <| ea_cons <| ev_var rfl <| ea_cons <| ev_cb <| ea_cons <| ev_var rfl <| ea_nil <| rc_lenL <| ea_nil ⟨s, _, u5, _, rfl, by rw [List.length_map]; omega, by rw [List.length_map]; omega, put_same, hu5, by omega, fun q1 u6 hq1 hu6 => ?_⟩
    rw [List.length_map] at hq1
    have hq1' : q1 < os.length := by omega
    rw [put_put]
    refine rx_lst (atI_map rfl (List.getElem?_eq_getElem hq1')) ?_
    refine wp_seq <| wp_set <| ev_op <| ev_var rfl <| ev_call0 <| ea_cons <| ev_var rfl <| ea_cons <| ev_cb <| ea_cons <| ev_var rfl <| ea_nil <| rc_lenL <| ea_nil ⟨s, _, u6, _, rfl, by rw [List.length_map]; omega, by rw [List.length_map]; omega, put_same, hu6, by omega, fun q2 u7 hq2 hu7 => ?_⟩
    rw [List.length_map] at hq2
    have hq2' : q2 < os.length := by omega
    rw [put_put]
    refine rx_lst (atI_map rfl (List.getElem?_eq_getElem hq2')) ?_
    have co := hos _ (List.getElem_mem hq1')
    have to := hoT _ (List.getElem_mem hq1')
    have tl := hoT _ (List.getElem_mem hq2')
    generalize os[q1] = od at co to ⊢
    generalize os[q2] = la at tl ⊢
    refine wp_seq <| wp_set <| ev_op <| ev_op <| ev_op <| ev_sl <| ev_var rfl <| eo_no <| eo_some <| ev_var rfl ⟨_, rfl, rz_lst ?_⟩
    rw [cut_to, ← List.map_take]
    refine ev_lst <| ea_cons <| ev_var rfl <| ea_nil ⟨[_], rfl, by simp, ra_lst (by simp; omega) <| ev_sl <| ev_var rfl <| eo_some <| ev_var rfl ⟨_, rfl, eo_no <| rz_lst ?_⟩⟩
    rw [cut_from, ← List.map_drop]
    refine ra_lst (by simp; omega) <| ev_lst <| ea_cons <| ev_var rfl <| ea_nil ⟨[_], rfl, by simp, ra_lst (by simp; omega) ?_⟩
    have ew : ((((nl.take sp).map nmD ++ [nmD od]) ++ (nl.drop sp).map nmD) ++ [nmD la]) = (nl.take sp ++ (od :: (nl.drop sp ++ [la]))).map nmD := by simp
    rw [ew]
    have wT : ∀ l ∈ nl.take sp ++ (od :: (nl.drop sp ++ [la])), Tx l := fun l hl => by
      rcases List.mem_append.mp hl with h | h
      · exact hT l (List.mem_of_mem_take h)
      · rcases List.mem_cons.mp h with rfl | h
        · exact to
        · rcases List.mem_append.mp h with h | h
          · exact hT l (List.mem_of_mem_drop h)
          · rw [List.mem_singleton.mp h]; exact tl
    have wb : bads fl (nl.take sp ++ (od :: (nl.drop sp ++ [la]))) = some (decide (od = zz), od) := by
      rw [bads_app fun l hl => hnf l (List.mem_of_mem_take hl), bads_cons]
      rcases co with rfl | ⟨h1, h2, h3⟩
      · rw [if_pos nz, decide_eq_true rfl]
      · rw [if_neg (fun q => q h2), if_pos h3, decide_eq_false h1]
    generalize nl.take sp ++ (od :: (nl.drop sp ++ [la])) = wr at wT wb ⊢
    refine wp_seq <| wp_set <| (show Ev K _ _ _ fun s' m2 => s' = .d (told6D (some (decide (od = zz), od))) ∧ m2 = put m0 s (.lst u7) from ?_).mono ?_
    · refine ev_if <| et_test <| ev_op <| ev_var rfl <| ev_str <| re_eqS ⟨_, rfl, ?_⟩
      by_cases q : od = zz
      · rw [show decide (Sx od = ("zzzzzz" : Str)) = true from decide_eq_true (q ▸ Dv.Q.zzS.symm), if_pos rfl, decide_eq_true q]
        exact ev_tup <| ea_cons <| ev_str <| ea_cons <| ev_var rfl <| ea_nil ⟨[_, _], rfl, by simp, rfl, rfl⟩
      · rw [show decide (Sx od = ("zzzzzz" : Str)) = false from decide_eq_false fun h => q (sx_inj (h.trans Dv.Q.zzS)), if_neg Bool.false_ne_true, decide_eq_false q]
        exact ev_tup <| ea_cons <| ev_str <| ea_cons <| ev_var rfl <| ea_nil ⟨[_, _], rfl, by simp, rfl, rfl⟩
    rintro s' m2 ⟨rfl, rfl⟩
    have eer : Eq37 (told6D (some (decide (od = zz), od))) := eq_told to
    rw [← wb] at eer ⊢
    refine wp_forL (toD := PyData.bool) <| ei_tup <| ev_tup <| ea_cons <| ev_bl <| ea_cons <| ev_bl <| ea_cons <| ev_bl <| ea_nil ⟨[_, _, _], rfl, by simp, _, rfl, [false, true, false], fun j ρ' m' => ∃ s14, ρ' = [some (.f (ns.map .int)), some (.d (.int (i : Nat))), some (.m s), some (.d (flD fl)), some (.d (.list (zs.map nmD))), some (.d (.list (nl.map nmD))), some (.d (flD (plF fl nl))), some (.d (.list (os.map nmD))), s8, some (.d (.int (sp : Nat))), some (.d (nmD od)), some (.d (nmD la)), some (.d (.list (wr.map nmD))), some (.d (told6D (bads fl wr))), s14, none, none], rfl, ⟨_, rfl⟩, fun _ _ _ _ => trivial, ?_, ?_⟩
    · rintro j b ρ' m' hb ⟨s14, rfl⟩
      refine wp_seq <| wp_if <| et_test <| ev_op <| ev_call0 <| ea_cons <| ev_var rfl <| ea_cons <| ev_cb <| ea_cons <| ev_var rfl <| ea_nil <| rc_tupleL <| ea_cons <| ev_var rfl <| ea_nil ⟨fl, wr, b, rfl, v, wT, ev_var rfl <| re_ne eer.1 eer.1 ⟨_, rfl, ?_⟩⟩
      rw [eer.2, if_neg (by decide)]
      refine wp_next <| wp_if <| et_test <| ev_op <| ev_call0 <| ea_cons <| ev_var rfl <| ea_cons <| ev_cb <| ea_cons <| ev_var rfl <| ea_nil <| rc_tupleL <| ea_cons <| ev_var rfl <| ea_nil ⟨fl, nl, b, rfl, v, hT, ?_⟩
      rw [bads_of hnf]
      exact ev_non <| rn_not ⟨_, rfl, ite_b (fun q => by cases q) (fun _ => wp_next ⟨_, rfl⟩)⟩
    · rintro ρ' m' ⟨s14, rfl⟩
      exact ⟨_, _, _, _, _, _, _, _, _, _, _, _, _, _, rfl⟩
  · rintro ρ' m' ⟨s1, s2, s3, s4, s5, s6, s7, s8, s9, s10, s11, s12, s13, s14, rfl⟩
    exact wp_ret <| ev_bl <| p m'
end
end Dv.U
namespace Dv.Hd
open PySem L2 PyProof.Rows
/-! ### the head by one kernel run, its facts read by a Hook -/
abbrev Fq : Type := PySem.W.Frag → Bool
def gv (g : Addr → Option Obj) : List Addr := match g mainGlobals with
  | some o => He.refsO o
  | none => []
def stepC (g : Addr → Option Obj) (a : Addr) : List Addr := match g a with
  | some ⟨_, _, .func fd, _⟩ => He.refV fd.code ++ He.refV fd.kwdefaults
  | some ⟨_, _, .cls cd, _⟩ => cd.ns :: cd.mro.flatMap He.refV
  | _ => []
def stepN (g : Addr → Option Obj) (a : Addr) : List Addr := match g a with
  | some ⟨c, d, .dict es e, sl⟩ => He.refsO ⟨c, d, .dict es e, sl⟩
  | _ => []
def asH (g : Addr → Option Obj) : List Addr :=
  let l1 := gv g
  let l2 := l1.flatMap (stepC g)
  let l3 := l2.flatMap (stepN g)
  mainGlobals :: (l1 ++ (l2 ++ (l3 ++ l3.flatMap (stepC g))))
def obsA (fa : List (List Fq)) (fn : List (List He.FnD)) (K : PySem.W.Frag) : Bool × List (List He.FnV) := ((fa.all fun l => l.all fun f => f K) && fn.all fun l => l.all fun d => (He.Fa.code d.at_ d.qual).ok K, fn.map fun l => l.map fun d => He.fnObs K d.at_)
def valA (fn : List (List He.FnD)) : Bool × List (List He.FnV) := (true, fn.map fun l => l.map He.FnD.val)
def SaysA (fa : List (List Fq)) (fn : List (List He.FnD)) (K : PySem.W.Frag) : Prop := obsA fa fn K = valA fn
def obsAG (fa : List (List Fq)) (fn : List (List He.FnD)) (g : Addr → Option Obj) : Bool × List (List He.FnV) := obsA fa fn (He.frG g (asH g))
def hookA (fa : List (List Fq)) (fn : List (List He.FnD)) : PySem.W.Hook where
  α := Bool × List (List He.FnV)
  obs := fun s => obsAG fa fn s.heap.get?
  val := fun _ => valA fn
  says := fun _ h => ∃ K : PySem.W.Frag, K.In h ∧ SaysA fa fn K
  of := fun _ _ e => ⟨_, He.frG_in, e⟩
  keeps := fun _ _ _ ⟨K, hK, c⟩ k => ⟨K, PySem.W.Frag.In.keeps hK k, c⟩
theorem obsAG_eq {fa : List (List Fq)} {fn : List (List He.FnD)} {g : Addr → Option Obj} {s : Shared} (h : ∀ a, g a = s.heap.get? a) : obsAG fa fn g = (hookA fa fn).obs s := by
  have e : g = s.heap.get? := funext h
  rw [e] <;> rfl
section
variable {fa : List (List Fq)} {fn : List (List He.FnD)} {K : PySem.W.Frag}
theorem SaysA.fact (c : SaysA fa fn K) (i j : Nat) {l : List Fq} {f : Fq} (h : fa[i]? = some l := by rfl) (h2 : l[j]? = some f := by rfl) : f K = true := by
  have c1 := (He.ba (show ((fa.all fun l => l.all fun f => f K) && fn.all fun l => l.all fun d => (He.Fa.code d.at_ d.qual).ok K) = true from congrArg (fun z : Bool × List (List He.FnV) => z.1) c)).1
  exact List.all_eq_true.mp (List.all_eq_true.mp c1 l (List.mem_of_getElem? h)) f (List.mem_of_getElem? h2)
theorem SaysA.def_ (c : SaysA fa fn K) (i j : Nat) {l : List He.FnD} {d : He.FnD} (h : fn[i]? = some l := by rfl) (h2 : l[j]? = some d := by rfl) :
    ∃ oc od osl kV doc pm an cdv ct, K.lookup (He.fAd K d.at_) = some ⟨oc, od, .func (PySem.W.fnOf d.name d.qual d.params d.body d.scope .none kV doc pm an cdv ct), osl⟩ ∧ PySem.W.codeIn K cdv d.qual = true := by
  have c2 := (He.ba (show ((fa.all fun l => l.all fun f => f K) && fn.all fun l => l.all fun d => (He.Fa.code d.at_ d.qual).ok K) = true from congrArg (fun z : Bool × List (List He.FnV) => z.1) c)).2
  have e : fn.map (fun l => l.map fun d => He.fnObs K d.at_) = fn.map fun l => l.map He.FnD.val := congrArg (fun z : Bool × List (List He.FnV) => z.2) c
  have e2 : (fn.map fun l => l.map fun d => He.fnObs K d.at_)[i]? = (fn.map fun l => l.map He.FnD.val)[i]? := by rw [e]
  rw [List.getElem?_map, List.getElem?_map, h] at e2
  have e3 : l.map (fun d => He.fnObs K d.at_) = l.map He.FnD.val := Option.some.inj e2
  have e4 : (l.map fun d => He.fnObs K d.at_)[j]? = (l.map He.FnD.val)[j]? := by rw [e3]
  rw [List.getElem?_map, List.getElem?_map, h2] at e4
  exact He.fn_ok (Option.some.inj e4) (List.all_eq_true.mp (List.all_eq_true.mp c2 l (List.mem_of_getElem? h)) d (List.mem_of_getElem? h2))
end
def strB (K : PySem.W.Frag) (x z : Str) : Bool := match PySem.W.nsIn K mainGlobals x with
  | some (some (.str y _)) => decide (y = z)
  | _ => false
section
variable {K : PySem.W.Frag}
theorem strB_ok {x z : Str} (c : strB K x z = true) : ∃ t, PySem.W.nsIn K mainGlobals x = some (some (.str z t)) := by
  unfold strB at c
  split at c
  · rename_i y t e
    rw [of_decide_eq_true c] at e
    exact ⟨t, e⟩
  · cases c
/-- a class of errors with its own __init__ -/
def xcB (K : PySem.W.Frag) (C : Addr) : Bool := match K.lookup C with
  | some ⟨.type "type", _, .cls cd, sl⟩ => (match cd.mro, sl.toList with
    | .ref C' :: .ref _ :: bm, [_, _, _, _, some (.builtin n), _] => C' == C && (n == "ValueError.__new__" && (!cd.hasDel && (cd.hasDict && bm == He.veBase)))
    | _, _ => false)
  | _ => false
theorem xcB_ok {C : Addr} (q : xcB K C = true) : ∃ nm qn N bs cx sn sub ab col dd k0 k1 k2 k3 k5,
    K.lookup C = some (excClassObj nm qn C N bs [.ref cx, .type "ValueError", .type "Exception", .type "BaseException", .type "object"] true sn sub ab col dd k0 k1 k2 k3 k5 "ValueError.__new__") := by
  unfold xcB at q
  split at q
  · rename_i dd cd sl ho
    split at q
    · rename_i C' cx bm k0 k1 k2 k3 n k5 hm hs
      simp only [Bool.and_eq_true, beq_iff_eq, Bool.not_eq_true'] at q
      obtain ⟨rfl, rfl, hdel, hdict, rfl⟩ := q
      obtain ⟨nm, bs, mro, ns, qn, hd, sn, sub, ab, col, del⟩ := cd
      dsimp only at hm hdel hdict
      subst hm hdel hdict
      have hsl : sl = #[k0, k1, k2, k3, some (.builtin "ValueError.__new__"), k5] := by
        obtain ⟨l⟩ := sl
        simp only at hs
        rw [hs]
      subst hsl
      exact ⟨nm, qn, ns, bs, cx, sn, sub, ab, col, dd, k0, k1, k2, k3, k5, ho⟩
    · cases q
  · cases q
/-- a keyword-only default -/
def kwB (K : PySem.W.Frag) (p : Str × Option Str) (kw : Str) (t : Value → Bool) : Bool := match K.lookup (He.fAd K p) with
  | some ⟨_, _, .func fd, _⟩ => (match fd.kwdefaults with
    | .ref D => (match PySem.W.nsIn K D kw with
      | some (some u) => t u
      | _ => false)
    | _ => false)
  | _ => false
def isB (b : Bool) : Value → Bool
  | .bool c => decide (c = b)
  | _ => false
theorem isB_ok {b : Bool} {u : Value} (h : isB b u = true) : u = .bool b := by
  unfold isB at h
  split at h
  · rw [of_decide_eq_true h]
  · cases h
theorem kwB_ok {p : Str × Option Str} {kw : Str} {t : Value → Bool} {oc : Value} {od an : Option Addr} {osl : Array (Option Value)} {nm qual : Str} {ar : Arguments} {bd : List Stmt} {sc : Scope} {kV doc pm cdv ct : Value}
    (c : kwB K p kw t = true) (l : K.lookup (He.fAd K p) = some ⟨oc, od, .func (PySem.W.fnOf nm qual ar bd sc .none kV doc pm an cdv ct), osl⟩) : ∃ D u, kV = .ref D ∧ PySem.W.nsIn K D kw = some (some u) ∧ t u = true := by
  unfold kwB at c
  rw [l] at c
  dsimp only at c
  split at c
  · rename_i D
    split at c
    · rename_i u e
      exact ⟨D, u, rfl, e, c⟩
    · cases c
  · cases c
end
/-- THE END of a law over that head -/
theorem dwalkE {l : PySem.W.OpenLaw} {k : Nat} {q : Program} {loose : List Str} {XP : (Str → Option Value) → Heap → Prop} {YP : World → Heap → Prop} {d : DefRec}
    (hn : l.most = some 63) (hdf : d.params.defaults = []) (hr : Room k callerA)
    (F : ∀ (w : World) (mg : Str → Option Value) (fa : Addr) (h : Heap), YP w h → h.Ns mainGlobals mg → mg d.name = some (.ref fa) →
      ∃ (K : PySem.W.Frag) (fd : FuncData), K.In h ∧ (∀ (s : Shared) (u : Value), BindsTo s fd ⟨[u], []⟩ [("script", u)]) ∧ ∀ base : Heap, K.In base → base.Ns mainGlobals mg → DF l.prog w K mg base CX0 k fa fd ["script"] (SpD K WLaw)) :
    PySem.W.WalkO q loose XP YP l.row.toRowW d [] (fun f vs => PySem.call f vs) := by
  apply Att.attach_call hn hdf
  intro w s₀ s₁ mg mb fa o pm cd doc a vs ns G Y ho hd hcd hmg hobj hints hlen hg
  obtain ⟨K, fd, KX, hb, hF⟩ := F w mg fa _ Y G.T.g hmg
  exact law_dcall KX G.T.g G.T.b G.T.builtins G.T.nolimit hg hobj hints hlen hr hF hb
end Dv.Hd
namespace Dv.U
open PySem L2 PyProof.Rows
/-! ### the text by places -/
def topS (i : Nat) : Stmt := PySem.Challenge.pw_crossfloor_k06_sequences_of_moves.main.body.getD i (.Pass ⟨0, 0, 0, 0⟩)
structure Bi (mg : Str → Option Value) : Prop where
  len : mg "len" = none
  min : mg "min" = none
  max : mg "max" = none
  sorted : mg "sorted" = none
  repr : mg "repr" = none
  int : mg "int" = none
  list : mg "list" = none
  tuple : mg "tuple" = none
  range : mg "range" = none
  enumerate : mg "enumerate" = none
  isinstance : mg "isinstance" = none
structure Cn (mg : Str → Option Value) : Prop where
  UPPER : ∃ u, mg "UPPER" = some u ∧ L2.RelV (.str "ABCDEFGHIJKLMNOPQRSTUVWXYZ") u
section
variable {Pg : Program} {w : World} {K : PySem.W.Frag} {mg : Str → Option Value} {base : Heap}
abbrev s_init_NotLeader : Stmt := inClass (topS 3) 0
theorem sc_init_NotLeader : FnScope ["self", "name"] ["self", "name"] (defScope s_init_NotLeader) := ⟨rfl, rfl, rfl, by decide +kernel, rfl, by decide +kernel, by decide +kernel⟩
abbrev s_init_UnknownItem : Stmt := inClass (topS 2) 0
theorem sc_init_UnknownItem : FnScope ["self", "name"] ["self", "name"] (defScope s_init_UnknownItem) := ⟨rfl, rfl, rfl, by decide +kernel, rfl, by decide +kernel, by decide +kernel⟩
abbrev s_is_leader : Stmt := topS 6
theorem sc_is_leader : FnScope ["name"] ["name"] (defScope s_is_leader) := ⟨rfl, rfl, rfl, by decide +kernel, rfl, by decide +kernel, by decide +kernel⟩
theorem d_is_leader (A : FunAt K mg "is_leader" s_is_leader ["name"]) (B : Bi mg) (C : Cn mg) : Dfn Pg w K mg base 1 "is_leader" ["name"] W_is_leader := by
  refine dfn_mk (k := 0) A sc_is_leader (fun ss m P h => by obtain ⟨_, _, e, _⟩ := h; rw [e]; rfl) (fun f cdv A outer s H E hg hr => ?_) (rd_is_leader (Pg := Pg) (w := w))
  have nd := sc_is_leader.nd
  unfold t_is_leader
  exact (pss_one (ps_ret (pe_cmpR (op_inU (hu65 hr)) (pe_ix ix_seq (pv 0) pe_int (fun _ _ => rfl)) (pe_cn C.UPPER) (by rfl))))
abbrev s_crossed : Stmt := topS 11
theorem sc_crossed : FnScope ["line", "at"] ["line", "at"] (defScope s_crossed) := ⟨rfl, rfl, rfl, by decide +kernel, rfl, by decide +kernel, by decide +kernel⟩
theorem d_crossed (A : FunAt K mg "crossed" s_crossed ["line", "at"]) (B : Bi mg) (C : Cn mg) : Dfn Pg w K mg base 1 "crossed" ["line", "at"] W_crossed := by
  refine dfn_mk (k := 0) A sc_crossed (fun ss m P h => by obtain ⟨_, _, e, _⟩ := h; rw [e]; rfl) (fun f cdv A outer s H E hg hr => ?_) (rd_crossed (Pg := Pg) (w := w))
  have nd := sc_crossed.nd
  unfold t_crossed
  exact (pss_one (ps_ret (pe_op op_addU (pe_op op_addU (pe_slice sl_U (pv 0) (po_some (pe_op op_addU (pv 1) pe_int)) po_none) (pe_slice sl_U (pv 0) (po_some (pv 1)) (po_some (pe_op op_addU (pv 1) pe_int)))) (pe_slice sl_U (pv 0) po_none (po_some (pv 1))))))
abbrev s_source : Stmt := topS 15
theorem sc_source : FnScope ["script", "index", "cell"] ["script", "index"] (defScope s_source) := ⟨rfl, rfl, rfl, by decide +kernel, rfl, by decide +kernel, by decide +kernel⟩
theorem d_source (A : FunAt K mg "_law_source" s_source ["script", "index"]) (B : Bi mg) (C : Cn mg) : Dfn Pg w K mg base 1 "_law_source" ["script", "index"] W_source := by
  refine dfn_mk (k := 0) A sc_source (fun ss m P h => by obtain ⟨_, _, e, _⟩ := h; rw [e]; rfl) (fun f cdv A outer s H E hg hr => ?_) (rd_source (Pg := Pg) (w := w))
  have nd := sc_source.nd
  unfold t_source
  exact (pss_cons (ps_setA 2 nd pe_int)
      (pss_cons (ps_if (pt_cmpR op_lt (pv 1) (pe_callB call_len (by rfl) B.len PySem.boot_len (pa_cons (pv 0) pa_nil)) (nomark _))
      (pss_one (ps_setA 2 nd (pe_ix ix_seq (pv 0) (pv 1) (fun _ _ => rfl))))
      pss_nil)
      (pss_one (ps_ret (pe_lst (pa_cons (pe_callB (call_max2 rfl) (by rfl) B.max (by decide +kernel) (pa_cons pe_int (pa_cons (pe_op op_sub (pv 2) (pe_op op_powW pe_int pe_int)) pa_nil))) (pa_cons (pe_op op_addU (pe_op op_mod (pv 2) (pe_op op_addU (pe_op op_powW pe_int pe_int) pe_int)) (pe_op op_mulU pe_int (pv 1))) (pa_cons pe_int pa_nil))))))))
abbrev s_draw : Stmt := topS 16
theorem sc_draw : FnScope ["source", "bound", "digit", "mixed"] ["source", "bound"] (defScope s_draw) := ⟨rfl, rfl, rfl, by decide +kernel, rfl, by decide +kernel, by decide +kernel⟩
theorem d_draw (A : FunAt K mg "_law_draw" s_draw ["source", "bound"]) (B : Bi mg) (C : Cn mg) : Dfn Pg w K mg base 1 "_law_draw" ["source", "bound"] W_draw := by
  refine dfn_mk (k := 0) A sc_draw (fun ss m P h => by obtain ⟨_, _, _, _, e, _⟩ := h; rw [e]; rfl) (fun f cdv A outer s H E hg hr => ?_) (rd_draw (Pg := Pg) (w := w))
  have nd := sc_draw.nd
  unfold t_draw
  exact (pss_cons (ps_if (pt_cmpR op_gt (pe_ix ix_seq (pv 0) pe_int (fun _ _ => rfl)) pe_int (nomark _))
      (pss_cons (ps_setA 2 nd (pe_op op_mod (pe_ix ix_seq (pv 0) pe_int (fun _ _ => rfl)) (pv 1)))
      (pss_cons (ps_asg (pe_op op_fdivW (pe_ix ix_seq (pv 0) pe_int (fun _ _ => rfl)) (pv 1)) (pg_sub (pv 0) pe_int set_list))
      (pss_one (ps_ret (pv 2)))))
      pss_nil)
      (pss_cons (ps_asg (pe_op op_addU (pe_ix ix_seq (pv 0) pe_int (fun _ _ => rfl)) pe_int) (pg_sub (pv 0) pe_int set_list))
      (pss_cons (ps_setA 3 nd (pe_op op_mod (pe_op op_powW (pe_op op_addU (pe_ix ix_seq (pv 0) pe_int (fun _ _ => rfl)) (pe_op op_mulU pe_int (pe_ix ix_seq (pv 0) pe_int (fun _ _ => rfl)))) pe_int) (pe_op op_addU (pe_op op_powW pe_int pe_int) pe_int)))
      (pss_cons (ps_setA 3 nd (pe_op op_mod (pe_op op_powW (pe_op op_addU (pv 3) (pe_op op_mulU pe_int (pe_ix ix_seq (pv 0) pe_int (fun _ _ => rfl)))) pe_int) (pe_op op_addU (pe_op op_powW pe_int pe_int) pe_int)))
      (pss_one (ps_ret (pe_op op_mod (pe_op op_fdivW (pv 3) pe_int) (pv 1))))))))
abbrev s_name : Stmt := topS 18
theorem sc_name : FnScope ["style", "shift", "number", "letters", "first", "second", "names"] ["style", "shift", "number"] (defScope s_name) := ⟨rfl, rfl, rfl, by decide +kernel, rfl, by decide +kernel, by decide +kernel⟩
theorem d_name (A : FunAt K mg "_law_name" s_name ["style", "shift", "number"]) (B : Bi mg) (C : Cn mg) : Dfn Pg w K mg base 1 "_law_name" ["style", "shift", "number"] W_name := by
  refine dfn_mk (k := 0) A sc_name (fun ss m P h => by obtain ⟨_, _, _, e, _⟩ := h; rw [e]; rfl) (fun f cdv A outer s H E hg hr => ?_) (rd_name (Pg := Pg) (w := w))
  have nd := sc_name.nd
  unfold t_name
  exact (pss_cons (ps_setA 3 nd pe_str)
      (pss_cons (ps_setA 4 nd (pe_ix ix_seq (pv 3) (pe_op op_mod (pe_op op_addU (pv 2) (pv 1)) pe_int) (fun _ _ => rfl)))
      (pss_cons (ps_setA 5 nd (pe_ix ix_seq (pv 3) (pe_op op_mod (pe_op op_addU (pe_op op_fdivW (pv 2) pe_int) (pe_op op_mulU pe_int (pv 1))) pe_int) (fun _ _ => rfl)))
      (pss_cons (ps_setA 6 nd (pe_lst (pa_cons (pe_op op_addU (pv 4) (pe_op op_mulU (pv 5) (pe_callTy call_int1 (by rfl) B.int (by decide +kernel) (pa_cons (pe_cmpR op_gt (pv 2) pe_int (nomark _)) pa_nil)))) (pa_cons (pe_op op_addU (pv 5) (pv 4)) (pa_cons (pe_op op_addU (pe_op op_addU pe_str (pv 5)) (pv 4)) (pa_cons (pe_op op_addU (pe_op op_addU (pv 4) (pv 5)) pe_str) pa_nil))))))
      (pss_cons (ps_setA 6 nd (pe_op op_addU (pv 6) (pe_lst (pa_cons (pe_op op_addU (pe_op op_addU (pv 4) (pv 5)) (pe_op op_mulU (pv 5) (pe_op op_mod (pv 2) pe_int))) (pa_cons (pe_op op_addU (pe_op op_addU (pv 5) (pv 4)) pe_str) pa_nil)))))
      (pss_one (ps_ret (pe_ix ix_seq (pv 6) (pv 0) (fun _ _ => rfl)))))))))
abbrev s_leaders : Stmt := topS 22
theorem sc_leaders : FnScope ["floor", "found", "cells", "name"] ["floor"] (defScope s_leaders) := ⟨rfl, rfl, rfl, by decide +kernel, rfl, by decide +kernel, by decide +kernel⟩
theorem d_leaders (A : FunAt K mg "_law_leaders" s_leaders ["floor"]) (B : Bi mg) (C : Cn mg) : Dfn Pg w K mg base 1 "_law_leaders" ["floor"] W_leaders := by
  refine dfn_mk (k := 0) A sc_leaders (fun ss m P h => by obtain ⟨_, e, _⟩ := h; rw [e]; rfl) (fun f cdv A outer s H E hg hr => ?_) (rd_leaders (Pg := Pg) (w := w))
  have nd := sc_leaders.nd
  unfold t_leaders
  exact (pss_cons (ps_setA 1 nd (pe_lst pa_nil))
      (pss_cons (ps_for PassesOwn.never rfl (pi_seqU (pv 0)) (pg_nameA 2 nd)
      (pss_one (ps_setA 1 nd (pe_op op_addU (pv 1) (pe_lc (own := [("name", 3)]) (g := (gName 3)) (tt := (tTest (tOp (rInU K Pg w) (tOp (rIx K) (tVar 3) (tC (.int 0))) (tC (.str "ABCDEFGHIJKLMNOPQRSTUVWXYZ"))))) rfl nd (pi_seqU (pv 2)) (blkOk_by (N := ["floor", "found", "cells", "name"]) (sc := defScope s_leaders) (by decide +kernel)) (fun _ _ _ _ _ => (pg_nameA 3 nd)) (fun _ _ _ _ _ => pts_one (pt_cmpR (op_inU (hu65 hr)) (pe_ix ix_seq (pv 3) pe_int (fun _ _ => rfl)) pe_str (by rfl))) (fun _ _ _ _ _ => (pv 3)))))))
      (pss_one (ps_ret (pe_callB cr_sortS (by rfl) B.sorted (by decide +kernel) (pa_cons (pv 1) pa_nil))))))
abbrev s_l_cross : Stmt := topS 23
theorem sc_l_cross : FnScope ["floor", "name", "row", "column", "lines", "index", "line"] ["floor", "name"] (defScope s_l_cross) := ⟨rfl, rfl, rfl, by decide +kernel, rfl, by decide +kernel, by decide +kernel⟩
theorem d_l_cross (A : FunAt K mg "_law_cross" s_l_cross ["floor", "name"]) (B : Bi mg) (C : Cn mg) : Dfn Pg w K mg base 1 "_law_cross" ["floor", "name"] W_l_cross := by
  refine dfn_mk (k := 0) A sc_l_cross (fun ss m P h => by obtain ⟨_, _, _, _, e, _⟩ := h; rw [e]; rfl) (fun f cdv A outer s H E hg hr => ?_) (rd_l_cross (Pg := Pg) (w := w))
  have nd := sc_l_cross.nd
  unfold t_l_cross
  exact (pss_cons (ps_setA 2 nd (pe_ix ix_seq (pe_lc (own := [("index", 5)]) (g := (gName 5)) (tt := (tTest (tOp (rInU K Pg w) (tVar 1) (tOp (rIx K) (tVar 0) (tVar 5))))) rfl nd (pi_range1 (by rfl) B.range (pa_cons (pe_callB call_len (by rfl) B.len PySem.boot_len (pa_cons (pv 0) pa_nil)) pa_nil)) (blkOk_by (N := ["floor", "name", "row", "column", "lines", "index", "line"]) (sc := defScope s_l_cross) (by decide +kernel)) (fun _ _ _ _ _ => (pg_nameA 5 nd)) (fun _ _ _ _ _ => pts_one (pt_cmpR (op_inU (hu65 hr)) (pv 1) (pe_ix ix_seq (pv 0) (pv 5) (fun _ _ => rfl)) (by rfl))) (fun _ _ _ _ _ => (pv 5))) pe_int (fun _ _ => rfl)))
      (pss_cons (ps_setA 3 nd (pe_tm1 PySem.F.slot_tuple_index PySem.F.type_tuple_index mt_tup_index (pe_ix ix_seq (pv 0) (pv 2) (fun _ _ => rfl)) (pv 1)))
      (pss_cons (ps_setA 4 nd (pe_op op_addU (pe_op op_addU (pe_callTy call_list_of (by rfl) B.list (by decide +kernel) (pa_cons (pe_slice sl_U (pv 0) (po_some (pe_op op_addU (pv 2) pe_int)) po_none) pa_nil)) (pe_lst (pa_cons (pe_ix ix_seq (pv 0) (pv 2) (fun _ _ => rfl)) pa_nil))) (pe_callTy call_list_of (by rfl) B.list (by decide +kernel) (pa_cons (pe_slice sl_U (pv 0) po_none (po_some (pv 2))) pa_nil))))
      (pss_one (ps_ret (pe_callTy call_tupleZ (by rfl) B.tuple (by decide +kernel) (pa_cons (pe_lc (own := [("line", 6)]) (g := (gName 6)) (tt := tYes) rfl nd (pi_seqU (pv 4)) (blkOk_by (N := ["floor", "name", "row", "column", "lines", "index", "line"]) (sc := defScope s_l_cross) (by decide +kernel)) (fun _ _ _ _ _ => (pg_nameA 6 nd)) (fun _ _ _ _ _ => pts_nil) (fun _ _ _ _ _ => (pe_callTy call_tupleZ (by rfl) B.tuple (by decide +kernel) (pa_cons (pe_op op_addU (pe_op op_addU (pe_callTy call_list_of (by rfl) B.list (by decide +kernel) (pa_cons (pe_slice sl_U (pv 6) (po_some (pe_op op_addU (pv 3) pe_int)) po_none) pa_nil)) (pe_lst (pa_cons (pe_ix ix_seq (pv 6) (pv 3) (fun _ _ => rfl)) pa_nil))) (pe_callTy call_list_of (by rfl) B.list (by decide +kernel) (pa_cons (pe_slice sl_U (pv 6) po_none (po_some (pv 3))) pa_nil))) pa_nil)))) pa_nil)))))))
abbrev s_shuffled : Stmt := topS 17
theorem sc_shuffled : FnScope ["source", "things", "left", "step"] ["source", "things"] (defScope s_shuffled) := ⟨rfl, rfl, rfl, by decide +kernel, rfl, by decide +kernel, by decide +kernel⟩
theorem d_shuffled (A : FunAt K mg "_law_shuffled" s_shuffled ["source", "things"]) (B : Bi mg) (C : Cn mg) (D_draw : Dfn Pg w K mg base 1 "_law_draw" ["source", "bound"] W_draw) : Dfn Pg w K mg base 2 "_law_shuffled" ["source", "things"] W_shuffled := by
  refine dfn_mk (k := 1) A sc_shuffled (fun ss m P h => by obtain ⟨_, _, _, _, e, _⟩ := h; rw [e]; rfl) (fun f cdv A outer s H E hg hr => ?_) (rd_shuffled (Pg := Pg) (w := w))
  have nd := sc_shuffled.nd
  unfold t_shuffled
  exact (pss_cons (ps_setA 2 nd (pe_callTy call_list_of (by rfl) B.list (by decide +kernel) (pa_cons (pv 1) pa_nil)))
      (pss_one (ps_ret (pe_lc (own := [("step", 3)]) (g := (gName 3)) (tt := tYes) rfl nd (pi_range1 (by rfl) B.range (pa_cons (pe_callB call_len (by rfl) B.len PySem.boot_len (pa_cons (pv 2) pa_nil)) pa_nil)) (blkOk_by (N := ["source", "things", "left", "step"]) (sc := defScope s_shuffled) (by decide +kernel)) (fun _ _ _ _ _ => (pg_nameA 3 nd)) (fun _ _ _ _ _ => pts_nil) (fun _ _ _ _ _ => (pe_bm PySem.F.plainAttrs_list PySem.F.slot_list_pop PySem.F.type_list_pop mt_popAt (pv 2) (pa_cons (pe_fn D_draw hg hr (by decide) rfl (pa_cons (pv 0) (pa_cons (pe_callB call_len (by rfl) B.len PySem.boot_len (pa_cons (pv 2) pa_nil)) pa_nil))) pa_nil)))))))
abbrev s_l_play : Stmt := topS 24
theorem sc_l_play : FnScope ["floor", "names", "name"] ["floor", "names"] (defScope s_l_play) := ⟨rfl, rfl, rfl, by decide +kernel, rfl, by decide +kernel, by decide +kernel⟩
theorem d_l_play (A : FunAt K mg "_law_play" s_l_play ["floor", "names"]) (B : Bi mg) (C : Cn mg) (D_l_cross : Dfn Pg w K mg base 1 "_law_cross" ["floor", "name"] W_l_cross) : Dfn Pg w K mg base 2 "_law_play" ["floor", "names"] W_playT := by
  refine dfn_mk (k := 1) A sc_l_play (fun ss m P h => by obtain ⟨_, _, _, e, _⟩ := h; rw [e]; rfl) (fun f cdv A outer s H E hg hr => ?_) (rd_playT (Pg := Pg) (w := w))
  have nd := sc_l_play.nd
  unfold t_playT
  exact (pss_cons (ps_for PassesOwn.never rfl (pi_seqU (pv 1)) (pg_nameA 2 nd)
      (pss_one (ps_setA 0 nd (pe_fn D_l_cross hg hr (by decide) rfl (pa_cons (pv 0) (pa_cons (pv 2) pa_nil))))))
      (pss_one (ps_ret (pv 0))))
abbrev s_twinned : Stmt := topS 26
theorem sc_twinned : FnScope ["source", "floor", "leaders", "others", "cells", "leader", "other", "twin", "name"] ["source", "floor"] (defScope s_twinned) := ⟨rfl, rfl, rfl, by decide +kernel, rfl, by decide +kernel, by decide +kernel⟩
theorem d_twinned (A : FunAt K mg "_law_twinned" s_twinned ["source", "floor"]) (B : Bi mg) (C : Cn mg) (D_draw : Dfn Pg w K mg base 1 "_law_draw" ["source", "bound"] W_draw) (D_leaders : Dfn Pg w K mg base 1 "_law_leaders" ["floor"] W_leaders) : Dfn Pg w K mg base 2 "_law_twinned" ["source", "floor"] W_twinnedZ := by
  refine dfn_mk (k := 1) A sc_twinned (fun ss m P h => by obtain ⟨_, _, _, _, _, _, e, _⟩ := h; rw [e]; rfl) (fun f cdv A outer s H E hg hr => ?_) (rd_twinnedZ (Pg := Pg) (w := w))
  have nd := sc_twinned.nd
  unfold t_twinned
  exact (pss_cons (ps_setA 2 nd (pe_fn D_leaders hg hr (by decide) rfl (pa_cons (pv 1) pa_nil)))
      (pss_cons (ps_setA 3 nd (pe_lst pa_nil))
      (pss_cons (ps_for PassesOwn.never rfl (pi_seqU (pv 1)) (pg_nameA 4 nd)
      (pss_one (ps_setA 3 nd (pe_op op_addU (pv 3) (pe_lc (own := [("name", 8)]) (g := (gName 8)) (tt := (tTest (tOp (rNotInU K Pg w) (tVar 8) (tVar 2)))) rfl nd (pi_seqU (pv 4)) (blkOk_by (N := ["source", "floor", "leaders", "others", "cells", "leader", "other", "twin", "name"]) (sc := defScope s_twinned) (by decide +kernel)) (fun _ _ _ _ _ => (pg_nameA 8 nd)) (fun _ _ _ _ _ => pts_one (pt_cmpR (op_notInU (hu65 hr)) (pv 8) (pv 2) (by rfl))) (fun _ _ _ _ _ => (pv 8)))))))
      (pss_cons (ps_if (PW.pt (pw_or (pt_cmpR (op_eqU (hu64 hr)) (pv 2) (pe_lst pa_nil) (nomark _)) (pw_or (pt_cmpR (op_eqU (hu64 hr)) (pv 3) (pe_lst pa_nil) (nomark _)) (pw_or1 (pt_cmpR op_gt (pe_fn D_draw hg hr (by decide) rfl (pa_cons (pv 0) (pa_cons pe_int pa_nil))) pe_int (nomark _))))))
      (pss_one (ps_ret (pv 1)))
      pss_nil)
      (pss_cons (ps_setA 5 nd (pe_ix ix_seq (pv 2) (pe_fn D_draw hg hr (by decide) rfl (pa_cons (pv 0) (pa_cons (pe_callB call_len (by rfl) B.len PySem.boot_len (pa_cons (pv 2) pa_nil)) pa_nil))) (fun _ _ => rfl)))
      (pss_cons (ps_setA 6 nd (pe_ix ix_seq (pv 3) (pe_fn D_draw hg hr (by decide) rfl (pa_cons (pv 0) (pa_cons (pe_callB call_len (by rfl) B.len PySem.boot_len (pa_cons (pv 3) pa_nil)) pa_nil))) (fun _ _ => rfl)))
      (pss_cons (ps_setA 7 nd (pe_op op_addU (pe_lower (pe_ix ix_seq (pv 5) pe_int (fun _ _ => rfl))) (pe_slice sl_U (pv 5) (po_some pe_int) po_none)))
      (pss_one (ps_ret (pe_callTy call_tupleZ (by rfl) B.tuple (by decide +kernel) (pa_cons (pe_lc (own := [("cells", 4)]) (g := (gName 4)) (tt := tYes) rfl nd (pi_seqU (pv 1)) (blkOk_by (N := ["source", "floor", "leaders", "others", "cells", "leader", "other", "twin", "name"]) (sc := defScope s_twinned) (by decide +kernel)) (fun _ _ _ _ _ => (pg_nameA 4 nd)) (fun _ _ _ _ _ => pts_nil) (fun _ _ _ _ _ => (pe_callTy call_tupleZ (by rfl) B.tuple (by decide +kernel) (pa_cons (pe_lc (own := [("name", 8)]) (g := (gName 8)) (tt := tYes) rfl nd (pi_seqU (pv 4)) (blkOk_by (by rfl)) (fun _ _ _ _ _ => (pg_nameA 8 nd)) (fun _ _ _ _ _ => pts_nil) (fun _ _ _ _ _ => (pe_ifExp (pt_cmpR (op_eqU (hu64 hr)) (pv 8) (pv 6) (nomark _)) (pv 7) (pv 8)))) pa_nil)))) pa_nil)))))))))))
abbrev s_locate : Stmt := topS 7
theorem sc_locate : FnScope ["floor", "name", "row", "names"] ["floor", "name"] (defScope s_locate) := ⟨rfl, rfl, rfl, by decide +kernel, rfl, by decide +kernel, by decide +kernel⟩
theorem d_locate (A : FunAt K mg "locate" s_locate ["floor", "name"]) (B : Bi mg) (C : Cn mg) {CU : Addr} (R_UnknownItem : ErrC Pg w K mg base "UnknownItem" CU ["name"]) : DfnX Pg w K mg base 3 "locate" ["floor", "name"] (WX_locate CU) := by
  refine dfnX_mk (k := 2) A sc_locate (fun ss m P Y h => by obtain ⟨_, _, e, _⟩ := h; rw [e]; rfl) (fun f cdv A outer s H E hg hr => ?_) (rd_locate (Pg := Pg) (w := w) CU)
  have nd := sc_locate.nd
  have tk : Takes (cxOf (CX Pg w) Pg w K mg base ["floor", "name", "row", "names"] "locate" (defScope s_locate) f cdv A outer s H E) (fun cls d _ H' => E cls d H') := takes_of rfl rfl rfl rfl
  unfold t_locate
  exact (pss_cons (ps_for (passes_of rfl) rfl (pi_enumU (by rfl) B.enumerate (pa_cons (pv 0) pa_nil)) (pg_tup rfl (pgs_cons (pg_nameA 2 nd) (pgs_cons (pg_nameA 3 nd) pgs_nil)))
      (pss_one (ps_if (pt_cmpR (op_inU (hu65 hr)) (pv 1) (pv 3) (by rfl))
      (pss_one (ps_ret (pe_tupZ (pa_cons (pv 2) (pa_cons (pe_tm1 PySem.F.slot_tuple_index PySem.F.type_tuple_index mt_tup_index (pv 3) (pv 1)) pa_nil)))))
      pss_nil)))
      (pss_one (ps_raiseC R_UnknownItem rfl tk hr (by decide) (by rfl) (pa_cons (pv 1) pa_nil))))
abbrev s_pattern : Stmt := topS 19
theorem sc_pattern : FnScope ["source", "rows", "columns", "way", "cells", "row", "lines", "others", "many", "line", "cell", "index", "column"] ["source", "rows", "columns"] (defScope s_pattern) := ⟨rfl, rfl, rfl, by decide +kernel, rfl, by decide +kernel, by decide +kernel⟩
theorem d_pattern (A : FunAt K mg "_law_pattern" s_pattern ["source", "rows", "columns"]) (B : Bi mg) (C : Cn mg) (D_draw : Dfn Pg w K mg base 1 "_law_draw" ["source", "bound"] W_draw) (D_shuffled : Dfn Pg w K mg base 2 "_law_shuffled" ["source", "things"] W_shuffled) : Dfn Pg w K mg base 3 "_law_pattern" ["source", "rows", "columns"] W_pattern := by
  refine dfn_mk (k := 2) A sc_pattern (fun ss m P h => by obtain ⟨_, _, _, _, _, e, _⟩ := h; rw [e]; rfl) (fun f cdv A outer s H E hg hr => ?_) (rd_pattern (Pg := Pg) (w := w))
  have nd := sc_pattern.nd
  unfold t_pattern
  exact (pss_cons (ps_setA 3 nd (pe_fn D_draw hg hr (by decide) rfl (pa_cons (pv 0) (pa_cons pe_int pa_nil))))
      (pss_cons (ps_setA 4 nd (pe_lst pa_nil))
      (pss_cons (ps_for PassesOwn.never rfl (pi_range1 (by rfl) B.range (pa_cons (pv 1) pa_nil)) (pg_nameA 5 nd)
      (pss_one (ps_setA 4 nd (pe_op op_addU (pv 4) (pe_lc (own := [("column", 12)]) (g := (gName 12)) (tt := tYes) rfl nd (pi_range1 (by rfl) B.range (pa_cons (pv 2) pa_nil)) (blkOk_by (N := ["source", "rows", "columns", "way", "cells", "row", "lines", "others", "many", "line", "cell", "index", "column"]) (sc := defScope s_pattern) (by decide +kernel)) (fun _ _ _ _ _ => (pg_nameA 12 nd)) (fun _ _ _ _ _ => pts_nil) (fun _ _ _ _ _ => (pe_tupZ (pa_cons (pv 5) (pa_cons (pv 12) pa_nil)))))))))
      (pss_cons (ps_if (pt_cmpR op_lt (pv 3) pe_int (nomark _))
      (pss_one (ps_ret (pv 4)))
      pss_nil)
      (pss_cons (ps_if (pt_cmpR (op_eqU (hu64 hr)) (pv 3) pe_int (nomark _))
      (pss_one (ps_ret (pe_lst pa_nil)))
      pss_nil)
      (pss_cons (ps_if (pt_cmpR (op_eqU (hu64 hr)) (pv 3) pe_int (nomark _))
      (pss_one (ps_ret (pe_lst (pa_cons (pe_ix ix_seq (pv 4) (pe_fn D_draw hg hr (by decide) rfl (pa_cons (pv 0) (pa_cons (pe_callB call_len (by rfl) B.len PySem.boot_len (pa_cons (pv 4) pa_nil)) pa_nil))) (fun _ _ => rfl)) pa_nil))))
      pss_nil)
      (pss_cons (ps_if (pt_cmpR (op_eqU (hu64 hr)) (pv 3) pe_int (nomark _))
      (pss_cons (ps_setA 6 nd (pe_fn D_shuffled hg hr (by decide) rfl (pa_cons (pv 0) (pa_cons (pe_listRg rfl (by rfl) B.list (prg_1 (by rfl) B.range (pv 1))) pa_nil))))
      (pss_cons (ps_setA 7 nd (pe_fn D_shuffled hg hr (by decide) rfl (pa_cons (pv 0) (pa_cons (pe_listRg rfl (by rfl) B.list (prg_1 (by rfl) B.range (pv 2))) pa_nil))))
      (pss_cons (ps_setA 8 nd (pe_op op_addU pe_int (pe_fn D_draw hg hr (by decide) rfl (pa_cons (pv 0) (pa_cons (pe_callB (call_minU rfl) (by rfl) B.min (by decide +kernel) (pa_cons (pv 1) (pa_cons (pv 2) pa_nil))) pa_nil)))))
      (pss_one (ps_ret (pe_lc (own := [("index", 11)]) (g := (gName 11)) (tt := tYes) rfl nd (pi_range1 (by rfl) B.range (pa_cons (pv 8) pa_nil)) (blkOk_by (N := ["source", "rows", "columns", "way", "cells", "row", "lines", "others", "many", "line", "cell", "index", "column"]) (sc := defScope s_pattern) (by decide +kernel)) (fun _ _ _ _ _ => (pg_nameA 11 nd)) (fun _ _ _ _ _ => pts_nil) (fun _ _ _ _ _ => (pe_tupZ (pa_cons (pe_ix ix_seq (pv 6) (pv 11) (fun _ _ => rfl)) (pa_cons (pe_ix ix_seq (pv 7) (pv 11) (fun _ _ => rfl)) pa_nil))))))))))
      pss_nil)
      (pss_cons (ps_if (pt_cmpR (op_eqU (hu64 hr)) (pv 3) pe_int (nomark _))
      (pss_cons (ps_setA 9 nd (pe_fn D_draw hg hr (by decide) rfl (pa_cons (pv 0) (pa_cons (pv 1) pa_nil))))
      (pss_one (ps_ret (pe_lc (own := [("cell", 10)]) (g := (gName 10)) (tt := (tTest (tOp (rEqU K) (tOp (rIx K) (tVar 10) (tC (.int 0))) (tVar 9)))) rfl nd (pi_seqU (pv 4)) (blkOk_by (N := ["source", "rows", "columns", "way", "cells", "row", "lines", "others", "many", "line", "cell", "index", "column"]) (sc := defScope s_pattern) (by decide +kernel)) (fun _ _ _ _ _ => (pg_nameA 10 nd)) (fun _ _ _ _ _ => pts_one (pt_cmpR (op_eqU (hu64 hr)) (pe_ix ix_seq (pv 10) pe_int (fun _ _ => rfl)) (pv 9) (nomark _))) (fun _ _ _ _ _ => (pv 10))))))
      pss_nil)
      (pss_cons (ps_if (pt_cmpR (op_eqU (hu64 hr)) (pv 3) pe_int (nomark _))
      (pss_cons (ps_setA 9 nd (pe_fn D_draw hg hr (by decide) rfl (pa_cons (pv 0) (pa_cons (pv 2) pa_nil))))
      (pss_one (ps_ret (pe_lc (own := [("cell", 10)]) (g := (gName 10)) (tt := (tTest (tOp (rEqU K) (tOp (rIx K) (tVar 10) (tC (.int 1))) (tVar 9)))) rfl nd (pi_seqU (pv 4)) (blkOk_by (N := ["source", "rows", "columns", "way", "cells", "row", "lines", "others", "many", "line", "cell", "index", "column"]) (sc := defScope s_pattern) (by decide +kernel)) (fun _ _ _ _ _ => (pg_nameA 10 nd)) (fun _ _ _ _ _ => pts_one (pt_cmpR (op_eqU (hu64 hr)) (pe_ix ix_seq (pv 10) pe_int (fun _ _ => rfl)) (pv 9) (nomark _))) (fun _ _ _ _ _ => (pv 10))))))
      pss_nil)
      (pss_cons (ps_if (pt_cmpR (op_eqU (hu64 hr)) (pv 3) pe_int (nomark _))
      (pss_cons (ps_expr (pe_bm PySem.F.plainAttrs_list PySem.F.slot_list_pop PySem.F.type_list_pop mt_popAt (pv 4) (pa_cons (pe_fn D_draw hg hr (by decide) rfl (pa_cons (pv 0) (pa_cons (pe_callB call_len (by rfl) B.len PySem.boot_len (pa_cons (pv 4) pa_nil)) pa_nil))) pa_nil)))
      (pss_one (ps_ret (pv 4))))
      pss_nil)
      (pss_one (ps_ret (pe_lc (own := [("cell", 10)]) (g := (gName 10)) (tt := (tTest (tOp (rEqU K) (tCall (SpD K W_draw) [] E0 (tCons (tVar 0) (tCons (tC (.int 3)) tNil))) (tC (.int 0))))) rfl nd (pi_seqU (pv 4)) (blkOk_by (N := ["source", "rows", "columns", "way", "cells", "row", "lines", "others", "many", "line", "cell", "index", "column"]) (sc := defScope s_pattern) (by decide +kernel)) (fun _ _ _ _ _ => (pg_nameA 10 nd)) (fun _ _ _ _ _ => pts_one (pt_cmpR (op_eqU (hu64 hr)) (pe_fn D_draw hg hr (by decide) rfl (pa_cons (pv 0) (pa_cons pe_int pa_nil))) pe_int (nomark _))) (fun _ _ _ _ _ => (pv 10)))))))))))))))
abbrev s_locate_leader : Stmt := topS 9
theorem sc_locate_leader : FnScope ["floor", "name", "place"] ["floor", "name"] (defScope s_locate_leader) := ⟨rfl, rfl, rfl, by decide +kernel, rfl, by decide +kernel, by decide +kernel⟩
theorem d_locate_leader (A : FunAt K mg "locate_leader" s_locate_leader ["floor", "name"]) (B : Bi mg) (C : Cn mg) {CN : Addr} (R_NotLeader : ErrC Pg w K mg base "NotLeader" CN ["name"]) {CU : Addr} (R_UnknownItem : ErrC Pg w K mg base "UnknownItem" CU ["name"]) (D_is_leader : Dfn Pg w K mg base 1 "is_leader" ["name"] W_is_leader) (D_locate : DfnX Pg w K mg base 3 "locate" ["floor", "name"] (WX_locate CU)) : DfnX Pg w K mg base 4 "locate_leader" ["floor", "name"] (WX_locate_leader CU CN) := by
  refine dfnX_mk (k := 3) A sc_locate_leader (fun ss m P Y h => by obtain ⟨_, _, e, _⟩ := h; rw [e]; rfl) (fun f cdv A outer s H E hg hr => ?_) (rd_locate_leader (Pg := Pg) (w := w) CU CN)
  have nd := sc_locate_leader.nd
  have tk : Takes (cxOf (CX Pg w) Pg w K mg base ["floor", "name", "place"] "locate_leader" (defScope s_locate_leader) f cdv A outer s H E) (fun cls d _ H' => E cls d H') := takes_of rfl rfl rfl rfl
  unfold t_locate_leader
  exact (pss_cons (ps_setA 2 nd (pe_fnX D_locate tk hg hr (by decide) rfl (pa_cons (pv 0) (pa_cons (pv 1) pa_nil))))
      (pss_cons (ps_if (pt_not (pt_tr (pe_fn D_is_leader hg hr (by decide) rfl (pa_cons (pv 1) pa_nil))))
      (pss_one (ps_raiseC R_NotLeader rfl tk hr (by decide) (by rfl) (pa_cons (pv 1) pa_nil)))
      pss_nil)
      (pss_one (ps_ret (pv 2)))))
abbrev s_named : Stmt := topS 20
theorem sc_named : FnScope ["source", "rows", "columns", "pattern", "style", "shift", "numbers", "floor", "row", "cells", "column", "name"] ["source", "rows", "columns"] (defScope s_named) := ⟨rfl, rfl, rfl, by decide +kernel, rfl, by decide +kernel, by decide +kernel⟩
theorem d_named (A : FunAt K mg "_law_named" s_named ["source", "rows", "columns"]) (B : Bi mg) (C : Cn mg) (D_name : Dfn Pg w K mg base 1 "_law_name" ["style", "shift", "number"] W_name) (D_shuffled : Dfn Pg w K mg base 2 "_law_shuffled" ["source", "things"] W_shuffled) (D_draw : Dfn Pg w K mg base 1 "_law_draw" ["source", "bound"] W_draw) (D_pattern : Dfn Pg w K mg base 3 "_law_pattern" ["source", "rows", "columns"] W_pattern) : Dfn Pg w K mg base 4 "_law_named" ["source", "rows", "columns"] W_named := by
  refine dfn_mk (k := 3) A sc_named (fun ss m P h => by obtain ⟨_, _, _, _, _, e, _⟩ := h; rw [e]; rfl) (fun f cdv A outer s H E hg hr => ?_) (rd_named (Pg := Pg) (w := w))
  have nd := sc_named.nd
  unfold t_named
  exact (pss_cons (ps_setA 3 nd (pe_fn D_pattern hg hr (by decide) rfl (pa_cons (pv 0) (pa_cons (pv 1) (pa_cons (pv 2) pa_nil)))))
      (pss_cons (ps_setA 4 nd (pe_fn D_draw hg hr (by decide) rfl (pa_cons (pv 0) (pa_cons pe_int pa_nil))))
      (pss_cons (ps_setA 5 nd (pe_fn D_draw hg hr (by decide) rfl (pa_cons (pv 0) (pa_cons pe_int pa_nil))))
      (pss_cons (ps_setA 6 nd (pe_fn D_shuffled hg hr (by decide) rfl (pa_cons (pv 0) (pa_cons (pe_listRg rfl (by rfl) B.list (prg_1 (by rfl) B.range (pe_op op_mulU (pv 1) (pv 2)))) pa_nil))))
      (pss_cons (ps_setA 7 nd (pe_lst pa_nil))
      (pss_cons (ps_for PassesOwn.never rfl (pi_range1 (by rfl) B.range (pa_cons (pv 1) pa_nil)) (pg_nameA 8 nd)
      (pss_cons (ps_setA 9 nd (pe_lst pa_nil))
      (pss_cons (ps_for PassesOwn.never rfl (pi_range1 (by rfl) B.range (pa_cons (pv 2) pa_nil)) (pg_nameA 10 nd)
      (pss_cons (ps_setA 11 nd (pe_fn D_name hg hr (by decide) rfl (pa_cons (pv 4) (pa_cons (pv 5) (pa_cons (pe_ix ix_seq (pv 6) (pe_op op_addU (pe_op op_mulU (pv 8) (pv 2)) (pv 10)) (fun _ _ => rfl)) pa_nil)))))
      (pss_cons (ps_if (pt_cmpR (op_inU (hu65 hr)) (pe_tupZ (pa_cons (pv 8) (pa_cons (pv 10) pa_nil))) (pv 3) (by rfl))
      (pss_one (ps_setA 11 nd (pe_op op_addU (pe_upper (pe_ix ix_seq (pv 11) pe_int (fun _ _ => rfl))) (pe_slice sl_U (pv 11) (po_some pe_int) po_none))))
      pss_nil)
      (pss_one (ps_expr (pe_bm PySem.F.plainAttrs_list PySem.F.slot_list_append PySem.F.type_list_append mt_append (pv 9) (pa_cons (pv 11) pa_nil)))))))
      (pss_one (ps_expr (pe_bm PySem.F.plainAttrs_list PySem.F.slot_list_append PySem.F.type_list_append mt_append (pv 7) (pa_cons (pe_callTy call_tupleZ (by rfl) B.tuple (by decide +kernel) (pa_cons (pv 9) pa_nil)) pa_nil)))))))
      (pss_one (ps_ret (pe_callTy call_tupleZ (by rfl) B.tuple (by decide +kernel) (pa_cons (pv 7) pa_nil))))))))))
abbrev s_check_leaders : Stmt := topS 10
theorem sc_check_leaders : FnScope ["floor", "names", "name"] ["floor", "names"] (defScope s_check_leaders) := ⟨rfl, rfl, rfl, by decide +kernel, rfl, by decide +kernel, by decide +kernel⟩
theorem d_check_leaders (A : FunAt K mg "check_leaders" s_check_leaders ["floor", "names"]) (B : Bi mg) (C : Cn mg) {CN : Addr} (R_NotLeader : ErrC Pg w K mg base "NotLeader" CN ["name"]) {CU : Addr} (R_UnknownItem : ErrC Pg w K mg base "UnknownItem" CU ["name"]) (D_locate_leader : DfnX Pg w K mg base 4 "locate_leader" ["floor", "name"] (WX_locate_leader CU CN)) : DfnX Pg w K mg base 5 "check_leaders" ["floor", "names"] (WX_check_leaders CU CN) := by
  refine dfnX_mk (k := 4) A sc_check_leaders (fun ss m P Y h => by obtain ⟨_, _, _, e, _⟩ := h; rw [e]; rfl) (fun f cdv A outer s H E hg hr => ?_) (rd_check_leaders (Pg := Pg) (w := w) CU CN)
  have nd := sc_check_leaders.nd
  have tk : Takes (cxOf (CX Pg w) Pg w K mg base ["floor", "names", "name"] "check_leaders" (defScope s_check_leaders) f cdv A outer s H E) (fun cls d _ H' => E cls d H') := takes_of rfl rfl rfl rfl
  unfold t_check_leaders
  exact (pss_one (ps_for (passes_of rfl) rfl (pi_seqU (pv 1)) (pg_nameA 2 nd)
      (pss_one (ps_expr (pe_fnX D_locate_leader tk hg hr (by decide) rfl (pa_cons (pv 0) (pa_cons (pv 2) pa_nil)))))))
abbrev s_cross : Stmt := topS 12
theorem sc_cross : FnScope ["floor", "name", "row", "column", "names"] ["floor", "name"] (defScope s_cross) := ⟨rfl, rfl, rfl, by decide +kernel, rfl, by decide +kernel, by decide +kernel⟩
theorem d_cross (A : FunAt K mg "cross" s_cross ["floor", "name"]) (B : Bi mg) (C : Cn mg) {CN : Addr} (R_NotLeader : ErrC Pg w K mg base "NotLeader" CN ["name"]) {CU : Addr} (R_UnknownItem : ErrC Pg w K mg base "UnknownItem" CU ["name"]) (D_crossed : Dfn Pg w K mg base 1 "crossed" ["line", "at"] W_crossed) (D_locate_leader : DfnX Pg w K mg base 4 "locate_leader" ["floor", "name"] (WX_locate_leader CU CN)) : Dfn Pg w K mg base 5 "cross" ["floor", "name"] W_cross7 := by
  refine dfn_mk (k := 4) A sc_cross (fun ss m P h => by obtain ⟨_, _, e, _⟩ := h; rw [e]; rfl) (fun f cdv A outer s H E hg hr => ?_) (rd_cross7 (Pg := Pg) (w := w))
  have nd := sc_cross.nd
  unfold t_cross7
  exact (pss_cons (ps_asg (pe_fn (dfnX_quiet D_locate_leader (q_locate_leader7 CU CN)) hg hr (by decide) rfl (pa_cons (pv 0) (pa_cons (pv 1) pa_nil))) (pg_tup rfl (pgs_cons (pg_nameA 2 nd) (pgs_cons (pg_nameA 3 nd) pgs_nil))))
      (pss_one (ps_ret (pe_callTy call_tupleZ (by rfl) B.tuple (by decide +kernel) (pa_cons (pe_lc (own := [("names", 4)]) (g := (gName 4)) (tt := tYes) rfl nd (pi_seqU (pe_fn D_crossed hg hr (by decide) rfl (pa_cons (pv 0) (pa_cons (pv 2) pa_nil)))) (blkOk_by (N := ["floor", "name", "row", "column", "names"]) (sc := defScope s_cross) (by decide +kernel)) (fun _ _ _ _ _ => (pg_nameA 4 nd)) (fun _ _ _ _ _ => pts_nil) (fun _ _ _ _ _ => (pe_fn D_crossed hg hr (by decide) rfl (pa_cons (pv 4) (pa_cons (pv 3) pa_nil))))) pa_nil)))))
abbrev s_floor : Stmt := topS 21
theorem sc_floor : FnScope ["source", "most", "rows", "columns"] ["source", "most"] (defScope s_floor) := ⟨rfl, rfl, rfl, by decide +kernel, rfl, by decide +kernel, by decide +kernel⟩
theorem d_floor (A : FunAt K mg "_law_floor" s_floor ["source", "most"]) (B : Bi mg) (C : Cn mg) (D_named : Dfn Pg w K mg base 4 "_law_named" ["source", "rows", "columns"] W_named) (D_draw : Dfn Pg w K mg base 1 "_law_draw" ["source", "bound"] W_draw) : Dfn Pg w K mg base 5 "_law_floor" ["source", "most"] W_floor := by
  refine dfn_mk (k := 4) A sc_floor (fun ss m P h => by obtain ⟨_, _, _, _, e, _⟩ := h; rw [e]; rfl) (fun f cdv A outer s H E hg hr => ?_) (rd_floor (Pg := Pg) (w := w))
  have nd := sc_floor.nd
  unfold t_floor
  exact (pss_cons (ps_setA 2 nd (pe_op op_addU pe_int (pe_fn D_draw hg hr (by decide) rfl (pa_cons (pv 0) (pa_cons (pe_callB (call_minU rfl) (by rfl) B.min (by decide +kernel) (pa_cons pe_int (pa_cons (pv 1) pa_nil))) pa_nil)))))
      (pss_cons (ps_setA 3 nd (pe_op op_addU pe_int (pe_fn D_draw hg hr (by decide) rfl (pa_cons (pv 0) (pa_cons (pe_callB (call_minU rfl) (by rfl) B.min (by decide +kernel) (pa_cons pe_int (pa_cons (pe_op op_fdivW (pv 1) (pv 2)) pa_nil))) pa_nil)))))
      (pss_one (ps_ret (pe_fn D_named hg hr (by decide) rfl (pa_cons (pv 0) (pa_cons (pv 2) (pa_cons (pv 3) pa_nil))))))))
abbrev s_play : Stmt := topS 13
theorem sc_play : FnScope ["floor", "names", "reverse", "played", "name"] ["floor", "names", "reverse"] (defScope s_play) := ⟨rfl, rfl, rfl, by decide +kernel, rfl, by decide +kernel, by decide +kernel⟩
theorem d_play (A : FunAtK K mg "play" s_play ["floor", "names", "reverse"] [.bl false] 2 "reverse") (B : Bi mg) (C : Cn mg) {CN : Addr} (R_NotLeader : ErrC Pg w K mg base "NotLeader" CN ["name"]) {CU : Addr} (R_UnknownItem : ErrC Pg w K mg base "UnknownItem" CU ["name"]) (D_cross : Dfn Pg w K mg base 5 "cross" ["floor", "name"] W_cross7) (D_check_leaders : DfnX Pg w K mg base 5 "check_leaders" ["floor", "names"] (WX_check_leaders CU CN)) : DfnK Pg w K mg base 6 "play" ["floor", "names", "reverse"] [.bl false] 2 "reverse" (WX_playX CU CN) := by
  refine dfnK_mk (k := 5) A sc_play (fun ss m P Y h => by obtain ⟨_, _, _, e, _⟩ := h; rw [e]; rfl) (fun f cdv A outer s H E hg hr => ?_) (rd_playX (Pg := Pg) (w := w) CU CN)
  have nd := sc_play.nd
  have tk : Takes (cxOf (CX Pg w) Pg w K mg base ["floor", "names", "reverse", "played", "name"] "play" (defScope s_play) f cdv A outer s H E) (fun cls d _ H' => E cls d H') := takes_of rfl rfl rfl rfl
  unfold t_playX
  exact (pss_cons (ps_expr (pe_fnX D_check_leaders tk hg hr (by decide) rfl (pa_cons (pv 0) (pa_cons (pv 1) pa_nil))))
      (pss_cons (ps_setA 3 nd (pv 0))
      (pss_cons (ps_for (passes_of rfl) rfl (pi_seqU (pe_ifExp (pt_tr (pv 2)) (pe_revT (pv 1)) (pv 1))) (pg_nameA 4 nd)
      (pss_one (ps_setA 3 nd (pe_fn D_cross hg hr (by decide) rfl (pa_cons (pv 3) (pa_cons (pv 4) pa_nil))))))
      (pss_one (ps_ret (pv 3))))))
abbrev s_told : Stmt := topS 25
theorem sc_told : FnScope ["floor", "names", "backwards", "found", "e"] ["floor", "names", "backwards"] (defScope s_told) := ⟨rfl, rfl, rfl, by decide +kernel, rfl, by decide +kernel, by decide +kernel⟩
theorem d_told (A : FunAt K mg "_law_told" s_told ["floor", "names", "backwards"]) (B : Bi mg) (C : Cn mg) {CN : Addr} (R_NotLeader : ErrC Pg w K mg base "NotLeader" CN ["name"]) {CU : Addr} (R_UnknownItem : ErrC Pg w K mg base "UnknownItem" CU ["name"]) (D_play : DfnK Pg w K mg base 6 "play" ["floor", "names", "reverse"] [.bl false] 2 "reverse" (WX_playX CU CN)) {CE : Addr} (J_NotLeader : ErrI K CN) (J_UnknownItem : ErrI K CU) (G_CrossError : mg "CrossError" = some (.ref CE)) (G_NotLeader : mg "NotLeader" = some (.ref CN)) (G_UnknownItem : mg "UnknownItem" = some (.ref CU)) (X_NotLeader_CrossError : PySem.W.exmOne K (.ref CN) (.ref CE) = some true) (X_UnknownItem_CrossError : PySem.W.exmOne K (.ref CU) (.ref CE) = some true) (T_NotLeader_UnknownItem : PySem.W.kitOne K (.ref CN) (.ref CU) = some false) (T_UnknownItem_NotLeader : PySem.W.kitOne K (.ref CU) (.ref CN) = some false) : Dfn Pg w K mg base 7 "_law_told" ["floor", "names", "backwards"] W_told6 := by
  refine dfn_mk (k := 6) A sc_told (fun ss m P h => by obtain ⟨_, _, _, e, _⟩ := h; rw [e]; rfl) (fun f cdv A outer s H E hg hr => ?_) (rd_told6 (Pg := Pg) (w := w) CE CN CU X_NotLeader_CrossError X_UnknownItem_CrossError T_NotLeader_UnknownItem T_UnknownItem_NotLeader)
  have nd := sc_told.nd
  unfold t_told6
  exact (pss_cons (ps_setA 3 nd pe_non)
      (pss_cons (ps_tryA rfl rfl nd (i := 4) rfl rfl ⟨by rfl, by decide, .inl G_CrossError⟩ (fun W pn xe tk po =>
      (pss_one (ps_expr (pe_fnW D_play tk hg hr (by decide) rfl (pa_cons (pv 0) (pa_cons (pv 1) pa_nil)) (pk_cons (pv 2) pk_nil))))) (fun a oe cls d pn hz hf =>
      (pss_cons (ps_setA 3 nd pe_str)
      (pss_cons (ps_if (pt_tr (pe_callB (call_isA (al_cons J_UnknownItem (al_cons J_NotLeader al_nil)) hz hf) (by rfl) B.isinstance (by decide +kernel) (pa_cons (pv 4) (pa_cons (pe_cl G_NotLeader) pa_nil))))
      (pss_one (ps_setA 3 nd (pe_tupZ (pa_cons pe_str (pa_cons (pe_xfA (al_cons ⟨R_UnknownItem.xfc, R_UnknownItem.nn "name" (.head _)⟩ (al_cons ⟨R_NotLeader.xfc, R_NotLeader.nn "name" (.head _)⟩ al_nil)) hz hf (pv 4)) pa_nil)))))
      pss_nil)
      (pss_one (ps_if (pt_tr (pe_callB (call_isA (al_cons J_UnknownItem (al_cons J_NotLeader al_nil)) hz hf) (by rfl) B.isinstance (by decide +kernel) (pa_cons (pv 4) (pa_cons (pe_cl G_UnknownItem) pa_nil))))
      (pss_one (ps_setA 3 nd (pe_tupZ (pa_cons pe_str (pa_cons (pe_xfA (al_cons ⟨R_UnknownItem.xfc, R_UnknownItem.nn "name" (.head _)⟩ (al_cons ⟨R_NotLeader.xfc, R_NotLeader.nn "name" (.head _)⟩ al_nil)) hz hf (pv 4)) pa_nil)))))
      pss_nil))))))
      (pss_one (ps_ret (pv 3)))))
abbrev s_law : Stmt := topS 27
theorem sc_law : FnScope ["script", "index", "source", "floor", "leaders", "names", "due", "others", "cells", "spot", "odd", "last", "wrong", "error", "backwards", "step", "name"] ["script"] (defScope s_law) := ⟨rfl, rfl, rfl, by decide +kernel, rfl, by decide +kernel, by decide +kernel⟩
theorem f_law {f : Addr} {fd : FuncData} (F : Fun K "law" "law" s_law f fd) (B : Bi mg) (C : Cn mg) {CN : Addr} (R_NotLeader : ErrC Pg w K mg base "NotLeader" CN ["name"]) {CU : Addr} (R_UnknownItem : ErrC Pg w K mg base "UnknownItem" CU ["name"]) (D_told : Dfn Pg w K mg base 7 "_law_told" ["floor", "names", "backwards"] W_told6) (D_draw : Dfn Pg w K mg base 1 "_law_draw" ["source", "bound"] W_draw) (D_play : DfnK Pg w K mg base 6 "play" ["floor", "names", "reverse"] [.bl false] 2 "reverse" (WX_playX CU CN)) (D_l_play : Dfn Pg w K mg base 2 "_law_play" ["floor", "names"] W_playT) (D_leaders : Dfn Pg w K mg base 1 "_law_leaders" ["floor"] W_leaders) (D_twinned : Dfn Pg w K mg base 2 "_law_twinned" ["source", "floor"] W_twinnedZ) (D_floor : Dfn Pg w K mg base 5 "_law_floor" ["source", "most"] W_floor) (D_source : Dfn Pg w K mg base 1 "_law_source" ["script", "index"] W_source) : DF Pg w K mg base CX0 8 f fd ["script"] (SpD K WLaw) := by
  refine df_data (k := 7) F sc_law (fun ss m P h => by obtain ⟨_, e, _⟩ := h; rw [e]; rfl) (fun cdv A outer s H E hg hr => ?_) (rd_law6 (Pg := Pg) (w := w))
  have nd := sc_law.nd
  unfold t_law6
  exact (pss_cons (ps_for PassesOwn.never rfl (pi_range1 (by rfl) B.range (pa_cons (pe_callB (call_max2 rfl) (by rfl) B.max (by decide +kernel) (pa_cons pe_int (pa_cons (pe_callB (call_minU rfl) (by rfl) B.min (by decide +kernel) (pa_cons pe_int (pa_cons (pe_callB call_len (by rfl) B.len PySem.boot_len (pa_cons (pv 0) pa_nil)) pa_nil))) pa_nil))) pa_nil)) (pg_nameA 1 nd)
      (pss_cons (ps_setA 2 nd (pe_fn D_source hg hr (by decide) rfl (pa_cons (pv 0) (pa_cons (pv 1) pa_nil))))
      (pss_cons (ps_setA 3 nd (pe_fn D_twinned hg hr (by decide) rfl (pa_cons (pv 2) (pa_cons (pe_fn D_floor hg hr (by decide) rfl (pa_cons (pv 2) (pa_cons pe_int pa_nil))) pa_nil))))
      (pss_cons (ps_setA 4 nd (pe_fn D_leaders hg hr (by decide) rfl (pa_cons (pv 3) pa_nil)))
      (pss_cons (ps_setA 5 nd (pe_lst pa_nil))
      (pss_cons (ps_if (pt_cmpR (op_neU (hu64 hr)) (pv 4) (pe_lst pa_nil) (nomark _))
      (pss_cons (ps_setLc (i := 5) (own := [("step", 15)]) (g := (gName 15)) (tt := tYes) rfl nd rfl rfl (sw_true rfl rfl rfl (by decide +kernel)) (pi_range1 (by rfl) B.range (pa_cons (pe_fn D_draw hg hr (by decide) rfl (pa_cons (pv 2) (pa_cons pe_int pa_nil))) pa_nil)) (blkOk_by (N := ["script", "index", "source", "floor", "leaders", "names", "due", "others", "cells", "spot", "odd", "last", "wrong", "error", "backwards", "step", "name"]) (sc := defScope s_law) (by decide +kernel)) (fun _ _ _ _ _ => (pg_nameA 15 nd)) (fun _ _ _ _ _ => pts_nil) (fun _ _ _ _ _ => (pe_ix ix_seq (pv 4) (pe_fn D_draw hg hr (by decide) rfl (pa_cons (pv 2) (pa_cons (pe_callB call_len (by rfl) B.len PySem.boot_len (pa_cons (pv 4) pa_nil)) pa_nil))) (fun _ _ => rfl))))
      (pss_one (ps_setA 5 nd (pe_op op_mulU (pv 5) (pe_ix ix_seq (pe_lst (pa_cons pe_int (pa_cons pe_int (pa_cons pe_int (pa_cons pe_int pa_nil))))) (pe_fn D_draw hg hr (by decide) rfl (pa_cons (pv 2) (pa_cons pe_int pa_nil))) (fun _ _ => rfl))))))
      pss_nil)
      (pss_cons (ps_setA 6 nd (pe_fn D_l_play hg hr (by decide) rfl (pa_cons (pv 3) (pa_cons (pv 5) pa_nil))))
      (pss_cons (ps_if (PW.pt (pw_or (pt_cmpR (op_neU (hu64 hr)) (pe_fnQD (dfnK_quiet6 D_play (q_playQ CU CN)) hg hr (by decide) rfl (pa_cons (pv 3) (pa_cons (pe_callTy call_tupleZ (by rfl) B.tuple (by decide +kernel) (pa_cons (pv 5) pa_nil)) pa_nil))) (pv 6) (nomark _)) (pw_or1 (pt_cmpR (op_neU (hu64 hr)) (pe_fnQ (dfnK_quiet6 D_play (q_playQ CU CN)) hg hr (by decide) rfl (pa_cons (pv 3) (pa_cons (pe_callTy call_tupleZ (by rfl) B.tuple (by decide +kernel) (pa_cons (pv 5) pa_nil)) pa_nil)) (pk_cons pe_bl pk_nil)) (pv 6) (nomark _)))))
      (pss_one (ps_ret pe_bl))
      pss_nil)
      (pss_cons (ps_if (pt_cmpR (op_neU (hu64 hr)) (pe_callB (cr_repr hg (hu70 hr)) (by rfl) B.repr (by decide +kernel) (pa_cons (pe_fnQ (dfnK_quiet6 D_play (q_playQ CU CN)) hg hr (by decide) rfl (pa_cons (pv 3) (pa_cons (pe_callTy call_tupleZ (by rfl) B.tuple (by decide +kernel) (pa_cons (pv 5) pa_nil)) pa_nil)) (pk_cons pe_bl pk_nil)) pa_nil)) (pe_callB (cr_repr hg (hu70 hr)) (by rfl) B.repr (by decide +kernel) (pa_cons (pe_fn D_l_play hg hr (by decide) rfl (pa_cons (pv 3) (pa_cons (pe_revL (pv 5)) pa_nil))) pa_nil)) (nomark _))
      (pss_one (ps_ret pe_bl))
      pss_nil)
      (pss_cons (ps_if (PW.pt (pw_or (pt_cmpR (op_neU (hu64 hr)) (pe_fnQD (dfnK_quiet6 D_play (q_playQ CU CN)) hg hr (by decide) rfl (pa_cons (pv 3) (pa_cons (pe_tupZ pa_nil) pa_nil))) (pv 3) (nomark _)) (pw_or1 (pt_cmpR (op_neU (hu64 hr)) (pe_callB (cr_repr hg (hu70 hr)) (by rfl) B.repr (by decide +kernel) (pa_cons (pe_fnQD (dfnK_quiet6 D_play (q_playQ CU CN)) hg hr (by decide) rfl (pa_cons (pv 3) (pa_cons (pe_callTy call_tupleZ (by rfl) B.tuple (by decide +kernel) (pa_cons (pv 5) pa_nil)) pa_nil))) pa_nil)) (pe_callB (cr_repr hg (hu70 hr)) (by rfl) B.repr (by decide +kernel) (pa_cons (pv 6) pa_nil)) (nomark _)))))
      (pss_one (ps_ret pe_bl))
      pss_nil)
      (pss_cons (ps_setA 7 nd (pe_lst (pa_cons pe_str pa_nil)))
      (pss_cons (ps_for PassesOwn.never rfl (pi_seqU (pv 3)) (pg_nameA 8 nd)
      (pss_one (ps_setA 7 nd (pe_op op_addU (pv 7) (pe_lc (own := [("name", 16)]) (g := (gName 16)) (tt := (tTest (tOp (rNotInU K Pg w) (tVar 16) (tVar 4)))) rfl nd (pi_seqU (pv 8)) (blkOk_by (N := ["script", "index", "source", "floor", "leaders", "names", "due", "others", "cells", "spot", "odd", "last", "wrong", "error", "backwards", "step", "name"]) (sc := defScope s_law) (by decide +kernel)) (fun _ _ _ _ _ => (pg_nameA 16 nd)) (fun _ _ _ _ _ => pts_one (pt_cmpR (op_notInU (hu65 hr)) (pv 16) (pv 4) (by rfl))) (fun _ _ _ _ _ => (pv 16)))))))
      (pss_cons (ps_setA 9 nd (pe_fn D_draw hg hr (by decide) rfl (pa_cons (pv 2) (pa_cons (pe_op op_addU (pe_callB call_len (by rfl) B.len PySem.boot_len (pa_cons (pv 5) pa_nil)) pe_int) pa_nil))))
      (pss_cons (ps_setA 10 nd (pe_ix ix_seq (pv 7) (pe_fn D_draw hg hr (by decide) rfl (pa_cons (pv 2) (pa_cons (pe_callB call_len (by rfl) B.len PySem.boot_len (pa_cons (pv 7) pa_nil)) pa_nil))) (fun _ _ => rfl)))
      (pss_cons (ps_setA 11 nd (pe_ix ix_seq (pv 7) (pe_fn D_draw hg hr (by decide) rfl (pa_cons (pv 2) (pa_cons (pe_callB call_len (by rfl) B.len PySem.boot_len (pa_cons (pv 7) pa_nil)) pa_nil))) (fun _ _ => rfl)))
      (pss_cons (ps_setA 12 nd (pe_op op_addU (pe_op op_addU (pe_op op_addU (pe_slice sl_U (pv 5) po_none (po_some (pv 9))) (pe_lst (pa_cons (pv 10) pa_nil))) (pe_slice sl_U (pv 5) (po_some (pv 9)) po_none)) (pe_lst (pa_cons (pv 11) pa_nil))))
      (pss_cons (ps_setA 13 nd (pe_ifExp (pt_cmpR (op_eqU (hu64 hr)) (pv 10) pe_str (nomark _)) (pe_tupZ (pa_cons pe_str (pa_cons (pv 10) pa_nil))) (pe_tupZ (pa_cons pe_str (pa_cons (pv 10) pa_nil)))))
      (pss_one (ps_for PassesOwn.never rfl (pi_seqU (pe_tupZ (pa_cons pe_bl (pa_cons pe_bl (pa_cons pe_bl pa_nil))))) (pg_nameA 14 nd)
      (pss_cons (ps_if (pt_cmpR (op_neU (hu64 hr)) (pe_fn D_told hg hr (by decide) rfl (pa_cons (pv 3) (pa_cons (pe_callTy call_tupleZ (by rfl) B.tuple (by decide +kernel) (pa_cons (pv 12) pa_nil)) (pa_cons (pv 14) pa_nil)))) (pv 13) (nomark _))
      (pss_one (ps_ret pe_bl))
      pss_nil)
      (pss_one (ps_if (pt_cmpR op_notN (pe_fn D_told hg hr (by decide) rfl (pa_cons (pv 3) (pa_cons (pe_callTy call_tupleZ (by rfl) B.tuple (by decide +kernel) (pa_cons (pv 5) pa_nil)) (pa_cons (pv 14) pa_nil)))) pe_non (nomark _))
      (pss_one (ps_ret pe_bl))
      pss_nil))))))))))))))))))))))
      (pss_one (ps_ret pe_bl)))
end
theorem all_mk {l : PySem.W.OpenLaw} {w : World} {K : PySem.W.Frag} {h : Heap} {mg : Str → Option Value} {fa : Addr} (X : K.In h) (G : h.Ns mainGlobals mg) (hfa : mg "law" = some (.ref fa))
    {f0 : Addr} {od0 an0 : Option Addr} {sl0 : Array (Option Value)} {oc0 kV0 dc0 pm0 cd0 ct0 : Value}
    {f1 : Addr} {od1 an1 : Option Addr} {sl1 : Array (Option Value)} {oc1 kV1 dc1 pm1 cd1 ct1 : Value}
    {f2 : Addr} {od2 an2 : Option Addr} {sl2 : Array (Option Value)} {oc2 kV2 dc2 pm2 cd2 ct2 : Value}
    {f3 : Addr} {od3 an3 : Option Addr} {sl3 : Array (Option Value)} {oc3 kV3 dc3 pm3 cd3 ct3 : Value}
    {f4 : Addr} {od4 an4 : Option Addr} {sl4 : Array (Option Value)} {oc4 kV4 dc4 pm4 cd4 ct4 : Value}
    {f5 : Addr} {od5 an5 : Option Addr} {sl5 : Array (Option Value)} {oc5 kV5 dc5 pm5 cd5 ct5 : Value}
    {f6 : Addr} {od6 an6 : Option Addr} {sl6 : Array (Option Value)} {oc6 kV6 dc6 pm6 cd6 ct6 : Value}
    {f7 : Addr} {od7 an7 : Option Addr} {sl7 : Array (Option Value)} {oc7 kV7 dc7 pm7 cd7 ct7 : Value}
    {f8 : Addr} {od8 an8 : Option Addr} {sl8 : Array (Option Value)} {oc8 kV8 dc8 pm8 cd8 ct8 : Value}
    {f9 : Addr} {od9 an9 : Option Addr} {sl9 : Array (Option Value)} {oc9 kV9 dc9 pm9 cd9 ct9 : Value}
    {f10 : Addr} {od10 an10 : Option Addr} {sl10 : Array (Option Value)} {oc10 kV10 dc10 pm10 cd10 ct10 : Value}
    {f11 : Addr} {od11 an11 : Option Addr} {sl11 : Array (Option Value)} {oc11 kV11 dc11 pm11 cd11 ct11 : Value}
    {f12 : Addr} {od12 an12 : Option Addr} {sl12 : Array (Option Value)} {oc12 kV12 dc12 pm12 cd12 ct12 : Value}
    {f13 : Addr} {od13 an13 : Option Addr} {sl13 : Array (Option Value)} {oc13 kV13 dc13 pm13 cd13 ct13 : Value}
    {f14 : Addr} {od14 an14 : Option Addr} {sl14 : Array (Option Value)} {oc14 kV14 dc14 pm14 cd14 ct14 : Value}
    {f15 : Addr} {od15 an15 : Option Addr} {sl15 : Array (Option Value)} {oc15 kV15 dc15 pm15 cd15 ct15 : Value}
    {f16 : Addr} {od16 an16 : Option Addr} {sl16 : Array (Option Value)} {oc16 kV16 dc16 pm16 cd16 ct16 : Value}
    {f17 : Addr} {od17 an17 : Option Addr} {sl17 : Array (Option Value)} {oc17 dc17 pm17 cd17 ct17 : Value} {kD17 : Addr}
    {f18 : Addr} {od18 an18 : Option Addr} {sl18 : Array (Option Value)} {oc18 kV18 dc18 pm18 cd18 ct18 : Value}
    {f19 : Addr} {od19 an19 : Option Addr} {sl19 : Array (Option Value)} {oc19 kV19 dc19 pm19 cd19 ct19 : Value}
    {CN feCN cxeCN NeCN : Addr} {nmeCN qeCN : Str} {bseCN subeCN : List Value} {sneCN : List Str} {abeCN : Bool} {coleCN : Option Bool} {ddeCN odeCN aneCN : Option Addr} {m0eCN m1eCN m2eCN m3eCN m5eCN : Option Value} {sleCN : Array (Option Value)} {oceCN kVeCN dceCN pmeCN cdeCN cteCN : Value}
    {CU feCU cxeCU NeCU : Addr} {nmeCU qeCU : Str} {bseCU subeCU : List Value} {sneCU : List Str} {abeCU : Bool} {coleCU : Option Bool} {ddeCU odeCU aneCU : Option Addr} {m0eCU m1eCU m2eCU m3eCU m5eCU : Option Value} {sleCU : Array (Option Value)} {oceCU kVeCU dceCU pmeCU cdeCU cteCU : Value}
    {CE : Addr}
    {tk0 : Tok}
    (aa0 : PySem.W.nsIn K mainGlobals "is_leader" = some (some (.ref f0))) (ll0 : K.lookup f0 = some ⟨oc0, od0, .func (PySem.W.fnOf "is_leader" "is_leader" (defArgs s_is_leader) (defBody s_is_leader) (defScope s_is_leader) .none kV0 dc0 pm0 an0 cd0 ct0), sl0⟩) (co0 : PySem.W.codeIn K cd0 "is_leader" = true) (kk0 : PySem.W.keepIn K (.ref f0) = true)
    (aa1 : PySem.W.nsIn K mainGlobals "crossed" = some (some (.ref f1))) (ll1 : K.lookup f1 = some ⟨oc1, od1, .func (PySem.W.fnOf "crossed" "crossed" (defArgs s_crossed) (defBody s_crossed) (defScope s_crossed) .none kV1 dc1 pm1 an1 cd1 ct1), sl1⟩) (co1 : PySem.W.codeIn K cd1 "crossed" = true) (kk1 : PySem.W.keepIn K (.ref f1) = true)
    (aa2 : PySem.W.nsIn K mainGlobals "_law_source" = some (some (.ref f2))) (ll2 : K.lookup f2 = some ⟨oc2, od2, .func (PySem.W.fnOf "_law_source" "_law_source" (defArgs s_source) (defBody s_source) (defScope s_source) .none kV2 dc2 pm2 an2 cd2 ct2), sl2⟩) (co2 : PySem.W.codeIn K cd2 "_law_source" = true) (kk2 : PySem.W.keepIn K (.ref f2) = true)
    (aa3 : PySem.W.nsIn K mainGlobals "_law_draw" = some (some (.ref f3))) (ll3 : K.lookup f3 = some ⟨oc3, od3, .func (PySem.W.fnOf "_law_draw" "_law_draw" (defArgs s_draw) (defBody s_draw) (defScope s_draw) .none kV3 dc3 pm3 an3 cd3 ct3), sl3⟩) (co3 : PySem.W.codeIn K cd3 "_law_draw" = true) (kk3 : PySem.W.keepIn K (.ref f3) = true)
    (aa4 : PySem.W.nsIn K mainGlobals "_law_name" = some (some (.ref f4))) (ll4 : K.lookup f4 = some ⟨oc4, od4, .func (PySem.W.fnOf "_law_name" "_law_name" (defArgs s_name) (defBody s_name) (defScope s_name) .none kV4 dc4 pm4 an4 cd4 ct4), sl4⟩) (co4 : PySem.W.codeIn K cd4 "_law_name" = true) (kk4 : PySem.W.keepIn K (.ref f4) = true)
    (aa5 : PySem.W.nsIn K mainGlobals "_law_leaders" = some (some (.ref f5))) (ll5 : K.lookup f5 = some ⟨oc5, od5, .func (PySem.W.fnOf "_law_leaders" "_law_leaders" (defArgs s_leaders) (defBody s_leaders) (defScope s_leaders) .none kV5 dc5 pm5 an5 cd5 ct5), sl5⟩) (co5 : PySem.W.codeIn K cd5 "_law_leaders" = true) (kk5 : PySem.W.keepIn K (.ref f5) = true)
    (aa6 : PySem.W.nsIn K mainGlobals "_law_cross" = some (some (.ref f6))) (ll6 : K.lookup f6 = some ⟨oc6, od6, .func (PySem.W.fnOf "_law_cross" "_law_cross" (defArgs s_l_cross) (defBody s_l_cross) (defScope s_l_cross) .none kV6 dc6 pm6 an6 cd6 ct6), sl6⟩) (co6 : PySem.W.codeIn K cd6 "_law_cross" = true) (kk6 : PySem.W.keepIn K (.ref f6) = true)
    (aa7 : PySem.W.nsIn K mainGlobals "_law_shuffled" = some (some (.ref f7))) (ll7 : K.lookup f7 = some ⟨oc7, od7, .func (PySem.W.fnOf "_law_shuffled" "_law_shuffled" (defArgs s_shuffled) (defBody s_shuffled) (defScope s_shuffled) .none kV7 dc7 pm7 an7 cd7 ct7), sl7⟩) (co7 : PySem.W.codeIn K cd7 "_law_shuffled" = true) (kk7 : PySem.W.keepIn K (.ref f7) = true)
    (aa8 : PySem.W.nsIn K mainGlobals "_law_play" = some (some (.ref f8))) (ll8 : K.lookup f8 = some ⟨oc8, od8, .func (PySem.W.fnOf "_law_play" "_law_play" (defArgs s_l_play) (defBody s_l_play) (defScope s_l_play) .none kV8 dc8 pm8 an8 cd8 ct8), sl8⟩) (co8 : PySem.W.codeIn K cd8 "_law_play" = true) (kk8 : PySem.W.keepIn K (.ref f8) = true)
    (aa9 : PySem.W.nsIn K mainGlobals "_law_twinned" = some (some (.ref f9))) (ll9 : K.lookup f9 = some ⟨oc9, od9, .func (PySem.W.fnOf "_law_twinned" "_law_twinned" (defArgs s_twinned) (defBody s_twinned) (defScope s_twinned) .none kV9 dc9 pm9 an9 cd9 ct9), sl9⟩) (co9 : PySem.W.codeIn K cd9 "_law_twinned" = true) (kk9 : PySem.W.keepIn K (.ref f9) = true)
    (aa10 : PySem.W.nsIn K mainGlobals "locate" = some (some (.ref f10))) (ll10 : K.lookup f10 = some ⟨oc10, od10, .func (PySem.W.fnOf "locate" "locate" (defArgs s_locate) (defBody s_locate) (defScope s_locate) .none kV10 dc10 pm10 an10 cd10 ct10), sl10⟩) (co10 : PySem.W.codeIn K cd10 "locate" = true) (kk10 : PySem.W.keepIn K (.ref f10) = true)
    (aa11 : PySem.W.nsIn K mainGlobals "_law_pattern" = some (some (.ref f11))) (ll11 : K.lookup f11 = some ⟨oc11, od11, .func (PySem.W.fnOf "_law_pattern" "_law_pattern" (defArgs s_pattern) (defBody s_pattern) (defScope s_pattern) .none kV11 dc11 pm11 an11 cd11 ct11), sl11⟩) (co11 : PySem.W.codeIn K cd11 "_law_pattern" = true) (kk11 : PySem.W.keepIn K (.ref f11) = true)
    (aa12 : PySem.W.nsIn K mainGlobals "locate_leader" = some (some (.ref f12))) (ll12 : K.lookup f12 = some ⟨oc12, od12, .func (PySem.W.fnOf "locate_leader" "locate_leader" (defArgs s_locate_leader) (defBody s_locate_leader) (defScope s_locate_leader) .none kV12 dc12 pm12 an12 cd12 ct12), sl12⟩) (co12 : PySem.W.codeIn K cd12 "locate_leader" = true) (kk12 : PySem.W.keepIn K (.ref f12) = true)
    (aa13 : PySem.W.nsIn K mainGlobals "_law_named" = some (some (.ref f13))) (ll13 : K.lookup f13 = some ⟨oc13, od13, .func (PySem.W.fnOf "_law_named" "_law_named" (defArgs s_named) (defBody s_named) (defScope s_named) .none kV13 dc13 pm13 an13 cd13 ct13), sl13⟩) (co13 : PySem.W.codeIn K cd13 "_law_named" = true) (kk13 : PySem.W.keepIn K (.ref f13) = true)
    (aa14 : PySem.W.nsIn K mainGlobals "check_leaders" = some (some (.ref f14))) (ll14 : K.lookup f14 = some ⟨oc14, od14, .func (PySem.W.fnOf "check_leaders" "check_leaders" (defArgs s_check_leaders) (defBody s_check_leaders) (defScope s_check_leaders) .none kV14 dc14 pm14 an14 cd14 ct14), sl14⟩) (co14 : PySem.W.codeIn K cd14 "check_leaders" = true) (kk14 : PySem.W.keepIn K (.ref f14) = true)
    (aa15 : PySem.W.nsIn K mainGlobals "cross" = some (some (.ref f15))) (ll15 : K.lookup f15 = some ⟨oc15, od15, .func (PySem.W.fnOf "cross" "cross" (defArgs s_cross) (defBody s_cross) (defScope s_cross) .none kV15 dc15 pm15 an15 cd15 ct15), sl15⟩) (co15 : PySem.W.codeIn K cd15 "cross" = true) (kk15 : PySem.W.keepIn K (.ref f15) = true)
    (aa16 : PySem.W.nsIn K mainGlobals "_law_floor" = some (some (.ref f16))) (ll16 : K.lookup f16 = some ⟨oc16, od16, .func (PySem.W.fnOf "_law_floor" "_law_floor" (defArgs s_floor) (defBody s_floor) (defScope s_floor) .none kV16 dc16 pm16 an16 cd16 ct16), sl16⟩) (co16 : PySem.W.codeIn K cd16 "_law_floor" = true) (kk16 : PySem.W.keepIn K (.ref f16) = true)
    (aa17 : PySem.W.nsIn K mainGlobals "play" = some (some (.ref f17))) (ll17 : K.lookup f17 = some ⟨oc17, od17, .func (PySem.W.fnOf "play" "play" (defArgs s_play) (defBody s_play) (defScope s_play) .none (.ref kD17) dc17 pm17 an17 cd17 ct17), sl17⟩) (co17 : PySem.W.codeIn K cd17 "play" = true) (kk17 : PySem.W.keepIn K (.ref f17) = true) (kw17 : PySem.W.nsIn K kD17 "reverse" = some (some (.bool false)))
    (aa18 : PySem.W.nsIn K mainGlobals "_law_told" = some (some (.ref f18))) (ll18 : K.lookup f18 = some ⟨oc18, od18, .func (PySem.W.fnOf "_law_told" "_law_told" (defArgs s_told) (defBody s_told) (defScope s_told) .none kV18 dc18 pm18 an18 cd18 ct18), sl18⟩) (co18 : PySem.W.codeIn K cd18 "_law_told" = true) (kk18 : PySem.W.keepIn K (.ref f18) = true)
    (aa19 : PySem.W.nsIn K mainGlobals "law" = some (some (.ref f19))) (ll19 : K.lookup f19 = some ⟨oc19, od19, .func (PySem.W.fnOf "law" "law" (defArgs s_law) (defBody s_law) (defScope s_law) .none kV19 dc19 pm19 an19 cd19 ct19), sl19⟩) (co19 : PySem.W.codeIn K cd19 "law" = true) (kk19 : PySem.W.keepIn K (.ref f19) = true)
    (aaeCN : PySem.W.nsIn K mainGlobals "NotLeader" = some (some (.ref CN))) (xleCN : K.lookup CN = some (excClassObj nmeCN qeCN CN NeCN bseCN [.ref cxeCN, .type "ValueError", .type "Exception", .type "BaseException", .type "object"] true sneCN subeCN abeCN coleCN ddeCN m0eCN m1eCN m2eCN m3eCN m5eCN "ValueError.__new__")) (saeCN : PySem.W.findIn K (.ref CN) "__setattr__" = some (some (.builtin "object.__setattr__"))) (gaeCN : PySem.W.findIn K (.ref CN) "__getattribute__" = some (some (.builtin "BaseException.__getattribute__"))) (ggeCN : PySem.W.findIn K (.ref CN) "__getattr__" = some none) (ebeCN : PySem.W.subIn K (.ref CN) (.type "BaseException") = some true) (tyeCN : PySem.W.typeIn K (.ref CN) = some (.type "type")) (kceCN : PySem.W.keepIn K (.ref CN) = true) (hdeCN : PySem.W.hasDictIn K CN = true) (iceCN : PySem.W.isClsIn K CN = true) (sceCN : PySem.W.subIn K (.ref CN) (.ref CN) = some true)
    (nfeCNname : PySem.W.findIn K (.ref CN) "name" = some none)
    (iieCN : PySem.W.findIn K (.ref CN) "__init__" = some (some (.ref feCN))) (iteCN : PySem.W.typeIn K (.ref feCN) = some (.type "function")) (lleCN : K.lookup feCN = some ⟨oceCN, odeCN, .func (PySem.W.fnOf "__init__" "NotLeader.__init__" (defArgs s_init_NotLeader) (defBody s_init_NotLeader) (defScope s_init_NotLeader) .none kVeCN dceCN pmeCN aneCN cdeCN cteCN), sleCN⟩) (coeCN : PySem.W.codeIn K cdeCN "NotLeader.__init__" = true) (kkeCN : PySem.W.keepIn K (.ref feCN) = true)
    (aaeCU : PySem.W.nsIn K mainGlobals "UnknownItem" = some (some (.ref CU))) (xleCU : K.lookup CU = some (excClassObj nmeCU qeCU CU NeCU bseCU [.ref cxeCU, .type "ValueError", .type "Exception", .type "BaseException", .type "object"] true sneCU subeCU abeCU coleCU ddeCU m0eCU m1eCU m2eCU m3eCU m5eCU "ValueError.__new__")) (saeCU : PySem.W.findIn K (.ref CU) "__setattr__" = some (some (.builtin "object.__setattr__"))) (gaeCU : PySem.W.findIn K (.ref CU) "__getattribute__" = some (some (.builtin "BaseException.__getattribute__"))) (ggeCU : PySem.W.findIn K (.ref CU) "__getattr__" = some none) (ebeCU : PySem.W.subIn K (.ref CU) (.type "BaseException") = some true) (tyeCU : PySem.W.typeIn K (.ref CU) = some (.type "type")) (kceCU : PySem.W.keepIn K (.ref CU) = true) (hdeCU : PySem.W.hasDictIn K CU = true) (iceCU : PySem.W.isClsIn K CU = true) (sceCU : PySem.W.subIn K (.ref CU) (.ref CU) = some true)
    (nfeCUname : PySem.W.findIn K (.ref CU) "name" = some none)
    (iieCU : PySem.W.findIn K (.ref CU) "__init__" = some (some (.ref feCU))) (iteCU : PySem.W.typeIn K (.ref feCU) = some (.type "function")) (lleCU : K.lookup feCU = some ⟨oceCU, odeCU, .func (PySem.W.fnOf "__init__" "UnknownItem.__init__" (defArgs s_init_UnknownItem) (defBody s_init_UnknownItem) (defScope s_init_UnknownItem) .none kVeCU dceCU pmeCU aneCU cdeCU cteCU), sleCU⟩) (coeCU : PySem.W.codeIn K cdeCU "UnknownItem.__init__" = true) (kkeCU : PySem.W.keepIn K (.ref feCU) = true)
    (giCE : PySem.W.nsIn K mainGlobals "CrossError" = some (some (.ref CE))) (jiCE : PySem.W.isClsIn K CE = true) (jtCE : PySem.W.typeIn K (.ref CE) = some (.type "type"))
    (jeCE : PySem.W.subIn K (.ref CE) (.type "BaseException") = some true)
    (jsCNCE : PySem.W.subIn K (.ref CN) (.ref CE) = some true)
    (jsCNCU : PySem.W.subIn K (.ref CN) (.ref CU) = some false)
    (jsCUCE : PySem.W.subIn K (.ref CU) (.ref CE) = some true)
    (jsCUCN : PySem.W.subIn K (.ref CU) (.ref CN) = some false)
    (scnCNCU : (CN == CU) = false)
    (scnCUCN : (CU == CN) = false)
    (jhaCN : PySem.W.findIn K (.ref CN) "__class__" = some (some (.builtin "object.__class__"))) (jhmCN : PySem.W.mroIn K CN (.type "object") = some true)
    (jhaCU : PySem.W.findIn K (.ref CU) "__class__" = some (some (.builtin "object.__class__"))) (jhmCU : PySem.W.mroIn K CU (.type "object") = some true)
    (jhn : PySem.W.specialIn K (.builtin "object.__class__") "__get__" = some (some (.builtin "getset_descriptor.__get__"))) (jht : PySem.W.takesIn K (.builtin "object.__class__") = some true)
    (zz0 : PySem.W.nsIn K mainGlobals "len" = some none)
    (zz1 : PySem.W.nsIn K mainGlobals "min" = some none)
    (zz2 : PySem.W.nsIn K mainGlobals "max" = some none)
    (zz3 : PySem.W.nsIn K mainGlobals "sorted" = some none)
    (zz4 : PySem.W.nsIn K mainGlobals "repr" = some none)
    (zz5 : PySem.W.nsIn K mainGlobals "int" = some none)
    (zz6 : PySem.W.nsIn K mainGlobals "list" = some none)
    (zz7 : PySem.W.nsIn K mainGlobals "tuple" = some none)
    (zz8 : PySem.W.nsIn K mainGlobals "range" = some none)
    (zz9 : PySem.W.nsIn K mainGlobals "enumerate" = some none)
    (zz10 : PySem.W.nsIn K mainGlobals "isinstance" = some none)
    (cc0 : PySem.W.nsIn K mainGlobals "UPPER" = some (some (.str "ABCDEFGHIJKLMNOPQRSTUVWXYZ" tk0))) :
    ∃ fd : FuncData, (∀ (s : Shared) (v : Value), BindsTo s fd ⟨[v], []⟩ [("script", v)]) ∧ ∀ base : Heap, K.In base → base.Ns mainGlobals mg → DF l.prog w K mg base CX0 8 fa fd ["script"] (SpD K WLaw) := by
  have e := hfa.symm.trans (PySem.W.mg_of X G aa19)
  cases e
  have B : Bi mg := ⟨PySem.W.mg_none_of X G zz0, PySem.W.mg_none_of X G zz1, PySem.W.mg_none_of X G zz2, PySem.W.mg_none_of X G zz3, PySem.W.mg_none_of X G zz4, PySem.W.mg_none_of X G zz5, PySem.W.mg_none_of X G zz6, PySem.W.mg_none_of X G zz7, PySem.W.mg_none_of X G zz8, PySem.W.mg_none_of X G zz9, PySem.W.mg_none_of X G zz10⟩
  have C : Cn mg := ⟨⟨_, PySem.W.mg_of X G cc0, ⟨_, rfl⟩⟩⟩
  have A_is_leader := funAt_mk (st := s_is_leader) (ps := ["name"]) X G aa0 ll0 co0 kk0 fun _ _ _ _ _ _ us hl => match us, hl with | [_], _ => rfl
  have A_crossed := funAt_mk (st := s_crossed) (ps := ["line", "at"]) X G aa1 ll1 co1 kk1 fun _ _ _ _ _ _ us hl => match us, hl with | [_, _], _ => rfl
  have A_source := funAt_mk (st := s_source) (ps := ["script", "index"]) X G aa2 ll2 co2 kk2 fun _ _ _ _ _ _ us hl => match us, hl with | [_, _], _ => rfl
  have A_draw := funAt_mk (st := s_draw) (ps := ["source", "bound"]) X G aa3 ll3 co3 kk3 fun _ _ _ _ _ _ us hl => match us, hl with | [_, _], _ => rfl
  have A_name := funAt_mk (st := s_name) (ps := ["style", "shift", "number"]) X G aa4 ll4 co4 kk4 fun _ _ _ _ _ _ us hl => match us, hl with | [_, _, _], _ => rfl
  have A_leaders := funAt_mk (st := s_leaders) (ps := ["floor"]) X G aa5 ll5 co5 kk5 fun _ _ _ _ _ _ us hl => match us, hl with | [_], _ => rfl
  have A_l_cross := funAt_mk (st := s_l_cross) (ps := ["floor", "name"]) X G aa6 ll6 co6 kk6 fun _ _ _ _ _ _ us hl => match us, hl with | [_, _], _ => rfl
  have A_shuffled := funAt_mk (st := s_shuffled) (ps := ["source", "things"]) X G aa7 ll7 co7 kk7 fun _ _ _ _ _ _ us hl => match us, hl with | [_, _], _ => rfl
  have A_l_play := funAt_mk (st := s_l_play) (ps := ["floor", "names"]) X G aa8 ll8 co8 kk8 fun _ _ _ _ _ _ us hl => match us, hl with | [_, _], _ => rfl
  have A_twinned := funAt_mk (st := s_twinned) (ps := ["source", "floor"]) X G aa9 ll9 co9 kk9 fun _ _ _ _ _ _ us hl => match us, hl with | [_, _], _ => rfl
  have A_locate := funAt_mk (st := s_locate) (ps := ["floor", "name"]) X G aa10 ll10 co10 kk10 fun _ _ _ _ _ _ us hl => match us, hl with | [_, _], _ => rfl
  have A_pattern := funAt_mk (st := s_pattern) (ps := ["source", "rows", "columns"]) X G aa11 ll11 co11 kk11 fun _ _ _ _ _ _ us hl => match us, hl with | [_, _, _], _ => rfl
  have A_locate_leader := funAt_mk (st := s_locate_leader) (ps := ["floor", "name"]) X G aa12 ll12 co12 kk12 fun _ _ _ _ _ _ us hl => match us, hl with | [_, _], _ => rfl
  have A_named := funAt_mk (st := s_named) (ps := ["source", "rows", "columns"]) X G aa13 ll13 co13 kk13 fun _ _ _ _ _ _ us hl => match us, hl with | [_, _, _], _ => rfl
  have A_check_leaders := funAt_mk (st := s_check_leaders) (ps := ["floor", "names"]) X G aa14 ll14 co14 kk14 fun _ _ _ _ _ _ us hl => match us, hl with | [_, _], _ => rfl
  have A_cross := funAt_mk (st := s_cross) (ps := ["floor", "name"]) X G aa15 ll15 co15 kk15 fun _ _ _ _ _ _ us hl => match us, hl with | [_, _], _ => rfl
  have A_floor := funAt_mk (st := s_floor) (ps := ["source", "most"]) X G aa16 ll16 co16 kk16 fun _ _ _ _ _ _ us hl => match us, hl with | [_, _], _ => rfl
  have A_play := funAtK_mk (st := s_play) (ps := ["floor", "names", "reverse"]) (n := 2) (kw := "reverse") (v := .bl false) X G aa17 ll17 co17 kk17 kw17 rfl rfl (fun _ _ _ _ _ _ us ks h1 h2 => match us, ks, h1, h2 with | [_, _], [_], _, _ => ⟨_, _, _, _, _, _, rfl, rfl, rfl⟩) (fun _ _ _ _ _ _ us ks h1 h2 => match us, ks, h1, h2 with | [_, _], [_], _, _ => rfl)
  have A_told := funAt_mk (st := s_told) (ps := ["floor", "names", "backwards"]) X G aa18 ll18 co18 kk18 fun _ _ _ _ _ _ us hl => match us, hl with | [_, _, _], _ => rfl
  refine ⟨PySem.W.fnOf "law" "law" (defArgs s_law) (defBody s_law) (defScope s_law) .none kV19 dc19 pm19 an19 cd19 ct19, fun s v => .of_eq rfl, fun base _ _ => ?_⟩
  have TeCN : OexC K CN := ⟨⟨_, _, _, _, _, _, _, _, _, _, _, _, _, _, _, xleCN, by first | rfl | decide +kernel⟩, saeCN, ebeCN, tyeCN, kceCN⟩
  have FeCN := fun_mk (st := s_init_NotLeader) lleCN coeCN kkeCN
  have BeCN := FeCN.binds (ps := ["self", "name"]) fun _ _ _ _ _ _ us hl => match us, hl with | [_, _], _ => rfl
  have nneCN : ∀ n ∈ (["name"] : List Str), PySem.W.findIn K (.ref CN) n = some none := fun n hn => by
    simp only [List.mem_cons, List.not_mem_nil, or_false] at hn
    rcases hn with rfl
    · exact nfeCNname
  have R_NotLeader : ErrC l.prog w K mg base "NotLeader" CN ["name"] := ⟨TeCN, PySem.W.mg_of X G aaeCN, ⟨gaeCN, ggeCN, ebeCN, hdeCN⟩, nneCN, exm_own ebeCN iceCN tyeCN sceCN, _, _, iieCN, iteCN, BeCN, ini1 FeCN TeCN nfeCNname sc_init_NotLeader fun cdv A outer s H E => (pss_one (ps_ost (pv 0) (pv 1)))⟩
  have TeCU : OexC K CU := ⟨⟨_, _, _, _, _, _, _, _, _, _, _, _, _, _, _, xleCU, by first | rfl | decide +kernel⟩, saeCU, ebeCU, tyeCU, kceCU⟩
  have FeCU := fun_mk (st := s_init_UnknownItem) lleCU coeCU kkeCU
  have BeCU := FeCU.binds (ps := ["self", "name"]) fun _ _ _ _ _ _ us hl => match us, hl with | [_, _], _ => rfl
  have nneCU : ∀ n ∈ (["name"] : List Str), PySem.W.findIn K (.ref CU) n = some none := fun n hn => by
    simp only [List.mem_cons, List.not_mem_nil, or_false] at hn
    rcases hn with rfl
    · exact nfeCUname
  have R_UnknownItem : ErrC l.prog w K mg base "UnknownItem" CU ["name"] := ⟨TeCU, PySem.W.mg_of X G aaeCU, ⟨gaeCU, ggeCU, ebeCU, hdeCU⟩, nneCU, exm_own ebeCU iceCU tyeCU sceCU, _, _, iieCU, iteCU, BeCU, ini1 FeCU TeCU nfeCUname sc_init_UnknownItem fun cdv A outer s H E => (pss_one (ps_ost (pv 0) (pv 1)))⟩
  have D_is_leader := d_is_leader (Pg := l.prog) (w := w) (base := base) A_is_leader B C
  have D_crossed := d_crossed (Pg := l.prog) (w := w) (base := base) A_crossed B C
  have D_source := d_source (Pg := l.prog) (w := w) (base := base) A_source B C
  have D_draw := d_draw (Pg := l.prog) (w := w) (base := base) A_draw B C
  have D_name := d_name (Pg := l.prog) (w := w) (base := base) A_name B C
  have D_leaders := d_leaders (Pg := l.prog) (w := w) (base := base) A_leaders B C
  have D_l_cross := d_l_cross (Pg := l.prog) (w := w) (base := base) A_l_cross B C
  have D_shuffled := d_shuffled (Pg := l.prog) (w := w) (base := base) A_shuffled B C D_draw
  have D_l_play := d_l_play (Pg := l.prog) (w := w) (base := base) A_l_play B C D_l_cross
  have D_twinned := d_twinned (Pg := l.prog) (w := w) (base := base) A_twinned B C D_draw D_leaders
  have D_locate := d_locate (Pg := l.prog) (w := w) (base := base) A_locate B C R_UnknownItem
  have D_pattern := d_pattern (Pg := l.prog) (w := w) (base := base) A_pattern B C D_draw D_shuffled
  have D_locate_leader := d_locate_leader (Pg := l.prog) (w := w) (base := base) A_locate_leader B C R_NotLeader R_UnknownItem D_is_leader D_locate
  have D_named := d_named (Pg := l.prog) (w := w) (base := base) A_named B C D_name D_shuffled D_draw D_pattern
  have D_check_leaders := d_check_leaders (Pg := l.prog) (w := w) (base := base) A_check_leaders B C R_NotLeader R_UnknownItem D_locate_leader
  have D_cross := d_cross (Pg := l.prog) (w := w) (base := base) A_cross B C R_NotLeader R_UnknownItem D_crossed D_locate_leader
  have D_floor := d_floor (Pg := l.prog) (w := w) (base := base) A_floor B C D_named D_draw
  have D_play := d_play (Pg := l.prog) (w := w) (base := base) A_play B C R_NotLeader R_UnknownItem D_cross D_check_leaders
  have D_told := d_told (Pg := l.prog) (w := w) (base := base) A_told B C R_NotLeader R_UnknownItem D_play ⟨⟨gaeCN, ggeCN, ebeCN, hdeCN, jhaCN, jhn, jht, jhmCN⟩, iceCN⟩ ⟨⟨gaeCU, ggeCU, ebeCU, hdeCU, jhaCU, jhn, jht, jhmCU⟩, iceCU⟩ (PySem.W.mg_of X G giCE) (PySem.W.mg_of X G aaeCN) (PySem.W.mg_of X G aaeCU) (exm_to jeCE jiCE jtCE jsCNCE) (exm_to jeCE jiCE jtCE jsCUCE) (kit_b scnCNCU iceCU tyeCU jsCNCU) (kit_b scnCUCN iceCN tyeCN jsCUCN)
  exact f_law (fun_mk (st := s_law) ll19 co19 kk19) B C R_NotLeader R_UnknownItem D_told D_draw D_play D_l_play D_leaders D_twinned D_floor D_source
end Dv.U
namespace Dv.U
open PySem L2 PyProof.Rows
/-! ### the head -/
def dn_0 : He.FnD := ⟨("is_leader", none), "is_leader", "is_leader", defArgs s_is_leader, defBody s_is_leader, defScope s_is_leader⟩
def dn_1 : He.FnD := ⟨("crossed", none), "crossed", "crossed", defArgs s_crossed, defBody s_crossed, defScope s_crossed⟩
def dn_2 : He.FnD := ⟨("_law_source", none), "_law_source", "_law_source", defArgs s_source, defBody s_source, defScope s_source⟩
def dn_3 : He.FnD := ⟨("_law_draw", none), "_law_draw", "_law_draw", defArgs s_draw, defBody s_draw, defScope s_draw⟩
def dn_4 : He.FnD := ⟨("_law_name", none), "_law_name", "_law_name", defArgs s_name, defBody s_name, defScope s_name⟩
def dn_5 : He.FnD := ⟨("_law_leaders", none), "_law_leaders", "_law_leaders", defArgs s_leaders, defBody s_leaders, defScope s_leaders⟩
def dn_6 : He.FnD := ⟨("_law_cross", none), "_law_cross", "_law_cross", defArgs s_l_cross, defBody s_l_cross, defScope s_l_cross⟩
def dn_7 : He.FnD := ⟨("_law_shuffled", none), "_law_shuffled", "_law_shuffled", defArgs s_shuffled, defBody s_shuffled, defScope s_shuffled⟩
def dn_8 : He.FnD := ⟨("_law_play", none), "_law_play", "_law_play", defArgs s_l_play, defBody s_l_play, defScope s_l_play⟩
def dn_9 : He.FnD := ⟨("_law_twinned", none), "_law_twinned", "_law_twinned", defArgs s_twinned, defBody s_twinned, defScope s_twinned⟩
def dn_10 : He.FnD := ⟨("locate", none), "locate", "locate", defArgs s_locate, defBody s_locate, defScope s_locate⟩
def dn_11 : He.FnD := ⟨("_law_pattern", none), "_law_pattern", "_law_pattern", defArgs s_pattern, defBody s_pattern, defScope s_pattern⟩
def dn_12 : He.FnD := ⟨("locate_leader", none), "locate_leader", "locate_leader", defArgs s_locate_leader, defBody s_locate_leader, defScope s_locate_leader⟩
def dn_13 : He.FnD := ⟨("_law_named", none), "_law_named", "_law_named", defArgs s_named, defBody s_named, defScope s_named⟩
def dn_14 : He.FnD := ⟨("check_leaders", none), "check_leaders", "check_leaders", defArgs s_check_leaders, defBody s_check_leaders, defScope s_check_leaders⟩
def dn_15 : He.FnD := ⟨("cross", none), "cross", "cross", defArgs s_cross, defBody s_cross, defScope s_cross⟩
def dn_16 : He.FnD := ⟨("_law_floor", none), "_law_floor", "_law_floor", defArgs s_floor, defBody s_floor, defScope s_floor⟩
def dn_17 : He.FnD := ⟨("play", none), "play", "play", defArgs s_play, defBody s_play, defScope s_play⟩
def dn_18 : He.FnD := ⟨("_law_told", none), "_law_told", "_law_told", defArgs s_told, defBody s_told, defScope s_told⟩
def dn_19 : He.FnD := ⟨("law", none), "law", "law", defArgs s_law, defBody s_law, defScope s_law⟩
def dn_eCN : He.FnD := ⟨("NotLeader", some "__init__"), "__init__", "NotLeader.__init__", defArgs s_init_NotLeader, defBody s_init_NotLeader, defScope s_init_NotLeader⟩
def dn_eCU : He.FnD := ⟨("UnknownItem", some "__init__"), "__init__", "UnknownItem.__init__", defArgs s_init_UnknownItem, defBody s_init_UnknownItem, defScope s_init_UnknownItem⟩
def fns_0 : List He.FnD := [dn_0, dn_1, dn_2, dn_3, dn_4, dn_5, dn_6, dn_7, dn_8, dn_9]
def fns_1 : List He.FnD := [dn_10, dn_11, dn_12, dn_13, dn_14, dn_15, dn_16, dn_17, dn_18, dn_19]
def fns_2 : List He.FnD := [dn_eCN, dn_eCU]
def fns : List (List He.FnD) := fns_0 :: fns_1 :: fns_2 :: []
def fqs_0 : List Hd.Fq := [fun K => decide (PySem.W.nsIn K mainGlobals "is_leader" = some (some (.ref (He.ga K "is_leader")))), fun K => decide (PySem.W.keepIn K (.ref (He.ga K "is_leader")) = true), fun K => decide (PySem.W.nsIn K mainGlobals "crossed" = some (some (.ref (He.ga K "crossed")))), fun K => decide (PySem.W.keepIn K (.ref (He.ga K "crossed")) = true), fun K => decide (PySem.W.nsIn K mainGlobals "_law_source" = some (some (.ref (He.ga K "_law_source")))), fun K => decide (PySem.W.keepIn K (.ref (He.ga K "_law_source")) = true), fun K => decide (PySem.W.nsIn K mainGlobals "_law_draw" = some (some (.ref (He.ga K "_law_draw")))), fun K => decide (PySem.W.keepIn K (.ref (He.ga K "_law_draw")) = true), fun K => decide (PySem.W.nsIn K mainGlobals "_law_name" = some (some (.ref (He.ga K "_law_name")))), fun K => decide (PySem.W.keepIn K (.ref (He.ga K "_law_name")) = true)]
def fqs_1 : List Hd.Fq := [fun K => decide (PySem.W.nsIn K mainGlobals "_law_leaders" = some (some (.ref (He.ga K "_law_leaders")))), fun K => decide (PySem.W.keepIn K (.ref (He.ga K "_law_leaders")) = true), fun K => decide (PySem.W.nsIn K mainGlobals "_law_cross" = some (some (.ref (He.ga K "_law_cross")))), fun K => decide (PySem.W.keepIn K (.ref (He.ga K "_law_cross")) = true), fun K => decide (PySem.W.nsIn K mainGlobals "_law_shuffled" = some (some (.ref (He.ga K "_law_shuffled")))), fun K => decide (PySem.W.keepIn K (.ref (He.ga K "_law_shuffled")) = true), fun K => decide (PySem.W.nsIn K mainGlobals "_law_play" = some (some (.ref (He.ga K "_law_play")))), fun K => decide (PySem.W.keepIn K (.ref (He.ga K "_law_play")) = true), fun K => decide (PySem.W.nsIn K mainGlobals "_law_twinned" = some (some (.ref (He.ga K "_law_twinned")))), fun K => decide (PySem.W.keepIn K (.ref (He.ga K "_law_twinned")) = true)]
def fqs_2 : List Hd.Fq := [fun K => decide (PySem.W.nsIn K mainGlobals "locate" = some (some (.ref (He.ga K "locate")))), fun K => decide (PySem.W.keepIn K (.ref (He.ga K "locate")) = true), fun K => decide (PySem.W.nsIn K mainGlobals "_law_pattern" = some (some (.ref (He.ga K "_law_pattern")))), fun K => decide (PySem.W.keepIn K (.ref (He.ga K "_law_pattern")) = true), fun K => decide (PySem.W.nsIn K mainGlobals "locate_leader" = some (some (.ref (He.ga K "locate_leader")))), fun K => decide (PySem.W.keepIn K (.ref (He.ga K "locate_leader")) = true), fun K => decide (PySem.W.nsIn K mainGlobals "_law_named" = some (some (.ref (He.ga K "_law_named")))), fun K => decide (PySem.W.keepIn K (.ref (He.ga K "_law_named")) = true), fun K => decide (PySem.W.nsIn K mainGlobals "check_leaders" = some (some (.ref (He.ga K "check_leaders")))), fun K => decide (PySem.W.keepIn K (.ref (He.ga K "check_leaders")) = true)]
def fqs_3 : List Hd.Fq := [fun K => decide (PySem.W.nsIn K mainGlobals "cross" = some (some (.ref (He.ga K "cross")))), fun K => decide (PySem.W.keepIn K (.ref (He.ga K "cross")) = true), fun K => decide (PySem.W.nsIn K mainGlobals "_law_floor" = some (some (.ref (He.ga K "_law_floor")))), fun K => decide (PySem.W.keepIn K (.ref (He.ga K "_law_floor")) = true), fun K => decide (PySem.W.nsIn K mainGlobals "play" = some (some (.ref (He.ga K "play")))), fun K => decide (PySem.W.keepIn K (.ref (He.ga K "play")) = true), fun K => Hd.kwB K ("play", none) "reverse" (Hd.isB false), fun K => decide (PySem.W.nsIn K mainGlobals "_law_told" = some (some (.ref (He.ga K "_law_told")))), fun K => decide (PySem.W.keepIn K (.ref (He.ga K "_law_told")) = true), fun K => decide (PySem.W.nsIn K mainGlobals "law" = some (some (.ref (He.ga K "law"))))]
def fqs_4 : List Hd.Fq := [fun K => decide (PySem.W.keepIn K (.ref (He.ga K "law")) = true), fun K => decide (PySem.W.nsIn K mainGlobals "NotLeader" = some (some (.ref (He.ga K "NotLeader")))), fun K => Hd.xcB K (He.ga K "NotLeader"), fun K => decide (PySem.W.findIn K (.ref (He.ga K "NotLeader")) "__setattr__" = some (some (.builtin "object.__setattr__"))), fun K => decide (PySem.W.findIn K (.ref (He.ga K "NotLeader")) "__getattribute__" = some (some (.builtin "BaseException.__getattribute__"))), fun K => decide (PySem.W.findIn K (.ref (He.ga K "NotLeader")) "__getattr__" = some none), fun K => decide (PySem.W.subIn K (.ref (He.ga K "NotLeader")) (.type "BaseException") = some true), fun K => decide (PySem.W.typeIn K (.ref (He.ga K "NotLeader")) = some (.type "type")), fun K => decide (PySem.W.keepIn K (.ref (He.ga K "NotLeader")) = true), fun K => decide (PySem.W.hasDictIn K (He.ga K "NotLeader") = true)]
def fqs_5 : List Hd.Fq := [fun K => decide (PySem.W.isClsIn K (He.ga K "NotLeader") = true), fun K => decide (PySem.W.subIn K (.ref (He.ga K "NotLeader")) (.ref (He.ga K "NotLeader")) = some true), fun K => decide (PySem.W.findIn K (.ref (He.ga K "NotLeader")) "name" = some none), fun K => decide (PySem.W.findIn K (.ref (He.ga K "NotLeader")) "__init__" = some (some (.ref (He.ma K (He.ga K "NotLeader") "__init__")))), fun K => decide (PySem.W.typeIn K (.ref (He.ma K (He.ga K "NotLeader") "__init__")) = some (.type "function")), fun K => decide (PySem.W.keepIn K (.ref (He.ma K (He.ga K "NotLeader") "__init__")) = true), fun K => decide (PySem.W.nsIn K mainGlobals "UnknownItem" = some (some (.ref (He.ga K "UnknownItem")))), fun K => Hd.xcB K (He.ga K "UnknownItem"), fun K => decide (PySem.W.findIn K (.ref (He.ga K "UnknownItem")) "__setattr__" = some (some (.builtin "object.__setattr__"))), fun K => decide (PySem.W.findIn K (.ref (He.ga K "UnknownItem")) "__getattribute__" = some (some (.builtin "BaseException.__getattribute__")))]
def fqs_6 : List Hd.Fq := [fun K => decide (PySem.W.findIn K (.ref (He.ga K "UnknownItem")) "__getattr__" = some none), fun K => decide (PySem.W.subIn K (.ref (He.ga K "UnknownItem")) (.type "BaseException") = some true), fun K => decide (PySem.W.typeIn K (.ref (He.ga K "UnknownItem")) = some (.type "type")), fun K => decide (PySem.W.keepIn K (.ref (He.ga K "UnknownItem")) = true), fun K => decide (PySem.W.hasDictIn K (He.ga K "UnknownItem") = true), fun K => decide (PySem.W.isClsIn K (He.ga K "UnknownItem") = true), fun K => decide (PySem.W.subIn K (.ref (He.ga K "UnknownItem")) (.ref (He.ga K "UnknownItem")) = some true), fun K => decide (PySem.W.findIn K (.ref (He.ga K "UnknownItem")) "name" = some none), fun K => decide (PySem.W.findIn K (.ref (He.ga K "UnknownItem")) "__init__" = some (some (.ref (He.ma K (He.ga K "UnknownItem") "__init__")))), fun K => decide (PySem.W.typeIn K (.ref (He.ma K (He.ga K "UnknownItem") "__init__")) = some (.type "function"))]
def fqs_7 : List Hd.Fq := [fun K => decide (PySem.W.keepIn K (.ref (He.ma K (He.ga K "UnknownItem") "__init__")) = true), fun K => decide (PySem.W.nsIn K mainGlobals "CrossError" = some (some (.ref (He.ga K "CrossError")))), fun K => decide (PySem.W.isClsIn K (He.ga K "CrossError") = true), fun K => decide (PySem.W.typeIn K (.ref (He.ga K "CrossError")) = some (.type "type")), fun K => decide (PySem.W.subIn K (.ref (He.ga K "CrossError")) (.type "BaseException") = some true), fun K => decide (PySem.W.subIn K (.ref (He.ga K "NotLeader")) (.ref (He.ga K "CrossError")) = some true), fun K => decide (PySem.W.subIn K (.ref (He.ga K "NotLeader")) (.ref (He.ga K "UnknownItem")) = some false), fun K => decide (PySem.W.subIn K (.ref (He.ga K "UnknownItem")) (.ref (He.ga K "CrossError")) = some true), fun K => decide (PySem.W.subIn K (.ref (He.ga K "UnknownItem")) (.ref (He.ga K "NotLeader")) = some false), fun K => decide (((He.ga K "NotLeader") == (He.ga K "UnknownItem")) = false)]
def fqs_8 : List Hd.Fq := [fun K => decide (((He.ga K "UnknownItem") == (He.ga K "NotLeader")) = false), fun K => decide (PySem.W.findIn K (.ref (He.ga K "NotLeader")) "__class__" = some (some (.builtin "object.__class__"))), fun K => decide (PySem.W.mroIn K (He.ga K "NotLeader") (.type "object") = some true), fun K => decide (PySem.W.findIn K (.ref (He.ga K "UnknownItem")) "__class__" = some (some (.builtin "object.__class__"))), fun K => decide (PySem.W.mroIn K (He.ga K "UnknownItem") (.type "object") = some true), fun K => decide (PySem.W.specialIn K (.builtin "object.__class__") "__get__" = some (some (.builtin "getset_descriptor.__get__"))), fun K => decide (PySem.W.takesIn K (.builtin "object.__class__") = some true), fun K => decide (PySem.W.nsIn K mainGlobals "len" = some none), fun K => decide (PySem.W.nsIn K mainGlobals "min" = some none), fun K => decide (PySem.W.nsIn K mainGlobals "max" = some none)]
def fqs_9 : List Hd.Fq := [fun K => decide (PySem.W.nsIn K mainGlobals "sorted" = some none), fun K => decide (PySem.W.nsIn K mainGlobals "repr" = some none), fun K => decide (PySem.W.nsIn K mainGlobals "int" = some none), fun K => decide (PySem.W.nsIn K mainGlobals "list" = some none), fun K => decide (PySem.W.nsIn K mainGlobals "tuple" = some none), fun K => decide (PySem.W.nsIn K mainGlobals "range" = some none), fun K => decide (PySem.W.nsIn K mainGlobals "enumerate" = some none), fun K => decide (PySem.W.nsIn K mainGlobals "isinstance" = some none), fun K => Hd.strB K "UPPER" "ABCDEFGHIJKLMNOPQRSTUVWXYZ"]
def fqs : List (List Hd.Fq) := fqs_0 :: fqs_1 :: fqs_2 :: fqs_3 :: fqs_4 :: fqs_5 :: fqs_6 :: fqs_7 :: fqs_8 :: fqs_9 :: []
def loose_ : List PySem.Str := (["CrossError", "UnknownItem", "NotLeader", "UPPER", "is_leader", "locate", "locate_leader", "check_leaders", "crossed", "cross", "play", "_law_source"] : List PySem.Str) ++ (["_law_draw", "_law_shuffled", "_law_name", "_law_pattern", "_law_named", "_law_floor", "_law_leaders", "_law_cross", "_law_play", "_law_told", "_law_twinned"] : List PySem.Str)
abbrev RR_ : PySem.W.OpenRow := PySem.W.OpenLaw.row PySem.Challenge.rw_crossfloor_k06_sequences_of_moves
def ob_ (s : PySem.W.SharedT) : Bool × List (List He.FnV) := Hd.obsAG fqs fns (HandSHeadRun.getT s)
theorem ob_eq_ (s : PySem.W.SharedT) : ob_ s = (Hd.hookA fqs fns).obs s.abs := Hd.obsAG_eq (HandSHeadRun.getT_eq s)
set_option maxHeartbeats 0 in
theorem run_ (w : World) : HandSHeadRun.RunEq RR_ (PySem.W.view RR_.prog [27]) (Hd.hookA fqs fns) ob_ 20000 loose_ w := by
  intro os
  kernel_rfl
set_option maxHeartbeats 0 in
theorem facts_ {w : World} {K : PySem.W.Frag} {h : Heap} {mg : Str → Option Value} {fa : Addr} (X : K.In h) (G : h.Ns mainGlobals mg) (hfa : mg "law" = some (.ref fa)) (c : Hd.SaysA fqs fns K) :
    ∃ fd : FuncData, (∀ (s : Shared) (v : Value), BindsTo s fd ⟨[v], []⟩ [("script", v)]) ∧ ∀ base : Heap, K.In base → base.Ns mainGlobals mg → DF PySem.Challenge.rw_crossfloor_k06_sequences_of_moves.prog w K mg base CX0 8 fa fd ["script"] (SpD K WLaw) := by
  obtain ⟨oc0, od0, sl0, kV0, dc0, pm0, an0, cd0, ct0, ll0, co0⟩ := Hd.SaysA.def_ c (l := fns_0) (d := dn_0) 0 0 rfl rfl
  obtain ⟨oc1, od1, sl1, kV1, dc1, pm1, an1, cd1, ct1, ll1, co1⟩ := Hd.SaysA.def_ c (l := fns_0) (d := dn_1) 0 1 rfl rfl
  obtain ⟨oc2, od2, sl2, kV2, dc2, pm2, an2, cd2, ct2, ll2, co2⟩ := Hd.SaysA.def_ c (l := fns_0) (d := dn_2) 0 2 rfl rfl
  obtain ⟨oc3, od3, sl3, kV3, dc3, pm3, an3, cd3, ct3, ll3, co3⟩ := Hd.SaysA.def_ c (l := fns_0) (d := dn_3) 0 3 rfl rfl
  obtain ⟨oc4, od4, sl4, kV4, dc4, pm4, an4, cd4, ct4, ll4, co4⟩ := Hd.SaysA.def_ c (l := fns_0) (d := dn_4) 0 4 rfl rfl
  obtain ⟨oc5, od5, sl5, kV5, dc5, pm5, an5, cd5, ct5, ll5, co5⟩ := Hd.SaysA.def_ c (l := fns_0) (d := dn_5) 0 5 rfl rfl
  obtain ⟨oc6, od6, sl6, kV6, dc6, pm6, an6, cd6, ct6, ll6, co6⟩ := Hd.SaysA.def_ c (l := fns_0) (d := dn_6) 0 6 rfl rfl
  obtain ⟨oc7, od7, sl7, kV7, dc7, pm7, an7, cd7, ct7, ll7, co7⟩ := Hd.SaysA.def_ c (l := fns_0) (d := dn_7) 0 7 rfl rfl
  obtain ⟨oc8, od8, sl8, kV8, dc8, pm8, an8, cd8, ct8, ll8, co8⟩ := Hd.SaysA.def_ c (l := fns_0) (d := dn_8) 0 8 rfl rfl
  obtain ⟨oc9, od9, sl9, kV9, dc9, pm9, an9, cd9, ct9, ll9, co9⟩ := Hd.SaysA.def_ c (l := fns_0) (d := dn_9) 0 9 rfl rfl
  obtain ⟨oc10, od10, sl10, kV10, dc10, pm10, an10, cd10, ct10, ll10, co10⟩ := Hd.SaysA.def_ c (l := fns_1) (d := dn_10) 1 0 rfl rfl
  obtain ⟨oc11, od11, sl11, kV11, dc11, pm11, an11, cd11, ct11, ll11, co11⟩ := Hd.SaysA.def_ c (l := fns_1) (d := dn_11) 1 1 rfl rfl
  obtain ⟨oc12, od12, sl12, kV12, dc12, pm12, an12, cd12, ct12, ll12, co12⟩ := Hd.SaysA.def_ c (l := fns_1) (d := dn_12) 1 2 rfl rfl
  obtain ⟨oc13, od13, sl13, kV13, dc13, pm13, an13, cd13, ct13, ll13, co13⟩ := Hd.SaysA.def_ c (l := fns_1) (d := dn_13) 1 3 rfl rfl
  obtain ⟨oc14, od14, sl14, kV14, dc14, pm14, an14, cd14, ct14, ll14, co14⟩ := Hd.SaysA.def_ c (l := fns_1) (d := dn_14) 1 4 rfl rfl
  obtain ⟨oc15, od15, sl15, kV15, dc15, pm15, an15, cd15, ct15, ll15, co15⟩ := Hd.SaysA.def_ c (l := fns_1) (d := dn_15) 1 5 rfl rfl
  obtain ⟨oc16, od16, sl16, kV16, dc16, pm16, an16, cd16, ct16, ll16, co16⟩ := Hd.SaysA.def_ c (l := fns_1) (d := dn_16) 1 6 rfl rfl
  obtain ⟨oc17, od17, sl17, kV17, dc17, pm17, an17, cd17, ct17, ll17, co17⟩ := Hd.SaysA.def_ c (l := fns_1) (d := dn_17) 1 7 rfl rfl
  obtain ⟨oc18, od18, sl18, kV18, dc18, pm18, an18, cd18, ct18, ll18, co18⟩ := Hd.SaysA.def_ c (l := fns_1) (d := dn_18) 1 8 rfl rfl
  obtain ⟨oc19, od19, sl19, kV19, dc19, pm19, an19, cd19, ct19, ll19, co19⟩ := Hd.SaysA.def_ c (l := fns_1) (d := dn_19) 1 9 rfl rfl
  obtain ⟨oceCN, odeCN, sleCN, kVeCN, dceCN, pmeCN, aneCN, cdeCN, cteCN, lleCN, coeCN⟩ := Hd.SaysA.def_ c (l := fns_2) (d := dn_eCN) 2 0 rfl rfl
  obtain ⟨oceCU, odeCU, sleCU, kVeCU, dceCU, pmeCU, aneCU, cdeCU, cteCU, lleCU, coeCU⟩ := Hd.SaysA.def_ c (l := fns_2) (d := dn_eCU) 2 1 rfl rfl
  have aa0 : PySem.W.nsIn K mainGlobals "is_leader" = some (some (.ref (He.ga K "is_leader"))) := of_decide_eq_true (Hd.SaysA.fact c (l := fqs_0) 0 0 rfl rfl)
  have kk0 : PySem.W.keepIn K (.ref (He.ga K "is_leader")) = true := of_decide_eq_true (Hd.SaysA.fact c (l := fqs_0) 0 1 rfl rfl)
  have aa1 : PySem.W.nsIn K mainGlobals "crossed" = some (some (.ref (He.ga K "crossed"))) := of_decide_eq_true (Hd.SaysA.fact c (l := fqs_0) 0 2 rfl rfl)
  have kk1 : PySem.W.keepIn K (.ref (He.ga K "crossed")) = true := of_decide_eq_true (Hd.SaysA.fact c (l := fqs_0) 0 3 rfl rfl)
  have aa2 : PySem.W.nsIn K mainGlobals "_law_source" = some (some (.ref (He.ga K "_law_source"))) := of_decide_eq_true (Hd.SaysA.fact c (l := fqs_0) 0 4 rfl rfl)
  have kk2 : PySem.W.keepIn K (.ref (He.ga K "_law_source")) = true := of_decide_eq_true (Hd.SaysA.fact c (l := fqs_0) 0 5 rfl rfl)
  have aa3 : PySem.W.nsIn K mainGlobals "_law_draw" = some (some (.ref (He.ga K "_law_draw"))) := of_decide_eq_true (Hd.SaysA.fact c (l := fqs_0) 0 6 rfl rfl)
  have kk3 : PySem.W.keepIn K (.ref (He.ga K "_law_draw")) = true := of_decide_eq_true (Hd.SaysA.fact c (l := fqs_0) 0 7 rfl rfl)
  have aa4 : PySem.W.nsIn K mainGlobals "_law_name" = some (some (.ref (He.ga K "_law_name"))) := of_decide_eq_true (Hd.SaysA.fact c (l := fqs_0) 0 8 rfl rfl)
  have kk4 : PySem.W.keepIn K (.ref (He.ga K "_law_name")) = true := of_decide_eq_true (Hd.SaysA.fact c (l := fqs_0) 0 9 rfl rfl)
  have aa5 : PySem.W.nsIn K mainGlobals "_law_leaders" = some (some (.ref (He.ga K "_law_leaders"))) := of_decide_eq_true (Hd.SaysA.fact c (l := fqs_1) 1 0 rfl rfl)
  have kk5 : PySem.W.keepIn K (.ref (He.ga K "_law_leaders")) = true := of_decide_eq_true (Hd.SaysA.fact c (l := fqs_1) 1 1 rfl rfl)
  have aa6 : PySem.W.nsIn K mainGlobals "_law_cross" = some (some (.ref (He.ga K "_law_cross"))) := of_decide_eq_true (Hd.SaysA.fact c (l := fqs_1) 1 2 rfl rfl)
  have kk6 : PySem.W.keepIn K (.ref (He.ga K "_law_cross")) = true := of_decide_eq_true (Hd.SaysA.fact c (l := fqs_1) 1 3 rfl rfl)
  have aa7 : PySem.W.nsIn K mainGlobals "_law_shuffled" = some (some (.ref (He.ga K "_law_shuffled"))) := of_decide_eq_true (Hd.SaysA.fact c (l := fqs_1) 1 4 rfl rfl)
  have kk7 : PySem.W.keepIn K (.ref (He.ga K "_law_shuffled")) = true := of_decide_eq_true (Hd.SaysA.fact c (l := fqs_1) 1 5 rfl rfl)
  have aa8 : PySem.W.nsIn K mainGlobals "_law_play" = some (some (.ref (He.ga K "_law_play"))) := of_decide_eq_true (Hd.SaysA.fact c (l := fqs_1) 1 6 rfl rfl)
  have kk8 : PySem.W.keepIn K (.ref (He.ga K "_law_play")) = true := of_decide_eq_true (Hd.SaysA.fact c (l := fqs_1) 1 7 rfl rfl)
  have aa9 : PySem.W.nsIn K mainGlobals "_law_twinned" = some (some (.ref (He.ga K "_law_twinned"))) := of_decide_eq_true (Hd.SaysA.fact c (l := fqs_1) 1 8 rfl rfl)
  have kk9 : PySem.W.keepIn K (.ref (He.ga K "_law_twinned")) = true := of_decide_eq_true (Hd.SaysA.fact c (l := fqs_1) 1 9 rfl rfl)
  have aa10 : PySem.W.nsIn K mainGlobals "locate" = some (some (.ref (He.ga K "locate"))) := of_decide_eq_true (Hd.SaysA.fact c (l := fqs_2) 2 0 rfl rfl)
  have kk10 : PySem.W.keepIn K (.ref (He.ga K "locate")) = true := of_decide_eq_true (Hd.SaysA.fact c (l := fqs_2) 2 1 rfl rfl)
  have aa11 : PySem.W.nsIn K mainGlobals "_law_pattern" = some (some (.ref (He.ga K "_law_pattern"))) := of_decide_eq_true (Hd.SaysA.fact c (l := fqs_2) 2 2 rfl rfl)
  have kk11 : PySem.W.keepIn K (.ref (He.ga K "_law_pattern")) = true := of_decide_eq_true (Hd.SaysA.fact c (l := fqs_2) 2 3 rfl rfl)
  have aa12 : PySem.W.nsIn K mainGlobals "locate_leader" = some (some (.ref (He.ga K "locate_leader"))) := of_decide_eq_true (Hd.SaysA.fact c (l := fqs_2) 2 4 rfl rfl)
  have kk12 : PySem.W.keepIn K (.ref (He.ga K "locate_leader")) = true := of_decide_eq_true (Hd.SaysA.fact c (l := fqs_2) 2 5 rfl rfl)
  have aa13 : PySem.W.nsIn K mainGlobals "_law_named" = some (some (.ref (He.ga K "_law_named"))) := of_decide_eq_true (Hd.SaysA.fact c (l := fqs_2) 2 6 rfl rfl)
  have kk13 : PySem.W.keepIn K (.ref (He.ga K "_law_named")) = true := of_decide_eq_true (Hd.SaysA.fact c (l := fqs_2) 2 7 rfl rfl)
  have aa14 : PySem.W.nsIn K mainGlobals "check_leaders" = some (some (.ref (He.ga K "check_leaders"))) := of_decide_eq_true (Hd.SaysA.fact c (l := fqs_2) 2 8 rfl rfl)
  have kk14 : PySem.W.keepIn K (.ref (He.ga K "check_leaders")) = true := of_decide_eq_true (Hd.SaysA.fact c (l := fqs_2) 2 9 rfl rfl)
  have aa15 : PySem.W.nsIn K mainGlobals "cross" = some (some (.ref (He.ga K "cross"))) := of_decide_eq_true (Hd.SaysA.fact c (l := fqs_3) 3 0 rfl rfl)
  have kk15 : PySem.W.keepIn K (.ref (He.ga K "cross")) = true := of_decide_eq_true (Hd.SaysA.fact c (l := fqs_3) 3 1 rfl rfl)
  have aa16 : PySem.W.nsIn K mainGlobals "_law_floor" = some (some (.ref (He.ga K "_law_floor"))) := of_decide_eq_true (Hd.SaysA.fact c (l := fqs_3) 3 2 rfl rfl)
  have kk16 : PySem.W.keepIn K (.ref (He.ga K "_law_floor")) = true := of_decide_eq_true (Hd.SaysA.fact c (l := fqs_3) 3 3 rfl rfl)
  have aa17 : PySem.W.nsIn K mainGlobals "play" = some (some (.ref (He.ga K "play"))) := of_decide_eq_true (Hd.SaysA.fact c (l := fqs_3) 3 4 rfl rfl)
  have kk17 : PySem.W.keepIn K (.ref (He.ga K "play")) = true := of_decide_eq_true (Hd.SaysA.fact c (l := fqs_3) 3 5 rfl rfl)
  obtain ⟨kD17, ku17, rfl, kw17, kt17⟩ := Hd.kwB_ok (Hd.SaysA.fact c (l := fqs_3) 3 6 rfl rfl) ll17
  have kt17_ := Hd.isB_ok kt17
  subst kt17_
  have aa18 : PySem.W.nsIn K mainGlobals "_law_told" = some (some (.ref (He.ga K "_law_told"))) := of_decide_eq_true (Hd.SaysA.fact c (l := fqs_3) 3 7 rfl rfl)
  have kk18 : PySem.W.keepIn K (.ref (He.ga K "_law_told")) = true := of_decide_eq_true (Hd.SaysA.fact c (l := fqs_3) 3 8 rfl rfl)
  have aa19 : PySem.W.nsIn K mainGlobals "law" = some (some (.ref (He.ga K "law"))) := of_decide_eq_true (Hd.SaysA.fact c (l := fqs_3) 3 9 rfl rfl)
  have kk19 : PySem.W.keepIn K (.ref (He.ga K "law")) = true := of_decide_eq_true (Hd.SaysA.fact c (l := fqs_4) 4 0 rfl rfl)
  have aaeCN : PySem.W.nsIn K mainGlobals "NotLeader" = some (some (.ref (He.ga K "NotLeader"))) := of_decide_eq_true (Hd.SaysA.fact c (l := fqs_4) 4 1 rfl rfl)
  obtain ⟨xaxleCN, xbxleCN, xcxleCN, xdxleCN, xexleCN, xfxleCN, xgxleCN, xhxleCN, xixleCN, xjxleCN, xkxleCN, xlxleCN, xmxleCN, xnxleCN, xoxleCN, xleCN⟩ := Hd.xcB_ok (Hd.SaysA.fact c (l := fqs_4) 4 2 rfl rfl)
  have saeCN : PySem.W.findIn K (.ref (He.ga K "NotLeader")) "__setattr__" = some (some (.builtin "object.__setattr__")) := of_decide_eq_true (Hd.SaysA.fact c (l := fqs_4) 4 3 rfl rfl)
  have gaeCN : PySem.W.findIn K (.ref (He.ga K "NotLeader")) "__getattribute__" = some (some (.builtin "BaseException.__getattribute__")) := of_decide_eq_true (Hd.SaysA.fact c (l := fqs_4) 4 4 rfl rfl)
  have ggeCN : PySem.W.findIn K (.ref (He.ga K "NotLeader")) "__getattr__" = some none := of_decide_eq_true (Hd.SaysA.fact c (l := fqs_4) 4 5 rfl rfl)
  have ebeCN : PySem.W.subIn K (.ref (He.ga K "NotLeader")) (.type "BaseException") = some true := of_decide_eq_true (Hd.SaysA.fact c (l := fqs_4) 4 6 rfl rfl)
  have tyeCN : PySem.W.typeIn K (.ref (He.ga K "NotLeader")) = some (.type "type") := of_decide_eq_true (Hd.SaysA.fact c (l := fqs_4) 4 7 rfl rfl)
  have kceCN : PySem.W.keepIn K (.ref (He.ga K "NotLeader")) = true := of_decide_eq_true (Hd.SaysA.fact c (l := fqs_4) 4 8 rfl rfl)
  have hdeCN : PySem.W.hasDictIn K (He.ga K "NotLeader") = true := of_decide_eq_true (Hd.SaysA.fact c (l := fqs_4) 4 9 rfl rfl)
  have iceCN : PySem.W.isClsIn K (He.ga K "NotLeader") = true := of_decide_eq_true (Hd.SaysA.fact c (l := fqs_5) 5 0 rfl rfl)
  have sceCN : PySem.W.subIn K (.ref (He.ga K "NotLeader")) (.ref (He.ga K "NotLeader")) = some true := of_decide_eq_true (Hd.SaysA.fact c (l := fqs_5) 5 1 rfl rfl)
  have nfeCNname : PySem.W.findIn K (.ref (He.ga K "NotLeader")) "name" = some none := of_decide_eq_true (Hd.SaysA.fact c (l := fqs_5) 5 2 rfl rfl)
  have iieCN : PySem.W.findIn K (.ref (He.ga K "NotLeader")) "__init__" = some (some (.ref (He.ma K (He.ga K "NotLeader") "__init__"))) := of_decide_eq_true (Hd.SaysA.fact c (l := fqs_5) 5 3 rfl rfl)
  have iteCN : PySem.W.typeIn K (.ref (He.ma K (He.ga K "NotLeader") "__init__")) = some (.type "function") := of_decide_eq_true (Hd.SaysA.fact c (l := fqs_5) 5 4 rfl rfl)
  have kkeCN : PySem.W.keepIn K (.ref (He.ma K (He.ga K "NotLeader") "__init__")) = true := of_decide_eq_true (Hd.SaysA.fact c (l := fqs_5) 5 5 rfl rfl)
  have aaeCU : PySem.W.nsIn K mainGlobals "UnknownItem" = some (some (.ref (He.ga K "UnknownItem"))) := of_decide_eq_true (Hd.SaysA.fact c (l := fqs_5) 5 6 rfl rfl)
  obtain ⟨xaxleCU, xbxleCU, xcxleCU, xdxleCU, xexleCU, xfxleCU, xgxleCU, xhxleCU, xixleCU, xjxleCU, xkxleCU, xlxleCU, xmxleCU, xnxleCU, xoxleCU, xleCU⟩ := Hd.xcB_ok (Hd.SaysA.fact c (l := fqs_5) 5 7 rfl rfl)
  have saeCU : PySem.W.findIn K (.ref (He.ga K "UnknownItem")) "__setattr__" = some (some (.builtin "object.__setattr__")) := of_decide_eq_true (Hd.SaysA.fact c (l := fqs_5) 5 8 rfl rfl)
  have gaeCU : PySem.W.findIn K (.ref (He.ga K "UnknownItem")) "__getattribute__" = some (some (.builtin "BaseException.__getattribute__")) := of_decide_eq_true (Hd.SaysA.fact c (l := fqs_5) 5 9 rfl rfl)
  have ggeCU : PySem.W.findIn K (.ref (He.ga K "UnknownItem")) "__getattr__" = some none := of_decide_eq_true (Hd.SaysA.fact c (l := fqs_6) 6 0 rfl rfl)
  have ebeCU : PySem.W.subIn K (.ref (He.ga K "UnknownItem")) (.type "BaseException") = some true := of_decide_eq_true (Hd.SaysA.fact c (l := fqs_6) 6 1 rfl rfl)
  have tyeCU : PySem.W.typeIn K (.ref (He.ga K "UnknownItem")) = some (.type "type") := of_decide_eq_true (Hd.SaysA.fact c (l := fqs_6) 6 2 rfl rfl)
  have kceCU : PySem.W.keepIn K (.ref (He.ga K "UnknownItem")) = true := of_decide_eq_true (Hd.SaysA.fact c (l := fqs_6) 6 3 rfl rfl)
  have hdeCU : PySem.W.hasDictIn K (He.ga K "UnknownItem") = true := of_decide_eq_true (Hd.SaysA.fact c (l := fqs_6) 6 4 rfl rfl)
  have iceCU : PySem.W.isClsIn K (He.ga K "UnknownItem") = true := of_decide_eq_true (Hd.SaysA.fact c (l := fqs_6) 6 5 rfl rfl)
  have sceCU : PySem.W.subIn K (.ref (He.ga K "UnknownItem")) (.ref (He.ga K "UnknownItem")) = some true := of_decide_eq_true (Hd.SaysA.fact c (l := fqs_6) 6 6 rfl rfl)
  have nfeCUname : PySem.W.findIn K (.ref (He.ga K "UnknownItem")) "name" = some none := of_decide_eq_true (Hd.SaysA.fact c (l := fqs_6) 6 7 rfl rfl)
  have iieCU : PySem.W.findIn K (.ref (He.ga K "UnknownItem")) "__init__" = some (some (.ref (He.ma K (He.ga K "UnknownItem") "__init__"))) := of_decide_eq_true (Hd.SaysA.fact c (l := fqs_6) 6 8 rfl rfl)
  have iteCU : PySem.W.typeIn K (.ref (He.ma K (He.ga K "UnknownItem") "__init__")) = some (.type "function") := of_decide_eq_true (Hd.SaysA.fact c (l := fqs_6) 6 9 rfl rfl)
  have kkeCU : PySem.W.keepIn K (.ref (He.ma K (He.ga K "UnknownItem") "__init__")) = true := of_decide_eq_true (Hd.SaysA.fact c (l := fqs_7) 7 0 rfl rfl)
  have giCE : PySem.W.nsIn K mainGlobals "CrossError" = some (some (.ref (He.ga K "CrossError"))) := of_decide_eq_true (Hd.SaysA.fact c (l := fqs_7) 7 1 rfl rfl)
  have jiCE : PySem.W.isClsIn K (He.ga K "CrossError") = true := of_decide_eq_true (Hd.SaysA.fact c (l := fqs_7) 7 2 rfl rfl)
  have jtCE : PySem.W.typeIn K (.ref (He.ga K "CrossError")) = some (.type "type") := of_decide_eq_true (Hd.SaysA.fact c (l := fqs_7) 7 3 rfl rfl)
  have jeCE : PySem.W.subIn K (.ref (He.ga K "CrossError")) (.type "BaseException") = some true := of_decide_eq_true (Hd.SaysA.fact c (l := fqs_7) 7 4 rfl rfl)
  have jsCNCE : PySem.W.subIn K (.ref (He.ga K "NotLeader")) (.ref (He.ga K "CrossError")) = some true := of_decide_eq_true (Hd.SaysA.fact c (l := fqs_7) 7 5 rfl rfl)
  have jsCNCU : PySem.W.subIn K (.ref (He.ga K "NotLeader")) (.ref (He.ga K "UnknownItem")) = some false := of_decide_eq_true (Hd.SaysA.fact c (l := fqs_7) 7 6 rfl rfl)
  have jsCUCE : PySem.W.subIn K (.ref (He.ga K "UnknownItem")) (.ref (He.ga K "CrossError")) = some true := of_decide_eq_true (Hd.SaysA.fact c (l := fqs_7) 7 7 rfl rfl)
  have jsCUCN : PySem.W.subIn K (.ref (He.ga K "UnknownItem")) (.ref (He.ga K "NotLeader")) = some false := of_decide_eq_true (Hd.SaysA.fact c (l := fqs_7) 7 8 rfl rfl)
  have scnCNCU : ((He.ga K "NotLeader") == (He.ga K "UnknownItem")) = false := of_decide_eq_true (Hd.SaysA.fact c (l := fqs_7) 7 9 rfl rfl)
  have scnCUCN : ((He.ga K "UnknownItem") == (He.ga K "NotLeader")) = false := of_decide_eq_true (Hd.SaysA.fact c (l := fqs_8) 8 0 rfl rfl)
  have jhaCN : PySem.W.findIn K (.ref (He.ga K "NotLeader")) "__class__" = some (some (.builtin "object.__class__")) := of_decide_eq_true (Hd.SaysA.fact c (l := fqs_8) 8 1 rfl rfl)
  have jhmCN : PySem.W.mroIn K (He.ga K "NotLeader") (.type "object") = some true := of_decide_eq_true (Hd.SaysA.fact c (l := fqs_8) 8 2 rfl rfl)
  have jhaCU : PySem.W.findIn K (.ref (He.ga K "UnknownItem")) "__class__" = some (some (.builtin "object.__class__")) := of_decide_eq_true (Hd.SaysA.fact c (l := fqs_8) 8 3 rfl rfl)
  have jhmCU : PySem.W.mroIn K (He.ga K "UnknownItem") (.type "object") = some true := of_decide_eq_true (Hd.SaysA.fact c (l := fqs_8) 8 4 rfl rfl)
  have jhn : PySem.W.specialIn K (.builtin "object.__class__") "__get__" = some (some (.builtin "getset_descriptor.__get__")) := of_decide_eq_true (Hd.SaysA.fact c (l := fqs_8) 8 5 rfl rfl)
  have jht : PySem.W.takesIn K (.builtin "object.__class__") = some true := of_decide_eq_true (Hd.SaysA.fact c (l := fqs_8) 8 6 rfl rfl)
  have zz0 : PySem.W.nsIn K mainGlobals "len" = some none := of_decide_eq_true (Hd.SaysA.fact c (l := fqs_8) 8 7 rfl rfl)
  have zz1 : PySem.W.nsIn K mainGlobals "min" = some none := of_decide_eq_true (Hd.SaysA.fact c (l := fqs_8) 8 8 rfl rfl)
  have zz2 : PySem.W.nsIn K mainGlobals "max" = some none := of_decide_eq_true (Hd.SaysA.fact c (l := fqs_8) 8 9 rfl rfl)
  have zz3 : PySem.W.nsIn K mainGlobals "sorted" = some none := of_decide_eq_true (Hd.SaysA.fact c (l := fqs_9) 9 0 rfl rfl)
  have zz4 : PySem.W.nsIn K mainGlobals "repr" = some none := of_decide_eq_true (Hd.SaysA.fact c (l := fqs_9) 9 1 rfl rfl)
  have zz5 : PySem.W.nsIn K mainGlobals "int" = some none := of_decide_eq_true (Hd.SaysA.fact c (l := fqs_9) 9 2 rfl rfl)
  have zz6 : PySem.W.nsIn K mainGlobals "list" = some none := of_decide_eq_true (Hd.SaysA.fact c (l := fqs_9) 9 3 rfl rfl)
  have zz7 : PySem.W.nsIn K mainGlobals "tuple" = some none := of_decide_eq_true (Hd.SaysA.fact c (l := fqs_9) 9 4 rfl rfl)
  have zz8 : PySem.W.nsIn K mainGlobals "range" = some none := of_decide_eq_true (Hd.SaysA.fact c (l := fqs_9) 9 5 rfl rfl)
  have zz9 : PySem.W.nsIn K mainGlobals "enumerate" = some none := of_decide_eq_true (Hd.SaysA.fact c (l := fqs_9) 9 6 rfl rfl)
  have zz10 : PySem.W.nsIn K mainGlobals "isinstance" = some none := of_decide_eq_true (Hd.SaysA.fact c (l := fqs_9) 9 7 rfl rfl)
  obtain ⟨tcc0, cc0⟩ := Hd.strB_ok (Hd.SaysA.fact c (l := fqs_9) 9 8 rfl rfl)
  exact all_mk (l := PySem.Challenge.rw_crossfloor_k06_sequences_of_moves) X G hfa aa0 ll0 co0 kk0 aa1 ll1 co1 kk1 aa2 ll2 co2 kk2 aa3 ll3 co3 kk3 aa4 ll4 co4 kk4 aa5 ll5 co5 kk5 aa6 ll6 co6 kk6 aa7 ll7 co7 kk7 aa8 ll8 co8 kk8 aa9 ll9 co9 kk9 aa10 ll10 co10 kk10 aa11 ll11 co11 kk11 aa12 ll12 co12 kk12 aa13 ll13 co13 kk13 aa14 ll14 co14 kk14 aa15 ll15 co15 kk15 aa16 ll16 co16 kk16 aa17 ll17 co17 kk17 kw17 aa18 ll18 co18 kk18 aa19 ll19 co19 kk19 aaeCN xleCN saeCN gaeCN ggeCN ebeCN tyeCN kceCN hdeCN iceCN sceCN nfeCNname iieCN iteCN lleCN coeCN kkeCN aaeCU xleCU saeCU gaeCU ggeCU ebeCU tyeCU kceCU hdeCU iceCU sceCU nfeCUname iieCU iteCU lleCU coeCU kkeCU giCE jiCE jtCE jeCE jsCNCE jsCNCU jsCUCE jsCUCN scnCNCU scnCUCN jhaCN jhmCN jhaCU jhmCU jhn jht zz0 zz1 zz2 zz3 zz4 zz5 zz6 zz7 zz8 zz9 zz10 cc0
end Dv.U
open PySem PySem.W PySem.Calls PyProof.Rows in
set_option maxRecDepth 100000 in
set_option maxHeartbeats 0 in
theorem PySem.Challenge.cw_crossfloor_k06_sequences_of_moves_holds : PySem.Challenge.rw_crossfloor_k06_sequences_of_moves.Holds := by
  w_on; o_law
  refine HandSHeadRun.head_any (r := OpenLaw.row PySem.Challenge.rw_crossfloor_k06_sequences_of_moves) (q := view (OpenLaw.row PySem.Challenge.rw_crossfloor_k06_sequences_of_moves).prog [27]) (H := Dv.Hd.hookA Dv.U.fqs Dv.U.fns) (ob := Dv.U.ob_) (M := 20000) (loose := Dv.U.loose_) (d := HandSHeadRun.topDef (OpenLaw.row PySem.Challenge.rw_crossfloor_k06_sequences_of_moves).prog 27) (kwd := []) Dv.U.ob_eq_
    (by kernel_rfl) (fun s => by kernel_rfl) Dv.U.run_ (by kernel_rfl) (by kernel_rfl) (by kernel_rfl) (by rfl) (by first | assumption | decide +kernel) (by decide +kernel) ⟨rfl, rfl, rfl, rfl, rfl, by decide +kernel⟩ ?hw ?hc
  case hw => w_witness2
  case hc =>
    refine Dv.Hd.dwalkE (l := PySem.Challenge.rw_crossfloor_k06_sequences_of_moves) (k := 8) rfl (by kernel_rfl) ⟨rfl, by decide, by decide⟩ ?F
    intro w mg fa h Y G hmg0
    obtain ⟨K, KX, c⟩ := Y
    have hmg : mg ("law" : PySem.Str) = some (.ref fa) := by
      have e : (HandSHeadRun.topDef (OpenLaw.row PySem.Challenge.rw_crossfloor_k06_sequences_of_moves).prog 27).name = ("law" : PySem.Str) := by kernel_rfl
      rw [← e]
      exact hmg0
    obtain ⟨fd, hb, hF⟩ := Dv.U.facts_ (w := w) KX G hmg c
    exact ⟨K, fd, KX, hb, hF⟩
