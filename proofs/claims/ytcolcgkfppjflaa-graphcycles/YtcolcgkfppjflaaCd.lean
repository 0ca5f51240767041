/-
  The first node of a list that is as near as can be; the greedy way: mathematics; contract of cycleThrough.
-/
import Derived.Test.YtcolcgkfppjflaaCc
import Derived.Test.YtcolcgkfppjflaaSf
namespace Go.Proofs.Ytcolcgkfppjflaa
open Go.ChangeShapes Go.WideShapes Go.ChangeAt Go.RowKit
set_option linter.unusedVariables false

set_option maxRecDepth 100000 in
set_option maxHeartbeats 2000000 in
theorem near_any (N x : Nat) (ga gl gw : Nat) (left : Int) (W : Nat → Int) (w : World) (hx : x < N) (ha : w.cell? ⟨ga, 0, none⟩ = some (.slice (some ⟨gw, 0, none⟩) N N)) (hl : w.cell? ⟨gl, 0, none⟩ = some (.int .i64 left)) (hw : w.cell? ⟨gw, x, none⟩ = some (.int .i64 (W x))) :
    Calls Try.prog 34 #[.int .i64 (x : Int), .pointer (some ⟨ga, 0, none⟩), .pointer (some ⟨gl, 0, none⟩)] w (fun e w' => e = .returned (.bool (W x == left)) ∧ ∃ q, w' = w.drewN q) := by
  have hx' : (x : Int) < (N : Int) := by omega
  generalize W x = y at hw ⊢
  go_enter Try.func34, Try.ntmps34
  go_wp2
  go_quiet (fail)
  go_wp2
  go_ret
  exact ⟨rfl, _, rfl⟩
theorem first_any (N st : Nat) (hst : st < N) (v : Value) (l : List Nat) (ga gl gw k : Nat) (left : Int) (W : Nat → Int) (w : World) (hs : LsS w v l) (hl : l.length ≤ 100000) (hN : ∀ x ∈ l, x < N) (ha : w.cell? ⟨ga, 0, none⟩ = some (.slice (some ⟨gw, 0, none⟩) N N)) (hle : w.cell? ⟨gl, 0, none⟩ = some (.int .i64 left)) (hw : ∀ i, i < N → w.cell? ⟨gw, i, none⟩ = some (.int .i64 (W i)))
    (hk : k < l.length) (hhit : W (l.getD k 0) = left) (hno : ∀ j, j < k → W (l.getD j 0) ≠ left) :
    Calls Try.prog 33 #[v, .func (.func 34) #[] #[.pointer (some ⟨ga, 0, none⟩), .pointer (some ⟨gl, 0, none⟩)]] w (fun e w' => e = .returned (.int .i64 (k : Int)) ∧ ∃ q, w' = w.drewN q) := by
  obtain ⟨sp, cp, rfl, hc⟩ := hs
  obtain ⟨b, rfl, hbl, hcell⟩ := hc (by omega)
  letI : Inhabited (Fin N) := ⟨⟨st, hst⟩⟩
  have eg : ∀ args w, (callFunc 34 args).run Try.prog w = .ok (.enter 34 args) w := enters_of Try.func34 (by kernel_rfl) rfl
  obtain ⟨zs, hzs⟩ : ∃ zs : List (Fin N), zs = l.attach.map (fun x => ⟨x.1, hN x.1 x.2⟩) := ⟨_, rfl⟩
  have hzl : zs.length = l.length := by rw [hzs]; simp
  have hzg : ∀ j, j < l.length → (zs[j]!).val = l.getD j 0 := fun j hj => by
    have hj' : j < zs.length := by omega
    rw [getElem!_pos zs j hj', List.getD_eq_getElem?_getD, List.getElem?_eq_getElem hj]
    simp [hzs]
  have hp : PredAt Try.prog 34 #[.pointer (some ⟨ga, 0, none⟩), .pointer (some ⟨gl, 0, none⟩)] (fun x : Fin N => Value.int .i64 ((x.val : Nat) : Int)) (fun x => W x.val == left) w := fun W' x hb =>
    near_any N x.val ga gl gw left W W' x.isLt ((hb.cell (p := ⟨ga, 0, none⟩) (cell_lt ha)).trans ha) ((hb.cell (p := ⟨gl, 0, none⟩) (cell_lt hle)).trans hle) ((hb.cell (p := ⟨gw, x.val, none⟩) (cell_lt (hw x.val x.isLt))).trans (hw x.val x.isLt))
  have h := Try.slices_IndexFunc (fun x : Fin N => Value.int .i64 ((x.val : Nat) : Int)) (fun x => W x.val == left) 34 #[.pointer (some ⟨ga, 0, none⟩), .pointer (some ⟨gl, 0, none⟩)] eg b 0 l.length cp zs w hp (by omega) (by omega) (fun j hj => by
    rw [Nat.zero_add, hzg j (by omega)]
    exact hcell j (by omega))
  have hidx : Lib.idxBy (fun _ y => (fun x : Fin N => W x.val == left) y) (zs.take l.length) default = (k : Int) := Lib.idxBy_hit _ zs l.length k default hk (by omega) (by show (W (zs[k]!).val == left) = true; rw [hzg k hk, hhit]; simp) (fun j hj => by show (W (zs[j]!).val == left) = false; rw [hzg j (by omega)]; exact beq_eq_false_iff_ne.2 (hno j hj))
  rw [hidx] at h
  exact h

/-- each next one is the least that is as near as can be -/
def Gr (A : Nat → Nat → Prop) (N st l : Nat) (C : List Nat) : Prop :=
  0 < C.length ∧ C.length ≤ l ∧ C.getD 0 0 = st ∧ ∀ i, i + 1 < C.length → A (C.getD i 0) (C.getD (i + 1) 0) ∧ C.getD (i + 1) 0 < N ∧ Ds A N st (C.getD (i + 1) 0) (l - (i + 1)) ∧ ∀ x, x < N → A (C.getD i 0) x → Ds A N st x (l - (i + 1)) → C.getD (i + 1) 0 ≤ x
theorem Gr.start {A : Nat → Nat → Prop} {N st l : Nat} (hl : 1 ≤ l) : Gr A N st l [st] := ⟨by simp, by simpa using hl, rfl, fun i hi => by simp at hi⟩
theorem Gr.last {A : Nat → Nat → Prop} {N st l at_ : Nat} {C : List Nat} (h : Gr A N st l C) (hst : st < N) (ha : at_ = C.getD (C.length - 1) 0) (hl : C.length < l) (hc : Cl A N st l) (hm : ∀ k, k < l → ¬ Cl A N st k) : at_ < N ∧ ∃ x, x < N ∧ A at_ x ∧ Ds A N st x (l - C.length) := by
  by_cases h1 : C.length = 1
  · have e : at_ = st := by rw [ha, h1]; exact h.2.2.1
    rw [e]
    refine ⟨hst, ?_⟩
    obtain ⟨y, d, rfl, hy, hay, hb⟩ := hc
    refine ⟨y, hy, hay, ?_⟩
    rw [h1, Nat.add_sub_cancel]
    exact ⟨hb, fun d' hd' hb' => hm (d' + 1) (by omega) ⟨y, d', rfl, hy, hay, hb'⟩⟩
  · have h2 := h.2.2.2 (C.length - 2) (by have := h.1; omega)
    have h3 := h.1
    have e : C.length - 2 + 1 = C.length - 1 := by omega
    rw [e, ← ha] at h2
    refine ⟨h2.2.1, ?_⟩
    have e2 : l - (C.length - 1) = (l - C.length) + 1 := by omega
    rw [e2] at h2
    obtain ⟨y, _, hy, hay, hd⟩ := h2.2.2.1.step
    exact ⟨y, hy, hay, hd⟩
theorem Gr.snoc {A : Nat → Nat → Prop} {N st l at_ x : Nat} {C : List Nat} (h : Gr A N st l C) (ha : at_ = C.getD (C.length - 1) 0) (hl : C.length < l) (hx : x < N) (hax : A at_ x) (hd : Ds A N st x (l - C.length)) (hmin : ∀ y, y < N → A at_ y → Ds A N st y (l - C.length) → x ≤ y) : Gr A N st l (C ++ [x]) := by
  have h0 := h.1
  refine ⟨by simp, by simp; omega, by rw [getD_snoc C x 0 h0]; exact h.2.2.1, fun i hi => ?_⟩
  rw [List.length_append, List.length_singleton] at hi
  by_cases h1 : i + 1 < C.length
  · rw [getD_snoc C x i (by omega), getD_snoc C x (i + 1) h1]
    exact h.2.2.2 i h1
  · have e : i + 1 = C.length := by omega
    rw [getD_snoc C x i (by omega), e, getD_last]
    have e2 : C.getD i 0 = at_ := by rw [ha]; congr 1; omega
    rw [e2]
    exact ⟨hax, hx, hd, hmin⟩
/-- the first place of the least one -/
theorem first_place {l : List Nat} (hup : l.Pairwise (· < ·)) (q : Nat → Prop) (h : ∃ x ∈ l, q x) : ∃ k, k < l.length ∧ q (l.getD k 0) ∧ (∀ j, j < k → ¬ q (l.getD j 0)) ∧ ∀ x ∈ l, q x → l.getD k 0 ≤ x := by
  obtain ⟨x, hx, hq⟩ := h
  obtain ⟨i, hi, e⟩ := List.getElem_of_mem hx
  have hg : ∀ j (hj : j < l.length), l.getD j 0 = l[j] := fun j hj => by rw [List.getD_eq_getElem?_getD, List.getElem?_eq_getElem hj]; rfl
  obtain ⟨k, hk1, ⟨hk2, hk3⟩, hk4⟩ := least (p := fun j => j < l.length ∧ q (l.getD j 0)) i ⟨hi, by rw [hg i hi, e]; exact hq⟩
  refine ⟨k, hk2, hk3, fun j hj hqj => hk4 j hj ⟨by omega, hqj⟩, fun y hy hqy => ?_⟩
  obtain ⟨j, hj, e2⟩ := List.getElem_of_mem hy
  have hkj : k ≤ j := by
    rcases Nat.lt_or_ge j k with h1 | h1
    · exact absurd ⟨hj, by rw [hg j hj, e2]; exact hqy⟩ (hk4 j h1)
    · exact h1
  rw [hg k hk2, ← e2]
  rcases Nat.lt_or_ge k j with h1 | h1
  · exact Nat.le_of_lt (List.pairwise_iff_getElem.1 hup k j hk2 hj h1)
  · have : k = j := by omega
    subst this
    exact Nat.le_refl _
def CtP (A : Nat → Nat → Prop) (N st : Nat) (bound : Int) (w : World) (e : Ending) (w' : World) : Prop :=
  ∃ C sp cp, e = .returned (.slice sp C.length cp) ∧ LsS w' (.slice sp C.length cp) C ∧ ((C = [] ∧ ∀ l : Nat, (l : Int) < bound → ¬ Cl A N st l) ∨ (0 < C.length ∧ (C.length : Int) < bound ∧ Cl A N st C.length ∧ (∀ k, k < C.length → ¬ Cl A N st k) ∧ Gr A N st C.length C)) ∧ Below w.heap.size w w'
end Go.Proofs.Ytcolcgkfppjflaa
