/-
  Contracts of Order and of the reference's Same; ordered.
-/
import Derived.Test.YtcolcgkfppjflaaV
import Derived.Test.YtcolcgkfppjflaaE
namespace Go.Proofs.Ytcolcgkfppjflaa
open Go.ChangeShapes Go.WideShapes Go.ChangeAt Go.RowKit
set_option linter.unusedVariables false

theorem below_drewN' {B : Nat} {a w : World} (h : Below B a w) (n : Nat) : Below B a (w.drewN n) := ⟨h.os, h.tape, h.output, h.size, h.block⟩
set_option maxRecDepth 100000 in
set_option maxHeartbeats 4000000 in
theorem Order_any (z : Int) (N : Nat) (a : Option Addr) (n cap : Nat) (p : Nat → Int × Int) (w : World) (hN : min (max z 0) 400 = (N : Int)) (hn : n ≤ 1000) (hs : PsS w a n p) :
    Calls Try.prog 20 #[.int .i64 z, .slice a n cap] w (OrdP (adj p n) N w) := by
  have HNET := Lib.hid (net_any z N a n cap p w hN hn hs)
  have hN4 : N ≤ 400 := by omega
  clear hN hs
  go_enter Try.func20, Try.ntmps20
  go_upto_region 2 with (go_at_call 24; refine HNET.out.mono ?_; rintro e w1 ⟨gb, L, rfl, hR, hG, hbel⟩; have HBL := Lib.hid hbel; have HR := Lib.hid hR; have HG := Lib.hid hG; clear hR hG hbel)
  have HBX := Lib.hid (HBL.out.alloc HBL.out.size (.cells #[.slice (some ⟨gb true, 0, none⟩) N N, .slice (some ⟨gb false, 0, none⟩) N N] 47))
  have hRX := (HR.out.below ((Below.refl w1.heap.size w1).alloc (Nat.le_refl _) (.cells #[.slice (some ⟨gb true, 0, none⟩) N N, .slice (some ⟨gb false, 0, none⟩) N N] 47)))
  have hgx := heap_alloc_new w1 (.cells #[.slice (some ⟨gb true, 0, none⟩) N N, .slice (some ⟨gb false, 0, none⟩) N N] 47)
  have HCA := Lib.hid (order_any w1.heap.size N gb L (adj p n) _ hN4 (by rw [cell_of_row _ _ _ _ _ _ hgx]; rfl) (by rw [cell_of_row _ _ _ _ _ _ hgx]; rfl) hRX HG.out.tt HG.out.fr HG.out.nd (fun s i hi => Nat.le_trans (HG.out.le s i hi) (by omega)))
  clear hRX hgx HR HG HNET
  go_wp2_with fail
  refine HCA.out.mono ?_
  rintro e w5 ⟨O, b, sp, cp, rfl, ho, hl, hb⟩
  have HF : Hid (OrdP (adj p n) N w (.returned (.tuple #[.slice sp O.length cp, .bool b])) w5) := Lib.hid ⟨O, b, sp, cp, rfl, ho, hl, HBX.out.trans (hb.mono HBX.out.size)⟩
  clear ho hl hb
  go_wp2
  go_ret2
  exact HF.out

set_option maxRecDepth 100000 in
set_option maxHeartbeats 4000000 in
/-- the reference's Same: the same list -/
theorem same_any (a : Option Addr) (n cap : Nat) (f : Nat → Int) (a' : Option Addr) (n' cap' : Nat) (f' : Nat → Int) (b : Bool) (w : World) (hs : IsS w a n f) (hs' : IsS w a' n' f') (hn : n ≤ 100000) (hn' : n' ≤ 100000) (hb : b = true ↔ n = n' ∧ ∀ i, i < n → f i = f' i) :
    Calls Try.prog 17 #[.slice a n cap, .slice a' n' cap'] w (fun e w' => e = .returned (.bool b) ∧ Below w.heap.size w w') := by
  have HS := Lib.hid hs
  have HS' := Lib.hid hs'
  have HB := Lib.hid hb
  clear hs hs' hb
  by_cases hnn : n = n'
  · subst hnn
    have hne : ((n : Int) != (n : Int)) = false := by simp
    go_enter Try.func17, Try.ntmps17
    go_wp2
    go_loopw [4, 5, 13] (fun _ _ i wr => ∃ t : Nat, t ≤ n ∧ i = .int .i64 (t : Int) ∧ Hid (Below w.heap.size w wr ∧ ∀ i, i < t → f i = f' i)) (fun _ _ i _ => n - (intOf i).toNat)
    case atStart => exact ⟨0, Nat.zero_le _, rfl, Lib.hid ⟨Below.refl _ _, fun i hi => absurd hi (Nat.not_lt_zero _)⟩⟩
    case round =>
      obtain ⟨t, ht, rfl, HT⟩ := hrel
      by_cases htn : t < n
      · have htn' : (t : Int) < (n : Int) := by omega
        obtain ⟨b1, o1, rfl, hl1, hc1⟩ := HS.out (by omega)
        obtain ⟨b2, o2, rfl, hl2, hc2⟩ := HS'.out (by omega)
        have x1 := (HT.out.1.cell (p := ⟨b1, o1 + t, none⟩) hl1).trans (hc1 t htn)
        have x2 := (HT.out.1.cell (p := ⟨b2, o2 + t, none⟩) hl2).trans (hc2 t htn)
        have HBD := Lib.hid HT.out.1
        clear hc1 hc2
        by_cases he : f t = f' t
        · have HN : Hid (∀ i, i < t + 1 → f i = f' i) := Lib.hid fun i hi => by
            by_cases h : i < t
            · exact HT.out.2 i h
            · obtain rfl : i = t := by omega
              exact he
          rw [← he] at x2
          clear he
          generalize f t = x at x1 x2
          have hx : (x != x) = false := by simp
          go_wp2
          go_quiet (fail)
          go_wp2
          go_roundw
          case rel => exact ⟨t + 1, by omega, by go_num, Lib.hid ⟨below_drewN' HBD.out _, HN.out⟩⟩
          case measure => simp [intOf]; omega
        · obtain rfl : b = false := by
            cases b with
            | false => rfl
            | true => exact absurd ((HB.out.1 rfl).2 t htn) he
          have he' : (f t != f' t) = true := by simp [he]
          clear he
          generalize f t = x at x1 he'
          generalize f' t = x' at x2 he'
          go_wp2
          go_quiet (fail)
          go_wp2
          go_ret
          exact ⟨rfl, below_drewN' HBD.out _⟩
      · obtain rfl : t = n := by omega
        obtain rfl : b = true := HB.out.2 ⟨by first | rfl | trivial, HT.out.2⟩
        go_wp2
        go_ret
        exact ⟨rfl, HT.out.1⟩
  · obtain rfl : b = false := by
      cases b with
      | false => rfl
      | true => exact absurd (HB.out.1 rfl).1 hnn
    have hne : ((n : Int) != (n' : Int)) = true := by simp; omega
    have hne2 : ¬ (n : Int) = (n' : Int) := by omega
    clear hnn
    go_enter Try.func17, Try.ntmps17
    go_wp2
    go_ret
    exact ⟨rfl, Below.refl _ _⟩
theorem LsS.ints {w : World} {sp : Option Addr} {cp : Nat} {O : List Nat} (h : LsS w (.slice sp O.length cp) O) : IsS w sp O.length (fun i => ((O.getD i 0 : Nat) : Int)) := by
  intro h0
  obtain ⟨sp', cp', e, hc⟩ := h
  obtain ⟨b, e2, hl, hcell⟩ := hc h0
  injection e with e _ _
  subst e
  subst e2
  exact ⟨b, 0, rfl, hl, fun i hi => by rw [Nat.zero_add]; exact hcell i hi⟩
end Go.Proofs.Ytcolcgkfppjflaa
