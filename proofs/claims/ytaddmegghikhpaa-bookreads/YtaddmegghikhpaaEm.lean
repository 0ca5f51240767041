/-
  Contracts of the reference's Copy and of the Reader's End, whatever is left.
-/
import Derived.Test.YtaddmegghikhpaaEl
namespace Go.Proofs.Ytaddmegghikhpaa
open Go.ChangeShapes Go.WideShapes Go.ChangeAt Go.RowKit

theorem rcopy_any (sp : Option Addr) (n cap : Nat) (f : Nat → Nat) (w : World) (hn : n ≤ 100000) (hs : Src w sp n f) (hsp : sp = none → n = 0 ∧ cap = 0) :
    Calls Try.prog 15 #[.slice sp n cap] w fun e w' => ∃ sp' cap', e = .returned (.slice sp' n cap') ∧ Src w' sp' n f ∧ Below w.heap.size w w' := by
  obtain ⟨i0, hi, hz0, hz1, hz2⟩ := info_parts info5
  cases sp with
  | none =>
    obtain ⟨rfl, rfl⟩ := hsp rfl
    clear hsp hs
    go_enter Try.func15, Try.ntmps15
    go_wp2
    go_ret
    exact ⟨_, _, rfl, fun h => absurd h (by decide), (Below.refl _ _).alloc (Nat.le_refl _) _⟩
  | some ad =>
    have HS := Lib.hid hs
    clear hs hsp
    go_enter Try.func15, Try.ntmps15
    go_wp2_with (at_builtin; refine wpList_append_own _ rfl _ _ 26 rfl w.heap.size 5 i0 (.int .u8 0) 1 1 Try.underlying26 hi hz0 hz1 hz2 rfl (by decide) _ 0 [] rfl ?c0 ad n cap (rowB f n) rfl ?cl ?c1 ?c2 ?c3 ?c4 ?c5 ?_)
    case c0 => exact World.ownsRow_lit w #[] 0 (Nat.le_refl _) (Nat.zero_le _) rfl
    case cl => rw [rowB_length]; omega
    case c1 =>
      intro j u hj
      have hjn : j < n := by
        rcases Nat.lt_or_ge j n with h' | h'
        · exact h'
        · rw [List.getElem?_eq_none (by rw [rowB_length]; exact h')] at hj; cases hj
      rw [rowB_get f n j hjn] at hj
      injection hj with hj
      obtain ⟨ad', e', hlt, hc⟩ := HS.out (by omega)
      injection e' with e'
      subst e'
      rw [World.cell?_alloc_lt _ _ _ (by rw [block_add]; exact hlt), ← hj]
      exact hc j hjn
    case c2 => exact rowB_one _ _
    case c3 => unfold maxLen; omega
    case c4 => omega
    case c5 => simp
    intro v5 w5 hown5 hgrow5 _
    have HB5 : Hid (Below w.heap.size w w5) := Lib.hid (((Below.refl _ _).alloc (Nat.le_refl _) _).grown hgrow5 (by simp) (fun q hq => by simp [Value.ownBlock] at hq; omega))
    have HO : Hid (∃ sp' cap', v5 = .slice sp' n cap' ∧ Src w5 sp' n f) := by
      by_cases h0 : n = 0
      · subst h0
        rcases hown5.2 with ⟨e, _⟩ | ⟨g, cp, cur, e, _⟩
        · exact Lib.hid ⟨_, _, e, fun h => absurd h (by decide)⟩
        · exact Lib.hid ⟨_, _, e, fun h => absurd h (by decide)⟩
      · obtain ⟨g5, cap5, rfl, hg1, hg2⟩ := hown5.form (by omega)
        exact Lib.hid ⟨_, _, rfl, fun _ => ⟨_, rfl, hg2, fun j hj => hown5.cells (g := g5) rfl j _ (rowB_get f n j hj)⟩⟩
    clear hown5 hgrow5
    go_wp2
    go_ret
    obtain ⟨sp', cap', e, hs'⟩ := HO.out
    subst e
    exact ⟨sp', cap', rfl, hs', HB5.out⟩

theorem filled_yes (w : World) (g rb n a : Nat) (f : Nat → Nat) (h : RD w g rb n f a) (hl : 8 * n < a + 8) (hr : ¬ a % 8 = 0) (he : ¬ f (a / 8) % 2 ^ (8 - a % 8) = 0) :
    Calls Try.prog 44 #[.pointer (some ⟨rb, 0, none⟩)] w fun e w' => e = .returned (.bool true) ∧ ∃ q, w' = w.drewN q := by
  have c0 := h.c0
  have c1 := h.c1
  have hat := h.hat
  have hn := h.hn
  have b1 : ((a : Int) % 8 != 0) = true := by simp; omega
  have hi : a / 8 < n := by omega
  have cb := h.cb (a / 8) hi
  have hb := h.hf (a / 8)
  have ez : (((f (a / 8) : Nat) : Int) * 2 ^ (a % 8) % 256 != 0) = true := by
    have e2 : f (a / 8) * 2 ^ (a % 8) % 256 = f (a / 8) % 2 ^ (8 - a % 8) * 2 ^ (a % 8) := by
      rw [show 256 = 2 ^ (8 - a % 8) * 2 ^ (a % 8) from by rw [← Nat.pow_add, show 8 - a % 8 + a % 8 = 8 from by omega], Nat.mul_mod_mul_right]
    have e3 : (((f (a / 8) : Nat) : Int) * 2 ^ (a % 8)) = ((f (a / 8) * 2 ^ (a % 8) : Nat) : Int) := by rw [Int.natCast_mul, Int.natCast_pow]; rfl
    have e4 : 0 < f (a / 8) % 2 ^ (8 - a % 8) * 2 ^ (a % 8) := Nat.mul_pos (by omega) (Nat.two_pow_pos _)
    rw [e3, bne_iff_ne]; omega
  generalize f (a / 8) = y at cb hb ez
  clear h he
  go_enter Try.func44, Try.ntmps44
  go_wp2
  go_quiet (fail)
  go_wp2
  go_ret
  exact ⟨rfl, _, rfl⟩

theorem gv_tail (f : Nat → Nat) (n a L : Nat) (hL : a + L = 8 * n) (hl : L < 8) (hr : ¬ a % 8 = 0) : gv f a L = f (a / 8) % 2 ^ (8 - a % 8) := by
  have e : L = 8 - a % 8 := by omega
  have h := gv_of f a (f (a / 8)) L L (Nat.le_refl _) (fun t ht => by unfold bitAt; rw [show (a + t) / 8 = a / 8 from by omega]; congr 3; omega)
  rw [h, Nat.sub_self, Nat.pow_zero, Nat.div_one, e]

/-- what End answers to a reader that goes on: L bits are left -/
def endOf (f : Nat → Nat) (a L : Nat) : Nat := if 7 < L ∨ ¬ gv f a L = 0 then 12 else 0

theorem end_any (w : World) (g rb n a L : Nat) (f : Nat → Nat) (h : RD w g rb n f a) (hL : a + L = 8 * n) :
    Calls Try.prog 29 #[.pointer (some ⟨rb, 0, none⟩)] w fun e w' => e = .returned (.int .i64 ((endOf f a L : Nat) : Int)) ∧ ∃ q, w.drewN q = w' := by
  by_cases h7 : 7 < L
  · have e : endOf f a L = 12 := by unfold endOf; rw [if_pos (.inl h7)]
    rw [e]
    have HD := Lib.hid h
    have c3 := h.c3
    have hn := h.hn
    clear h
    go_enter Try.func29, Try.ntmps29
    go_wp2_with fail
    refine (left_any w g rb n a f HD.out).mono ?_
    rintro e w1 ⟨rfl, q, rfl⟩
    have b1 : (8 : Int) ≤ ((8 * n - a : Nat) : Int) := by omega
    have b2 : 8 ≤ 8 * n - a := by omega
    go_wp2
    go_ret
    exact ⟨rfl, _, rfl⟩
  · by_cases hr : a % 8 = 0
    · have e0 : L = 0 := by omega
      have e : endOf f a L = 0 := by unfold endOf; rw [if_neg (by rw [e0]; simp [gv])]
      rw [e]
      exact end_ok w g rb n a f h (by omega) (fun c => absurd hr c)
    · have et := gv_tail f n a L hL (by omega) hr
      by_cases hg : gv f a L = 0
      · have e : endOf f a L = 0 := by unfold endOf; rw [if_neg (by simp [hg]; omega)]
        rw [e]
        exact end_ok w g rb n a f h (by omega) (fun _ => by rw [← et]; exact hg)
      · have e : endOf f a L = 12 := by unfold endOf; rw [if_pos (.inr hg)]
        rw [e]
        have HE : Hid (¬ f (a / 8) % 2 ^ (8 - a % 8) = 0) := Lib.hid (by rw [← et]; exact hg)
        have HD := Lib.hid h
        have c3 := h.c3
        have hn := h.hn
        clear h hg et e
        go_enter Try.func29, Try.ntmps29
        go_wp2_with fail
        refine (left_any w g rb n a f HD.out).mono ?_
        rintro e w1 ⟨rfl, q, rfl⟩
        have b1 : ¬ (8 : Int) ≤ ((8 * n - a : Nat) : Int) := by omega
        have b2 : ¬ 8 ≤ 8 * n - a := by omega
        go_wp2_with fail
        refine (filled_yes _ g rb n a f (HD.out.drewN q) (by omega) hr HE.out).mono ?_
        rintro e w2 ⟨rfl, q2, rfl⟩
        go_wp2
        go_ret
        exact ⟨rfl, _, rfl⟩

end Go.Proofs.Ytaddmegghikhpaa
