/-
  The reference's last.
-/
import Derived.Test.YteobndfkkpfnlaaHNa
import Derived.IntWalk
namespace Go.Proofs.Yteobndfkkpfnlaa
open Go.ChangeShapes Go.WideShapes Go.ChangeAt Go.RowKit

/-- a client's last event ahead of the i-th -/
def lst (E : Nat → Ev) (c : Int) : Nat → Option Nat
  | 0 => none
  | i + 1 => if (E i).c = c then some i else lst E c i

def lstI (E : Nat → Ev) (c : Int) (i : Nat) : Int := match lst E c i with
  | some j => (j : Int)
  | none => -1

set_option maxRecDepth 100000 in
theorem lst_skip (E : Nat → Ev) (c : Int) (t : Nat) : ∀ i, t ≤ i → (∀ j, t ≤ j → j < i → ¬ (E j).c = c) → lst E c i = lst E c t := by
  intro i
  induction i with
  | zero => intro h _; rw [show t = 0 by omega]
  | succ i ih =>
    intro h hj
    by_cases ht : t = i + 1
    · rw [ht]
    · show (if (E i).c = c then some i else lst E c i) = _
      rw [if_neg (hj i (by omega) (by omega)), ih (by omega) fun j h1 h2 => hj j h1 (by omega)]

set_option maxRecDepth 100000 in
theorem lst_lt (E : Nat → Ev) (c : Int) : ∀ i j, lst E c i = some j → j < i ∧ (E j).c = c := by
  intro i
  induction i with
  | zero => intro j h; cases h
  | succ i ih =>
    intro j h
    unfold lst at h
    split at h
    · rename_i hc
      injection h with h
      subst h
      exact ⟨Nat.lt_succ_self _, hc⟩
    · have := ih j h
      exact ⟨by omega, this.2⟩

def LastP (E : Nat → Ev) (i : Nat) (w : World) (e : Ending) (w' : World) : Prop := e = .returned (.int .i64 (lstI E (E i).c i)) ∧ Below w.heap.size w w'

set_option maxRecDepth 100000 in
set_option maxHeartbeats 2000000 in
theorem last_any (a : Option Addr) (len cap : Nat) (E : Nat → Ev) (i : Nat) (w : World) (hlen : len ≤ 400) (hi : i < len) (hs : EvS w a len E) :
    Calls Try.prog 41 #[.slice a len cap, .int .i64 (i : Int)] w (LastP E i w) := by
  obtain ⟨b, off, rfl, hbl, hci⟩ := hs (by omega)
  have HC := Lib.hid hci
  obtain ⟨_, _, _, d1, _⟩ := hci i hi
  have HD := Lib.hid d1
  clear hci hs d1
  have hi0 : (i : Int) < (len : Int) := by omega
  have hw1 : IntKind.i64.wrap ((i : Int) - 1) = (i : Int) - 1 := IntWalk.i64_in _ (by omega)
  go_enter Try.func41, Try.ntmps41
  go_wp2
  go_loopw [5] (fun x wr => ∃ t : Nat, t ≤ i ∧ x = .int .i64 ((t : Int) - 1) ∧ Hid (Below w.heap.size w wr ∧ ∀ j, t ≤ j → j < i → ¬ (E j).c = (E i).c)) (fun x _ => (intOf x + 1).toNat)
  case atStart => exact ⟨i, Nat.le_refl _, rfl, Lib.hid ⟨Below.refl _ _, fun j h1 h2 => by omega⟩⟩
  case round =>
    obtain ⟨t, ht, rfl, HT⟩ := hrel
    by_cases h0 : t = 0
    · subst h0
      have HR : Hid (lstI E (E i).c i = -1) := Lib.hid (by unfold lstI; rw [lst_skip E _ 0 i (Nat.zero_le _) HT.out.2]; rfl)
      go_wp2
      go_ret
      exact ⟨ret_int HR.out.symm, HT.out.1⟩
    · obtain ⟨u, rfl⟩ : ∃ u, t = u + 1 := ⟨t - 1, by omega⟩
      rw [show (((u + 1 : Nat) : Int) - 1) = (u : Int) by omega]
      obtain ⟨_, _, _, c1, _⟩ := HC.out u (by omega)
      have x1 := (HT.out.1.cell (p := ⟨b, off + u * 3 + 1, none⟩) hbl).trans c1
      have y1 := (HT.out.1.cell (p := ⟨b, off + i * 3 + 1, none⟩) hbl).trans HD.out
      have hu1 : (u : Int) < (len : Int) := by omega
      clear c1
      have HF : Hid ((E u).c = (E i).c → lstI E (E i).c i = (u : Int)) := Lib.hid fun h => by
        unfold lstI
        rw [lst_skip E _ (u + 1) i (by omega) HT.out.2]
        unfold lst
        rw [if_pos h]
      have HN : Hid (¬ (E u).c = (E i).c → ∀ j, u ≤ j → j < i → ¬ (E j).c = (E i).c) := Lib.hid fun h j h1 h2 => by
        by_cases hj : j = u
        · subst hj; exact h
        · exact HT.out.2 j (by omega) h2
      by_cases hc : (E u).c = (E i).c
      · have HR := Lib.hid (HF.out hc)
        have hcb : ((E u).c == (E i).c) = true := by rw [beq_iff_eq]; exact hc
        clear hc HF HN
        generalize (E u).c = cu at *
        go_wp2
        go_quiet (fail)
        go_wp2
        go_ret
        exact ⟨ret_int HR.out.symm, below_drewN HT.out.1 _⟩
      · have HR := Lib.hid (HN.out hc)
        have hcb : ((E u).c == (E i).c) = false := by rw [beq_eq_false_iff_ne]; exact hc
        clear hc HF HN
        go_wp2
        go_quiet (fail)
        go_wp2
        go_roundw
        case rel => exact ⟨u, by omega, by go_num, Lib.hid ⟨below_drewN HT.out.1 _, HR.out⟩⟩
        case measure => simp [intOf]

end Go.Proofs.Yteobndfkkpfnlaa
