/-
  Contract of the reference's Same; the law DrawSeeds' walk.
-/
import Derived.Test.YtbdpinfiicpmhaaP9
import Derived.BigQuiet
namespace Go.Proofs.Ytbdpinfiicpmhaa
open Go.ChangeShapes Go.WideShapes Go.ChangeAt Go.RowKit RefMath
set_option linter.unusedVariables false

/-- who tells whether something holds -/
def Tells (p : Prop) (w : World) (e : Ending) (w' : World) : Prop := ∃ b : Bool, e = .returned (.bool b) ∧ (b = true ↔ p) ∧ Below w.heap.size w w'
/-- the same operations -/
def SameO (n n' : Nat) (o o' : Nat → O3) : Prop := n = n' ∧ ∀ i, i < n → o i = o' i

set_option maxHeartbeats 1000000 in
theorem same_any (sp : Option Addr) (n c : Nat) (o : Nat → O3) (sp' : Option Addr) (n' c' : Nat) (o' : Nat → O3) (w : World) (hn : n ≤ 1000000) (h : OpS w sp n o) (h' : OpS w sp' n' o') :
    Calls Try.prog 15 #[.slice sp n c, .slice sp' n' c'] w (Tells (SameO n n' o o') w) := by
  have H1 := Lib.hid h
  have H2 := Lib.hid h'
  clear h h'
  by_cases hne : n = n'
  · subst hne
    have hguard : ∀ (u : World) (x y : Operand) (xs ys : Array Value), (eqGuard .neq 45 x y (.agg xs) (.agg ys)).run Try.prog u = .ok () u := fun u x y xs ys => run_eqGuard_agg u .neq 45 x y xs ys (by kernel_rfl)
    go_enter Try.func15, Try.ntmps15
    go_wp2
    go_loopw [5, 13] (fun _ x wr => ∃ t : Nat, t ≤ n ∧ x = .int .i64 (t : Int) ∧ Hid (Below w.heap.size w wr ∧ ∀ j, j < t → o j = o' j)) (fun _ x _ => n - (intOf x).toNat)
    case atStart => exact ⟨0, Nat.zero_le _, rfl, Lib.hid ⟨Below.refl _ _, fun i hi => absurd hi (Nat.not_lt_zero _)⟩⟩
    case round =>
      obtain ⟨t, ht, rfl, HT⟩ := hrel
      by_cases hlt : t < n
      · obtain ⟨b, off, rfl, hbl, hci⟩ := H1.out (by omega)
        obtain ⟨b', off', rfl, hbl', hci'⟩ := H2.out (by omega)
        obtain ⟨c0, c1, c2⟩ := hci t hlt
        obtain ⟨d0, d1, d2⟩ := hci' t hlt
        have x0 := (HT.out.1.cell (p := ⟨b, off + t * 3, none⟩) hbl).trans c0
        have x1 := (HT.out.1.cell (p := ⟨b, off + t * 3 + 1, none⟩) hbl).trans c1
        have x2 := (HT.out.1.cell (p := ⟨b, off + t * 3 + 2, none⟩) hbl).trans c2
        have y0 := (HT.out.1.cell (p := ⟨b', off' + t * 3, none⟩) hbl').trans d0
        have y1 := (HT.out.1.cell (p := ⟨b', off' + t * 3 + 1, none⟩) hbl').trans d1
        have y2 := (HT.out.1.cell (p := ⟨b', off' + t * 3 + 2, none⟩) hbl').trans d2
        have hlt' : (t : Int) < (n : Int) := by omega
        have HPN : Hid (o t = o' t → ∀ j, j < t + 1 → o j = o' j) := Lib.hid fun h j hj => by
          by_cases hh : j < t
          · exact HT.out.2 j hh
          · obtain rfl : j = t := by omega
            exact h
        have HNO : Hid (¬ o t = o' t → ¬ SameO n n o o') := Lib.hid fun h hs => h (hs.2 t hlt)
        have HBT := Lib.hid HT.out.1
        clear c0 c1 c2 d0 d1 d2 hci hci' HT
        generalize o t = p at *
        generalize o' t = q at *
        obtain ⟨pk, pkey, pv⟩ := p
        obtain ⟨qk, qkey, qv⟩ := q
        dsimp only at x0 x1 x2 y0 y1 y2
        have heq : ∀ u : World, (Op.equalIn 10000 45 (.agg #[.int .i64 pk, .int .i64 pkey, .int .i64 pv]) (.agg #[.int .i64 qk, .int .i64 qkey, .int .i64 qv])).run Try.prog u = .ok (pk == qk && (pkey == qkey && pv == qv)) u := fun u => eqO _ _ _ _ _ _ u
        have hneq : ∀ u : World, (binOp .neq 45 (.agg #[.int .i64 pk, .int .i64 pkey, .int .i64 pv]) (.agg #[.int .i64 qk, .int .i64 qkey, .int .i64 qv])).run Try.prog u = .ok (.bool (!(pk == qk && (pkey == qkey && pv == qv)))) u := fun u => by rw [run_neq_struct, heq]; rfl
        clear heq
        by_cases hs : (⟨pk, pkey, pv⟩ : O3) = ⟨qk, qkey, qv⟩
        · have HS := Lib.hid hs
          injection hs with e0 e1 e2
          subst e0 e1 e2
          simp only [BEq.rfl, Bool.and_self, Bool.not_true] at hneq
          go_wp2
          go_quiet (fail)
          go_wp2
          go_roundw
          case rel => exact ⟨t + 1, by omega, by go_num, Lib.hid ⟨bdrewN HBT.out _, HPN.out (by first | rfl | trivial)⟩⟩
          case measure => simp [intOf]; omega
        · have hb : (!(pk == qk && (pkey == qkey && pv == qv))) = true := by
            rw [Bool.not_eq_true']
            rw [Bool.eq_false_iff]
            intro h
            simp at h
            exact hs (by rw [h.1, h.2.1, h.2.2])
          rw [hb] at hneq
          have HN := Lib.hid (HNO.out hs)
          clear hs hb HNO HPN
          go_wp2
          go_quiet (fail)
          go_wp2
          go_ret
          exact ⟨false, rfl, ⟨fun h => (by cases h), fun h => absurd h HN.out⟩, bdrewN HBT.out _⟩
      · obtain rfl : n = t := by omega
        go_wp2
        go_ret
        exact ⟨true, rfl, ⟨fun _ => ⟨rfl, HT.out.2⟩, fun _ => rfl⟩, HT.out.1⟩
  · have hb : ((n : Int) != (n' : Int)) = true := by rw [bne_iff_ne]; omega
    have HN : Hid (¬ SameO n n' o o') := Lib.hid fun h => hne h.1
    go_enter Try.func15, Try.ntmps15
    go_wp2
    go_ret
    exact ⟨false, rfl, ⟨fun h => (by cases h), fun h => absurd h HN.out⟩, Below.refl _ _⟩
end Go.Proofs.Ytbdpinfiicpmhaa
