/-
  flaw: what is wrong with a read.
-/
import Derived.Test.YteobndfkkpfnlaaFc
namespace Go.Proofs.Yteobndfkkpfnlaa
open Go.ChangeShapes Go.WideShapes Go.ChangeAt Go.RowKit Go.Maps
set_option linter.unusedVariables false

/-- what is wrong with a read (0: nothing) -/
def flK (A L : VM) (T : Nat → Tx) (at_ : Int) (r : O3) : Int :=
  if r.v = 0 then 0 else match A r.key r.v with
    | none => 1
    | some x => if x = at_ then 1 else if (T x.toNat).st = 2 then 2 else if (L r.key r.v).isSome then 0 else 3
/-- writers are places -/
def Pl_ (m : Nat) (A : VM) : Prop := ∀ k v x, A k v = some x → ∃ j : Nat, j < m ∧ x = (j : Int)

set_option maxRecDepth 100000 in
set_option maxHeartbeats 4000000 in
theorem flaw_any (b1 b2 n1 n2 : Nat) (A L : VM) (a : Option Addr) (m cap : Nat) (T : Nat → Tx) (at_ k key v : Int) (w : World) (hs : TxS w a m T) (h1 : MapV w b1 n1 A) (h2 : MapV w b2 n2 L) (hp : Pl_ m A) (hm : m ≤ 400) (hk : In64 key) (hv : In64 v) (ha : In64 at_) :
    Calls Try.prog 46 #[.agg #[.map (some b1), .map (some b2)], .slice a m cap, .int .i64 at_, .agg #[.int .i64 k, .int .i64 key, .int .i64 v]] w (fun e w' => e = .returned (.int .i64 (flK A L T at_ ⟨k, key, v⟩)) ∧ Below w.heap.size w w') := by
  have HF : Hid (flK A L T at_ ⟨k, key, v⟩ = if v = 0 then 0 else match A key v with
    | none => 1
    | some x => if x = at_ then 1 else if (T x.toNat).st = 2 then 2 else if (L key v).isSome then 0 else 3) := Lib.hid rfl
  generalize flK A L T at_ ⟨k, key, v⟩ = res at *
  have HS0 := Lib.hid hs
  have HM10 := Lib.hid h1
  have HM20 := Lib.hid h2
  have HPL := Lib.hid hp
  clear hs h1 h2 hp
  by_cases hv0 : v = 0
  · subst hv0
    obtain rfl : res = 0 := HF.out
    go_enter Try.func46, Try.ntmps46
    go_wp2
    go_ret
    exact ⟨rfl, ((Below.refl _ _).alloc (Nat.le_refl _) _).alloc (by simp) _⟩
  · rw [if_neg hv0] at HF
    have hv0b : (v == 0) = false := beq_eq_false_iff_ne.2 hv0
    go_enter Try.func46, Try.ntmps46
    go_wp2
    obtain ⟨wx, ewx⟩ : ∃ wx, wx = w.alloc (.cells #[.map (some b1), .map (some b2)] 96) := ⟨_, rfl⟩
    obtain ⟨wy, ewy⟩ : ∃ wy, wy = wx.alloc (.cells #[.int .i64 k, .int .i64 key, .int .i64 v] 44) := ⟨_, rfl⟩
    obtain ⟨X, eX⟩ : ∃ X, X = w.heap.size := ⟨_, rfl⟩
    obtain ⟨P, eP⟩ : ∃ P, P = w.heap.size + 1 := ⟨_, rfl⟩
    have hsx : wx.heap.size = w.heap.size + 1 := by rw [ewx]; simp
    have hX0 : wx.heap[X]? = some (.cells #[.map (some b1), .map (some b2)] 96 (0, 0)) := by rw [ewx, eX]; exact heap_alloc_new w _
    have hX : wy.heap[X]? = some (.cells #[.map (some b1), .map (some b2)] 96 (0, 0)) := by rw [ewy, heap_alloc_old _ _ (hlt_of hX0)]; exact hX0
    have hP : wy.heap[P]? = some (.cells #[.int .i64 k, .int .i64 key, .int .i64 v] 44 (0, 0)) := by rw [ewy, eP, ← hsx]; exact heap_alloc_new wx _
    have hB : Below w.heap.size w wy := by rw [ewy, ewx]; exact ((Below.refl _ _).alloc (Nat.le_refl _) _).alloc (by simp) _
    have HXX := Lib.hid hX
    have HPP := Lib.hid hP
    have HB := Lib.hid hB
    have HM1 := Lib.hid (HM10.out.below hB)
    have HM2 := Lib.hid (HM20.out.below hB)
    have HS := Lib.hid (HS0.out.below hB)
    rw [← ewx, ← ewy, ← eP, ← eX]
    clear hX0 hB hsx ewx ewy eX eP hX hP HS0 HM10 HM20
    have hb00 : Below wy.heap.size wy wy := Below.refl _ _
    have hB0 : Below wy.heap.size wy wy.drew := (Below.refl _ _).drew
    have HKK : Hid (∀ W, Below wy.heap.size wy W → W.cell? ⟨X, 0, none⟩ = some (.map (some b1)) ∧ W.cell? ⟨P, 0, none⟩ = some (.int .i64 k) ∧ W.cell? ⟨P, 1, none⟩ = some (.int .i64 key) ∧ W.cell? ⟨P, 2, none⟩ = some (.int .i64 v)) := Lib.hid fun W hb => ⟨(cells2 ((hb.block _ (hlt_of HXX.out)).trans HXX.out)).1, (cells3 ((hb.block _ (hlt_of HPP.out)).trans HPP.out)).1⟩
    have HKL : Hid (∀ W, Below wy.heap.size wy W → W.cell? ⟨X, 1, none⟩ = some (.map (some b2)) ∧ W.cell? ⟨P, 0, none⟩ = some (.int .i64 k) ∧ W.cell? ⟨P, 1, none⟩ = some (.int .i64 key) ∧ W.cell? ⟨P, 2, none⟩ = some (.int .i64 v)) := Lib.hid fun W hb => ⟨(cells2 ((hb.block _ (hlt_of HXX.out)).trans HXX.out)).2, (cells3 ((hb.block _ (hlt_of HPP.out)).trans HPP.out)).1⟩
    cases hA : A key v with
    | none =>
      rw [hA] at HF
      obtain rfl : res = 1 := HF.out
      go_region_held3 (fun W => W.cell? ⟨X, 0, none⟩ = some (.map (some b1)) ∧ W.cell? ⟨P, 0, none⟩ = some (.int .i64 k) ∧ W.cell? ⟨P, 1, none⟩ = some (.int .i64 key) ∧ W.cell? ⟨P, 2, none⟩ = some (.int .i64 v))
        (first | exact HKK.out _ hb00 | exact HKK.out _ hB0 | exact HKK.out _ hB6)
        (first
          | (go_at_call 49; refine (version_any _ _ _ _).mono ?_; rintro e w6 ⟨rfl, hb6⟩; have hB6 : Below wy.heap.size wy w6 := hB0.trans hb6; have hlook := (HM1.out.below hB6).look key v hk hv; rw [hA] at hlook; simp only [Option.getD_none, Option.isSome_none] at hlook))
      have HB7 := Lib.hid (HB.out.trans (hB6.mono HB.out.size))
      go_wp2
      go_ret
      exact ⟨rfl, HB7.out⟩
    | some x =>
      rw [hA] at HF
      dsimp only at HF
      obtain ⟨j, hj, rfl⟩ := HPL.out _ _ _ hA
      rw [Int.toNat_natCast] at HF
      go_region_held3 (fun W => W.cell? ⟨X, 0, none⟩ = some (.map (some b1)) ∧ W.cell? ⟨P, 0, none⟩ = some (.int .i64 k) ∧ W.cell? ⟨P, 1, none⟩ = some (.int .i64 key) ∧ W.cell? ⟨P, 2, none⟩ = some (.int .i64 v))
        (first | exact HKK.out _ hb00 | exact HKK.out _ hB0 | exact HKK.out _ hB6)
        (first
          | (go_at_call 49; refine (version_any _ _ _ _).mono ?_; rintro e w6 ⟨rfl, hb6⟩; have hB6 : Below wy.heap.size wy w6 := hB0.trans hb6; have hlook := (HM1.out.below hB6).look key v hk hv; rw [hA] at hlook; simp only [Option.getD_some, Option.isSome_some] at hlook))
      have HB7 := Lib.hid hB6
      have HBW := Lib.hid (HB.out.trans (hB6.mono HB.out.size))
      clear hB6 hb6 hlook hb00 hB0 HKK
      by_cases hja : (j : Int) = at_
      · rw [if_pos hja] at HF
        obtain rfl : res = 1 := HF.out
        subst hja
        go_wp2
        go_ret
        exact ⟨rfl, HBW.out⟩
      · rw [if_neg hja] at HF
        have hjab : ((j : Int) == at_) = false := beq_eq_false_iff_ne.2 hja
        obtain ⟨b, off, rfl, hbl, hci⟩ := HS.out (by omega)
        obtain ⟨sp, cp, c0, c1, c2, ho⟩ := hci j hj
        have x1 := (HB7.out.cell (p := ⟨b, off + j * 3 + 1, none⟩) hbl).trans c1
        have hjm : (j : Int) < (m : Int) := by omega
        clear c0 c1 c2 ho hci
        generalize (T j).st = tst at *
        by_cases hst : tst = 2
        · rw [if_pos hst] at HF
          obtain rfl : res = 2 := HF.out
          subst hst
          go_wp2
          go_ret
          exact ⟨rfl, HBW.out⟩
        · rw [if_neg hst] at HF
          have hstb : (tst == 2) = false := beq_eq_false_iff_ne.2 hst
          have hb11 : Below wy.heap.size wy w6 := HB7.out
          have hB1 : Below wy.heap.size wy w6.drew := HB7.out.drew
          go_wp2
          cases hL : L key v with
          | none =>
            rw [hL] at HF
            obtain rfl : res = 3 := HF.out
            go_region_held3 (fun W => W.cell? ⟨X, 1, none⟩ = some (.map (some b2)) ∧ W.cell? ⟨P, 0, none⟩ = some (.int .i64 k) ∧ W.cell? ⟨P, 1, none⟩ = some (.int .i64 key) ∧ W.cell? ⟨P, 2, none⟩ = some (.int .i64 v))
              (first | exact HKL.out _ hb11 | exact HKL.out _ hB1 | exact HKL.out _ hB8)
              (first
                | (go_at_call 49; refine (version_any _ _ _ _).mono ?_; rintro e w8 ⟨rfl, hb8⟩; have hB8 : Below wy.heap.size wy w8 := hB1.trans (hb8.mono hB1.size); have hlook := (HM2.out.below hB8).look key v hk hv; rw [hL] at hlook; simp only [Option.getD_none, Option.isSome_none] at hlook))
            have HB9 := Lib.hid (HB.out.trans (hB8.mono HB.out.size))
            go_wp2
            go_ret
            exact ⟨rfl, HB9.out⟩
          | some y =>
            rw [hL] at HF
            obtain rfl : res = 0 := HF.out
            go_region_held3 (fun W => W.cell? ⟨X, 1, none⟩ = some (.map (some b2)) ∧ W.cell? ⟨P, 0, none⟩ = some (.int .i64 k) ∧ W.cell? ⟨P, 1, none⟩ = some (.int .i64 key) ∧ W.cell? ⟨P, 2, none⟩ = some (.int .i64 v))
              (first | exact HKL.out _ hb11 | exact HKL.out _ hB1 | exact HKL.out _ hB8)
              (first
                | (go_at_call 49; refine (version_any _ _ _ _).mono ?_; rintro e w8 ⟨rfl, hb8⟩; have hB8 : Below wy.heap.size wy w8 := hB1.trans (hb8.mono hB1.size); have hlook := (HM2.out.below hB8).look key v hk hv; rw [hL] at hlook; simp only [Option.getD_some, Option.isSome_some] at hlook))
            have HB9 := Lib.hid (HB.out.trans (hB8.mono HB.out.size))
            go_wp2
            go_ret
            exact ⟨rfl, HB9.out⟩
end Go.Proofs.Yteobndfkkpfnlaa
