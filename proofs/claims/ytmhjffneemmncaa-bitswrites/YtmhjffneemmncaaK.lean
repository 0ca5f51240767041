/-
  The law BitsBack's walk: items written, then read.
-/
import Derived.Test.YtmhjffneemmncaaI
import Derived.Deep.RegionWith
namespace Go.Proofs.Ytmhjffneemmncaa
open Go.ChangeShapes Go.WideShapes Go.ChangeAt Go.RowKit

def ilen (t : Item) : Nat := if t.k = 0 then wn t.n else if t.k = 1 then 2 * nz t.x + 1 else 2 * nz (zig t.i) + 1
def ibit (t : Item) (i : Nat) : Nat := if t.k = 0 then t.x / 2 ^ (wn t.n - 1 - i) % 2 else if t.k = 1 then numBits t.x i else numBits (zig t.i) i
def pos (T : Nat → Item) : Nat → Nat
  | 0 => 0
  | k + 1 => pos T k + ilen (T k)

def Fits (t : Item) : Prop := t.x < 18446744073709551616 ∧ -9223372036854775808 ≤ t.i ∧ t.i ≤ 9223372036854775807
theorem ilen_le (t : Item) (h : Fits t) : ilen t ≤ 129 := by
  obtain ⟨h1, h2, h3⟩ := h
  have a1 := wn_le t.n
  have a2 := nz_le t.x h1
  have a3 := nz_le (zig t.i) (zig_lt t.i h2 h3)
  unfold ilen; split
  · omega
  · split <;> omega
theorem pos_le (T : Nat → Item) (k : Nat) (h : ∀ j, j < k → Fits (T j)) : pos T k ≤ 129 * k := by
  induction k with
  | zero => exact Nat.le_refl _
  | succ k ih =>
    have := ih (fun j hj => h j (by omega))
    have := ilen_le (T k) (h k (by omega))
    show pos T k + ilen (T k) ≤ _; omega

/-- what the writer holds behind k items -/
def WL (w wr : World) (base wb : Nat) (T : Nat → Item) (k : Nat) : Prop :=
  ∃ v F, WR wr base wb v F (pos T k) ∧ (∀ j, j < k → ∀ i, i < ilen (T j) → bitAt F (pos T j + i) = ibit (T j) i) ∧ Below w.heap.size w wr

theorem pos_in (T : Nat → Item) (j k i : Nat) (hj : j < k) (hi : i < ilen (T j)) : pos T j + i < pos T k := by
  obtain ⟨d, rfl⟩ := Nat.le.dest (show j + 1 ≤ k from hj)
  have mono : ∀ d, pos T (j + 1) ≤ pos T (j + 1 + d) := fun d => by
    induction d with
    | zero => exact Nat.le_refl _
    | succ d ih => show _ ≤ pos T (j + 1 + d) + ilen (T (j + 1 + d)); omega
  have := mono d
  have e : pos T (j + 1) = pos T j + ilen (T j) := rfl
  omega

theorem RD.drew {w : World} {g rb n : Nat} {f : Nat → Nat} {a : Nat} (h : RD w g rb n f a) : RD w.drew g rb n f a :=
  ⟨h.c0, h.c1, h.c2, h.c3, h.fz, h.cb, h.hf, h.hat, h.hn, h.lt, h.glt, h.ne⟩

theorem pos_mono (T : Nat → Item) (j d : Nat) : pos T j ≤ pos T (j + d) := by
  induction d with
  | zero => exact Nat.le_refl _
  | succ d ih => show _ ≤ pos T (j + d) + ilen (T (j + d)); omega

theorem mask_eq (x m : Nat) (hx : x < 18446744073709551616) (hm : m < 64) :
    bits .and .u64 (x : Int) (IntKind.u64.wrap (IntKind.u64.wrap (2 ^ m) - 1)) = ((x % 2 ^ m : Nat) : Int) := by
  have e : ((2 : Int) ^ m) = ((2 ^ m : Nat) : Int) := by rw [Int.natCast_pow]; rfl
  have hp := Nat.two_pow_pos m
  have hle : 2 ^ m ≤ 2 ^ 63 := Nat.pow_le_pow_right (by decide) (by omega)
  have e2 : IntKind.u64.wrap (IntKind.u64.wrap (2 ^ m) - 1) = ((2 ^ m - 1 : Nat) : Int) := by
    rw [e]; simp only [IntKind.wrap_u64]; generalize 2 ^ m = p at *; omega
  rw [e2, u64_and_nat x _ hx (by omega), Nat.and_two_pow_sub_one_eq_mod]

theorem and_none (x : Nat) (hx : x < 18446744073709551616) : bits .and .u64 (x : Int) 0 = 0 := by
  have h := u64_and_nat x 0 hx (by decide)
  rw [Nat.and_zero] at h; exact h

theorem WL.step {w wr w1 : World} {base wb k : Nat} {T : Nat → Item} {v : Value} {F : Nat → Nat} (h2 : ∀ j, j < k → ∀ i, i < ilen (T j) → bitAt F (pos T j + i) = ibit (T j) i) (hb : Below w.heap.size w wr)
    (hw : w.heap.size ≤ base) (hwb : w.heap.size ≤ wb) (hwr : WR wr base wb v F (pos T k)) (ho : Wrote wr base wb v F (pos T k) (ilen (T k)) (ibit (T k)) w1) : WL w w1 base wb T (k + 1) := by
  obtain ⟨v1, F1, g1, g2, g3, g4⟩ := ho
  refine ⟨v1, F1, g1, fun j hj i hi => ?_, hb.trans (g4.below hwb hb.size (fun q hq => Nat.le_trans hw (hwr.own.lt q hq).1))⟩
  by_cases e : j = k
  · subst e; exact g3 i hi
  · rw [g2 _ (pos_in T j k i (by omega) hi), h2 j (by omega) i hi]

set_option maxRecDepth 100000 in
set_option maxHeartbeats 2000000 in
theorem back_some (b off len cap : Nat) (T : Nat → Item) (w : World) (hl : 0 < len) (hl' : len ≤ 40) (hb : b < w.heap.size) (hT : ∀ j, j < len → ItemAt w ⟨b, off + 4 * j, none⟩ (T j)) :
    Calls Try.prog 5 #[.slice (some ⟨b, off, none⟩) len cap] w fun e w' => e = .returned (.bool true) ∧ Below w.heap.size w w' := by
  have HT := Lib.hid hT
  have HFT : Hid (∀ j, j < len → Fits (T j)) := Lib.hid (fun j hj => (hT j hj).2.2.2.2)
  clear hT
  go_enter Try.func5, Try.ntmps5
  go_wp2_with fail
  refine (wrote_any _).mono ?_
  rintro e w0 ⟨rfl, hb0⟩
  have HB0 := Lib.hid hb0; clear hb0
  go_wp2_with fail
  refine (took_any _).mono ?_
  rintro e w1 ⟨rfl, hb1⟩
  have HB : Hid (Below w.heap.size w w1) := Lib.hid (HB0.out.trans (hb1.mono HB0.out.size)); clear hb1
  go_wp2
  have HW0 : Hid (WL w (w1.alloc (.cells #[.slice none 0 0, .int .i64 0] 27)) w1.heap.size w1.heap.size T 0) := Lib.hid ⟨_, _, WR.new w1 w1.heap.size (Nat.le_refl _), fun j hj => by omega, HB.out.alloc HB.out.size _⟩
  go_loopw [5, 24] (fun _ i wr => ∃ k : Nat, k ≤ len ∧ i = .int .i64 (k : Int) ∧ Hid (WL w wr w1.heap.size w1.heap.size T k)) (fun _ i _ => len - (intOf i).toNat)
  case atStart => exact ⟨0, Nat.zero_le _, rfl, HW0⟩
  case round =>
    clear HW0
    obtain ⟨k, hk, rfl, HA⟩ := hrel
    by_cases hlt : k < len
    · obtain ⟨v, F, h1, h2, h3⟩ := HA.out
      have H1 := Lib.hid h1
      have H2 := Lib.hid (⟨h2, h3⟩ : _ ∧ _)
      clear h1 h2 h3
      obtain ⟨t0, t1, t2, t3, hx, hi1, hi2⟩ := HT.out k hlt
      rw [Go.WideShapes.add_plain, Nat.mul_comm 4 k] at t0 t1 t2 t3
      have bel := H2.out.2
      have d0 : wr.cell? ⟨b, off + k * 4, none⟩ = some (.int .i64 (T k).k) := (bel.cell (p := ⟨b, off + k * 4 + 0, none⟩) hb).trans t0
      have d1 := (bel.cell (p := ⟨b, off + k * 4 + 1, none⟩) hb).trans t1
      have d2 := (bel.cell (p := ⟨b, off + k * 4 + 2, none⟩) hb).trans t2
      have d3 := (bel.cell (p := ⟨b, off + k * 4 + 3, none⟩) hb).trans t3
      have hp := pos_le T k (fun j hj => HFT.out j (by omega))
      clear t0 t1 t2 t3 bel
      obtain ⟨t, et⟩ : ∃ t, t = T k := ⟨_, rfl⟩
      rw [← et] at d0 d1 d2 d3 hx hi1 hi2
      have ET := Lib.hid et
      have HXX := Lib.hid (⟨hx, hi1, hi2⟩ : _ ∧ _ ∧ _)
      clear et hx hi1 hi2
      have HWA : Hid (WR (wr.alloc (.cells #[.int .i64 t.k, .int .u64 (t.x : Int), .int .i64 t.n, .int .i64 t.i] 30)) w1.heap.size w1.heap.size v F (pos T k)) := Lib.hid (H1.out.below ((Below.refl _ _).alloc (Nat.le_refl _) _))
      have HBA : Hid (Below w.heap.size w (wr.alloc (.cells #[.int .i64 t.k, .int .u64 (t.x : Int), .int .i64 t.n, .int .i64 t.i] 30))) := Lib.hid (H2.out.2.alloc H2.out.2.size _)
      have HSTEP : Hid (∀ w2, Wrote (wr.alloc (.cells #[.int .i64 t.k, .int .u64 (t.x : Int), .int .i64 t.n, .int .i64 t.i] 30)) w1.heap.size w1.heap.size v F (pos T k) (ilen (T k)) (ibit (T k)) w2 → WL w w2 w1.heap.size w1.heap.size T (k + 1)) :=
        Lib.hid (fun w2 h => WL.step H2.out.1 HBA.out HB.out.size HB.out.size HWA.out h)
      rw [← ET.out] at HSTEP
      by_cases k0 : t.k = 0
      · have HL : Hid (ilen t = wn t.n ∧ ibit t = fun i => t.x / 2 ^ (wn t.n - 1 - i) % 2) := Lib.hid ⟨by unfold ilen; rw [if_pos k0], by funext i; unfold ibit; rw [if_pos k0]⟩
        have q0 : (t.k == 0) = true := by rw [k0]; rfl
        clear k0
        go_wp2_with fail
        refine (put_any _ w1.heap.size w1.heap.size v F (pos T k) t.x t.n (wn t.n) rfl HWA.out HXX.out.1 (by omega)).mono ?_
        rintro e w2 ⟨rfl, hw2⟩
        have HW2 : Hid (WL w w2 w1.heap.size w1.heap.size T (k + 1)) := Lib.hid (HSTEP.out w2 (by rw [HL.out.1, HL.out.2]; exact hw2))
        clear hw2
        go_wp2
        go_roundw
        case rel => exact ⟨k + 1, by omega, by go_num, HW2⟩
        case measure => simp [intOf]; omega
      · have q0 : (t.k == 0) = false := by rw [beq_eq_false_iff_ne]; exact k0
        by_cases k1 : t.k = 1
        · have HL : Hid (ilen t = 2 * nz t.x + 1 ∧ ibit t = numBits t.x) := Lib.hid ⟨by unfold ilen; rw [if_neg k0, if_pos k1], by funext i; unfold ibit; rw [if_neg k0, if_pos k1]⟩
          have q1 : (t.k == 1) = true := by rw [k1]; rfl
          clear k0 k1
          go_wp2_with fail
          refine (wnum_any _ w1.heap.size w1.heap.size v F (pos T k) t.x HWA.out HXX.out.1 (by omega)).mono ?_
          rintro e w2 ⟨rfl, hw2⟩
          have HW2 : Hid (WL w w2 w1.heap.size w1.heap.size T (k + 1)) := Lib.hid (HSTEP.out w2 (by rw [HL.out.1, HL.out.2]; exact hw2))
          clear hw2
          go_wp2
          go_roundw
          case rel => exact ⟨k + 1, by omega, by go_num, HW2⟩
          case measure => simp [intOf]; omega
        · have HL : Hid (ilen t = 2 * nz (zig t.i) + 1 ∧ ibit t = numBits (zig t.i)) := Lib.hid ⟨by unfold ilen; rw [if_neg k0, if_neg k1], by funext i; unfold ibit; rw [if_neg k0, if_neg k1]⟩
          have q1 : (t.k == 1) = false := by rw [beq_eq_false_iff_ne]; exact k1
          clear k0 k1
          go_wp2_with fail
          refine (wint_any _ w1.heap.size w1.heap.size v F (pos T k) t.i HWA.out HXX.out.2.1 HXX.out.2.2 (by omega)).mono ?_
          rintro e w2 ⟨rfl, hw2⟩
          have HW2 : Hid (WL w w2 w1.heap.size w1.heap.size T (k + 1)) := Lib.hid (HSTEP.out w2 (by rw [HL.out.1, HL.out.2]; exact hw2))
          clear hw2
          go_wp2
          go_roundw
          case rel => exact ⟨k + 1, by omega, by go_num, HW2⟩
          case measure => simp [intOf]; omega
    · obtain rfl : k = len := by omega
      obtain ⟨v, F, h1, h2, h3⟩ := HA.out
      have H1 := Lib.hid h1
      have H2 := Lib.hid (⟨h2, h3⟩ : _ ∧ _)
      have HEND := Lib.hid h1.ends
      clear h1 h2 h3
      have hp := pos_le T k (fun j hj => HFT.out j (by omega))
      obtain ⟨n, hn⟩ : ∃ n, (pos T k + 7) / 8 = n := ⟨_, rfl⟩
      have HN := Lib.hid hn
      have hn1 : n ≤ 1000 := by omega
      clear hn
      go_wp2_with fail
      refine (bytes_any wr _ _ v F (pos T k) n HN.out H1.out (by omega)).mono ?_
      rintro e w3 ⟨rfl, hrow, hlt3, hb3⟩
      have HR3 := Lib.hid hrow
      have HB3 : Hid (Below w.heap.size w w3) := Lib.hid (H2.out.2.trans (hb3.mono H2.out.2.size))
      clear hrow hlt3 hb3
      go_wp2_with fail
      refine (read_any _ n n F w3 (by omega) HEND.out.1 (row_src HR3.out)).mono ?_
      rintro e w4 ⟨g, rb, rfl, hrd, hg, hrb, hb4⟩
      have HD4 := Lib.hid hrd
      have HB4 : Hid (Below w.heap.size w w4) := Lib.hid (HB3.out.trans (hb4.mono HB3.out.size))
      have hrb' : w.heap.size ≤ rb := Nat.le_trans HB3.out.size hrb
      clear hrd hb4 hg hrb
      go_wp2
      go_loopw [8, 9, 10, 56] (fun _ _ _ i wq => ∃ j : Nat, j ≤ k ∧ i = .int .i64 (j : Int) ∧ Hid (RD wq g rb n F (pos T j) ∧ Below w.heap.size w wq)) (fun _ _ _ i _ => k - (intOf i).toNat)
      case atStart => exact ⟨0, Nat.zero_le _, rfl, Lib.hid ⟨HD4.out, HB4.out⟩⟩
      case round =>
        obtain ⟨j, hj, rfl, HQ⟩ := hrel
        by_cases hjk : j < k
        · obtain ⟨t0, t1, t2, t3, hx, hi1, hi2⟩ := HT.out j hjk
          rw [Go.WideShapes.add_plain, Nat.mul_comm 4 j] at t0 t1 t2 t3
          have bel := HQ.out.2
          have d0 : wr.cell? ⟨b, off + j * 4, none⟩ = some (.int .i64 (T j).k) := (bel.cell (p := ⟨b, off + j * 4 + 0, none⟩) hb).trans t0
          have d1 := (bel.cell (p := ⟨b, off + j * 4 + 1, none⟩) hb).trans t1
          have d2 := (bel.cell (p := ⟨b, off + j * 4 + 2, none⟩) hb).trans t2
          have d3 := (bel.cell (p := ⟨b, off + j * 4 + 3, none⟩) hb).trans t3
          clear t0 t1 t2 t3 bel
          obtain ⟨t, et⟩ : ∃ t, t = T j := ⟨_, rfl⟩
          rw [← et] at d0 d1 d2 d3 hx hi1 hi2
          have HXX := Lib.hid (⟨hx, hi1, hi2⟩ : _ ∧ _ ∧ _)
          have HBITS : Hid (∀ i, i < ilen t → bitAt F (pos T j + i) = ibit t i) := Lib.hid (fun i hi => by rw [et] at hi ⊢; exact H2.out.1 j hjk i hi)
          have HROOM : Hid (pos T j + ilen t ≤ 8 * n) := Lib.hid (by
            have e1 : pos T (j + 1) = pos T j + ilen (T j) := rfl
            have e2 : pos T (j + 1) ≤ pos T k := by
              obtain ⟨d, rfl⟩ := Nat.le.dest (show j + 1 ≤ k from hjk)
              exact pos_mono T (j + 1) d
            have := HN.out; rw [et]; omega)
          have HNEXT : Hid (pos T (j + 1) = pos T j + ilen t) := Lib.hid (by rw [et]; rfl)
          clear et hx hi1 hi2
          have HDA : Hid (RD (wr.alloc (.cells #[.int .i64 t.k, .int .u64 (t.x : Int), .int .i64 t.n, .int .i64 t.i] 30)) g rb n F (pos T j)) := Lib.hid (HQ.out.1.below ((Below.refl _ _).alloc (Nat.le_refl _) _))
          have HBA : Hid (Below w.heap.size w (wr.alloc (.cells #[.int .i64 t.k, .int .u64 (t.x : Int), .int .i64 t.n, .int .i64 t.i] 30))) := Lib.hid (HQ.out.2.alloc HQ.out.2.size _)
          have hrlt : rb < wr.heap.size := HQ.out.1.lt
          by_cases k0 : t.k = 0
          · have q0 : (t.k == 0) = true := by rw [k0]; rfl
            have HL : Hid (ilen t = wn t.n ∧ ibit t = fun i => t.x / 2 ^ (wn t.n - 1 - i) % 2) := Lib.hid ⟨by unfold ilen; rw [if_pos k0], by funext i; unfold ibit; rw [if_pos k0]⟩
            clear k0
            have HG : Hid (gv F (pos T j) (wn t.n) = t.x % 2 ^ wn t.n) := Lib.hid (by
              rw [gv_of F (pos T j) t.x (wn t.n) (wn t.n) (Nat.le_refl _) (fun i hi => by rw [HBITS.out i (by rw [HL.out.1]; exact hi), HL.out.2]), Nat.sub_self, Nat.pow_zero, Nat.div_one])
            by_cases n0 : t.n ≤ 0
            · have W0 : Hid (wn t.n = 0) := Lib.hid (by unfold wn; split <;> (try split) <;> omega)
              have m0 : bits .and .u64 (t.x : Int) 0 = 0 := and_none t.x HXX.out.1
              go_wp2_with fail
              refine (get_ok _ g rb n (pos T j) F t.n (wn t.n) rfl HDA.out (by have := HROOM.out; rw [HL.out.1] at this; exact this)).mono ?_
              rw [HG.out]
              rintro e w6 ⟨rfl, hrd, hgr⟩
              have H6 : Hid (RD w6 g rb n F (pos T (j + 1)) ∧ Below w.heap.size w w6) := Lib.hid ⟨by rw [HNEXT.out, HL.out.1]; exact hrd, bel_grown HBA.out hgr hrb'⟩
              clear hrd hgr
              rw [W0.out, Nat.pow_zero, Nat.mod_one]
              go_wp2
              go_roundw
              case rel => exact ⟨j + 1, by omega, by go_num, H6⟩
              case measure => simp [intOf]; omega
            · by_cases n1 : t.n < 64
              · obtain ⟨m, em⟩ : ∃ m : Nat, t.n = (m : Int) := ⟨t.n.toNat, by omega⟩
                have WM : Hid (wn t.n = m) := Lib.hid (by have := wn_mid t.n (by omega) (by omega); omega)
                have m0 := mask_eq t.x m HXX.out.1 (by omega)
                rw [em] at d2 n1 n0 HDA HBA
                go_wp2_with fail
                refine (get_ok _ g rb n (pos T j) F _ (wn t.n) (by rw [em]) HDA.out (by have := HROOM.out; rw [HL.out.1] at this; exact this)).mono ?_
                rw [HG.out]
                rintro e w6 ⟨rfl, hrd, hgr⟩
                have H6 : Hid (RD w6 g rb n F (pos T (j + 1)) ∧ Below w.heap.size w w6) := Lib.hid ⟨by rw [HNEXT.out, HL.out.1]; exact hrd, bel_grown HBA.out hgr hrb'⟩
                clear hrd hgr
                have em' := Lib.hid em
                clear em
                rw [WM.out]
                go_wp2
                go_roundw
                case rel => exact ⟨j + 1, by omega, by go_num, H6⟩
                case measure => simp [intOf]; omega
              · have WT : Hid (wn t.n = 64) := Lib.hid (by unfold wn; split <;> (try split) <;> omega)
                have hxm : Hid (t.x % 2 ^ 64 = t.x) := Lib.hid (Nat.mod_eq_of_lt HXX.out.1)
                by_cases n2 : 64 < t.n
                all_goals
                  go_wp2_with fail
                  refine (get_ok _ g rb n (pos T j) F t.n (wn t.n) rfl HDA.out (by have := HROOM.out; rw [HL.out.1] at this; exact this)).mono ?_
                  rw [HG.out]
                  rintro e w6 ⟨rfl, hrd, hgr⟩
                  have H6 : Hid (RD w6 g rb n F (pos T (j + 1)) ∧ Below w.heap.size w w6) := Lib.hid ⟨by rw [HNEXT.out, HL.out.1]; exact hrd, bel_grown HBA.out hgr hrb'⟩
                  clear hrd hgr
                  rw [WT.out, hxm.out]
                  go_wp2
                  go_roundw
                  case rel => exact ⟨j + 1, by omega, by go_num, H6⟩
                  case measure => simp [intOf]; omega
          · have q0 : (t.k == 0) = false := by rw [beq_eq_false_iff_ne]; exact k0
            by_cases k1 : t.k = 1
            · have q1 : (t.k == 1) = true := by rw [k1]; rfl
              have HL : Hid (ilen t = 2 * nz t.x + 1 ∧ ibit t = numBits t.x) := Lib.hid ⟨by unfold ilen; rw [if_neg k0, if_pos k1], by funext i; unfold ibit; rw [if_neg k0, if_pos k1]⟩
              clear k0 k1
              have HI : Hid ((wr.alloc (.cells #[.int .i64 t.k, .int .u64 (t.x : Int), .int .i64 t.n, .int .i64 t.i] 30)).cell? ⟨wr.heap.size, 1, none⟩ = some (.int .u64 (t.x : Int))) := Lib.hid (by go_simp)
              have hil : wr.heap.size < (wr.alloc (.cells #[.int .i64 t.k, .int .u64 (t.x : Int), .int .i64 t.n, .int .i64 t.i] 30)).heap.size := by simp
              go_wp2
              have hir : wr.heap.size ≠ rb := by omega
              generalize wr.heap.size = ib at HI hil hir ⊢
              generalize (wr.alloc (.cells #[.int .i64 t.k, .int .u64 (t.x : Int), .int .i64 t.n, .int .i64 t.i] 30)) = wa at HI hil HDA HBA ⊢
              have ci := HI.out
              have HC : Hid (∀ W, RD W g rb n F (pos T j) → Calls Try.prog 26 #[.pointer (some ⟨rb, 0, none⟩)] W fun e w' => e = .returned (.int .u64 (t.x : Int)) ∧ RD w' g rb n F (pos T j + ilen t) ∧ W.grownBy w' (some rb)) := Lib.hid (fun W hW => by
                have hr := HROOM.out
                rw [HL.out.1] at hr ⊢
                exact num_back W g rb n (pos T j) t.x F hW HXX.out.1 (fun i hi => by rw [HBITS.out i (by rw [HL.out.1]; exact hi), HL.out.2]) hr)
              go_region_with ((go_at_call 26; refine (HC.out _ ?_).mono ?_; first | exact HDA.out | exact HDA.out.drew; rintro e w6 ⟨rfl, hrd, hgr⟩; have hc6 := (grown_cell hgr (a := ⟨ib, 1, none⟩) hil hir).trans ci; have H6 : Hid (RD w6 g rb n F (pos T (j + 1)) ∧ Below w.heap.size w w6) := Lib.hid ⟨by rw [HNEXT.out]; exact hrd, (by first | exact bel_grown HBA.out hgr hrb' | exact bel_grown HBA.out.drew hgr hrb')⟩; clear hrd hgr))
              all_goals go_wp2
              all_goals go_roundw
              all_goals first | (exact ⟨j + 1, by omega, by go_num, H6⟩) | (simp [intOf]; omega)
            · have q1 : (t.k == 1) = false := by rw [beq_eq_false_iff_ne]; exact k1
              have HL : Hid (ilen t = 2 * nz (zig t.i) + 1 ∧ ibit t = numBits (zig t.i)) := Lib.hid ⟨by unfold ilen; rw [if_neg k0, if_neg k1], by funext i; unfold ibit; rw [if_neg k0, if_neg k1]⟩
              clear k0 k1
              have HI : Hid ((wr.alloc (.cells #[.int .i64 t.k, .int .u64 (t.x : Int), .int .i64 t.n, .int .i64 t.i] 30)).cell? ⟨wr.heap.size, 3, none⟩ = some (.int .i64 t.i)) := Lib.hid (by go_simp)
              have hil : wr.heap.size < (wr.alloc (.cells #[.int .i64 t.k, .int .u64 (t.x : Int), .int .i64 t.n, .int .i64 t.i] 30)).heap.size := by simp
              go_wp2
              have hir : wr.heap.size ≠ rb := by omega
              generalize wr.heap.size = ib at HI hil hir ⊢
              generalize (wr.alloc (.cells #[.int .i64 t.k, .int .u64 (t.x : Int), .int .i64 t.n, .int .i64 t.i] 30)) = wa at HI hil HDA HBA ⊢
              have ci := HI.out
              have HC : Hid (∀ W, RD W g rb n F (pos T j) → Calls Try.prog 28 #[.pointer (some ⟨rb, 0, none⟩)] W fun e w' => e = .returned (.int .i64 t.i) ∧ RD w' g rb n F (pos T j + ilen t) ∧ W.grownBy w' (some rb)) := Lib.hid (fun W hW => by
                have hr := HROOM.out
                rw [HL.out.1] at hr ⊢
                exact int_back W g rb n (pos T j) t.i F hW HXX.out.2.1 HXX.out.2.2 (fun i hi => by rw [HBITS.out i (by rw [HL.out.1]; exact hi), HL.out.2]) hr)
              go_region_with ((go_at_call 28; refine (HC.out _ ?_).mono ?_; first | exact HDA.out | exact HDA.out.drew; rintro e w6 ⟨rfl, hrd, hgr⟩; have hc6 := (grown_cell hgr (a := ⟨ib, 3, none⟩) hil hir).trans ci; have H6 : Hid (RD w6 g rb n F (pos T (j + 1)) ∧ Below w.heap.size w w6) := Lib.hid ⟨by rw [HNEXT.out]; exact hrd, (by first | exact bel_grown HBA.out hgr hrb' | exact bel_grown HBA.out.drew hgr hrb')⟩; clear hrd hgr))
              all_goals go_wp2
              all_goals go_roundw
              all_goals first | (exact ⟨j + 1, by omega, by go_num, H6⟩) | (simp [intOf]; omega)
        · obtain rfl : j = k := by omega
          have HE : Hid (8 * n < pos T j + 8) := Lib.hid (by have := HN.out; omega)
          go_wp2_with fail
          refine (err_any _ rb 0 HQ.out.1.c2).mono ?_
          rintro e w' ⟨rfl, rfl⟩
          go_wp2_with fail
          refine (end_ok _ g rb n (pos T j) F HQ.out.1 HE.out HEND.out.2).mono ?_
          rintro e w5 ⟨rfl, q5, rfl⟩
          go_wp2_with fail
          refine (left_any _ g rb n (pos T j) F (HQ.out.1.drewN q5)).mono ?_
          rintro e w6 ⟨rfl, q6, rfl⟩
          have b1 : ((8 * n - pos T j : Nat) : Int) < 8 := by have := HE.out; omega
          have b2 : 8 * n - pos T j < 8 := by have := HE.out; omega
          go_wp2
          go_ret
          exact ⟨rfl, bel_drewN HQ.out.2 _⟩
end Go.Proofs.Ytmhjffneemmncaa
