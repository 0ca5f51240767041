/-
  The reference's twice.
-/
import Derived.Test.YteobndfkkpfnlaaHNa
import Derived.IntWalk
namespace Go.Proofs.Yteobndfkkpfnlaa
open Go.ChangeShapes Go.WideShapes Go.ChangeAt Go.RowKit

/-- the y-th operation of the q-th event writes ahead what the x-th of the i-th writes -/
def Hit (E : Nat → Ev) (i x q y : Nat) : Prop := q ≤ i ∧ (E q).k = 1 ∧ y < (E q).n ∧ (q < i ∨ y < x) ∧ ((E q).o y).k = 2 ∧ ((E q).o y).v = ((E i).o x).v

def Tw (E : Nat → Ev) (i : Nat) : Prop := ∃ x q y, x < (E i).n ∧ ((E i).o x).k = 2 ∧ Hit E i x q y

set_option maxRecDepth 100000 in
set_option maxHeartbeats 4000000 in
theorem twice_any (a : Option Addr) (len cap : Nat) (E : Nat → Ev) (i : Nat) (w : World) (hlen : len ≤ 400) (hi : i < len) (hs : EvS w a len E) :
    Calls Try.prog 42 #[.slice a len cap, .int .i64 (i : Int)] w (Tells (Tw E i) w) := by
  obtain ⟨b, off, rfl, hbl, hci⟩ := hs (by omega)
  have HC := Lib.hid hci
  obtain ⟨spi, cpi, d0, d1, d2, hoi, hpi, hni⟩ := hci i hi
  have HOI := Lib.hid hoi
  have hi0 : (i : Int) < (len : Int) := by omega
  clear hci hs d0 d1 hoi hpi
  go_enter Try.func42, Try.ntmps42
  go_wp2
  clear d2
  go_loopw [5, 6, 7, 8, 9, 16] (fun _ _ _ _ _ x wr => ∃ t : Nat, t ≤ (E i).n ∧ x = .int .i64 (t : Int) ∧ Hid (Below w.heap.size w wr ∧ ∀ x, x < t → ((E i).o x).k = 2 → ∀ q y, ¬ Hit E i x q y)) (fun _ _ _ _ _ x _ => (E i).n - (intOf x).toNat)
  case atStart => exact ⟨0, Nat.zero_le _, rfl, Lib.hid ⟨Below.refl _ _, fun j h1 => absurd h1 (Nat.not_lt_zero _)⟩⟩
  case round =>
    obtain ⟨t, ht, rfl, HT⟩ := hrel
    by_cases hlt : t < (E i).n
    · obtain ⟨bi, offi, rfl, hbi, hcio⟩ := HOI.out (by omega)
      obtain ⟨c0, c1, c2⟩ := hcio t hlt
      have x0 := (HT.out.1.cell (p := ⟨bi, offi + t * 3, none⟩) hbi).trans c0
      have x1 := (HT.out.1.cell (p := ⟨bi, offi + t * 3 + 1, none⟩) hbi).trans c1
      have x2 := (HT.out.1.cell (p := ⟨bi, offi + t * 3 + 2, none⟩) hbi).trans c2
      have hlt' : (t : Int) < ((E i).n : Int) := by omega
      have HNX : Hid ((((E i).o t).k = 2 → ∀ q y, ¬ Hit E i t q y) → ∀ x, x < t + 1 → ((E i).o x).k = 2 → ∀ q y, ¬ Hit E i x q y) := Lib.hid fun h x hx => by
        by_cases hxt : x = t
        · subst hxt; exact h
        · exact HT.out.2 x (by omega)
      clear c0 c1 c2 hcio
      obtain ⟨ok, eok⟩ : ∃ ok, ok = ((E i).o t).k := ⟨_, rfl⟩
      obtain ⟨ov, eov⟩ : ∃ ov, ov = ((E i).o t).v := ⟨_, rfl⟩
      rw [← eok] at x0 HNX
      rw [← eov] at x2
      generalize ((E i).o t).key = okey at *
      have EOK := Lib.hid eok
      have EOV := Lib.hid eov
      clear eok eov
      by_cases hk : ok = 2
      · subst hk
        obtain ⟨wz, ewz⟩ : ∃ wz, wz = wr.alloc (.cells #[.int .i64 2, .int .i64 okey, .int .i64 ov] 44) := ⟨_, rfl⟩
        have hZ : wz.heap[wr.heap.size]? = some (.cells #[.int .i64 2, .int .i64 okey, .int .i64 ov] 44 (0, 0)) := by rw [ewz]; exact heap_alloc_new wr _
        have hZl : wr.heap.size < wz.heap.size := by rw [ewz]; simp
        have HBZ : Hid (Below w.heap.size w wz) := Lib.hid (by rw [ewz]; exact HT.out.1.alloc HT.out.1.size _)
        obtain ⟨Z, eZ⟩ : ∃ Z, Z = wr.heap.size := ⟨_, rfl⟩
        rw [← eZ] at hZ hZl
        have HZ := Lib.hid hZ
        clear hZ
        go_wp2
        rw [← ewz, ← eZ]
        clear ewz eZ x0 x1 x2
        go_loopw [7, 8, 9] (fun kk _ _ ws => ∃ u : Nat, u ≤ i + 1 ∧ kk = .int .i64 (u : Int) ∧ Hid (Below wz.heap.size wz ws ∧ ∀ q, q < u → ∀ y, ¬ Hit E i t q y)) (fun kk _ _ _ => i + 1 - (intOf kk).toNat)
        case atStart => exact ⟨0, Nat.zero_le _, rfl, Lib.hid ⟨Below.refl _ _, fun j h1 => absurd h1 (Nat.not_lt_zero _)⟩⟩
        case round =>
          obtain ⟨u, hu, rfl, HU⟩ := hrel
          by_cases hul : u ≤ i
          · have hul' : (u : Int) ≤ (i : Int) := by omega
            have hu0 : (u : Int) < (len : Int) := by omega
            obtain ⟨spu, cpu, e0, e1, e2, hou, hpu, hnu⟩ := HC.out u (by omega)
            have HBU := Lib.hid (HBZ.out.trans (HU.out.1.mono HBZ.out.size))
            have y0 := (HBU.out.cell (p := ⟨b, off + u * 3, none⟩) hbl).trans e0
            have y2 := (HBU.out.cell (p := ⟨b, off + u * 3 + 2, none⟩) hbl).trans e2
            have HOU := Lib.hid hou
            have HNU : Hid ((∀ y, ¬ Hit E i t u y) → ∀ q, q < u + 1 → ∀ y, ¬ Hit E i t q y) := Lib.hid fun h q hq => by
              by_cases hqu : q = u
              · subst hqu; exact h
              · exact HU.out.2 q (by omega)
            clear e0 e1 e2 hou hpu
            by_cases hk1 : (E u).k = 1
            · rw [hk1] at y0
              have HK1 := Lib.hid hk1
              clear hk1
              obtain ⟨wv, ewv⟩ : ∃ wv, wv = wr := ⟨_, rfl⟩
              subst ewv
              go_wp2
              clear y0 y2
              go_loopw [8, 9, 41] (fun _ _ x wt => ∃ z : Nat, z ≤ (E u).n ∧ x = .int .i64 (z : Int) ∧ Hid (Below wv.heap.size wv wt ∧ ∀ y, y < z → ¬ Hit E i t u y)) (fun _ _ x _ => (E u).n - (intOf x).toNat)
              case atStart => exact ⟨0, Nat.zero_le _, rfl, Lib.hid ⟨Below.refl _ _, fun j h1 => absurd h1 (Nat.not_lt_zero _)⟩⟩
              case round =>
                obtain ⟨z, hz, rfl, HZ3⟩ := hrel
                have HV := Lib.hid HZ3.out.1
                by_cases hzl : z < (E u).n
                · obtain ⟨bu, offu, rfl, hbu, hcu⟩ := HOU.out (by omega)
                  obtain ⟨c0, c1, c2⟩ := hcu z hzl
                  have hBV := HBU.out.trans (HV.out.mono HBU.out.size)
                  have x0 := (hBV.cell (p := ⟨bu, offu + z * 3, none⟩) hbu).trans c0
                  have x1 := (hBV.cell (p := ⟨bu, offu + z * 3 + 1, none⟩) hbu).trans c1
                  have x2 := (hBV.cell (p := ⟨bu, offu + z * 3 + 2, none⟩) hbu).trans c2
                  have hzl' : (z : Int) < ((E u).n : Int) := by omega
                  have HNZ : Hid (¬ Hit E i t u z → ∀ y, y < z + 1 → ¬ Hit E i t u y) := Lib.hid fun h y hy => by
                    by_cases hyz : y = z
                    · subst hyz; exact h
                    · exact HZ3.out.2 y (by omega)
                  obtain ⟨pk, epk⟩ : ∃ pk, pk = ((E u).o z).k := ⟨_, rfl⟩
                  obtain ⟨pv, epv⟩ : ∃ pv, pv = ((E u).o z).v := ⟨_, rfl⟩
                  rw [← epk] at x0
                  rw [← epv] at x2
                  generalize ((E u).o z).key = pkey at *
                  have EPK := Lib.hid epk
                  have EPV := Lib.hid epv
                  have HV1 : Hid (Below wv.heap.size wv (wr.alloc (.cells #[.int .i64 pk, .int .i64 pkey, .int .i64 pv] 44))) := Lib.hid (HV.out.alloc HV.out.size _)
                  have HB1 : Hid (Below w.heap.size w (wr.alloc (.cells #[.int .i64 pk, .int .i64 pkey, .int .i64 pv] 44))) := Lib.hid (hBV.alloc hBV.size _)
                  have HZU := Lib.hid (HU.out.1.trans (HV1.out.mono HU.out.1.size))
                  obtain ⟨⟨_, _, f2⟩, _⟩ := cells3 ((HZU.out.block _ hZl).trans HZ.out)
                  clear c0 c1 c2 hcu epk epv hBV
                  by_cases hui : u < i
                  · have hui' : (u : Int) < (i : Int) := by omega
                    by_cases hpk : pk = 2
                    · subst hpk
                      by_cases hpv : pv = ov
                      · have HHT : Hid (Hit E i t u z) := Lib.hid ⟨hul, HK1.out, hzl, .inl hui, EPK.out.symm, by rw [← EPV.out, hpv, EOV.out]⟩
                        have hpb : (pv == ov) = true := by rw [beq_iff_eq]; exact hpv
                        subst hpv
                        go_wp2
                        go_ret
                        exact ⟨true, rfl, ⟨fun _ => ⟨t, u, z, hlt, EOK.out.symm, HHT.out⟩, fun _ => rfl⟩, HB1.out⟩
                      · have HR := Lib.hid (HNZ.out fun h => hpv (by rw [EPV.out, h.2.2.2.2.2, EOV.out]))
                        have hpb : (pv == ov) = false := by rw [beq_eq_false_iff_ne]; exact hpv
                        clear hpv
                        go_wp2
                        go_roundw
                        case rel => exact ⟨z + 1, by omega, by go_num, Lib.hid ⟨HV1.out, HR.out⟩⟩
                        case measure => simp [intOf]; omega
                    · have HR := Lib.hid (HNZ.out fun h => hpk (by rw [EPK.out, h.2.2.2.2.1]))
                      have hpb : (pk == 2) = false := by rw [beq_eq_false_iff_ne]; exact hpk
                      clear hpk
                      go_wp2
                      go_roundw
                      case rel => exact ⟨z + 1, by omega, by go_num, Lib.hid ⟨HV1.out, HR.out⟩⟩
                      case measure => simp [intOf]; omega
                  · have hui' : ¬ (u : Int) < (i : Int) := by omega
                    have hui2 : decide (u < i) = false := decide_eq_false hui
                    by_cases hzt : z < t
                    · have hzt' : (z : Int) < (t : Int) := by omega
                      by_cases hpk : pk = 2
                      · subst hpk
                        by_cases hpv : pv = ov
                        · have HHT : Hid (Hit E i t u z) := Lib.hid ⟨hul, HK1.out, hzl, .inr hzt, EPK.out.symm, by rw [← EPV.out, hpv, EOV.out]⟩
                          have hpb : (pv == ov) = true := by rw [beq_iff_eq]; exact hpv
                          subst hpv
                          go_wp2
                          go_ret
                          exact ⟨true, rfl, ⟨fun _ => ⟨t, u, z, hlt, EOK.out.symm, HHT.out⟩, fun _ => rfl⟩, HB1.out⟩
                        · have HR := Lib.hid (HNZ.out fun h => hpv (by rw [EPV.out, h.2.2.2.2.2, EOV.out]))
                          have hpb : (pv == ov) = false := by rw [beq_eq_false_iff_ne]; exact hpv
                          clear hpv
                          go_wp2
                          go_roundw
                          case rel => exact ⟨z + 1, by omega, by go_num, Lib.hid ⟨HV1.out, HR.out⟩⟩
                          case measure => simp [intOf]; omega
                      · have HR := Lib.hid (HNZ.out fun h => hpk (by rw [EPK.out, h.2.2.2.2.1]))
                        have hpb : (pk == 2) = false := by rw [beq_eq_false_iff_ne]; exact hpk
                        clear hpk
                        go_wp2
                        go_roundw
                        case rel => exact ⟨z + 1, by omega, by go_num, Lib.hid ⟨HV1.out, HR.out⟩⟩
                        case measure => simp [intOf]; omega
                    · have hzt' : ¬ (z : Int) < (t : Int) := by omega
                      have hzt2 : decide (z < t) = false := decide_eq_false hzt
                      have HR := Lib.hid (HNZ.out fun h => by rcases h.2.2.2.1 with h | h; exact hui h; exact hzt h)
                      go_wp2
                      go_roundw
                      case rel => exact ⟨z + 1, by omega, by go_num, Lib.hid ⟨HV1.out, HR.out⟩⟩
                      case measure => simp [intOf]; omega
                · obtain rfl : z = (E u).n := by omega
                  have HR := Lib.hid (HNU.out fun y h => HZ3.out.2 y h.2.2.1 h)
                  have HZV := Lib.hid (HU.out.1.trans (HV.out.mono HU.out.1.size))
                  go_wp2
                  go_roundw
                  case rel => exact ⟨u + 1, by omega, by go_num, Lib.hid ⟨HZV.out, HR.out⟩⟩
                  case measure => simp [intOf]; omega
            · have hkb : ((E u).k != 1) = true := by rw [bne_iff_ne]; exact hk1
              have HR := Lib.hid (HNU.out fun y h => hk1 h.2.1)
              clear hk1
              generalize (E u).k = ek at *
              go_wp2
              go_roundw
              case rel => exact ⟨u + 1, by omega, by go_num, Lib.hid ⟨HU.out.1, HR.out⟩⟩
              case measure => simp [intOf]; omega
          · have hul' : ¬ (u : Int) ≤ (i : Int) := by omega
            have HR := Lib.hid (HNX.out fun _ q y h => HU.out.2 q (by have := h.1; omega) y h)
            have HBU := Lib.hid (HBZ.out.trans (HU.out.1.mono HBZ.out.size))
            go_wp2
            go_roundw
            case rel => exact ⟨t + 1, by omega, by go_num, Lib.hid ⟨HBU.out, HR.out⟩⟩
            case measure => simp [intOf]; omega
      · have hkb : (ok != 2) = true := by rw [bne_iff_ne]; exact hk
        have HR := Lib.hid (HNX.out fun h => absurd h hk)
        have HB1 : Hid (∀ ob, Below w.heap.size w (wr.alloc ob)) := Lib.hid fun ob => HT.out.1.alloc HT.out.1.size _
        clear hk
        go_wp2
        go_roundw
        case rel => exact ⟨t + 1, by omega, by go_num, Lib.hid ⟨HB1.out _, HR.out⟩⟩
        case measure => simp [intOf]; omega
    · obtain rfl : t = (E i).n := by omega
      have HR : Hid (¬ Tw E i) := Lib.hid fun ⟨x, q, y, hx, hk, hh⟩ => HT.out.2 x hx hk q y hh
      go_wp2
      go_ret
      exact ⟨false, rfl, ⟨fun h => (by cases h), fun h => absurd h HR.out⟩, HT.out.1⟩

end Go.Proofs.Yteobndfkkpfnlaa
