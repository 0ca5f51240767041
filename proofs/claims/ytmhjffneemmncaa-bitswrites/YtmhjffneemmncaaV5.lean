/-
  The law BitsWrites' walk.
-/
import Derived.Test.YtmhjffneemmncaaV4
import Derived.Deep.CutRange
import Derived.Deep.CutBlock
namespace Go.Proofs.Ytmhjffneemmncaa
open Go.ChangeShapes Go.WideShapes Go.ChangeAt Go.RowKit

theorem list_src {w : World} {base g n cap : Nat} {F : Nat → Nat} (h : w.ownsRow base 5 1 (.slice (some ⟨g, 0, none⟩) n cap) n (rowB F n)) : Src w (some ⟨g, 0, none⟩) n F :=
  fun _ => ⟨_, rfl, (h.lt g rfl).2, fun j hj => h.cells (g := g) rfl j _ (rowB_get F n j hj)⟩
theorem bs_own {w : World} {base g n cap : Nat} {F : Nat → Nat} (h : w.ownsRow base 5 1 (.slice (some ⟨g, 0, none⟩) n cap) n (rowB (bitAt F) n)) : BS w g 0 n 0 F :=
  ⟨(h.lt g rfl).2, fun j hj => by simp only [Nat.zero_add]; rw [h.cellAt j (by omega)]; exact rowB_get _ _ j hj⟩

/-- an item in a box of its own -/
abbrev boxOf (t : Item) : Obj := .cells #[.int .i64 t.k, .int .u64 (t.x : Int), .int .i64 t.n, .int .i64 t.i] 30

/-- what a step of the writer's leaves -/
def WStepped (w wr : World) (base wb c g cap : Nat) (t : Item) (wc : World) : Prop :=
  ∃ v F, WV w wc base wb v F c (ilen t) g cap (ibit t) ∧ wc.cell? ⟨wr.heap.size, 0, none⟩ = some (.int .i64 t.k) ∧ wc.cell? ⟨wr.heap.size, 1, none⟩ = some (.int .u64 (t.x : Int)) ∧ wc.cell? ⟨wr.heap.size, 2, none⟩ = some (.int .i64 t.n) ∧ wc.cell? ⟨wr.heap.size, 3, none⟩ = some (.int .i64 t.i)

theorem stepped {w wr w2 : World} {base wb c g cap : Nat} {v : Value} {F : Nat → Nat} {t : Item} (h0 : WW w wr base wb v F c g cap) (hw : Wrote (wr.alloc (boxOf t)) base wb v F c (ilen t) (ibit t) w2) (h1 : w.heap.size ≤ base) (h2 : w.heap.size ≤ wb) : WStepped w wr base wb c g cap t w2 := by
  obtain ⟨v', F', hv, hs⟩ := (h0.below ((Below.refl _ _).alloc (Nat.le_refl _) (boxOf t))).wrote hw h1 h2
  have hb : w2.heap[wr.heap.size]? = (wr.alloc (boxOf t)).heap[wr.heap.size]? := hs.block _ (by simp) (by have := h0.wri.lt; omega) (fun e => by have := (h0.wri.own.lt _ e.symm).2; omega)
  refine ⟨v', F', hv, ?_, ?_, ?_, ?_⟩
  · rw [World.cell?_of_block (a := ⟨wr.heap.size, 0, none⟩) hb]; go_simp
  · rw [World.cell?_of_block (a := ⟨wr.heap.size, 1, none⟩) hb]; go_simp
  · rw [World.cell?_of_block (a := ⟨wr.heap.size, 2, none⟩) hb]; go_simp
  · rw [World.cell?_of_block (a := ⟨wr.heap.size, 3, none⟩) hb]; go_simp

set_option maxRecDepth 100000 in
set_option maxHeartbeats 4000000 in
theorem writes_main (a : Option Addr) (len cap0 : Nat) (T : Nat → Item) (w : World) (hl : len ≤ 40) (h : Items w a len T) :
    Calls Try.prog 3 #[.slice a len cap0] w fun e w' => e = .returned (.bool true) ∧ Below w.heap.size w w' := by
  have HI := Lib.hid h
  clear h
  obtain ⟨i0, hi, hz0, hz1, hz2⟩ := info_parts info5
  go_enter Try.func3, Try.ntmps3
  go_wp2_with fail
  refine (wrote_any _).mono ?_
  rintro e w1 ⟨rfl, hb1⟩
  have HB1 := Lib.hid hb1; clear hb1
  have hw1 : w.heap.size ≤ w1.heap.size := HB1.out.size
  have HW0 : Hid (WW w ((w1.alloc (.cells #[.slice none 0 0, .int .i64 0] 27)).alloc (.cells #[] 5)) w1.heap.size w1.heap.size (.slice none 0 0) (fun _ => 0) 0 (w1.heap.size + 1) 0) := Lib.hid (by
    have b1 : Below w.heap.size w (w1.alloc (.cells #[.slice none 0 0, .int .i64 0] 27)) := HB1.out.alloc HB1.out.size _
    have h0 : ((w1.alloc (.cells #[.slice none 0 0, .int .i64 0] 27)).alloc (.cells #[] 5)).ownsRow w1.heap.size 5 1 (.slice (some ⟨(w1.alloc (.cells #[.slice none 0 0, .int .i64 0] 27)).heap.size, 0, none⟩) 0 0) 0 [] := World.ownsRow_lit _ #[] 0 (by simp) (Nat.zero_le _) rfl
    have e : (w1.alloc (.cells #[.slice none 0 0, .int .i64 0] 27)).heap.size = w1.heap.size + 1 := by simp
    rw [e] at h0
    exact ⟨(WR.new w1 w1.heap.size (Nat.le_refl _)).below ((Below.refl _ _).alloc (Nat.le_refl _) _), h0, by omega, (by intro e; cases e), b1.alloc b1.size _⟩)
  go_wp2
  go_loopw [4, 6, 19] (fun want _ i wr => ∃ k c g cap : Nat, k ≤ len ∧ i = .int .i64 (k : Int) ∧ want = .slice (some ⟨g, 0, none⟩) c cap ∧ c ≤ 129 * k ∧ Hid (∃ v F, WW w wr w1.heap.size w1.heap.size v F c g cap)) (fun _ _ i _ => len - (intOf i).toNat)
  case atStart => exact ⟨0, 0, _, 0, Nat.zero_le _, rfl, rfl, by omega, Lib.hid ⟨_, _, HW0.out⟩⟩
  case round =>
    clear HW0
    obtain ⟨k, c, g, cap, hk, rfl, rfl, hc, HA⟩ := hrel
    obtain ⟨v, F, hww⟩ := HA.out
    have H1 := Lib.hid hww
    clear hww HA
    by_cases hlt : k < len
    · obtain ⟨b, off, rfl, hb, hT⟩ := HI.out.2 (by omega)
      obtain ⟨t0, t1, t2, t3, hx, hi1, hi2⟩ := hT k hlt
      clear hT
      rw [Go.WideShapes.add_plain, Nat.mul_comm 4 k] at t0 t1 t2 t3
      have bel := H1.out.bel
      have d0 : wr.cell? ⟨b, off + k * 4, none⟩ = some (.int .i64 (T k).k) := (bel.cell (p := ⟨b, off + k * 4 + 0, none⟩) hb).trans t0
      have d1 := (bel.cell (p := ⟨b, off + k * 4 + 1, none⟩) hb).trans t1
      have d2 := (bel.cell (p := ⟨b, off + k * 4 + 2, none⟩) hb).trans t2
      have d3 := (bel.cell (p := ⟨b, off + k * 4 + 3, none⟩) hb).trans t3
      clear t0 t1 t2 t3 bel
      generalize T k = t at d0 d1 d2 d3 hx hi1 hi2
      have HFT : Hid (Fits t) := Lib.hid ⟨hx, hi1, hi2⟩
      have hil := ilen_le t HFT.out
      clear hx hi1 hi2
      have HWR : Hid (WR (wr.alloc (boxOf t)) w1.heap.size w1.heap.size v F c) := Lib.hid (H1.out.wri.below ((Below.refl _ _).alloc (Nat.le_refl _) _))
      go_upto_block 2 with (fail)
      go_cut [19] from 19 to 52 (fun i wc => i = .int .i64 (k : Int) ∧ Hid (WStepped w wr w1.heap.size w1.heap.size c g cap t wc))
      case first =>
        by_cases k0 : t.k = 0
        · have HL : Hid (ilen t = wn t.n ∧ ibit t = fun i => t.x / 2 ^ (wn t.n - 1 - i) % 2) := Lib.hid ⟨by unfold ilen; rw [if_pos k0], by funext i; unfold ibit; rw [if_pos k0]⟩
          have q0 : (t.k == 0) = true := by rw [k0]; rfl
          clear k0
          go_wp2_with fail
          refine (put_any _ w1.heap.size w1.heap.size v F c t.x t.n (wn t.n) rfl HWR.out HFT.out.1 (by omega)).mono ?_
          rintro e w2 ⟨rfl, hw2⟩
          have HS : Hid (WStepped w wr w1.heap.size w1.heap.size c g cap t w2) := Lib.hid (stepped H1.out (by rw [HL.out.1, HL.out.2]; exact hw2) hw1 hw1)
          clear hw2
          go_wp2
          go_meet
          exact ⟨rfl, HS⟩
        · have q0 : (t.k == 0) = false := by rw [beq_eq_false_iff_ne]; exact k0
          by_cases k1 : t.k = 1
          · have HL : Hid (ilen t = 2 * nz t.x + 1 ∧ ibit t = numBits t.x) := Lib.hid ⟨by unfold ilen; rw [if_neg k0, if_pos k1], by funext i; unfold ibit; rw [if_neg k0, if_pos k1]⟩
            have q1 : (t.k == 1) = true := by rw [k1]; rfl
            clear k0 k1
            go_wp2_with fail
            refine (wnum_any _ w1.heap.size w1.heap.size v F c t.x HWR.out HFT.out.1 (by omega)).mono ?_
            rintro e w2 ⟨rfl, hw2⟩
            have HS : Hid (WStepped w wr w1.heap.size w1.heap.size c g cap t w2) := Lib.hid (stepped H1.out (by rw [HL.out.1, HL.out.2]; exact hw2) hw1 hw1)
            clear hw2
            go_wp2
            go_meet
            exact ⟨rfl, HS⟩
          · have HL : Hid (ilen t = 2 * nz (zig t.i) + 1 ∧ ibit t = numBits (zig t.i)) := Lib.hid ⟨by unfold ilen; rw [if_neg k0, if_neg k1], by funext i; unfold ibit; rw [if_neg k0, if_neg k1]⟩
            have q1 : (t.k == 1) = false := by rw [beq_eq_false_iff_ne]; exact k1
            clear k0 k1
            go_wp2_with fail
            refine (wint_any _ w1.heap.size w1.heap.size v F c t.i HWR.out HFT.out.2.1 HFT.out.2.2 (by omega)).mono ?_
            rintro e w2 ⟨rfl, hw2⟩
            have HS : Hid (WStepped w wr w1.heap.size w1.heap.size c g cap t w2) := Lib.hid (stepped H1.out (by rw [HL.out.1, HL.out.2]; exact hw2) hw1 hw1)
            clear hw2
            go_wp2
            go_meet
            exact ⟨rfl, HS⟩
      case rest =>
        obtain ⟨rfl, HS⟩ := hcut
        obtain ⟨v2, F2, hwv, e0, e1, e2, e3⟩ := HS.out
        have HV := Lib.hid hwv
        clear hwv HS
        obtain ⟨m, em⟩ : ∃ m, m = ilen t := ⟨_, rfl⟩
        rw [← em] at HV hil
        have EM := Lib.hid em
        clear em
        go_wp2_with fail
        refine (text_any t wc HFT.out).mono ?_
        rw [← EM.out]
        rintro e w3 ⟨g3, cap3, rfl, hg3, hown3, hb3⟩
        have HV3 := Lib.hid (HV.out.below hb3)
        have HO3 := Lib.hid hown3
        have hs3 : w1.heap.size ≤ w3.heap.size := HV3.out.wri.hb
        clear hb3 hown3 HV e0 e1 e2 e3
        go_wp2_with (at_builtin; refine wpList_append_own_at _ rfl _ _ 25 rfl w1.heap.size 5 i0 (.int .u8 0) 1 1 Try.underlying25 hi hz0 hz1 hz2 rfl (by decide) _ c (rowB (bitAt F2) c) rfl ?c0 ⟨g3, 0, none⟩ m cap3 (rowB (ibit t) m) rfl ?cl ?c1 ?c2 ?c3 ?c4 ?c5 ?_)
        case c0 => exact HV3.out.own
        case cl => rw [rowB_length]; omega
        case c1 => intro j u hj; exact (HO3.out.cells (g := g3) rfl) j u hj
        case c2 => exact rowB_one _ _
        case c3 => unfold maxLen; omega
        case c4 => omega
        case c5 => exact hs3
        intro v5 w5 hown5 hgrow5 hiff hat
        obtain ⟨g5, cap5, rfl, hww5⟩ := HV3.out.app hw1 hown5 hgrow5 (by first | exact hiff | (intro e; have := hiff.1 e; simp at this)) hat
        have HW5 := Lib.hid hww5
        have bl : (((c + m : Nat) : Int) != ((c + m : Nat) : Int)) = false := by simp
        clear hown5 hgrow5 hiff hat hww5
        go_wp2_with fail
        refine (len_any w5 w1.heap.size w1.heap.size v2 F2 (c + m) HW5.out.wri).mono ?_
        rintro e w' ⟨rfl, rfl⟩
        go_wp2
        go_roundw
        case rel => exact ⟨k + 1, c + m, g5, cap5, by omega, by go_num, rfl, by omega, Lib.hid ⟨_, _, HW5.out⟩⟩
        case measure => simp [intOf]; omega
    · obtain rfl : k = len := by omega
      obtain ⟨W, rfl⟩ : ∃ W, W = wr := ⟨wr, rfl⟩
      have HEND := Lib.hid H1.out.wri.ends
      have HWn : Hid (∀ w', Below W.heap.size W w' → WR w' w1.heap.size w1.heap.size v F c) := Lib.hid (fun w' hb => H1.out.wri.below hb)
      have HBS : Hid (∀ w', Below W.heap.size W w' → BS w' g 0 c 0 F) := Lib.hid (fun w' hb => bs_own (own_below H1.out.own hb))
      have HBW := Lib.hid H1.out.bel
      obtain ⟨n, hn⟩ : ∃ n, (c + 7) / 8 = n := ⟨_, rfl⟩
      have HN := Lib.hid hn
      have hn1 : n ≤ 1000 := by omega
      clear hn H1
      go_wp2_with fail
      refine (bytes_any W _ _ v F c n HN.out (HWn.out W (Below.refl _ _)) (by omega)).mono ?_
      rintro e w3 ⟨rfl, hrow, hlt3, hb3⟩
      have HR3 := Lib.hid hrow
      have HB3 := Lib.hid hb3
      clear hrow hb3
      go_wp2_with fail
      refine (rbytes_any g c cap F w3 (HBS.out w3 HB3.out) HEND.out (by omega)).mono ?_
      rw [HN.out]
      rintro e w4 ⟨g4, cap4, rfl, hg4, hown4, hb4⟩
      have HB4 : Hid (Below W.heap.size W w4) := Lib.hid (HB3.out.trans (hb4.mono HB3.out.size))
      have HS3 : Hid (Src w4 (some ⟨W.heap.size, 0, none⟩) n F) := Lib.hid ((row_src HR3.out).below hb4)
      have HS4 : Hid (Src w4 (some ⟨g4, 0, none⟩) n F) := Lib.hid (list_src hown4)
      have HQ0 : Hid (Below W.heap.size W w4 ∧ ∃ xs, w4.ownsRow W.heap.size 5 1 (.slice (some ⟨W.heap.size, 0, none⟩) n n) n xs ∧ ∀ p, p < n → ∃ z : Int, xs[p]? = some (.int .u8 z)) := Lib.hid ⟨HB4.out, rowB F n, ⟨by rw [rowB_length]; omega, .inr ⟨W.heap.size, n, (rowB F n).toArray, rfl, Nat.le_refl _, (hb4.block _ hlt3).trans HR3.out, Nat.le_refl _, by unfold maxLen; omega, by simp [rowB_length], by rw [List.toList_toArray, Nat.mul_one, List.take_of_length_le (by rw [rowB_length]; exact Nat.le_refl _)]⟩⟩, fun p hp => ⟨_, rowB_get F n p hp⟩⟩
      clear hown4 hb4 HR3 HB3
      go_wp2_with fail
      refine (same_true w4 _ _ n _ _ F F HS3.out HS4.out (fun _ _ => rfl)).mono ?_
      rintro e w' ⟨rfl, rfl⟩
      clear HS3 HS4 HB4
      go_wp2
      go_loopw [8, 62] (fun _ i wq => ∃ j : Nat, j ≤ n ∧ i = .int .i64 (j : Int) ∧ Hid (Below W.heap.size W wq ∧ ∃ xs, wq.ownsRow W.heap.size 5 1 (.slice (some ⟨W.heap.size, 0, none⟩) n n) n xs ∧ ∀ p, p < n → ∃ z : Int, xs[p]? = some (.int .u8 z))) (fun _ i _ => n - (intOf i).toNat)
      case atStart => exact ⟨0, Nat.zero_le _, rfl, HQ0⟩
      case round =>
        clear HQ0
        obtain ⟨j, hj, rfl, HQ⟩ := hrel
        by_cases hjn : j < n
        · obtain ⟨hbq, xs, hownq, hxs⟩ := HQ.out
          obtain ⟨z, hz⟩ := hxs j hjn
          have cz := (hownq.cellAt j (by omega)).trans hz
          have fz := hownq.frozenAt j
          have HQ2 : Hid (∀ y : Int, Below W.heap.size W (wr.setCell ⟨W.heap.size, j, none⟩ (.int .u8 y)) ∧ ∃ xs, (wr.setCell ⟨W.heap.size, j, none⟩ (.int .u8 y)).ownsRow W.heap.size 5 1 (.slice (some ⟨W.heap.size, 0, none⟩) n n) n xs ∧ ∀ p, p < n → ∃ z : Int, xs[p]? = some (.int .u8 z)) := Lib.hid (fun y => ⟨hbq.setCell (Nat.le_refl _) _, xs.set j (.int .u8 y), (hownq.stored j _).1, fun p hp => by
            rw [List.getElem?_set]
            by_cases e : j = p
            · rw [if_pos e, if_pos (by have := hownq.1; omega)]; exact ⟨_, rfl⟩
            · rw [if_neg e]; exact hxs p hp⟩)
          clear hbq hownq hxs hz HQ
          go_wp2
          go_roundw
          case rel => exact ⟨j + 1, by omega, by go_num, Lib.hid (HQ2.out _)⟩
          case measure => simp [intOf]; omega
        · have HBq : Hid (Below W.heap.size W wr) := Lib.hid HQ.out.1
          have HBwq : Hid (Below w.heap.size w wr) := Lib.hid (HBW.out.trans (HQ.out.1.mono HBW.out.size))
          clear HQ
          go_wp2_with fail
          refine (bytes_any wr _ _ v F c n HN.out (HWn.out wr HBq.out) (by omega)).mono ?_
          rintro e w5 ⟨rfl, hrow, hlt5, hb5⟩
          have HR5 := Lib.hid hrow
          have HB5 : Hid (Below W.heap.size W w5) := Lib.hid (HBq.out.trans (hb5.mono HBq.out.size))
          have HB5w : Hid (Below w.heap.size w w5) := Lib.hid (HBwq.out.trans (hb5.mono HBwq.out.size))
          clear hrow hb5
          go_wp2_with fail
          refine (rbytes_any g c cap F w5 (HBS.out w5 HB5.out) HEND.out (by omega)).mono ?_
          rw [HN.out]
          rintro e w6 ⟨g6, cap6, rfl, hg6, hown6, hb6⟩
          have HB6w : Hid (Below w.heap.size w w6) := Lib.hid (HB5w.out.trans (hb6.mono HB5w.out.size))
          have HS5 : Hid (Src w6 (some ⟨wr.heap.size, 0, none⟩) n F) := Lib.hid ((row_src HR5.out).below hb6)
          have HS6 : Hid (Src w6 (some ⟨g6, 0, none⟩) n F) := Lib.hid (list_src hown6)
          clear hown6 hb6 HR5
          go_wp2_with fail
          refine (same_true w6 _ _ n _ _ F F HS5.out HS6.out (fun _ _ => rfl)).mono ?_
          rintro e w' ⟨rfl, rfl⟩
          go_wp2
          go_ret
          exact ⟨rfl, HB6w.out⟩
end Go.Proofs.Ytmhjffneemmncaa
