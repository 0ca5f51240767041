/-
  Contract of netOf.
-/
import Derived.Test.YtcolcgkfppjflaaDb
import Derived.Deep.RegionHeld3
namespace Go.Proofs.Ytcolcgkfppjflaa
open Go.ChangeShapes Go.WideShapes Go.ChangeAt Go.RowKit

set_option linter.unusedSimpArgs false in
set_option maxRecDepth 100000 in
set_option maxHeartbeats 4000000 in
theorem net_any (z : Int) (N : Nat) (a : Option Addr) (n cap : Nat) (p : Nat → Int × Int) (w : World) (hN : min (max z 0) 400 = (N : Int)) (hn : n ≤ 1000) (hs : PsS w a n p) :
    Calls Try.prog 24 #[.int .i64 z, .slice a n cap] w (NetP p n N w) := by
  have HS := Lib.hid hs
  obtain ⟨i0, hi0, hy0, hy1, hy2⟩ := info_parts info3
  clear hs
  have hN4 : N ≤ 400 := by omega
  have hIf : (if 400 < if z < 0 then 0 else z then 400 else if z < 0 then 0 else z) = (N : Int) := by
    rw [← hN]; split <;> split <;> omega
  obtain ⟨mc, hmc⟩ : ∃ mc, mc = madeCells #[.slice none 0 0] N := ⟨_, rfl⟩
  have hmk := makeL N (by omega) mc hmc
  have HMC := Lib.hid hmc
  clear hmc
  go_enter Try.func24, Try.ntmps24
  go_upto_region 2 with (fail)
  clear hIf hN
  go_cut [5] from 12 (fun v wc => ∃ g gb, v = .pointer (some ⟨g, 0, none⟩) ∧ Hid (PreM wc w.heap.size g gb N ∧ Below w.heap.size w wc ∧ wc.heap[w.heap.size + 1]? = some (.cells #[.slice none 0 0, .slice none 0 0] 47 (0, 0))))
  case first =>
    go_region
    all_goals go_wp2_with fail
    all_goals go_meet
    all_goals obtain rfl := HMC.out
    all_goals with_reducible first
      | exact fin5 (hpB _ _ _ _ _ _) (hp0 _ _ _ _ _ _) (hp1 _ _ _ _ _ _) (hp4 _ _ _ _ _ _) (hp2 _ _ _ _ _ _) (hp3 _ _ _ _ _ _) (by omega)
      | exact fin5 (hpB _ _ _ _ _ _) (hp0 _ _ _ _ _ _) (hp1 _ _ _ _ _ _) (hp4 _ _ _ _ _ _) (hp3 _ _ _ _ _ _) (hp2 _ _ _ _ _ _) (by omega)
      | exact fin5 (hpB _ _ _ _ _ _) (hp0 _ _ _ _ _ _) (hp1 _ _ _ _ _ _) (hp3 _ _ _ _ _ _) (hp2 _ _ _ _ _ _) (hp4 _ _ _ _ _ _) (by omega)
      | exact fin5 (hpB _ _ _ _ _ _) (hp0 _ _ _ _ _ _) (hp1 _ _ _ _ _ _) (hp3 _ _ _ _ _ _) (hp4 _ _ _ _ _ _) (hp2 _ _ _ _ _ _) (by omega)
      | exact fin5 (hpB _ _ _ _ _ _) (hp0 _ _ _ _ _ _) (hp1 _ _ _ _ _ _) (hp2 _ _ _ _ _ _) (hp3 _ _ _ _ _ _) (hp4 _ _ _ _ _ _) (by omega)
      | exact fin5 (hpB _ _ _ _ _ _) (hp0 _ _ _ _ _ _) (hp1 _ _ _ _ _ _) (hp2 _ _ _ _ _ _) (hp4 _ _ _ _ _ _) (hp3 _ _ _ _ _ _) (by omega)
  case rest =>
    obtain ⟨g, gb, rfl, HP⟩ := hcut
    have HNS := Lib.hid (NetB.start (p := p) hN4 HP.out.1 HP.out.2.1 HP.out.2.2)
    have cB : wc.cell? ⟨w.heap.size, 0, none⟩ = some (.int .i64 (N : Int)) := by rw [cell_of_row _ _ _ _ _ _ HP.out.1.box]; rfl
    obtain ⟨md, hmd⟩ : ∃ md, md = madeCells #[.bool false] (N * N) := ⟨_, rfl⟩
    have hNN : N * N ≤ 400 * 400 := Nat.mul_le_mul hN4 hN4
    have hmb := makeB (N * N) (by omega) md hmd
    rw [← hmd] at HNS
    have hcast : ((N * N : Nat) : Int) = (N : Int) * (N : Int) := by rw [Int.natCast_mul]
    have hwr : IntKind.i64.wrap ((N : Int) * (N : Int)) = (N : Int) * (N : Int) := by
      rw [← hcast]; rw [IntKind.wrap_i64]; omega
    rw [hcast] at hmb
    clear hmd HP hcast
    go_wp2
    go_loopw [27] (fun i wr => ∃ (t : Nat) (H : Nat → Nat → Bool) (L : Bool → Nat → List Nat) (V : Bool → Nat → Value), t ≤ n ∧ i = .int .i64 (t : Int) ∧ Hid (NetB w wr g gb wc.heap.size N t p H L V)) (fun i _ => n - (intOf i).toNat)
    case atStart => exact ⟨0, _, _, _, Nat.zero_le _, rfl, HNS⟩
    case round =>
      obtain ⟨t, H, L, V, ht, rfl, HT⟩ := hrel
      clear HNS cB hmb hmk hwr
      obtain ⟨gh, egh⟩ : ∃ gh, gh = wc.heap.size := ⟨_, rfl⟩
      rw [← egh] at HT ⊢
      clear egh
      by_cases hlt : t < n
      · obtain ⟨b, off, rfl, hbl, hci⟩ := HS.out (by omega)
        obtain ⟨c0, c1⟩ := hci t hlt
        have x0 := (HT.out.bel.cell (p := ⟨b, off + t * 2, none⟩) hbl).trans c0
        have x1 := (HT.out.bel.cell (p := ⟨b, off + t * 2 + 1, none⟩) hbl).trans c1
        have hlt' : (t : Int) < (n : Int) := by omega
        clear c0 c1 hci
        obtain ⟨⟨u, v⟩, hpt⟩ : ∃ q, p t = q := ⟨_, rfl⟩
        rw [hpt] at x0 x1
        dsimp only at x0 x1
        have HPT := Lib.hid hpt
        clear hpt
        have hW1 : Below wr.heap.size wr (wr.alloc (.cells #[.int .i64 u, .int .i64 v] 51)) := (Below.refl _ _).alloc (Nat.le_refl _) _
        have HM1 := Lib.hid (HT.out.m.below hW1)
        have cB1 := HM1.out.cellBox
        have HSK : Hid ((∀ i j, i < N → j < N → p t = ((i : Int), (j : Int)) → j ∈ L true i) → NetB w (wr.alloc (.cells #[.int .i64 u, .int .i64 v] 51)) g gb gh N (t + 1) p H L V) := Lib.hid fun h => HT.out.same hW1 h
        clear hW1
        by_cases hu : 0 ≤ u ∧ u < N
        · have hiu : ins N u = true := by unfold ins; simp [hu]
          by_cases hv : 0 ≤ v ∧ v < N
          · have hiv : ins N v = true := by unfold ins; simp [hv]
            obtain ⟨i, ei⟩ : ∃ i : Nat, u = (i : Int) := ⟨u.toNat, by omega⟩
            obtain ⟨j, ej⟩ : ∃ j : Nat, v = (j : Int) := ⟨v.toNat, by omega⟩
            subst ei ej
            have hi : i < N := by omega
            have hj : j < N := by omega
            clear hu hv
            obtain ⟨M, hM⟩ : ∃ M : Nat, M = i * N := ⟨_, rfl⟩
            have hMi : ((M : Nat) : Int) = (i : Int) * (N : Int) := by rw [hM, Int.natCast_mul]
            have hMl : M + j < N * N := by rw [hM]; exact mul_lt N i j hi hj
            have hwM : IntKind.i64.wrap ((i : Int) * (N : Int)) = (M : Int) := by rw [← hMi, IntKind.wrap_i64]; omega
            have cH1 : (wr.alloc (.cells #[.int .i64 (i : Int), .int .i64 (j : Int)] 51)).cell? ⟨gh, M + j, none⟩ = some (.bool (H i j)) := by rw [hM]; exact HM1.out.cellHas hi hj
            have hsq : ((N * N : Nat) : Int) = (N : Int) * (N : Int) := Int.natCast_mul ..
            have hMl' : (M : Int) + (j : Int) < (N : Int) * (N : Int) := by omega
            clear hsq
            have HIM := Lib.hid hM
            clear hM hMi
            cases hH : H i j with
            | true =>
              rw [hH] at cH1
              have HNO := Lib.hid (HSK.out (by
                intro i' j' hi' hj' e; rw [HPT.out] at e; injection e with e1 e2
                obtain rfl : i' = i := by omega
                obtain rfl : j' = j := by omega
                exact (HT.out.hh i' j' hi' hj').1 hH))
              clear hH
              go_wp2_with (go_at_call 30; refine (ins_any _ w.heap.size N _ cB1).mono ?_; rintro e w' ⟨rfl, rfl⟩)
              go_roundw
              case rel => exact ⟨t + 1, H, L, V, by omega, by go_num, HNO⟩
              case measure => simp [intOf]; omega
            | false =>
              rw [hH] at cH1
              have HHF := Lib.hid hH
              clear hH
              have hQ : wr.heap.size < wr.heap.size + 1 := by omega
              have fH1 : (wr.alloc (.cells #[.int .i64 (i : Int), .int .i64 (j : Int)] 51)).frozen? ⟨gh, M + j, none⟩ = false := HM1.out.has.frozenAt _
              have HA : Hid (ArcB w ((wr.alloc (.cells #[.int .i64 (i : Int), .int .i64 (j : Int)] 51)).setCell ⟨gh, M + j, none⟩ (.bool true)) wr.heap.size g gb gh N i j (fun x y => if x = i ∧ y = j then true else H x y) L V) := Lib.hid (by
                rw [HIM.out]
                have h2 : Below w.heap.size w (wr.alloc (.cells #[.int .i64 (i : Int), .int .i64 (j : Int)] 51)) := HT.out.bel.alloc HT.out.bel.size _
                have h4 := HM1.out.keepM (i := i) (j := j) ((Below.heap_alloc _ _ _ (blk_lt HT.out.res)).trans HT.out.res) (by decide)
                have h5 := HM1.out.keepM (i := i) (j := j) (heap_alloc_new wr (.cells #[.int .i64 (i : Int), .int .i64 (j : Int)] 51)) (by decide)
                exact ⟨HM1.out.mark (i := i) (j := j) hj, h5, h4, h2.setCell (by have := (HT.out.m.has.lt gh rfl).1; show w.heap.size ≤ gh; omega) _⟩)
              clear HSK
              go_upto_region 10 with (go_at_call 30; refine (ins_any _ w.heap.size N _ cB1).mono ?_; rintro e w' ⟨rfl, rfl⟩)
              obtain ⟨W, eW⟩ : ∃ W, W = ((wr.alloc (.cells #[.int .i64 (i : Int), .int .i64 (j : Int)] 51)).setCell ⟨gh, M + j, none⟩ (.bool true)) := ⟨_, rfl⟩
              obtain ⟨Q, eQ⟩ : ∃ Q, Q = wr.heap.size := ⟨_, rfl⟩
              rw [← eW, ← eQ] at HA
              rw [← eW, ← eQ]
              clear eW eQ hQ fH1 cH1 cB1 x0 x1
              go_cut [27] from 28 to 94 (fun k wx => k = .int .i64 (t : Int) ∧ Hid (∃ V', ArcB w wx Q g gb gh N i j (fun x y => if x = i ∧ y = j then true else H x y) (fun s' i' => if s' = true ∧ i' = i then L true i ++ [j] else L s' i') V'))
              case first =>
                have hll : (L true i).length ≤ n + 1 := Nat.le_trans (HT.out.sp.le true i) (by omega)
                have hD : Below W.heap.size W (W.drew.alloc (.cells #[.int .i64 (j : Int)] 3)) := (Below.refl _ _).drew.alloc (Nat.le_refl _) _
                have HAD := Lib.hid (HA.out.below hD)
                have HAE := Lib.hid (HA.out.below ((Below.refl W.heap.size W).alloc (Nat.le_refl _) (.cells #[.int .i64 (j : Int)] 3)))
                have hi' : (i : Int) < (N : Int) := by omega
                have b4 := HA.out.m.cellRow true hi
                have d4 := HAE.out.m.cellRow true hi
                have hB1 : w.heap.size + 1 ≤ (W.drew.alloc (.cells #[.int .i64 (j : Int)] 3)).heap.size := by
                  have := blk_lt HAD.out.m.box; omega
                clear hD
                refine wp_region_held_drew (S := fun X => X.cell? ⟨g, 0, none⟩ = some (.slice (some ⟨gb true, 0, none⟩) N N) ∧ X.cell? ⟨Q, 0, none⟩ = some (.int .i64 (i : Int)) ∧ X.cell? ⟨Q, 1, none⟩ = some (.int .i64 (j : Int))) (by kernel_rfl) HA.out.read.1 (fun hHeld => ?_)
                refine wpAnyH_take (i := 0) (v := ?vt0) rfl (by kernel_rfl) (by kernel_rfl) (by kernel_rfl) (fun _ _ _ h => h) (Or.inl ⟨by rfl, ?yt0⟩) (by assumption) ?rt0
                case yt0 => (intro w hSw; (try dsimp only at hSw); go_simp; first | done | with_reducible rfl)
                try simp only [Act.put, List.setIfInBounds_toArray, List.set_cons_zero, List.set_cons_succ]
                refine wpAnyH_take (i := 1) (v := ?vt1) rfl (by kernel_rfl) (by kernel_rfl) (by kernel_rfl) (fun _ _ _ h => h) (Or.inl ⟨by rfl, ?yt1⟩) (by assumption) ?rt1
                case yt1 => (intro w hSw; (try dsimp only at hSw); go_simp; first | done | with_reducible rfl)
                try simp only [Act.put, List.setIfInBounds_toArray, List.set_cons_zero, List.set_cons_succ]
                refine wpAnyH_take (i := 2) (v := ?vt2) rfl (by kernel_rfl) (by kernel_rfl) (by kernel_rfl) (fun _ _ _ h => h) (Or.inl ⟨by rfl, ?yt2⟩) (by assumption) ?rt2
                case yt2 => (intro w hSw; (try dsimp only at hSw); go_simp; first | done | with_reducible rfl)
                try simp only [Act.put, List.setIfInBounds_toArray, List.set_cons_zero, List.set_cons_succ]
                refine wpAnyH_take (i := 3) (v := ?vt3) rfl (by kernel_rfl) (by kernel_rfl) (by kernel_rfl) (fun _ _ _ h => h) (Or.inl ⟨by rfl, ?yt3⟩) (by assumption) ?rt3
                case yt3 => (intro w hSw; (try dsimp only at hSw); go_simp; first | done | with_reducible rfl)
                try simp only [Act.put, List.setIfInBounds_toArray, List.set_cons_zero, List.set_cons_succ]
                refine wpAnyH_take (i := 4) (v := ?vt4) rfl (by kernel_rfl) (by kernel_rfl) (by kernel_rfl) (fun _ _ _ h => h) (Or.inl ⟨by rfl, ?yt4⟩) (by assumption) ?rt4
                case yt4 => (intro w hSw; (try dsimp only at hSw); go_simp; first | done | with_reducible rfl)
                try simp only [Act.put, List.setIfInBounds_toArray, List.set_cons_zero, List.set_cons_succ]
                refine wpAnyH_take (i := 5) (v := ?vt5) rfl (by kernel_rfl) (by kernel_rfl) (by kernel_rfl) (fun _ _ _ h => h) (Or.inl ⟨by rfl, ?yt5⟩) (by assumption) ?rt5
                case yt5 => (intro w hSw; (try dsimp only at hSw); go_simp; first | done | with_reducible rfl)
                try simp only [Act.put, List.setIfInBounds_toArray, List.set_cons_zero, List.set_cons_succ]
                refine wpAnyH_take (i := 6) (v := ?vt6) rfl (by kernel_rfl) (by kernel_rfl) (by kernel_rfl) (fun _ _ _ h => h) (Or.inl ⟨by rfl, ?yt6⟩) (by assumption) ?rt6
                case yt6 => (intro w hSw; (try dsimp only at hSw); go_simp; first | done | with_reducible rfl)
                try simp only [Act.put, List.setIfInBounds_toArray, List.set_cons_zero, List.set_cons_succ]
                refine wpAnyH_take (i := 7) (v := ?vt7) rfl (by kernel_rfl) (by kernel_rfl) (by kernel_rfl) (fun _ _ _ h => h) (Or.inl ⟨by rfl, ?yt7⟩) (by assumption) ?rt7
                case yt7 => (intro w hSw; (try dsimp only at hSw); go_simp; first | done | with_reducible rfl)
                try simp only [Act.put, List.setIfInBounds_toArray, List.set_cons_zero, List.set_cons_succ]
                refine wpAnyH_take (i := 8) (v := ?vt8) rfl (by kernel_rfl) (by kernel_rfl) (by kernel_rfl) (fun _ _ _ h => h) (Or.inl ⟨by rfl, ?yt8⟩) (by assumption) ?rt8
                case yt8 => (intro w hSw; (try dsimp only at hSw); go_simp; first | done | with_reducible rfl)
                try simp only [Act.put, List.setIfInBounds_toArray, List.set_cons_zero, List.set_cons_succ]
                refine wpAnyH_take (i := 10) (v := ?vt10) rfl (by kernel_rfl) (by kernel_rfl) (by kernel_rfl) (fun _ _ _ h => h) (Or.inl ⟨by rfl, ?yt10⟩) (by assumption) ?rt10
                case yt10 => (intro w hSw; (try dsimp only at hSw); go_simp; first | done | with_reducible rfl)
                try simp only [Act.put, List.setIfInBounds_toArray, List.set_cons_zero, List.set_cons_succ]
                refine wpAnyH_take (i := 11) (v := ?vt11) rfl (by kernel_rfl) (by kernel_rfl) (by kernel_rfl) (fun _ _ _ h => h) (Or.inl ⟨by rfl, ?yt11⟩) (by assumption) ?rt11
                case yt11 => (intro w hSw; (try dsimp only at hSw); go_simp; first | done | with_reducible rfl)
                try simp only [Act.put, List.setIfInBounds_toArray, List.set_cons_zero, List.set_cons_succ]
                refine wpAnyH_ready (rs := [9, 12]) (by kernel_rfl) (by simp) ?_
                refine AllReadyH.cons rfl (fun K hK => ?_) (AllReadyH.cons rfl (fun K hK => ?_) AllReadyH.nil)
                · go_simp
                  refine hK.out _ _ (by first | exact HA.out.read.1 | exact HAE.out.read.1 | exact HAD.out.read.1 | exact (HAD.out.read7 true hi hg7).1 | exact (HAD.out.read8 true hi hg7 _).1) (fun hHeld => ?_)
                  clear hK K
                  try simp only [Act.put, List.setIfInBounds_toArray, List.set_cons_zero, List.set_cons_succ]
                  refine wpAnyH_ready (rs := [12]) (by kernel_rfl) (by simp) ?_
                  refine AllReadyH.cons rfl (fun K hK => ?_) AllReadyH.nil
                  go_simp
                  refine hK.out _ _ (by first | exact HA.out.read.1 | exact HAE.out.read.1 | exact HAD.out.read.1 | exact (HAD.out.read7 true hi hg7).1 | exact (HAD.out.read8 true hi hg7 _).1) (fun hHeld => ?_)
                  clear hK K
                  try simp only [Act.put, List.setIfInBounds_toArray, List.set_cons_zero, List.set_cons_succ]
                  refine wpAnyH_ready (rs := [13]) (by kernel_rfl) (by simp) ?_
                  refine AllReadyH.cons rfl (fun K hK => ?_) AllReadyH.nil
                  refine step_append_lies _ (by rfl) _ _ 33 (by rfl) (w.heap.size + 1) 3 i0 (.int .i64 0) 1 8 Try.underlying33 hi0 hy0 hy1 hy2 rfl (by decide) _ (L true i).length (rowN (L true i)) (by rfl) (HAD.out.m.lst true i hi) ⟨W.drew.heap.size, 0, none⟩ 1 1 [.int .i64 (j : Int)] (by rfl) (by rfl) (one_new (j : Int) W.drew) (by intro u hu; simp at hu; subst hu; rfl) (by omega) (by unfold maxLen; omega) (by omega) hB1 _ rfl ?_
                  intro g7 c7 w7 ho7 hg7 hat7 hl7
                  obtain ⟨_, _, z4, z5⟩ := HAD.out.behind true hi hg7
                  refine hK.out _ _ (by first | exact HA.out.read.1 | exact HAE.out.read.1 | exact HAD.out.read.1 | exact (HAD.out.read7 true hi hg7).1 | exact (HAD.out.read8 true hi hg7 _).1) (fun hHeld => ?_)
                  clear hK K
                  try simp only [Act.put, List.setIfInBounds_toArray, List.set_cons_zero, List.set_cons_succ]
                  refine wpAnyH_take (i := 14) (v := ?vtj14) rfl (by kernel_rfl) (by kernel_rfl) (by kernel_rfl) (fun _ _ _ h => h) (Or.inl ⟨by rfl, ?ytj14⟩) (by assumption) ?rtj14
                  case ytj14 => (intro w hSw; (try dsimp only at hSw); go_simp; first | done | with_reducible rfl)
                  try simp only [Act.put, List.setIfInBounds_toArray, List.set_cons_zero, List.set_cons_succ]
                  refine wpAnyH_ready (rs := [15]) (by kernel_rfl) (by simp) ?_
                  refine AllReadyH.cons rfl (fun K hK => ?_) AllReadyH.nil
                  go_simp
                  refine hK.out _ _ (by first | exact HA.out.read.1 | exact HAE.out.read.1 | exact HAD.out.read.1 | exact (HAD.out.read7 true hi hg7).1 | exact (HAD.out.read8 true hi hg7 _).1) (fun hHeld => ?_)
                  clear hK K
                  try simp only [Act.put, List.setIfInBounds_toArray, List.set_cons_zero, List.set_cons_succ]
                  refine wpAnyH_done (by kernel_rfl) ?_ _
                  go_wp2_with fail
                  go_meet
                  exact ⟨rfl, Lib.hid ⟨_, HAD.out.add true hi ho7 hg7 hat7⟩⟩
                · go_simp
                  refine hK.out _ _ (by first | exact HA.out.read.1 | exact HAE.out.read.1 | exact HAD.out.read.1 | exact (HAD.out.read7 true hi hg7).1 | exact (HAD.out.read8 true hi hg7 _).1) (fun hHeld => ?_)
                  clear hK K
                  try simp only [Act.put, List.setIfInBounds_toArray, List.set_cons_zero, List.set_cons_succ]
                  refine wpAnyH_ready (rs := [9]) (by kernel_rfl) (by simp) ?_
                  refine AllReadyH.cons rfl (fun K hK => ?_) AllReadyH.nil
                  go_simp
                  refine hK.out _ _ (by first | exact HA.out.read.1 | exact HAE.out.read.1 | exact HAD.out.read.1 | exact (HAD.out.read7 true hi hg7).1 | exact (HAD.out.read8 true hi hg7 _).1) (fun hHeld => ?_)
                  clear hK K
                  try simp only [Act.put, List.setIfInBounds_toArray, List.set_cons_zero, List.set_cons_succ]
                  refine wpAnyH_ready (rs := [13]) (by kernel_rfl) (by simp) ?_
                  refine AllReadyH.cons rfl (fun K hK => ?_) AllReadyH.nil
                  refine step_append_lies _ (by rfl) _ _ 33 (by rfl) (w.heap.size + 1) 3 i0 (.int .i64 0) 1 8 Try.underlying33 hi0 hy0 hy1 hy2 rfl (by decide) _ (L true i).length (rowN (L true i)) (by rfl) (HAD.out.m.lst true i hi) ⟨W.drew.heap.size, 0, none⟩ 1 1 [.int .i64 (j : Int)] (by rfl) (by rfl) (one_new (j : Int) W.drew) (by intro u hu; simp at hu; subst hu; rfl) (by omega) (by unfold maxLen; omega) (by omega) hB1 _ rfl ?_
                  intro g7 c7 w7 ho7 hg7 hat7 hl7
                  obtain ⟨_, _, z4, z5⟩ := HAD.out.behind true hi hg7
                  refine hK.out _ _ (by first | exact HA.out.read.1 | exact HAE.out.read.1 | exact HAD.out.read.1 | exact (HAD.out.read7 true hi hg7).1 | exact (HAD.out.read8 true hi hg7 _).1) (fun hHeld => ?_)
                  clear hK K
                  try simp only [Act.put, List.setIfInBounds_toArray, List.set_cons_zero, List.set_cons_succ]
                  refine wpAnyH_take (i := 14) (v := ?vtm14) rfl (by kernel_rfl) (by kernel_rfl) (by kernel_rfl) (fun _ _ _ h => h) (Or.inl ⟨by rfl, ?ytm14⟩) (by assumption) ?rtm14
                  case ytm14 => (intro w hSw; (try dsimp only at hSw); go_simp; first | done | with_reducible rfl)
                  try simp only [Act.put, List.setIfInBounds_toArray, List.set_cons_zero, List.set_cons_succ]
                  refine wpAnyH_ready (rs := [15]) (by kernel_rfl) (by simp) ?_
                  refine AllReadyH.cons rfl (fun K hK => ?_) AllReadyH.nil
                  go_simp
                  refine hK.out _ _ (by first | exact HA.out.read.1 | exact HAE.out.read.1 | exact HAD.out.read.1 | exact (HAD.out.read7 true hi hg7).1 | exact (HAD.out.read8 true hi hg7 _).1) (fun hHeld => ?_)
                  clear hK K
                  try simp only [Act.put, List.setIfInBounds_toArray, List.set_cons_zero, List.set_cons_succ]
                  refine wpAnyH_done (by kernel_rfl) ?_ _
                  go_wp2_with fail
                  go_meet
                  exact ⟨rfl, Lib.hid ⟨_, HAD.out.add true hi ho7 hg7 hat7⟩⟩
              case rest =>
                obtain ⟨rfl, HZ⟩ := hcut
                obtain ⟨V1, hZ⟩ := HZ.out
                have HL1 : Hid (∃ L1, L1 = (fun s' i' => if s' = true ∧ i' = i then L true i ++ [j] else L s' i')) := Lib.hid ⟨_, rfl⟩
                obtain ⟨L1, eL1⟩ := HL1.out
                rw [← eL1] at hZ
                have HZ1 := Lib.hid hZ
                have hl1 : (L1 false j).length ≤ n + 1 := by rw [eL1]; simp; exact Nat.le_trans (HT.out.sp.le false j) (by omega)
                have HE1 := Lib.hid eL1
                clear hZ HZ HL1 HA eL1
                go_upto_region 11 with (fail)
                have hll : (L1 false j).length ≤ n + 1 := hl1
                have hD : Below wc.heap.size wc (wc.drew.alloc (.cells #[.int .i64 (i : Int)] 3)) := (Below.refl _ _).drew.alloc (Nat.le_refl _) _
                have HAD := Lib.hid (HZ1.out.below hD)
                have HAE := Lib.hid (HZ1.out.below ((Below.refl wc.heap.size wc).alloc (Nat.le_refl _) (.cells #[.int .i64 (i : Int)] 3)))
                have hi' : (j : Int) < (N : Int) := by omega
                have b4 := HZ1.out.m.cellRow false hj
                have d4 := HAE.out.m.cellRow false hj
                have hB1 : w.heap.size + 1 ≤ (wc.drew.alloc (.cells #[.int .i64 (i : Int)] 3)).heap.size := by
                  have := blk_lt HAD.out.m.box; omega
                clear hD
                refine wp_region_held_drew (S := fun X => X.cell? ⟨g, 1, none⟩ = some (.slice (some ⟨gb false, 0, none⟩) N N) ∧ X.cell? ⟨Q, 0, none⟩ = some (.int .i64 (i : Int)) ∧ X.cell? ⟨Q, 1, none⟩ = some (.int .i64 (j : Int))) (by kernel_rfl) HZ1.out.read.2 (fun hHeld => ?_)
                refine wpAnyH_take (i := 0) (v := ?vf0) rfl (by kernel_rfl) (by kernel_rfl) (by kernel_rfl) (fun _ _ _ h => h) (Or.inl ⟨by rfl, ?yf0⟩) (by assumption) ?rf0
                case yf0 => (intro w hSw; (try dsimp only at hSw); go_simp; first | done | with_reducible rfl)
                try simp only [Act.put, List.setIfInBounds_toArray, List.set_cons_zero, List.set_cons_succ]
                refine wpAnyH_take (i := 1) (v := ?vf1) rfl (by kernel_rfl) (by kernel_rfl) (by kernel_rfl) (fun _ _ _ h => h) (Or.inl ⟨by rfl, ?yf1⟩) (by assumption) ?rf1
                case yf1 => (intro w hSw; (try dsimp only at hSw); go_simp; first | done | with_reducible rfl)
                try simp only [Act.put, List.setIfInBounds_toArray, List.set_cons_zero, List.set_cons_succ]
                refine wpAnyH_take (i := 2) (v := ?vf2) rfl (by kernel_rfl) (by kernel_rfl) (by kernel_rfl) (fun _ _ _ h => h) (Or.inl ⟨by rfl, ?yf2⟩) (by assumption) ?rf2
                case yf2 => (intro w hSw; (try dsimp only at hSw); go_simp; first | done | with_reducible rfl)
                try simp only [Act.put, List.setIfInBounds_toArray, List.set_cons_zero, List.set_cons_succ]
                refine wpAnyH_take (i := 3) (v := ?vf3) rfl (by kernel_rfl) (by kernel_rfl) (by kernel_rfl) (fun _ _ _ h => h) (Or.inl ⟨by rfl, ?yf3⟩) (by assumption) ?rf3
                case yf3 => (intro w hSw; (try dsimp only at hSw); go_simp; first | done | with_reducible rfl)
                try simp only [Act.put, List.setIfInBounds_toArray, List.set_cons_zero, List.set_cons_succ]
                refine wpAnyH_take (i := 4) (v := ?vf4) rfl (by kernel_rfl) (by kernel_rfl) (by kernel_rfl) (fun _ _ _ h => h) (Or.inl ⟨by rfl, ?yf4⟩) (by assumption) ?rf4
                case yf4 => (intro w hSw; (try dsimp only at hSw); go_simp; first | done | with_reducible rfl)
                try simp only [Act.put, List.setIfInBounds_toArray, List.set_cons_zero, List.set_cons_succ]
                refine wpAnyH_take (i := 5) (v := ?vf5) rfl (by kernel_rfl) (by kernel_rfl) (by kernel_rfl) (fun _ _ _ h => h) (Or.inl ⟨by rfl, ?yf5⟩) (by assumption) ?rf5
                case yf5 => (intro w hSw; (try dsimp only at hSw); go_simp; first | done | with_reducible rfl)
                try simp only [Act.put, List.setIfInBounds_toArray, List.set_cons_zero, List.set_cons_succ]
                refine wpAnyH_take (i := 6) (v := ?vf6) rfl (by kernel_rfl) (by kernel_rfl) (by kernel_rfl) (fun _ _ _ h => h) (Or.inl ⟨by rfl, ?yf6⟩) (by assumption) ?rf6
                case yf6 => (intro w hSw; (try dsimp only at hSw); go_simp; first | done | with_reducible rfl)
                try simp only [Act.put, List.setIfInBounds_toArray, List.set_cons_zero, List.set_cons_succ]
                refine wpAnyH_take (i := 7) (v := ?vf7) rfl (by kernel_rfl) (by kernel_rfl) (by kernel_rfl) (fun _ _ _ h => h) (Or.inl ⟨by rfl, ?yf7⟩) (by assumption) ?rf7
                case yf7 => (intro w hSw; (try dsimp only at hSw); go_simp; first | done | with_reducible rfl)
                try simp only [Act.put, List.setIfInBounds_toArray, List.set_cons_zero, List.set_cons_succ]
                refine wpAnyH_take (i := 8) (v := ?vf8) rfl (by kernel_rfl) (by kernel_rfl) (by kernel_rfl) (fun _ _ _ h => h) (Or.inl ⟨by rfl, ?yf8⟩) (by assumption) ?rf8
                case yf8 => (intro w hSw; (try dsimp only at hSw); go_simp; first | done | with_reducible rfl)
                try simp only [Act.put, List.setIfInBounds_toArray, List.set_cons_zero, List.set_cons_succ]
                refine wpAnyH_take (i := 10) (v := ?vf10) rfl (by kernel_rfl) (by kernel_rfl) (by kernel_rfl) (fun _ _ _ h => h) (Or.inl ⟨by rfl, ?yf10⟩) (by assumption) ?rf10
                case yf10 => (intro w hSw; (try dsimp only at hSw); go_simp; first | done | with_reducible rfl)
                try simp only [Act.put, List.setIfInBounds_toArray, List.set_cons_zero, List.set_cons_succ]
                refine wpAnyH_take (i := 11) (v := ?vf11) rfl (by kernel_rfl) (by kernel_rfl) (by kernel_rfl) (fun _ _ _ h => h) (Or.inl ⟨by rfl, ?yf11⟩) (by assumption) ?rf11
                case yf11 => (intro w hSw; (try dsimp only at hSw); go_simp; first | done | with_reducible rfl)
                try simp only [Act.put, List.setIfInBounds_toArray, List.set_cons_zero, List.set_cons_succ]
                refine wpAnyH_ready (rs := [9, 12]) (by kernel_rfl) (by simp) ?_
                refine AllReadyH.cons rfl (fun K hK => ?_) (AllReadyH.cons rfl (fun K hK => ?_) AllReadyH.nil)
                · go_simp
                  refine hK.out _ _ (by first | exact HZ1.out.read.2 | exact HAE.out.read.2 | exact HAD.out.read.2 | exact (HAD.out.read7 false hj hg7).2 | exact (HAD.out.read8 false hj hg7 _).2) (fun hHeld => ?_)
                  clear hK K
                  try simp only [Act.put, List.setIfInBounds_toArray, List.set_cons_zero, List.set_cons_succ]
                  refine wpAnyH_ready (rs := [12]) (by kernel_rfl) (by simp) ?_
                  refine AllReadyH.cons rfl (fun K hK => ?_) AllReadyH.nil
                  go_simp
                  refine hK.out _ _ (by first | exact HZ1.out.read.2 | exact HAE.out.read.2 | exact HAD.out.read.2 | exact (HAD.out.read7 false hj hg7).2 | exact (HAD.out.read8 false hj hg7 _).2) (fun hHeld => ?_)
                  clear hK K
                  try simp only [Act.put, List.setIfInBounds_toArray, List.set_cons_zero, List.set_cons_succ]
                  refine wpAnyH_ready (rs := [13]) (by kernel_rfl) (by simp) ?_
                  refine AllReadyH.cons rfl (fun K hK => ?_) AllReadyH.nil
                  refine step_append_lies _ (by rfl) _ _ 33 (by rfl) (w.heap.size + 1) 3 i0 (.int .i64 0) 1 8 Try.underlying33 hi0 hy0 hy1 hy2 rfl (by decide) _ (L1 false j).length (rowN (L1 false j)) (by rfl) (HAD.out.m.lst false j hj) ⟨wc.drew.heap.size, 0, none⟩ 1 1 [.int .i64 (i : Int)] (by rfl) (by rfl) (one_new (i : Int) wc.drew) (by intro u hu; simp at hu; subst hu; rfl) (by omega) (by unfold maxLen; omega) (by omega) hB1 _ rfl ?_
                  intro g7 c7 w7 ho7 hg7 hat7 hl7
                  obtain ⟨_, _, z4, z5⟩ := HAD.out.behind false hj hg7
                  refine hK.out _ _ (by first | exact HZ1.out.read.2 | exact HAE.out.read.2 | exact HAD.out.read.2 | exact (HAD.out.read7 false hj hg7).2 | exact (HAD.out.read8 false hj hg7 _).2) (fun hHeld => ?_)
                  clear hK K
                  try simp only [Act.put, List.setIfInBounds_toArray, List.set_cons_zero, List.set_cons_succ]
                  refine wpAnyH_take (i := 14) (v := ?vfj14) rfl (by kernel_rfl) (by kernel_rfl) (by kernel_rfl) (fun _ _ _ h => h) (Or.inl ⟨by rfl, ?yfj14⟩) (by assumption) ?rfj14
                  case yfj14 => (intro w hSw; (try dsimp only at hSw); go_simp; first | done | with_reducible rfl)
                  try simp only [Act.put, List.setIfInBounds_toArray, List.set_cons_zero, List.set_cons_succ]
                  refine wpAnyH_ready (rs := [15]) (by kernel_rfl) (by simp) ?_
                  refine AllReadyH.cons rfl (fun K hK => ?_) AllReadyH.nil
                  go_simp
                  refine hK.out _ _ (by first | exact HZ1.out.read.2 | exact HAE.out.read.2 | exact HAD.out.read.2 | exact (HAD.out.read7 false hj hg7).2 | exact (HAD.out.read8 false hj hg7 _).2) (fun hHeld => ?_)
                  clear hK K
                  try simp only [Act.put, List.setIfInBounds_toArray, List.set_cons_zero, List.set_cons_succ]
                  refine wpAnyH_done (by kernel_rfl) ?_ _
                  have hY := HAD.out.add false hj ho7 hg7 hat7
                  have HF := Lib.hid (NetB.last' HT.out.sp HT.out.hh hi hj HHF.out HPT.out HE1.out hY)
                  clear hY HZ1 HE1 ho7 hg7 hat7 z4 z5 HAD HAE b4 d4
                  go_wp2
                  go_roundw
                  case rel => exact ⟨t + 1, _, _, _, by omega, by go_num, HF⟩
                  case measure => simp [intOf]; omega
                · go_simp
                  refine hK.out _ _ (by first | exact HZ1.out.read.2 | exact HAE.out.read.2 | exact HAD.out.read.2 | exact (HAD.out.read7 false hj hg7).2 | exact (HAD.out.read8 false hj hg7 _).2) (fun hHeld => ?_)
                  clear hK K
                  try simp only [Act.put, List.setIfInBounds_toArray, List.set_cons_zero, List.set_cons_succ]
                  refine wpAnyH_ready (rs := [9]) (by kernel_rfl) (by simp) ?_
                  refine AllReadyH.cons rfl (fun K hK => ?_) AllReadyH.nil
                  go_simp
                  refine hK.out _ _ (by first | exact HZ1.out.read.2 | exact HAE.out.read.2 | exact HAD.out.read.2 | exact (HAD.out.read7 false hj hg7).2 | exact (HAD.out.read8 false hj hg7 _).2) (fun hHeld => ?_)
                  clear hK K
                  try simp only [Act.put, List.setIfInBounds_toArray, List.set_cons_zero, List.set_cons_succ]
                  refine wpAnyH_ready (rs := [13]) (by kernel_rfl) (by simp) ?_
                  refine AllReadyH.cons rfl (fun K hK => ?_) AllReadyH.nil
                  refine step_append_lies _ (by rfl) _ _ 33 (by rfl) (w.heap.size + 1) 3 i0 (.int .i64 0) 1 8 Try.underlying33 hi0 hy0 hy1 hy2 rfl (by decide) _ (L1 false j).length (rowN (L1 false j)) (by rfl) (HAD.out.m.lst false j hj) ⟨wc.drew.heap.size, 0, none⟩ 1 1 [.int .i64 (i : Int)] (by rfl) (by rfl) (one_new (i : Int) wc.drew) (by intro u hu; simp at hu; subst hu; rfl) (by omega) (by unfold maxLen; omega) (by omega) hB1 _ rfl ?_
                  intro g7 c7 w7 ho7 hg7 hat7 hl7
                  obtain ⟨_, _, z4, z5⟩ := HAD.out.behind false hj hg7
                  refine hK.out _ _ (by first | exact HZ1.out.read.2 | exact HAE.out.read.2 | exact HAD.out.read.2 | exact (HAD.out.read7 false hj hg7).2 | exact (HAD.out.read8 false hj hg7 _).2) (fun hHeld => ?_)
                  clear hK K
                  try simp only [Act.put, List.setIfInBounds_toArray, List.set_cons_zero, List.set_cons_succ]
                  refine wpAnyH_take (i := 14) (v := ?vfm14) rfl (by kernel_rfl) (by kernel_rfl) (by kernel_rfl) (fun _ _ _ h => h) (Or.inl ⟨by rfl, ?yfm14⟩) (by assumption) ?rfm14
                  case yfm14 => (intro w hSw; (try dsimp only at hSw); go_simp; first | done | with_reducible rfl)
                  try simp only [Act.put, List.setIfInBounds_toArray, List.set_cons_zero, List.set_cons_succ]
                  refine wpAnyH_ready (rs := [15]) (by kernel_rfl) (by simp) ?_
                  refine AllReadyH.cons rfl (fun K hK => ?_) AllReadyH.nil
                  go_simp
                  refine hK.out _ _ (by first | exact HZ1.out.read.2 | exact HAE.out.read.2 | exact HAD.out.read.2 | exact (HAD.out.read7 false hj hg7).2 | exact (HAD.out.read8 false hj hg7 _).2) (fun hHeld => ?_)
                  clear hK K
                  try simp only [Act.put, List.setIfInBounds_toArray, List.set_cons_zero, List.set_cons_succ]
                  refine wpAnyH_done (by kernel_rfl) ?_ _
                  have hY := HAD.out.add false hj ho7 hg7 hat7
                  have HF := Lib.hid (NetB.last' HT.out.sp HT.out.hh hi hj HHF.out HPT.out HE1.out hY)
                  clear hY HZ1 HE1 ho7 hg7 hat7 z4 z5 HAD HAE b4 d4
                  go_wp2
                  go_roundw
                  case rel => exact ⟨t + 1, _, _, _, by omega, by go_num, HF⟩
                  case measure => simp [intOf]; omega
          · have hiv : ins N v = false := by unfold ins; simp only [hv, decide_false]
            have HNO := Lib.hid (HSK.out (by intro i j hi hj e; rw [HPT.out] at e; injection e with e1 e2; omega))
            clear hu hv
            go_wp2_with (go_at_call 30; refine (ins_any _ w.heap.size N _ cB1).mono ?_; rintro e w' ⟨rfl, rfl⟩)
            go_roundw
            case rel => exact ⟨t + 1, H, L, V, by omega, by go_num, HNO⟩
            case measure => simp [intOf]; omega
        · have hiu : ins N u = false := by unfold ins; simp only [hu, decide_false]
          have HNO := Lib.hid (HSK.out (by intro i j hi hj e; rw [HPT.out] at e; injection e with e1 e2; omega))
          clear hu
          go_wp2_with (go_at_call 30; refine (ins_any _ w.heap.size N _ cB1).mono ?_; rintro e w' ⟨rfl, rfl⟩)
          go_roundw
          case rel => exact ⟨t + 1, H, L, V, by omega, by go_num, HNO⟩
          case measure => simp [intOf]; omega
      · have : t = n := by omega
        subst this
        have HT2 : Hid (NetT w wr g gb gh N 0 H L L V) := Lib.hid ⟨HT.out.m, fun _ _ _ => List.Perm.refl _, fun i _ h => absurd h (Nat.not_lt_zero _), HT.out.res, HT.out.bel⟩
        have HSP := Lib.hid HT.out.sp
        obtain ⟨c0, c1⟩ := HT.out.m.cellNet
        clear HT
        go_wp2
        clear c0 c1
        obtain ⟨wE, rfl⟩ : ∃ wE, wE = wr := ⟨_, rfl⟩
        go_loopw [11, 98] (fun _ i w2 => ∃ (k : Nat) (L' : Bool → Nat → List Nat), k ≤ N ∧ i = .int .i64 (k : Int) ∧ Hid (NetT w w2 g gb gh N k H L L' V)) (fun _ i _ => N - (intOf i).toNat)
        case atStart => exact ⟨0, L, Nat.zero_le _, rfl, HT2⟩
        case round =>
          obtain ⟨k, L', hk, rfl, HR⟩ := hrel
          clear HT2
          by_cases hkN : k < N
          · have hkN' : (k : Int) < (N : Int) := by omega
            have c0 := HR.out.m.cellRow true hkN
            have hle : (L' true k).length ≤ 100000 := by rw [(HR.out.pm true k hkN).length_eq]; exact Nat.le_trans (HSP.out.le true k) (by omega)
            go_wp2_with fail
            refine (sort_own _ (w.heap.size + 1) (V true k) (L' true k) (HR.out.m.lst true k hkN) hle).mono ?_
            rintro e w3 ⟨rfl, l', hp, hs, ho, hg⟩
            have HN := Lib.hid (HR.out.next hkN hp hs ho hg)
            clear hp hs ho hg c0 hle
            go_wp2
            go_roundw
            case rel => exact ⟨k + 1, _, by omega, by go_num, HN⟩
            case measure => simp [intOf]; omega
          · obtain rfl : N = k := by omega
            obtain ⟨c0, c1⟩ := HR.out.m.cellNet
            obtain ⟨r0, r1⟩ : wr.cell? ⟨w.heap.size + 1, 0, none⟩ = some (.slice none 0 0) ∧ wr.cell? ⟨w.heap.size + 1, 1, none⟩ = some (.slice none 0 0) := by
              rw [cell_of_row _ _ _ _ _ _ HR.out.res, cell_of_row _ _ _ _ _ _ HR.out.res]; exact ⟨rfl, rfl⟩
            have f0 : wr.frozen? ⟨w.heap.size + 1, 0, none⟩ = false := by simp [World.frozen?, HR.out.res]
            have f1 : wr.frozen? ⟨w.heap.size + 1, 1, none⟩ = false := by simp [World.frozen?, HR.out.res]
            go_wp2
            obtain ⟨p0, p1⟩ := set2 (A := .slice (some ⟨gb true, 0, none⟩) N N) (B := .slice (some ⟨gb false, 0, none⟩) N N) HR.out.res
            exact bodyPost_ret (v := .agg #[.slice (some ⟨gb true, 0, none⟩) N N, .slice (some ⟨gb false, 0, none⟩) N N]) (by simp [results, Try.results24, go_sem, p0, p1]) rfl (HR.out.fin HSP.out _ _)
end Go.Proofs.Ytcolcgkfppjflaa
