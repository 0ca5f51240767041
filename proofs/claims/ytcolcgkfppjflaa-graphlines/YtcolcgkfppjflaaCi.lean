/-
  All arcs turned round: mathematics; GraphTurned's walk.
-/
import Derived.Test.YtcolcgkfppjflaaCg
import Derived.Test.YtcolcgkfppjflaaY
import Derived.Test.YtcolcgkfppjflaaP
namespace Go.Proofs.Ytcolcgkfppjflaa
open Go.ChangeShapes Go.WideShapes Go.ChangeAt Go.RowKit
set_option linter.unusedVariables false

theorem Bk.snoc {B : Nat → Nat → Prop} {N s t y d : Nat} (h : Bk B N y t d) (hy : y < N) (hs : s < N) (hb : B y s) : Bk B N s t (d + 1) := by
  induction h with
  | zero => exact .step hy hs hb .zero
  | step hx hz ha _ ih => exact .step hx hz ha ih
theorem Bk.turn {A B : Nat → Nat → Prop} {N s t d : Nat} (hAB : ∀ i j, A i j → B j i) (h : Bk A N t s d) : Bk B N s t d := by
  induction h with
  | zero => exact .zero
  | step hx hy ha _ ih => exact ih.snoc hy hx (hAB _ _ ha)
theorem Cl.turn {A B : Nat → Nat → Prop} {N st l : Nat} (hAB : ∀ i j, A i j → B j i) (hst : st < N) (h : Cl A N st l) : Cl B N st l := by
  obtain ⟨y, d, rfl, hy, ha, hb⟩ := h
  have h1 : Bk B N st st (d + 1) := (hb.turn hAB).snoc hy hst (hAB _ _ ha)
  cases h1 with
  | @step _ z _ _ hz hbz hbk => exact ⟨z, d, rfl, hz, hbz, hbk⟩
theorem Way.pre {B : Nat → Nat → Prop} {N i j k : Nat} (h : Way B N j k) (hi : i < N) (hb : B i j) : Way B N i k := by
  induction h with
  | one h1 h2 h3 => exact .more (.one hi h1 hb) h2 h3
  | more h1 h2 h3 ih => exact .more ih h2 h3
theorem Way.turn {A B : Nat → Nat → Prop} {N i j : Nat} (hAB : ∀ i j, A i j → B j i) (h : Way A N i j) : Way B N j i := by
  induction h with
  | one h1 h2 h3 => exact .one h2 h1 (hAB _ _ h3)
  | more h1 h2 h3 ih => exact ih.pre h2 (hAB _ _ h3)
theorem CyR.turn {A B : Nat → Nat → Prop} {N : Nat} {C D : List Nat} (hAB : ∀ i j, A i j ↔ B j i) (h : CyR A N C) (k : CyR B N D) : C.length = D.length := by
  have m1 : ∀ {s l}, s < N → Cl A N s l → Cl B N s l := fun hs => Cl.turn (fun i j => (hAB i j).1) hs
  have m2 : ∀ {s l}, s < N → Cl B N s l → Cl A N s l := fun hs => Cl.turn (fun i j => (hAB j i).2) hs
  rcases h with ⟨rfl, h⟩ | ⟨s, h1, h2, h3, h4, _⟩
  · rcases k with ⟨rfl, _⟩ | ⟨t, k1, k2, k3, _⟩
    · rfl
    · exact absurd (m2 k1 k3) (h t _ k1)
  · rcases k with ⟨rfl, k⟩ | ⟨t, k1, k2, k3, k4, _⟩
    · exact absurd (m1 h1 h3) (k s _ h1)
    · rcases Nat.lt_trichotomy C.length D.length with e | e | e
      · exact absurd (m1 h1 h3) (k4 s _ h1 e)
      · exact e
      · exact absurd (m2 k1 k3) (h4 t _ k1 e)
def turnP (p : Nat → Int × Int) (s : Nat) : Int × Int := ((p s).2, (p s).1)
theorem adj_turn (p : Nat → Int × Int) (n i j : Nat) : adj p n i j ↔ adj (turnP p) n j i := by
  constructor
  · rintro ⟨k, hk, e⟩; exact ⟨k, hk, by unfold turnP; rw [e]⟩
  · rintro ⟨k, hk, e⟩
    refine ⟨k, hk, ?_⟩
    unfold turnP at e
    injection e with e1 e2
    exact Prod.ext e2 e1
theorem info27 : (Try.prog.info? 27).map (fun i => (i.zero, i.size, i.bytes)) = some (some (.agg #[.int .i64 0, .int .i64 0]), 2, 16) := by kernel_rfl
theorem own_pairs {p : Nat → Int × Int} {n base g cp : Nat} {w' : World} (h : w'.ownsRow base 27 2 (.slice (some ⟨g, 0, none⟩) n cp) n (rowA p n)) : PsS w' (some ⟨g, 0, none⟩) n p := by
  intro hn
  refine ⟨g, 0, rfl, (h.lt g rfl).2, fun i hi => ?_⟩
  obtain ⟨h0, h1⟩ := rowA_get p n i hi
  rw [Nat.zero_add]
  exact ⟨(h.cellAt (i * 2) (by omega)).trans h0, (h.cellAt (i * 2 + 1) (by omega)).trans h1⟩

set_option maxRecDepth 100000 in
set_option maxHeartbeats 4000000 in
theorem turned_law (z : Int) (a : Option Addr) (n cap : Nat) (p : Nat → Int × Int) (w : World) (hs : PsS w a n p) :
    Calls Try.prog 9 #[.int .i64 z, .slice a n cap] w (fun e w' => e = .returned (.bool true) ∧ Below w.heap.size w w') := by
  obtain ⟨i8, hi8, hx0, hx1, hx2⟩ := info_parts info27
  have HS := Lib.hid hs
  clear hs
  have HO := Lib.hid (found_any w)
  go_enter Try.func9, Try.ntmps9
  go_wp2_with fail
  refine HO.out.mono ?_
  rintro e w2 ⟨rfl, hb2⟩
  have HB2 := Lib.hid hb2
  have HOR := Lib.hid (ordered_any w2)
  clear hb2 HO
  go_wp2_with fail
  refine HOR.out.mono ?_
  rintro e w3 ⟨rfl, hb3⟩
  have HB4 := Lib.hid (HB2.out.trans (hb3.mono HB2.out.size))
  clear hb3 HOR HB2
  by_cases hz : 40 < z
  · go_wp2
    go_ret
    exact ⟨rfl, HB4.out⟩
  · have hz' : decide (40 < z) = false := by simp; omega
    by_cases hn : 200 < n
    · have hn' : (200 : Int) < (n : Int) := by omega
      go_wp2
      go_ret
      exact ⟨rfl, HB4.out⟩
    · have hn' : decide ((200 : Int) < (n : Int)) = false := by simp; omega
      obtain ⟨N, hN⟩ : ∃ N : Nat, max z 0 = (N : Int) := ⟨(max z 0).toNat, by omega⟩
      have HNZ : Hid (max z 0 = (N : Int)) := Lib.hid hN
      have hN8 : N ≤ 40 := by omega
      have HTW : Hid ((w3.alloc (.cells #[] 27)).ownsRow w3.heap.size 27 2 (.slice (some ⟨w3.heap.size, 0, none⟩) 0 0) 0 (rowA (turnP p) 0) ∧ Below w3.heap.size w3 (w3.alloc (.cells #[] 27))) := Lib.hid ⟨⟨rfl, .inr ⟨w3.heap.size, 0, #[], rfl, Nat.le_refl _, heap_alloc_new _ _, Nat.le_refl _, Nat.zero_le _, rfl, rfl⟩⟩, (Below.refl _ _).alloc (Nat.le_refl _) _⟩
      clear hN hz
      go_wp2
      obtain ⟨gt, egt⟩ : ∃ gt, gt = w3.heap.size := ⟨_, rfl⟩
      obtain ⟨wc, ewc⟩ : ∃ wc, wc = w3.alloc (.cells #[] 27) := ⟨_, rfl⟩
      have HT1 : Hid (wc.ownsRow w3.heap.size 27 2 (.slice (some ⟨gt, 0, none⟩) 0 0) 0 (rowA (turnP p) 0) ∧ Below w3.heap.size w3 wc) := Lib.hid (by rw [ewc, egt]; exact HTW.out)
      rw [← ewc, ← egt]
      clear HTW ewc egt
      go_loopg [5, 7, 35] n (fun gk vo _ i wr => ∃ (t g cp : Nat), t ≤ n ∧ gk = n - t ∧ i = .int .i64 (t : Int) ∧ vo = .slice (some ⟨g, 0, none⟩) t cp ∧ Hid (wr.ownsRow w3.heap.size 27 2 (.slice (some ⟨g, 0, none⟩) t cp) t (rowA (turnP p) t) ∧ Below w3.heap.size w3 wr))
      case atStart => exact ⟨0, gt, 0, Nat.zero_le _, rfl, rfl, rfl, HT1⟩
      case round =>
        obtain ⟨t, g, cp, ht, rfl, rfl, rfl, HT⟩ := hrel
        clear HT1
        by_cases hlt : t < n
        · obtain ⟨b, off, rfl, hbl, hci⟩ := HS.out (by omega)
          obtain ⟨c0, c1⟩ := hci t hlt
          have hBa := HB4.out.trans (HT.out.2.mono HB4.out.size)
          have x0 := (hBa.cell (p := ⟨b, off + t * 2, none⟩) hbl).trans c0
          have x1 := (hBa.cell (p := ⟨b, off + t * 2 + 1, none⟩) hbl).trans c1
          have hlt' : (t : Int) < (n : Int) := by omega
          have HRA : Hid (rowA (turnP p) (t + 1) = rowA (turnP p) t ++ [.int .i64 (p t).2, .int .i64 (p t).1]) := Lib.hid rfl
          have HOR := Lib.hid HT.out.1
          have HBR := Lib.hid HT.out.2
          clear c0 c1 hci HT hBa
          generalize p t = pt at x0 x1 HRA
          obtain ⟨u, v⟩ := pt
          dsimp only at x0 x1 HRA
          have HNW : Hid (∀ (W : World) (j : Nat) (z : Value), [Value.int .i64 v, .int .i64 u][j]? = some z → (W.alloc (.cells #[.int .i64 v, .int .i64 u] 27)).cell? ((⟨W.heap.size, 0, none⟩ : Addr).add j) = some z) := Lib.hid fun W j z hj => by
            rw [Go.WideShapes.add_plain, cell_of_row _ _ _ _ 27 (0, 0) (heap_alloc_new W _), Nat.zero_add]
            simpa using hj
          have hwx : Below wr.heap.size wr (wr.alloc (.cells #[.int .i64 u, .int .i64 v] 27)) := (Below.refl _ _).alloc (Nat.le_refl _) _
          have hwy : ∀ W : World, Below W.heap.size W (W.alloc (.cells #[.int .i64 v, .int .i64 u] 27)) := fun W => (Below.refl _ _).alloc (Nat.le_refl _) _
          have HBX := Lib.hid (HBR.out.trans (hwx.mono HBR.out.size))
          have HOX := Lib.hid (own_keep HOR.out fun g hg => hwx.block g (HOR.out.lt g hg).2)
          have HBY := Lib.hid (HBX.out.trans ((hwy _).mono HBX.out.size))
          have HOY := Lib.hid (own_keep HOX.out fun g hg => (hwy _).block g (HOX.out.lt g hg).2)
          clear hwx hwy
          go_wp2_with (at_builtin; refine wpList_append_lies _ rfl _ _ 22 rfl w3.heap.size 27 i8 (.agg #[.int .i64 0, .int .i64 0]) 2 16 Try.underlying22 hi8 hx0 hx1 hx2 rfl (by decide) _ t (rowA (turnP p) t) rfl HOY.out ⟨(wr.alloc (.cells #[.int .i64 u, .int .i64 v] 27)).heap.size, 0, none⟩ 1 1 [.int .i64 v, .int .i64 u] (by simp [Act.eval]) rfl (HNW.out _) (by intro u hu; simp at hu; rcases hu with rfl | rfl <;> rfl) (by omega) (by unfold maxLen; omega) (by omega) HBY.out.size _ rfl ?_)
          intro g7 c7 w7 ho7 hg7 hat7 hl7
          have HB7 := Lib.hid (HBY.out.grown hg7 HBY.out.size (fun q hq => (HOX.out.lt q hq).1))
          rw [← HRA.out] at ho7
          have HO7 := Lib.hid ho7
          clear ho7 hg7 hat7
          go_wp2
          go_roundg (n - (t + 1))
          case measure => omega
          case rel => exact ⟨t + 1, g7, c7, by omega, rfl, by go_num, rfl, Lib.hid ⟨HO7.out, HB7.out⟩⟩
        · obtain rfl : t = n := by omega
          have HPT := Lib.hid (own_pairs HT.out.1)
          have HB5 := Lib.hid (HB4.out.trans (HT.out.2.mono HB4.out.size))
          clear HT HB4
          obtain ⟨wE, ewE⟩ : ∃ wE, wE = wr := ⟨_, rfl⟩
          rw [← ewE] at HPT HB5 ⊢
          clear ewE
          have HA1 := Lib.hid (arcs_any a t cap p wE (by omega) (HS.out.below HB5.out))
          go_wp2_with fail
          refine HA1.out.mono ?_
          rintro e w6 ⟨g6, cp6, rfl, ho, hb⟩
          have HB6 := Lib.hid (HB5.out.trans (hb.mono HB5.out.size))
          have HP6 := Lib.hid (HPT.out.below hb)
          have HR1 := Lib.hid (reach_any z N (some ⟨g6, 0, none⟩) t cp6 p w6 (by have := HNZ.out; omega) (by omega) (ArcP.pairs ho))
          clear ho hb HA1 HPT HB5
          go_wp2_with fail
          refine HR1.out.mono ?_
          rintro e w7 ⟨gA, rbA, TA, rfl, hRA, hWA, hb⟩
          have HB7 := Lib.hid (HB6.out.trans (hb.mono HB6.out.size))
          have HP7 := Lib.hid (HP6.out.below hb)
          have HRA := Lib.hid hRA
          have HWA := Lib.hid hWA
          clear hRA hWA hb HR1 HP6 HB6
          have HA2 := Lib.hid (arcs_any (some ⟨g, 0, none⟩) t cp (turnP p) w7 (by omega) HP7.out)
          go_wp2_with fail
          refine HA2.out.mono ?_
          rintro e w8 ⟨g8, cp8, rfl, ho, hb⟩
          have HB8 := Lib.hid (HB7.out.trans (hb.mono HB7.out.size))
          have HP8 := Lib.hid (HP7.out.below hb)
          have HRA8 := Lib.hid (HRA.out.below hb)
          have HR2 := Lib.hid (reach_any z N (some ⟨g8, 0, none⟩) t cp8 (turnP p) w8 (by have := HNZ.out; omega) (by omega) (ArcP.pairs ho))
          clear ho hb HA2 HP7 HB7 HRA
          go_wp2_with fail
          refine HR2.out.mono ?_
          rintro e w9 ⟨gB, rbB, TB, rfl, hRB, hWB, hb⟩
          have HB9 := Lib.hid (HB8.out.trans (hb.mono HB8.out.size))
          have HP9 := Lib.hid (HP8.out.below hb)
          have HA9 := Lib.hid (HRA8.out.below hb)
          have HR9 := Lib.hid hRB
          have HEQ : Hid (∀ i j, i < N → j < N → TA i j = TB j i) := Lib.hid fun i j hi hj => by
            apply Bool.eq_iff_iff.2
            rw [HWA.out i j hi hj, hWB j i hj hi]
            exact ⟨Way.turn (fun i j => (adj_turn p t i j).1), Way.turn (fun i j h => (adj_turn p t j i).2 h)⟩
          clear hRB hWB hb HR2 HP8 HB8 HRA8 HWA
          have hm1 := HNZ.out
          have hm2 : (if z < 0 then 0 else z) = (N : Int) := by split <;> omega
          have hne : ((N : Int) != (N : Int)) = false := by simp
          go_wp2
          clear hm1 hm2
          go_loopg [4, 10, 70] N (fun gk _ _ i wr => ∃ r : Nat, r ≤ N ∧ gk = N - r ∧ i = .int .i64 (r : Int) ∧ w9 = wr)
          case atStart => exact ⟨0, Nat.zero_le _, rfl, rfl, rfl⟩
          case round =>
            obtain ⟨r, hr, rfl, rfl, rfl⟩ := hrel
            by_cases hrN : r < N
            · have hrN' : (r : Int) < (N : Int) := by omega
              have a0 := (HA9.out.top r hrN).1
              have b0 := (HR9.out.top r hrN).1
              go_wp2
              go_roundg (N - (r + 1))
              case measure => omega
              case rel => exact ⟨r + 1, by omega, rfl, by go_num, rfl⟩
            · obtain rfl : r = N := by omega
              go_wp2
              go_loopg [4, 11, 12, 94] r (fun gk _ _ _ i wr => ∃ q : Nat, q ≤ r ∧ gk = r - q ∧ i = .int .i64 (q : Int) ∧ Hid (Below w9.heap.size w9 wr))
              case atStart => exact ⟨0, Nat.zero_le _, rfl, rfl, Lib.hid (Below.refl _ _)⟩
              case round =>
                obtain ⟨q, hq, rfl, rfl, HV⟩ := hrel
                by_cases hqr : q < r
                · have hqr' : (q : Int) < (r : Int) := by omega
                  go_wp2
                  obtain ⟨wF, ewF⟩ : ∃ wF, wF = wr := ⟨_, rfl⟩
                  rw [← ewF] at HV ⊢
                  clear ewF
                  go_loopg [4, 12, 99] r (fun gk _ _ i wr => ∃ s : Nat, s ≤ r ∧ gk = r - s ∧ i = .int .i64 (s : Int) ∧ Hid (Below w9.heap.size w9 wr))
                  case atStart => exact ⟨0, Nat.zero_le _, rfl, rfl, HV⟩
                  case round =>
                    obtain ⟨s, hs, rfl, rfl, HU⟩ := hrel
                    clear HV
                    by_cases hsr : s < r
                    · have hsr' : (s : Int) < (r : Int) := by omega
                      have a0 := ((HA9.out.below HU.out).top q hqr).1
                      have b0 := ((HR9.out.below HU.out).top s hsr).1
                      have a1 := (HA9.out.below HU.out).cell q s hqr hsr
                      have b1 := (HR9.out.below HU.out).cell s q hsr hqr
                      rw [HEQ.out q s hqr hsr] at a1
                      obtain ⟨bb, hbb⟩ : ∃ bb, bb = TB s q := ⟨_, rfl⟩
                      rw [← hbb] at a1 b1
                      clear hbb
                      have hbn : (bb != bb) = false := by simp
                      go_wp2
                      go_quiet (fail)
                      go_wp2
                      go_roundg (r - (s + 1))
                      case measure => omega
                      case rel => exact ⟨s + 1, by omega, rfl, by go_num, Lib.hid (below_drewN HU.out _)⟩
                    · obtain rfl : s = r := by omega
                      go_wp2
                      go_roundg (s - (q + 1))
                      case measure => omega
                      case rel => exact ⟨q + 1, by omega, rfl, by go_num, HU⟩
                · obtain rfl : q = r := by omega
                  have HBv := Lib.hid (HB9.out.trans (HV.out.mono HB9.out.size))
                  have HPv := Lib.hid (HP9.out.below HV.out)
                  clear HV HB9 HP9 HA9 HR9 HEQ
                  obtain ⟨wG, ewG⟩ : ∃ wG, wG = wr := ⟨_, rfl⟩
                  rw [← ewG] at HBv HPv ⊢
                  clear ewG
                  have HC1 := Lib.hid (arcs_any a t cap p wG (by omega) (HS.out.below HBv.out))
                  go_wp2_with fail
                  refine HC1.out.mono ?_
                  rintro e y1 ⟨h1, k1, rfl, ho, hb⟩
                  have HBa := Lib.hid (HBv.out.trans (hb.mono HBv.out.size))
                  have HPa := Lib.hid (HPv.out.below hb)
                  have HC2 := Lib.hid (Cycle_any z q (some ⟨h1, 0, none⟩) t k1 p y1 (by have := HNZ.out; omega) (by omega) (ArcP.pairs ho))
                  clear ho hb HC1 HPv HBv
                  go_wp2_with fail
                  refine HC2.out.mono ?_
                  rintro e y2 ⟨C, spC, cpC, rfl, hcC, hCN, _, hb⟩
                  have HBb := Lib.hid (HBa.out.trans (hb.mono HBa.out.size))
                  have HPb := Lib.hid (HPa.out.below hb)
                  have HcC := Lib.hid hcC
                  clear hcC hb HC2 HPa HBa
                  have HC3 := Lib.hid (arcs_any (some ⟨g, 0, none⟩) t cp (turnP p) y2 (by omega) HPb.out)
                  go_wp2_with fail
                  refine HC3.out.mono ?_
                  rintro e y3 ⟨h3, k3, rfl, ho, hb⟩
                  have HBc := Lib.hid (HBb.out.trans (hb.mono HBb.out.size))
                  have HPc := Lib.hid (HPb.out.below hb)
                  have HC4 := Lib.hid (Cycle_any z q (some ⟨h3, 0, none⟩) t k3 (turnP p) y3 (by have := HNZ.out; omega) (by omega) (ArcP.pairs ho))
                  clear ho hb HC3 HPb HBb
                  go_wp2_with fail
                  refine HC4.out.mono ?_
                  rintro e y4 ⟨D, spD, cpD, rfl, hcD, hDN, _, hb⟩
                  have HBd := Lib.hid (HBc.out.trans (hb.mono HBc.out.size))
                  have HPd := Lib.hid (HPc.out.below hb)
                  have HcD := Lib.hid hcD
                  clear hcD hb HC4 HPc HBc
                  have HC5 := Lib.hid (arcs_any a t cap p y4 (by omega) (HS.out.below HBd.out))
                  go_wp2_with fail
                  refine HC5.out.mono ?_
                  rintro e y5 ⟨h5, k5, rfl, ho, hb⟩
                  have HBe := Lib.hid (HBd.out.trans (hb.mono HBd.out.size))
                  have HPe := Lib.hid (HPd.out.below hb)
                  have HC6 := Lib.hid (Order_any z q (some ⟨h5, 0, none⟩) t k5 p y5 (by have := HNZ.out; omega) (by omega) (ArcP.pairs ho))
                  clear ho hb HC5 HPd HBd
                  go_wp2_with fail
                  refine HC6.out.mono ?_
                  rintro e y6 ⟨O1, b1, spO, cpO, rfl, ho1, _, hb⟩
                  have HBf := Lib.hid (HBe.out.trans (hb.mono HBe.out.size))
                  have HPf := Lib.hid (HPe.out.below hb)
                  have HE1 := Lib.hid (either ho1 HcC.out)
                  clear ho1 hb HC6 HPe HBe
                  have HC7 := Lib.hid (arcs_any (some ⟨g, 0, none⟩) t cp (turnP p) y6 (by omega) HPf.out)
                  go_wp2_with fail
                  refine HC7.out.mono ?_
                  rintro e y7 ⟨h7, k7, rfl, ho, hb⟩
                  have HBg := Lib.hid (HBf.out.trans (hb.mono HBf.out.size))
                  have HC8 := Lib.hid (Order_any z q (some ⟨h7, 0, none⟩) t k7 (turnP p) y7 (by have := HNZ.out; omega) (by omega) (ArcP.pairs ho))
                  clear ho hb HC7 HPf HBf
                  go_wp2_with fail
                  refine HC8.out.mono ?_
                  rintro e y8 ⟨O2, b2, spP, cpP, rfl, ho2, _, hb⟩
                  have HBh := Lib.hid (HBg.out.trans (hb.mono HBg.out.size))
                  have hlen : C.length = D.length := HcC.out.turn (adj_turn p t) HcD.out
                  have hE2 := either ho2 HcD.out
                  have hbb : b1 = b2 := by
                    have hE1 := HE1.out
                    rw [hlen] at hE1
                    cases b1 <;> cases b2 <;> simp_all
                  subst hbb
                  rw [hlen]
                  have hl1 : ((q : Int) == (q : Int)) = true := by simp
                  have hl2 : ((D.length : Int) == (D.length : Int)) = true := by simp
                  have hl3 : (b1 == b1) = true := by simp
                  clear hE2 hlen ho2 hb HC8 HBg HE1
                  go_wp2
                  go_ret
                  exact ⟨rfl, HBh.out⟩
end Go.Proofs.Ytcolcgkfppjflaa
