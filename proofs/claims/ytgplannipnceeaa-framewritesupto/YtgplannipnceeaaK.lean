/-
  The reference's read, whatever bytes: the second sum, and a frame.
-/
import Derived.Test.YtgplannipnceeaaJ
namespace Go.Proofs.Ytgplannipnceeaa
open Go.ChangeShapes Go.WideShapes Go.ChangeAt Go.RowKit

theorem own_ne {W : World} {base g n c b t : Nat} {xs : List Value} {C : Array Value} (hown : W.ownsRow base 5 1 (.slice (some ⟨g, 0, none⟩) n c) n xs) (hb : W.heap[b]? = some (.cells C t (0, 0))) (ht : t ≠ 5) : g ≠ b := by
  intro e
  rcases hown.2 with ⟨h', _⟩ | ⟨g', c', cur, h', _, hh, _⟩
  · cases h'
  · injection h' with h1 h2 h3
    injection h1 with h1
    injection h1 with h1
    rw [← h1, e, hb] at hh
    injection hh with hh
    injection hh with _ hh _
    exact ht hh

theorem num_parts (f : Nat → Nat) (hf : ∀ j, f j < 256) : f 0 * 16777216 + sizeOf' f = nval f 4 := by
  rw [← kind_eq f hf]
  unfold kindOf sizeOf'
  omega
/-- the text of what is read is what was read just where the second sum is right -/
theorem text_is (f : Nat → Nat) (hf : ∀ j, f j < 256) (hg : good1 f) (z : Nat) (hz : z = sizeOf' f) : (∀ j, j < 12 + z → frm (f 0) z (fun j => f (12 + j)) j = f j) ↔ good2 f := by
  have h4e : ∀ j, j < 4 → h4 (f 0) z j = f j := fun j hj => by
    unfold h4
    rw [hz, num_parts f hf]
    exact big_nval f hf j hj
  have h8e : ∀ j, j < 8 → h8 (f 0) z j = f j := fun j hj => by
    unfold h8
    by_cases h : j < 4
    · rw [cat_lo h]; exact h4e j h
    · obtain ⟨i, rfl⟩ : ∃ i, j = 4 + i := ⟨j - 4, by omega⟩
      rw [cat_hi, CrcMath.more_congr 0 _ f 4 h4e]
      exact (hg i (by omega)).symm
  have hs : s3 (f 0) z (fun j => f (12 + j)) = CrcMath.more (CrcMath.more 0 f 8) (fun j => f (12 + j)) (sizeOf' f) := by
    unfold s3
    rw [CrcMath.more_congr 0 _ f 8 h8e, hz]
  constructor
  · intro h j hj
    have := h (8 + j) (by omega)
    unfold frm at this
    rw [cat_lo (by omega)] at this
    unfold h12 at this
    rw [cat_hi, hs] at this
    exact this.symm
  · intro h j hj
    unfold frm
    by_cases h12' : j < 12
    · rw [cat_lo h12']
      unfold h12
      by_cases h8' : j < 8
      · rw [cat_lo h8']; exact h8e j h8'
      · obtain ⟨i, rfl⟩ : ∃ i, j = 8 + i := ⟨j - 8, by omega⟩
        rw [cat_hi, hs]
        exact (h i (by omega)).symm
    · obtain ⟨i, rfl⟩ : ∃ i, j = 12 + i := ⟨j - 12, by omega⟩
      rw [cat_hi]

set_option maxHeartbeats 2000000 in
theorem rd_bad2 (b off n cap : Nat) (f : Nat → Nat) (w : World) (hn : 8 ≤ n) (hc : n ≤ cap) (hf : ∀ j, f j < 256) (hs : Src w (some ⟨b, off, none⟩) n f) (hg : good1 f) (hz : sizeOf' f ≤ 65536 ∧ 12 + sizeOf' f ≤ n) (hg2 : ¬ good2 f) : Calls Try.prog 15 #[.slice (some ⟨b, off, none⟩) n cap] w (DecPost f n w) := by
  have HE : Hid (derr f n = 13) := Lib.hid (by unfold derr; rw [if_neg (by omega), if_neg (fun h => h hg), if_neg (by omega), if_neg (by omega), if_pos hg2])
  have HZZ := Lib.hid hz
  have HG2 := Lib.hid hg2
  have HG1 := Lib.hid hg
  clear hz hg2
  have HF := Lib.hid hf
  have HS := Lib.hid hs
  have HG : Hid (∀ j, j < 4 → big (CrcMath.more 0 f 4) j = f (4 + j)) := Lib.hid (fun j hj => (hg j hj).symm)
  have hn' : ¬ (n : Int) < 8 := by omega
  have hn4 : (4 : Int) ≤ (n : Int) := by omega
  have hn8 : (8 : Int) ≤ (n : Int) := by omega
  have hc4 : (4 : Int) ≤ (cap : Int) := by omega
  have hc8 : (8 : Int) ≤ (cap : Int) := by omega
  have hcn : (n : Int) ≤ (cap : Int) := by omega
  have hc5 : ¬ cap = 4 := by omega
  have hc6 : ¬ 4 = cap := by omega
  have HZ : Hid (Below w.heap.size w (w.alloc (.cells #[.int .i64 0, .slice none 0 0] 24))) := Lib.hid ((Below.refl _ _).alloc (Nat.le_refl _) _)
  have HZ1 : Hid ((w.alloc (.cells #[.int .i64 0, .slice none 0 0] 24)).heap[w.heap.size]? = some (.cells #[.int .i64 0, .slice none 0 0] 24 (0, 0))) := Lib.hid (heap_alloc_new w _)
  have hl1 : w.heap.size < (w.alloc (.cells #[.int .i64 0, .slice none 0 0] 24)).heap.size := by simp
  clear hf hs hg
  go_enter Try.func15, Try.ntmps15
  go_wp2
  generalize (w.alloc (.cells #[.int .i64 0, .slice none 0 0] 24)) = w1 at *
  have HS1 := Lib.hid (HS.out.below HZ.out)
  have HL := Lib.hid (CrcMath.more_lt 0 f 4 (by decide) fun j _ => HF.out j)
  have HSU : Hid (∀ W c, Below w1.heap.size w1 W → Calls Try.prog 26 #[.slice (some ⟨b, off, none⟩) 4 c] W fun e w' => e = .returned (.int .u32 ((CrcMath.more 0 f 4 : Nat) : Int)) ∧ W = w') :=
    Lib.hid fun W c hb => rsum_any _ 4 c f W (by omega) (fun j _ => HF.out j) ((HS1.out.below hb).front 4 (by omega))
  have HSA : Hid (∀ (W : World) c, Below w1.heap.size w1 W → Calls Try.prog 11 #[.slice (some ⟨W.heap.size, 0, none⟩) 4 4, .slice (some ⟨b, off + 4, none⟩) 4 c] (W.alloc (.cells (cells4 (big (CrcMath.more 0 f 4))) 5)) fun e w' => e = .returned (.bool true) ∧ W.alloc (.cells (cells4 (big (CrcMath.more 0 f 4))) 5) = w') :=
    Lib.hid fun W c hb => same_any _ _ _ 4 4 c _ _ true (fun j _ => big_lt _ j) (fun j _ => HF.out _) (lfour_src W _) (((HS1.out.below hb).below ((Below.refl _ _).alloc (Nat.le_refl _) _)).part 4 4 (by omega)) ⟨fun _ => HG.out, fun _ => rfl⟩
  obtain ⟨s, es⟩ : ∃ s, s = CrcMath.more 0 f 4 := ⟨_, rfl⟩
  rw [← es] at HL HSU HSA
  have HES := Lib.hid es
  clear es
  have hw : IntKind.u64.wrap (s : Int) = (s : Int) := by have := HL.out; rw [IntKind.wrap_u64]; omega
  have hB : Below w1.heap.size w1 w1.drew := (Below.refl _ _).drew
  go_region_held3 (fun _ => True) (trivial)
    (first
      | (go_at_call 26; refine (HSU.out _ _ hB).mono ?_; rintro e wN ⟨rfl, rfl⟩)
      | (go_at_call 25; refine (lfour_any s _ HL.out).mono ?_; rintro e wN ⟨rfl, rfl⟩)
      | (go_at_call 11; refine (HSA.out _ _ hB).mono ?_; rintro e wN ⟨rfl, rfl⟩))
  have HB2' : Hid (Below w1.heap.size w1 (w1.alloc (.cells (cells4 (big s)) 5)).drew) := Lib.hid ((Below.refl _ _).alloc (Nat.le_refl _) _).drew
  clear hB
  go_simp
  generalize (w1.alloc (.cells (cells4 (big s)) 5)).drew = w2 at *
  have HZ2 := Lib.hid ((HB2'.out.block _ hl1).trans HZ1.out)
  have HB2 := Lib.hid (HZ.out.trans (HB2'.out.mono HZ.out.size))
  have HS2 := Lib.hid (HS1.out.below HB2'.out)
  have hl2 : w.heap.size < w2.heap.size := Nat.lt_of_lt_of_le hl1 HB2'.out.size
  clear HB2' HSU HSA HZ1 HS1 hl1
  obtain ⟨c1, c2, c3⟩ : w2.cell? ⟨b, off + 1, none⟩ = some (.int .u8 ((f 1 : Nat) : Int)) ∧ w2.cell? ⟨b, off + 2, none⟩ = some (.int .u8 ((f 2 : Nat) : Int)) ∧ w2.cell? ⟨b, off + 3, none⟩ = some (.int .u8 ((f 3 : Nat) : Int)) := by
    obtain ⟨ad, e, _, hcc⟩ := HS2.out (by omega)
    injection e with e
    subst e
    have h1 := hcc 1 (by omega)
    have h2 := hcc 2 (by omega)
    have h3 := hcc 3 (by omega)
    rw [Go.WideShapes.add_plain] at h1 h2 h3
    exact ⟨h1, h2, h3⟩
  have hsize := size_eq f HF.out
  have hf1 := HF.out 1
  have hf2 := HF.out 2
  have hf3 := HF.out 3
  have hz24 : sizeOf' f < 16777216 := Nat.mod_lt _ (by decide)
  obtain ⟨z, ez⟩ : ∃ z, z = sizeOf' f := ⟨_, rfl⟩
  rw [← ez] at hsize hz24 HZZ
  have HZD := Lib.hid ez.symm
  clear ez
  generalize f 1 = y1 at c1 hsize hf1
  generalize f 2 = y2 at c2 hsize hf2
  generalize f 3 = y3 at c3 hsize hf3
  have hn1 : (1 : Int) < (n : Int) := by omega
  have hn2 : (2 : Int) < (n : Int) := by omega
  have hn3 : (3 : Int) < (n : Int) := by omega
  go_wp2
  go_quiet (fail)
  have HZ3 : Hid ((w2.drewN nq).heap[w.heap.size]? = some (.cells #[.int .i64 0, .slice none 0 0] 24 (0, 0))) := HZ2
  have HB3 : Hid (Below w.heap.size w (w2.drewN nq)) := Lib.hid (below_drewN HB2.out nq)
  have HS3 : Hid (Src (w2.drewN nq) (some ⟨b, off, none⟩) n f) := Lib.hid (HS2.out.drewN nq)
  have hl3 : w.heap.size < (w2.drewN nq).heap.size := hl2
  clear c1 c2 c3 HZ2 HB2 HS2 hl2
  generalize w2.drewN nq = w3 at *
  have hz' : ¬ (65536 : Int) < (z : Int) := by have := HZZ.out; omega
  have hcut' : ¬ (n : Int) < 12 + (z : Int) := by have := HZZ.out; omega
  have hzn : z ≤ 65536 := HZZ.out.1
  have hzc : 12 + z ≤ n := HZZ.out.2
  have hcz : 12 + (z : Int) ≤ (cap : Int) := by omega
  have hnz : 12 + (z : Int) ≤ (n : Int) := by omega
  have hcz1 : (12 : Int) ≤ 12 + (z : Int) := by omega
  have hcz2 : (0 : Int) ≤ 12 + (z : Int) := by omega
  have hwz : IntKind.i64.wrap (12 + (z : Int)) = 12 + (z : Int) := by rw [IntKind.wrap_i64]; omega
  have hn0 : (0 : Int) < (n : Int) := by omega
  have htn1 : (12 + (z : Int)).toNat = 12 + z := by omega
  have htn2 : 12 + z - 12 = z := by omega
  have HC0 : Hid (w3.cell? ⟨b, off, none⟩ = some (.int .u8 ((f 0 : Nat) : Int))) := Lib.hid (by
    obtain ⟨ad, e, _, hcc⟩ := HS3.out (by omega)
    injection e with e
    subst e
    have h1 := hcc 0 (by omega)
    rwa [Go.WideShapes.add_plain] at h1)
  have hbl : b < w3.heap.size := by
    obtain ⟨ad, e, hl, _⟩ := HS3.out (by omega)
    injection e with e
    subst e
    exact hl
  have hf0 := HF.out 0
  obtain ⟨y0, ey0⟩ : ∃ y0, y0 = f 0 := ⟨_, rfl⟩
  rw [← ey0] at HC0 hf0
  have HY0 := Lib.hid ey0
  clear ey0
  have hwy : IntKind.i64.wrap (y0 : Int) = (y0 : Int) := by rw [IntKind.wrap_i64]; omega
  have hn0' : 0 < n := by omega
  have HK : Hid (∀ W, Below w3.heap.size w3 W → W.cell? ⟨b, off, none⟩ = some (.int .u8 (y0 : Int))) := Lib.hid fun W hbw => (hbw.cell hbl).trans HC0.out
  have HZ7 : Hid (∀ W, Below (w3.drew.alloc (.cells #[.int .i64 0, .slice none 0 0] 24)).heap.size (w3.drew.alloc (.cells #[.int .i64 0, .slice none 0 0] 24)) W → W.heap[w3.heap.size]? = some (.cells #[.int .i64 0, .slice none 0 0] 24 (0, 0))) := Lib.hid fun W hbw => (hbw.block _ (by simp)).trans (heap_alloc_new w3.drew _)
  have hsz1 : w3.heap.size ≤ (w3.drew.alloc (.cells #[.int .i64 0, .slice none 0 0] 24)).heap.size := by simp
  have HT : Hid (¬ (∀ j, j < 12 + z → frm y0 z (fun j => f (12 + j)) j = f j)) := Lib.hid (by rw [HY0.out]; exact fun h => HG2.out ((text_is f HF.out HG1.out z HZD.out.symm).1 h))
  by_cases hc12 : cap = 12
  · have HZ0 : Hid (z = 0) := Lib.hid (by omega)
    have hcz' : 12 + (z : Int) ≤ 12 := by omega
    subst hc12
    have HCP : Hid (∀ W c, Below w3.heap.size w3 W → Calls Try.prog 9 #[.slice (some ⟨b, off, none⟩) z c] W (CopySome z (fun j => f (12 + j)) W)) :=
      Lib.hid fun W c hb => rcopy_some _ _ c _ W (by omega) (fun h => absurd h (by have := HZ0.out; omega)) (fun h => by cases h)
    go_wp2
    go_region_held3 (fun W => W.cell? ⟨b, off, none⟩ = some (.int .u8 (y0 : Int)))
      (first
        | exact HK.out _ ((Below.refl _ _).drew)
        | exact HK.out _ (Below.refl _ _)
        | exact HK.out _ (((Below.refl _ _).drew).alloc (Nat.le_refl _) _)
        | exact HK.out _ (((Below.refl _ _).drew).trans hb4)
        | exact HK.out _ ((((Below.refl _ _).drew).trans hb4).alloc hb4.size _)
        | exact HK.out _ ((((Below.refl _ _).drew).alloc (Nat.le_refl _) _).trans (hb4.mono hsz1))
        | exact HK.out _ ((((((Below.refl _ _).drew).alloc (Nat.le_refl _) _).trans (hb4.mono hsz1)).setCell (Nat.le_refl _) _).setCell (Nat.le_refl _) _))
      (first
        | (go_at_call 9; refine (HCP.out _ _ ((Below.refl _ _).drew)).mono ?_; rintro e w4 ⟨g4, cap4, rfl, hg4, hown4, hb4⟩)
        | (go_at_call 9; refine (HCP.out _ _ (((Below.refl _ _).drew).alloc (Nat.le_refl _) _)).mono ?_; rintro e w4 ⟨g4, cap4, rfl, hg4, hown4, hb4⟩; obtain ⟨⟨q0, q1⟩, fq⟩ := zcells (HZ7.out _ hb4)))
    · have HB5 : Hid (Below w3.heap.size w3 (w4.alloc (.cells #[.int .i64 (y0 : Int), .slice (some ⟨g4, 0, none⟩) z cap4] 24))) := Lib.hid ((((Below.refl _ _).drew).trans hb4).alloc hb4.size _)
      have HX5 : Hid ((w4.alloc (.cells #[.int .i64 (y0 : Int), .slice (some ⟨g4, 0, none⟩) z cap4] 24)).heap[w4.heap.size]? = some (.cells #[.int .i64 (y0 : Int), .slice (some ⟨g4, 0, none⟩) z cap4] 24 (0, 0))) := Lib.hid (heap_alloc_new w4 _)
      have HO5 : Hid ((w4.alloc (.cells #[.int .i64 (y0 : Int), .slice (some ⟨g4, 0, none⟩) z cap4] 24)).ownsRow w3.heap.size 5 1 (.slice (some ⟨g4, 0, none⟩) z cap4) z (rowB (fun j => f (12 + j)) z)) := Lib.hid (hown4.alloc _)
      clear hb4 hown4
      generalize (w4.alloc (.cells #[.int .i64 (y0 : Int), .slice (some ⟨g4, 0, none⟩) z cap4] 24)) = w5 at *
      generalize w4.heap.size = Q at *
      have HBB5 := Lib.hid (HB3.out.trans (HB5.out.mono HB3.out.size))
      have HZ5 := Lib.hid ((HB5.out.block _ hl3).trans HZ3.out)
      have HS5 := Lib.hid (HS3.out.below HB5.out)
      have hg4' := (own_cap HO5.out).2.2
      have hl5 : w.heap.size < w5.heap.size := Nat.lt_of_lt_of_le hl3 HB5.out.size
      have hQ : Q < w5.heap.size := by
        rcases Nat.lt_or_ge Q w5.heap.size with h' | h'
        · exact h'
        · have := HX5.out; rw [Array.getElem?_eq_none h'] at this; cases this
      have HK2 : Hid (∀ W, Below w5.heap.size w5 W → W.cell? ⟨Q, 0, none⟩ = some (.int .i64 (y0 : Int)) ∧ W.cell? ⟨Q, 1, none⟩ = some (.slice (some ⟨g4, 0, none⟩) z cap4)) := Lib.hid fun W hbw => (zcells ((hbw.block _ hQ).trans HX5.out)).1
      have HTX : Hid (∀ W, Below w5.heap.size w5 W → Calls Try.prog 13 #[.agg #[.int .i64 (y0 : Int), .slice (some ⟨g4, 0, none⟩) z cap4]] W fun e w' => ∃ g cp, e = .returned (.slice (some ⟨g, 0, none⟩) (12 + z) cp) ∧ w'.ownsRow W.heap.size 5 1 (.slice (some ⟨g, 0, none⟩) (12 + z) cp) (12 + z) (rowB (frm y0 z (fun j => f (12 + j))) (12 + z)) ∧ Below W.heap.size W w') :=
        Lib.hid fun W hb => text_any y0 _ z cap4 _ W hf0 (by omega) (fun j => HF.out _) ((own_src HO5.out).below hb) (fun h => by cases h)
      have HSM : Hid (∀ (W : World) base g c1 c2, Below w5.heap.size w5 W → W.ownsRow base 5 1 (.slice (some ⟨g, 0, none⟩) (12 + z) c1) (12 + z) (rowB (frm y0 z (fun j => f (12 + j))) (12 + z)) → Calls Try.prog 11 #[.slice (some ⟨g, 0, none⟩) (12 + z) c1, .slice (some ⟨b, off, none⟩) (12 + z) c2] W fun e w' => e = .returned (.bool false) ∧ W = w') :=
        Lib.hid fun W base g c1 c2 hb ho => same_any W _ _ (12 + z) c1 c2 _ f false (fun j _ => frm_lt _ _ _ (fun j => HF.out _) j) (fun j _ => HF.out j) (own_src ho) ((HS5.out.below hb).front _ (by omega)) ⟨fun h => absurd h (by decide), fun h => absurd h HT.out⟩
      clear HK HCP HZ7 HC0 HX5 HS3 HB5
      have hB0 : Below w5.heap.size w5 w5 := Below.refl _ _
      have hB : Below w5.heap.size w5 w5.drew := (Below.refl _ _).drew
      go_wp2
      go_region_held3 (fun W => W.cell? ⟨Q, 0, none⟩ = some (.int .i64 (y0 : Int)) ∧ W.cell? ⟨Q, 1, none⟩ = some (.slice (some ⟨g4, 0, none⟩) z cap4))
        (first | exact HK2.out _ hB | exact HK2.out _ hB0)
        (first
          | (go_at_call 13; refine (HTX.out _ hB).mono ?_; rintro e w6 ⟨g6, cp6, rfl, hown6, hb6⟩; replace hB := hB.trans (hb6.mono hB.size))
          | (go_at_call 11; refine (HSM.out _ _ g6 cp6 _ hB hown6).mono ?_; rintro e wN ⟨rfl, rfl⟩))
      have HB6 := Lib.hid (HBB5.out.trans (hB.mono HBB5.out.size))
      obtain ⟨⟨z0, z1⟩, fz⟩ := zcells ((hB.block _ hl5).trans HZ5.out)
      obtain ⟨k0, k1⟩ := HK2.out _ hB
      have HO6 := Lib.hid (own_below HO5.out hB)
      clear hB hB0 hb6 hown6 HTX HSM HK2
      go_wp2
      exact bodyPost_ret (v := .tuple #[zeroF, .int .i64 0, .int .i64 13]) (by simp [results, Try.results15, go_sem, zeroF, z0, z1]) rfl ⟨(HB6.out.setCell (Nat.le_refl _) _).setCell (Nat.le_refl _) _, .inl ⟨by rw [HE.out]; decide, by rw [HE.out]; rfl⟩⟩
    · have HB5 : Hid (Below w3.heap.size w3 ((w4.setCell ⟨w3.heap.size, 0, none⟩ (.int .i64 (y0 : Int))).setCell ⟨w3.heap.size, 1, none⟩ (.slice (some ⟨g4, 0, none⟩) z cap4))) := Lib.hid ((((((Below.refl _ _).drew).alloc (Nat.le_refl _) _).trans (hb4.mono hsz1)).setCell (Nat.le_refl _) _).setCell (Nat.le_refl _) _)
      have HX5 : Hid (((w4.setCell ⟨w3.heap.size, 0, none⟩ (.int .i64 (y0 : Int))).setCell ⟨w3.heap.size, 1, none⟩ (.slice (some ⟨g4, 0, none⟩) z cap4)).heap[w3.heap.size]? = some (.cells #[.int .i64 (y0 : Int), .slice (some ⟨g4, 0, none⟩) z cap4] 24 (0, 0))) := Lib.hid (heap_setCell_same _ w3.heap.size 1 _ 24 _ (heap_setCell_same _ w3.heap.size 0 _ 24 _ (HZ7.out _ hb4)))
      have HO5 : Hid (((w4.setCell ⟨w3.heap.size, 0, none⟩ (.int .i64 (y0 : Int))).setCell ⟨w3.heap.size, 1, none⟩ (.slice (some ⟨g4, 0, none⟩) z cap4)).ownsRow w3.heap.size 5 1 (.slice (some ⟨g4, 0, none⟩) z cap4) z (rowB (fun j => f (12 + j)) z)) := Lib.hid (own_kept2 (own_mono hown4 hsz1) (fun k hk => by have hk' : g4 = k := Option.some.inj hk; rw [← hk']; exact own_ne hown4 (HZ7.out _ hb4) (by decide)))
      clear hb4 hown4 q0 q1 fq
      generalize ((w4.setCell ⟨w3.heap.size, 0, none⟩ (.int .i64 (y0 : Int))).setCell ⟨w3.heap.size, 1, none⟩ (.slice (some ⟨g4, 0, none⟩) z cap4)) = w5 at *
      obtain ⟨Q, eQ⟩ : ∃ Q, Q = w3.heap.size := ⟨_, rfl⟩
      rw [← eQ] at HX5 ⊢
      clear eQ
      have HBB5 := Lib.hid (HB3.out.trans (HB5.out.mono HB3.out.size))
      have HZ5 := Lib.hid ((HB5.out.block _ hl3).trans HZ3.out)
      have HS5 := Lib.hid (HS3.out.below HB5.out)
      have hg4' := (own_cap HO5.out).2.2
      have hl5 : w.heap.size < w5.heap.size := Nat.lt_of_lt_of_le hl3 HB5.out.size
      have hQ : Q < w5.heap.size := by
        rcases Nat.lt_or_ge Q w5.heap.size with h' | h'
        · exact h'
        · have := HX5.out; rw [Array.getElem?_eq_none h'] at this; cases this
      have HK2 : Hid (∀ W, Below w5.heap.size w5 W → W.cell? ⟨Q, 0, none⟩ = some (.int .i64 (y0 : Int)) ∧ W.cell? ⟨Q, 1, none⟩ = some (.slice (some ⟨g4, 0, none⟩) z cap4)) := Lib.hid fun W hbw => (zcells ((hbw.block _ hQ).trans HX5.out)).1
      have HTX : Hid (∀ W, Below w5.heap.size w5 W → Calls Try.prog 13 #[.agg #[.int .i64 (y0 : Int), .slice (some ⟨g4, 0, none⟩) z cap4]] W fun e w' => ∃ g cp, e = .returned (.slice (some ⟨g, 0, none⟩) (12 + z) cp) ∧ w'.ownsRow W.heap.size 5 1 (.slice (some ⟨g, 0, none⟩) (12 + z) cp) (12 + z) (rowB (frm y0 z (fun j => f (12 + j))) (12 + z)) ∧ Below W.heap.size W w') :=
        Lib.hid fun W hb => text_any y0 _ z cap4 _ W hf0 (by omega) (fun j => HF.out _) ((own_src HO5.out).below hb) (fun h => by cases h)
      have HSM : Hid (∀ (W : World) base g c1 c2, Below w5.heap.size w5 W → W.ownsRow base 5 1 (.slice (some ⟨g, 0, none⟩) (12 + z) c1) (12 + z) (rowB (frm y0 z (fun j => f (12 + j))) (12 + z)) → Calls Try.prog 11 #[.slice (some ⟨g, 0, none⟩) (12 + z) c1, .slice (some ⟨b, off, none⟩) (12 + z) c2] W fun e w' => e = .returned (.bool false) ∧ W = w') :=
        Lib.hid fun W base g c1 c2 hb ho => same_any W _ _ (12 + z) c1 c2 _ f false (fun j _ => frm_lt _ _ _ (fun j => HF.out _) j) (fun j _ => HF.out j) (own_src ho) ((HS5.out.below hb).front _ (by omega)) ⟨fun h => absurd h (by decide), fun h => absurd h HT.out⟩
      clear HK HCP HZ7 HC0 HX5 HS3 HB5
      have hB0 : Below w5.heap.size w5 w5 := Below.refl _ _
      have hB : Below w5.heap.size w5 w5.drew := (Below.refl _ _).drew
      go_wp2
      go_region_held3 (fun W => W.cell? ⟨Q, 0, none⟩ = some (.int .i64 (y0 : Int)) ∧ W.cell? ⟨Q, 1, none⟩ = some (.slice (some ⟨g4, 0, none⟩) z cap4))
        (first | exact HK2.out _ hB | exact HK2.out _ hB0)
        (first
          | (go_at_call 13; refine (HTX.out _ hB).mono ?_; rintro e w6 ⟨g6, cp6, rfl, hown6, hb6⟩; replace hB := hB.trans (hb6.mono hB.size))
          | (go_at_call 11; refine (HSM.out _ _ g6 cp6 _ hB hown6).mono ?_; rintro e wN ⟨rfl, rfl⟩))
      have HB6 := Lib.hid (HBB5.out.trans (hB.mono HBB5.out.size))
      obtain ⟨⟨z0, z1⟩, fz⟩ := zcells ((hB.block _ hl5).trans HZ5.out)
      obtain ⟨k0, k1⟩ := HK2.out _ hB
      have HO6 := Lib.hid (own_below HO5.out hB)
      clear hB hB0 hb6 hown6 HTX HSM HK2
      go_wp2
      exact bodyPost_ret (v := .tuple #[zeroF, .int .i64 0, .int .i64 13]) (by simp [results, Try.results15, go_sem, zeroF, z0, z1]) rfl ⟨(HB6.out.setCell (Nat.le_refl _) _).setCell (Nat.le_refl _) _, .inl ⟨by rw [HE.out]; decide, by rw [HE.out]; rfl⟩⟩
  · have hc13 : ¬ 12 = cap := by omega
    have hc14 : (12 : Int) ≤ (cap : Int) := by omega
    have HCP : Hid (∀ W c, Below w3.heap.size w3 W → Calls Try.prog 9 #[.slice (some ⟨b, off + 12, none⟩) z c] W (CopySome z (fun j => f (12 + j)) W)) :=
      Lib.hid fun W c hb => rcopy_some _ _ c _ W (by omega) ((HS3.out.below hb).part 12 z (by omega)) (fun h => by cases h)
    go_wp2
    go_region_held3 (fun W => W.cell? ⟨b, off, none⟩ = some (.int .u8 (y0 : Int)))
      (first
        | exact HK.out _ ((Below.refl _ _).drew)
        | exact HK.out _ (Below.refl _ _)
        | exact HK.out _ (((Below.refl _ _).drew).alloc (Nat.le_refl _) _)
        | exact HK.out _ (((Below.refl _ _).drew).trans hb4)
        | exact HK.out _ ((((Below.refl _ _).drew).trans hb4).alloc hb4.size _)
        | exact HK.out _ ((((Below.refl _ _).drew).alloc (Nat.le_refl _) _).trans (hb4.mono hsz1))
        | exact HK.out _ ((((((Below.refl _ _).drew).alloc (Nat.le_refl _) _).trans (hb4.mono hsz1)).setCell (Nat.le_refl _) _).setCell (Nat.le_refl _) _))
      (first
        | (go_at_call 9; refine (HCP.out _ _ ((Below.refl _ _).drew)).mono ?_; rintro e w4 ⟨g4, cap4, rfl, hg4, hown4, hb4⟩)
        | (go_at_call 9; refine (HCP.out _ _ (((Below.refl _ _).drew).alloc (Nat.le_refl _) _)).mono ?_; rintro e w4 ⟨g4, cap4, rfl, hg4, hown4, hb4⟩; obtain ⟨⟨q0, q1⟩, fq⟩ := zcells (HZ7.out _ hb4)))
    · have HB5 : Hid (Below w3.heap.size w3 (w4.alloc (.cells #[.int .i64 (y0 : Int), .slice (some ⟨g4, 0, none⟩) z cap4] 24))) := Lib.hid ((((Below.refl _ _).drew).trans hb4).alloc hb4.size _)
      have HX5 : Hid ((w4.alloc (.cells #[.int .i64 (y0 : Int), .slice (some ⟨g4, 0, none⟩) z cap4] 24)).heap[w4.heap.size]? = some (.cells #[.int .i64 (y0 : Int), .slice (some ⟨g4, 0, none⟩) z cap4] 24 (0, 0))) := Lib.hid (heap_alloc_new w4 _)
      have HO5 : Hid ((w4.alloc (.cells #[.int .i64 (y0 : Int), .slice (some ⟨g4, 0, none⟩) z cap4] 24)).ownsRow w3.heap.size 5 1 (.slice (some ⟨g4, 0, none⟩) z cap4) z (rowB (fun j => f (12 + j)) z)) := Lib.hid (hown4.alloc _)
      clear hb4 hown4
      generalize (w4.alloc (.cells #[.int .i64 (y0 : Int), .slice (some ⟨g4, 0, none⟩) z cap4] 24)) = w5 at *
      generalize w4.heap.size = Q at *
      have HBB5 := Lib.hid (HB3.out.trans (HB5.out.mono HB3.out.size))
      have HZ5 := Lib.hid ((HB5.out.block _ hl3).trans HZ3.out)
      have HS5 := Lib.hid (HS3.out.below HB5.out)
      have hg4' := (own_cap HO5.out).2.2
      have hl5 : w.heap.size < w5.heap.size := Nat.lt_of_lt_of_le hl3 HB5.out.size
      have hQ : Q < w5.heap.size := by
        rcases Nat.lt_or_ge Q w5.heap.size with h' | h'
        · exact h'
        · have := HX5.out; rw [Array.getElem?_eq_none h'] at this; cases this
      have HK2 : Hid (∀ W, Below w5.heap.size w5 W → W.cell? ⟨Q, 0, none⟩ = some (.int .i64 (y0 : Int)) ∧ W.cell? ⟨Q, 1, none⟩ = some (.slice (some ⟨g4, 0, none⟩) z cap4)) := Lib.hid fun W hbw => (zcells ((hbw.block _ hQ).trans HX5.out)).1
      have HTX : Hid (∀ W, Below w5.heap.size w5 W → Calls Try.prog 13 #[.agg #[.int .i64 (y0 : Int), .slice (some ⟨g4, 0, none⟩) z cap4]] W fun e w' => ∃ g cp, e = .returned (.slice (some ⟨g, 0, none⟩) (12 + z) cp) ∧ w'.ownsRow W.heap.size 5 1 (.slice (some ⟨g, 0, none⟩) (12 + z) cp) (12 + z) (rowB (frm y0 z (fun j => f (12 + j))) (12 + z)) ∧ Below W.heap.size W w') :=
        Lib.hid fun W hb => text_any y0 _ z cap4 _ W hf0 (by omega) (fun j => HF.out _) ((own_src HO5.out).below hb) (fun h => by cases h)
      have HSM : Hid (∀ (W : World) base g c1 c2, Below w5.heap.size w5 W → W.ownsRow base 5 1 (.slice (some ⟨g, 0, none⟩) (12 + z) c1) (12 + z) (rowB (frm y0 z (fun j => f (12 + j))) (12 + z)) → Calls Try.prog 11 #[.slice (some ⟨g, 0, none⟩) (12 + z) c1, .slice (some ⟨b, off, none⟩) (12 + z) c2] W fun e w' => e = .returned (.bool false) ∧ W = w') :=
        Lib.hid fun W base g c1 c2 hb ho => same_any W _ _ (12 + z) c1 c2 _ f false (fun j _ => frm_lt _ _ _ (fun j => HF.out _) j) (fun j _ => HF.out j) (own_src ho) ((HS5.out.below hb).front _ (by omega)) ⟨fun h => absurd h (by decide), fun h => absurd h HT.out⟩
      clear HK HCP HZ7 HC0 HX5 HS3 HB5
      have hB0 : Below w5.heap.size w5 w5 := Below.refl _ _
      have hB : Below w5.heap.size w5 w5.drew := (Below.refl _ _).drew
      go_wp2
      go_region_held3 (fun W => W.cell? ⟨Q, 0, none⟩ = some (.int .i64 (y0 : Int)) ∧ W.cell? ⟨Q, 1, none⟩ = some (.slice (some ⟨g4, 0, none⟩) z cap4))
        (first | exact HK2.out _ hB | exact HK2.out _ hB0)
        (first
          | (go_at_call 13; refine (HTX.out _ hB).mono ?_; rintro e w6 ⟨g6, cp6, rfl, hown6, hb6⟩; replace hB := hB.trans (hb6.mono hB.size))
          | (go_at_call 11; refine (HSM.out _ _ g6 cp6 _ hB hown6).mono ?_; rintro e wN ⟨rfl, rfl⟩))
      have HB6 := Lib.hid (HBB5.out.trans (hB.mono HBB5.out.size))
      obtain ⟨⟨z0, z1⟩, fz⟩ := zcells ((hB.block _ hl5).trans HZ5.out)
      obtain ⟨k0, k1⟩ := HK2.out _ hB
      have HO6 := Lib.hid (own_below HO5.out hB)
      clear hB hB0 hb6 hown6 HTX HSM HK2
      go_wp2
      exact bodyPost_ret (v := .tuple #[zeroF, .int .i64 0, .int .i64 13]) (by simp [results, Try.results15, go_sem, zeroF, z0, z1]) rfl ⟨(HB6.out.setCell (Nat.le_refl _) _).setCell (Nat.le_refl _) _, .inl ⟨by rw [HE.out]; decide, by rw [HE.out]; rfl⟩⟩
    · have HB5 : Hid (Below w3.heap.size w3 ((w4.setCell ⟨w3.heap.size, 0, none⟩ (.int .i64 (y0 : Int))).setCell ⟨w3.heap.size, 1, none⟩ (.slice (some ⟨g4, 0, none⟩) z cap4))) := Lib.hid ((((((Below.refl _ _).drew).alloc (Nat.le_refl _) _).trans (hb4.mono hsz1)).setCell (Nat.le_refl _) _).setCell (Nat.le_refl _) _)
      have HX5 : Hid (((w4.setCell ⟨w3.heap.size, 0, none⟩ (.int .i64 (y0 : Int))).setCell ⟨w3.heap.size, 1, none⟩ (.slice (some ⟨g4, 0, none⟩) z cap4)).heap[w3.heap.size]? = some (.cells #[.int .i64 (y0 : Int), .slice (some ⟨g4, 0, none⟩) z cap4] 24 (0, 0))) := Lib.hid (heap_setCell_same _ w3.heap.size 1 _ 24 _ (heap_setCell_same _ w3.heap.size 0 _ 24 _ (HZ7.out _ hb4)))
      have HO5 : Hid (((w4.setCell ⟨w3.heap.size, 0, none⟩ (.int .i64 (y0 : Int))).setCell ⟨w3.heap.size, 1, none⟩ (.slice (some ⟨g4, 0, none⟩) z cap4)).ownsRow w3.heap.size 5 1 (.slice (some ⟨g4, 0, none⟩) z cap4) z (rowB (fun j => f (12 + j)) z)) := Lib.hid (own_kept2 (own_mono hown4 hsz1) (fun k hk => by have hk' : g4 = k := Option.some.inj hk; rw [← hk']; exact own_ne hown4 (HZ7.out _ hb4) (by decide)))
      clear hb4 hown4 q0 q1 fq
      generalize ((w4.setCell ⟨w3.heap.size, 0, none⟩ (.int .i64 (y0 : Int))).setCell ⟨w3.heap.size, 1, none⟩ (.slice (some ⟨g4, 0, none⟩) z cap4)) = w5 at *
      obtain ⟨Q, eQ⟩ : ∃ Q, Q = w3.heap.size := ⟨_, rfl⟩
      rw [← eQ] at HX5 ⊢
      clear eQ
      have HBB5 := Lib.hid (HB3.out.trans (HB5.out.mono HB3.out.size))
      have HZ5 := Lib.hid ((HB5.out.block _ hl3).trans HZ3.out)
      have HS5 := Lib.hid (HS3.out.below HB5.out)
      have hg4' := (own_cap HO5.out).2.2
      have hl5 : w.heap.size < w5.heap.size := Nat.lt_of_lt_of_le hl3 HB5.out.size
      have hQ : Q < w5.heap.size := by
        rcases Nat.lt_or_ge Q w5.heap.size with h' | h'
        · exact h'
        · have := HX5.out; rw [Array.getElem?_eq_none h'] at this; cases this
      have HK2 : Hid (∀ W, Below w5.heap.size w5 W → W.cell? ⟨Q, 0, none⟩ = some (.int .i64 (y0 : Int)) ∧ W.cell? ⟨Q, 1, none⟩ = some (.slice (some ⟨g4, 0, none⟩) z cap4)) := Lib.hid fun W hbw => (zcells ((hbw.block _ hQ).trans HX5.out)).1
      have HTX : Hid (∀ W, Below w5.heap.size w5 W → Calls Try.prog 13 #[.agg #[.int .i64 (y0 : Int), .slice (some ⟨g4, 0, none⟩) z cap4]] W fun e w' => ∃ g cp, e = .returned (.slice (some ⟨g, 0, none⟩) (12 + z) cp) ∧ w'.ownsRow W.heap.size 5 1 (.slice (some ⟨g, 0, none⟩) (12 + z) cp) (12 + z) (rowB (frm y0 z (fun j => f (12 + j))) (12 + z)) ∧ Below W.heap.size W w') :=
        Lib.hid fun W hb => text_any y0 _ z cap4 _ W hf0 (by omega) (fun j => HF.out _) ((own_src HO5.out).below hb) (fun h => by cases h)
      have HSM : Hid (∀ (W : World) base g c1 c2, Below w5.heap.size w5 W → W.ownsRow base 5 1 (.slice (some ⟨g, 0, none⟩) (12 + z) c1) (12 + z) (rowB (frm y0 z (fun j => f (12 + j))) (12 + z)) → Calls Try.prog 11 #[.slice (some ⟨g, 0, none⟩) (12 + z) c1, .slice (some ⟨b, off, none⟩) (12 + z) c2] W fun e w' => e = .returned (.bool false) ∧ W = w') :=
        Lib.hid fun W base g c1 c2 hb ho => same_any W _ _ (12 + z) c1 c2 _ f false (fun j _ => frm_lt _ _ _ (fun j => HF.out _) j) (fun j _ => HF.out j) (own_src ho) ((HS5.out.below hb).front _ (by omega)) ⟨fun h => absurd h (by decide), fun h => absurd h HT.out⟩
      clear HK HCP HZ7 HC0 HX5 HS3 HB5
      have hB0 : Below w5.heap.size w5 w5 := Below.refl _ _
      have hB : Below w5.heap.size w5 w5.drew := (Below.refl _ _).drew
      go_wp2
      go_region_held3 (fun W => W.cell? ⟨Q, 0, none⟩ = some (.int .i64 (y0 : Int)) ∧ W.cell? ⟨Q, 1, none⟩ = some (.slice (some ⟨g4, 0, none⟩) z cap4))
        (first | exact HK2.out _ hB | exact HK2.out _ hB0)
        (first
          | (go_at_call 13; refine (HTX.out _ hB).mono ?_; rintro e w6 ⟨g6, cp6, rfl, hown6, hb6⟩; replace hB := hB.trans (hb6.mono hB.size))
          | (go_at_call 11; refine (HSM.out _ _ g6 cp6 _ hB hown6).mono ?_; rintro e wN ⟨rfl, rfl⟩))
      have HB6 := Lib.hid (HBB5.out.trans (hB.mono HBB5.out.size))
      obtain ⟨⟨z0, z1⟩, fz⟩ := zcells ((hB.block _ hl5).trans HZ5.out)
      obtain ⟨k0, k1⟩ := HK2.out _ hB
      have HO6 := Lib.hid (own_below HO5.out hB)
      clear hB hB0 hb6 hown6 HTX HSM HK2
      go_wp2
      exact bodyPost_ret (v := .tuple #[zeroF, .int .i64 0, .int .i64 13]) (by simp [results, Try.results15, go_sem, zeroF, z0, z1]) rfl ⟨(HB6.out.setCell (Nat.le_refl _) _).setCell (Nat.le_refl _) _, .inl ⟨by rw [HE.out]; decide, by rw [HE.out]; rfl⟩⟩

set_option maxHeartbeats 2000000 in
theorem rd_ok (b off n cap : Nat) (f : Nat → Nat) (w : World) (hn : 8 ≤ n) (hc : n ≤ cap) (hf : ∀ j, f j < 256) (hs : Src w (some ⟨b, off, none⟩) n f) (hg : good1 f) (hz : sizeOf' f ≤ 65536 ∧ 12 + sizeOf' f ≤ n) (hg2 : good2 f) : Calls Try.prog 15 #[.slice (some ⟨b, off, none⟩) n cap] w (DecPost f n w) := by
  have HE : Hid (derr f n = 0) := Lib.hid (by unfold derr; rw [if_neg (by omega), if_neg (fun h => h hg), if_neg (by omega), if_neg (by omega), if_neg (fun h => h hg2)])
  have HZZ := Lib.hid hz
  have HG2 := Lib.hid hg2
  have HG1 := Lib.hid hg
  clear hz hg2
  have HF := Lib.hid hf
  have HS := Lib.hid hs
  have HG : Hid (∀ j, j < 4 → big (CrcMath.more 0 f 4) j = f (4 + j)) := Lib.hid (fun j hj => (hg j hj).symm)
  have hn' : ¬ (n : Int) < 8 := by omega
  have hn4 : (4 : Int) ≤ (n : Int) := by omega
  have hn8 : (8 : Int) ≤ (n : Int) := by omega
  have hc4 : (4 : Int) ≤ (cap : Int) := by omega
  have hc8 : (8 : Int) ≤ (cap : Int) := by omega
  have hcn : (n : Int) ≤ (cap : Int) := by omega
  have hc5 : ¬ cap = 4 := by omega
  have hc6 : ¬ 4 = cap := by omega
  have HZ : Hid (Below w.heap.size w (w.alloc (.cells #[.int .i64 0, .slice none 0 0] 24))) := Lib.hid ((Below.refl _ _).alloc (Nat.le_refl _) _)
  have HZ1 : Hid ((w.alloc (.cells #[.int .i64 0, .slice none 0 0] 24)).heap[w.heap.size]? = some (.cells #[.int .i64 0, .slice none 0 0] 24 (0, 0))) := Lib.hid (heap_alloc_new w _)
  have hl1 : w.heap.size < (w.alloc (.cells #[.int .i64 0, .slice none 0 0] 24)).heap.size := by simp
  clear hf hs hg
  go_enter Try.func15, Try.ntmps15
  go_wp2
  generalize (w.alloc (.cells #[.int .i64 0, .slice none 0 0] 24)) = w1 at *
  have HS1 := Lib.hid (HS.out.below HZ.out)
  have HL := Lib.hid (CrcMath.more_lt 0 f 4 (by decide) fun j _ => HF.out j)
  have HSU : Hid (∀ W c, Below w1.heap.size w1 W → Calls Try.prog 26 #[.slice (some ⟨b, off, none⟩) 4 c] W fun e w' => e = .returned (.int .u32 ((CrcMath.more 0 f 4 : Nat) : Int)) ∧ W = w') :=
    Lib.hid fun W c hb => rsum_any _ 4 c f W (by omega) (fun j _ => HF.out j) ((HS1.out.below hb).front 4 (by omega))
  have HSA : Hid (∀ (W : World) c, Below w1.heap.size w1 W → Calls Try.prog 11 #[.slice (some ⟨W.heap.size, 0, none⟩) 4 4, .slice (some ⟨b, off + 4, none⟩) 4 c] (W.alloc (.cells (cells4 (big (CrcMath.more 0 f 4))) 5)) fun e w' => e = .returned (.bool true) ∧ W.alloc (.cells (cells4 (big (CrcMath.more 0 f 4))) 5) = w') :=
    Lib.hid fun W c hb => same_any _ _ _ 4 4 c _ _ true (fun j _ => big_lt _ j) (fun j _ => HF.out _) (lfour_src W _) (((HS1.out.below hb).below ((Below.refl _ _).alloc (Nat.le_refl _) _)).part 4 4 (by omega)) ⟨fun _ => HG.out, fun _ => rfl⟩
  obtain ⟨s, es⟩ : ∃ s, s = CrcMath.more 0 f 4 := ⟨_, rfl⟩
  rw [← es] at HL HSU HSA
  have HES := Lib.hid es
  clear es
  have hw : IntKind.u64.wrap (s : Int) = (s : Int) := by have := HL.out; rw [IntKind.wrap_u64]; omega
  have hB : Below w1.heap.size w1 w1.drew := (Below.refl _ _).drew
  go_region_held3 (fun _ => True) (trivial)
    (first
      | (go_at_call 26; refine (HSU.out _ _ hB).mono ?_; rintro e wN ⟨rfl, rfl⟩)
      | (go_at_call 25; refine (lfour_any s _ HL.out).mono ?_; rintro e wN ⟨rfl, rfl⟩)
      | (go_at_call 11; refine (HSA.out _ _ hB).mono ?_; rintro e wN ⟨rfl, rfl⟩))
  have HB2' : Hid (Below w1.heap.size w1 (w1.alloc (.cells (cells4 (big s)) 5)).drew) := Lib.hid ((Below.refl _ _).alloc (Nat.le_refl _) _).drew
  clear hB
  go_simp
  generalize (w1.alloc (.cells (cells4 (big s)) 5)).drew = w2 at *
  have HZ2 := Lib.hid ((HB2'.out.block _ hl1).trans HZ1.out)
  have HB2 := Lib.hid (HZ.out.trans (HB2'.out.mono HZ.out.size))
  have HS2 := Lib.hid (HS1.out.below HB2'.out)
  have hl2 : w.heap.size < w2.heap.size := Nat.lt_of_lt_of_le hl1 HB2'.out.size
  clear HB2' HSU HSA HZ1 HS1 hl1
  obtain ⟨c1, c2, c3⟩ : w2.cell? ⟨b, off + 1, none⟩ = some (.int .u8 ((f 1 : Nat) : Int)) ∧ w2.cell? ⟨b, off + 2, none⟩ = some (.int .u8 ((f 2 : Nat) : Int)) ∧ w2.cell? ⟨b, off + 3, none⟩ = some (.int .u8 ((f 3 : Nat) : Int)) := by
    obtain ⟨ad, e, _, hcc⟩ := HS2.out (by omega)
    injection e with e
    subst e
    have h1 := hcc 1 (by omega)
    have h2 := hcc 2 (by omega)
    have h3 := hcc 3 (by omega)
    rw [Go.WideShapes.add_plain] at h1 h2 h3
    exact ⟨h1, h2, h3⟩
  have hsize := size_eq f HF.out
  have hf1 := HF.out 1
  have hf2 := HF.out 2
  have hf3 := HF.out 3
  have hz24 : sizeOf' f < 16777216 := Nat.mod_lt _ (by decide)
  obtain ⟨z, ez⟩ : ∃ z, z = sizeOf' f := ⟨_, rfl⟩
  rw [← ez] at hsize hz24 HZZ
  have HZD := Lib.hid ez.symm
  clear ez
  generalize f 1 = y1 at c1 hsize hf1
  generalize f 2 = y2 at c2 hsize hf2
  generalize f 3 = y3 at c3 hsize hf3
  have hn1 : (1 : Int) < (n : Int) := by omega
  have hn2 : (2 : Int) < (n : Int) := by omega
  have hn3 : (3 : Int) < (n : Int) := by omega
  go_wp2
  go_quiet (fail)
  have HZ3 : Hid ((w2.drewN nq).heap[w.heap.size]? = some (.cells #[.int .i64 0, .slice none 0 0] 24 (0, 0))) := HZ2
  have HB3 : Hid (Below w.heap.size w (w2.drewN nq)) := Lib.hid (below_drewN HB2.out nq)
  have HS3 : Hid (Src (w2.drewN nq) (some ⟨b, off, none⟩) n f) := Lib.hid (HS2.out.drewN nq)
  have hl3 : w.heap.size < (w2.drewN nq).heap.size := hl2
  clear c1 c2 c3 HZ2 HB2 HS2 hl2
  generalize w2.drewN nq = w3 at *
  have hz' : ¬ (65536 : Int) < (z : Int) := by have := HZZ.out; omega
  have hcut' : ¬ (n : Int) < 12 + (z : Int) := by have := HZZ.out; omega
  have hzn : z ≤ 65536 := HZZ.out.1
  have hzc : 12 + z ≤ n := HZZ.out.2
  have hcz : 12 + (z : Int) ≤ (cap : Int) := by omega
  have hnz : 12 + (z : Int) ≤ (n : Int) := by omega
  have hcz1 : (12 : Int) ≤ 12 + (z : Int) := by omega
  have hcz2 : (0 : Int) ≤ 12 + (z : Int) := by omega
  have hwz : IntKind.i64.wrap (12 + (z : Int)) = 12 + (z : Int) := by rw [IntKind.wrap_i64]; omega
  have hn0 : (0 : Int) < (n : Int) := by omega
  have htn1 : (12 + (z : Int)).toNat = 12 + z := by omega
  have htn2 : 12 + z - 12 = z := by omega
  have HC0 : Hid (w3.cell? ⟨b, off, none⟩ = some (.int .u8 ((f 0 : Nat) : Int))) := Lib.hid (by
    obtain ⟨ad, e, _, hcc⟩ := HS3.out (by omega)
    injection e with e
    subst e
    have h1 := hcc 0 (by omega)
    rwa [Go.WideShapes.add_plain] at h1)
  have hbl : b < w3.heap.size := by
    obtain ⟨ad, e, hl, _⟩ := HS3.out (by omega)
    injection e with e
    subst e
    exact hl
  have hf0 := HF.out 0
  obtain ⟨y0, ey0⟩ : ∃ y0, y0 = f 0 := ⟨_, rfl⟩
  rw [← ey0] at HC0 hf0
  have HY0 := Lib.hid ey0
  clear ey0
  have hwy : IntKind.i64.wrap (y0 : Int) = (y0 : Int) := by rw [IntKind.wrap_i64]; omega
  have hn0' : 0 < n := by omega
  have HK : Hid (∀ W, Below w3.heap.size w3 W → W.cell? ⟨b, off, none⟩ = some (.int .u8 (y0 : Int))) := Lib.hid fun W hbw => (hbw.cell hbl).trans HC0.out
  have HZ7 : Hid (∀ W, Below (w3.drew.alloc (.cells #[.int .i64 0, .slice none 0 0] 24)).heap.size (w3.drew.alloc (.cells #[.int .i64 0, .slice none 0 0] 24)) W → W.heap[w3.heap.size]? = some (.cells #[.int .i64 0, .slice none 0 0] 24 (0, 0))) := Lib.hid fun W hbw => (hbw.block _ (by simp)).trans (heap_alloc_new w3.drew _)
  have hsz1 : w3.heap.size ≤ (w3.drew.alloc (.cells #[.int .i64 0, .slice none 0 0] 24)).heap.size := by simp
  have HT : Hid (∀ j, j < 12 + z → frm y0 z (fun j => f (12 + j)) j = f j) := Lib.hid (by rw [HY0.out]; exact (text_is f HF.out HG1.out z HZD.out.symm).2 HG2.out)
  by_cases hc12 : cap = 12
  · have HZ0 : Hid (z = 0) := Lib.hid (by omega)
    have hcz' : 12 + (z : Int) ≤ 12 := by omega
    subst hc12
    have HCP : Hid (∀ W c, Below w3.heap.size w3 W → Calls Try.prog 9 #[.slice (some ⟨b, off, none⟩) z c] W (CopySome z (fun j => f (12 + j)) W)) :=
      Lib.hid fun W c hb => rcopy_some _ _ c _ W (by omega) (fun h => absurd h (by have := HZ0.out; omega)) (fun h => by cases h)
    go_wp2
    go_region_held3 (fun W => W.cell? ⟨b, off, none⟩ = some (.int .u8 (y0 : Int)))
      (first
        | exact HK.out _ ((Below.refl _ _).drew)
        | exact HK.out _ (Below.refl _ _)
        | exact HK.out _ (((Below.refl _ _).drew).alloc (Nat.le_refl _) _)
        | exact HK.out _ (((Below.refl _ _).drew).trans hb4)
        | exact HK.out _ ((((Below.refl _ _).drew).trans hb4).alloc hb4.size _)
        | exact HK.out _ ((((Below.refl _ _).drew).alloc (Nat.le_refl _) _).trans (hb4.mono hsz1))
        | exact HK.out _ ((((((Below.refl _ _).drew).alloc (Nat.le_refl _) _).trans (hb4.mono hsz1)).setCell (Nat.le_refl _) _).setCell (Nat.le_refl _) _))
      (first
        | (go_at_call 9; refine (HCP.out _ _ ((Below.refl _ _).drew)).mono ?_; rintro e w4 ⟨g4, cap4, rfl, hg4, hown4, hb4⟩)
        | (go_at_call 9; refine (HCP.out _ _ (((Below.refl _ _).drew).alloc (Nat.le_refl _) _)).mono ?_; rintro e w4 ⟨g4, cap4, rfl, hg4, hown4, hb4⟩; obtain ⟨⟨q0, q1⟩, fq⟩ := zcells (HZ7.out _ hb4)))
    · have HB5 : Hid (Below w3.heap.size w3 (w4.alloc (.cells #[.int .i64 (y0 : Int), .slice (some ⟨g4, 0, none⟩) z cap4] 24))) := Lib.hid ((((Below.refl _ _).drew).trans hb4).alloc hb4.size _)
      have HX5 : Hid ((w4.alloc (.cells #[.int .i64 (y0 : Int), .slice (some ⟨g4, 0, none⟩) z cap4] 24)).heap[w4.heap.size]? = some (.cells #[.int .i64 (y0 : Int), .slice (some ⟨g4, 0, none⟩) z cap4] 24 (0, 0))) := Lib.hid (heap_alloc_new w4 _)
      have HO5 : Hid ((w4.alloc (.cells #[.int .i64 (y0 : Int), .slice (some ⟨g4, 0, none⟩) z cap4] 24)).ownsRow w3.heap.size 5 1 (.slice (some ⟨g4, 0, none⟩) z cap4) z (rowB (fun j => f (12 + j)) z)) := Lib.hid (hown4.alloc _)
      clear hb4 hown4
      generalize (w4.alloc (.cells #[.int .i64 (y0 : Int), .slice (some ⟨g4, 0, none⟩) z cap4] 24)) = w5 at *
      generalize w4.heap.size = Q at *
      have HBB5 := Lib.hid (HB3.out.trans (HB5.out.mono HB3.out.size))
      have HZ5 := Lib.hid ((HB5.out.block _ hl3).trans HZ3.out)
      have HS5 := Lib.hid (HS3.out.below HB5.out)
      have hg4' := (own_cap HO5.out).2.2
      have hl5 : w.heap.size < w5.heap.size := Nat.lt_of_lt_of_le hl3 HB5.out.size
      have hQ : Q < w5.heap.size := by
        rcases Nat.lt_or_ge Q w5.heap.size with h' | h'
        · exact h'
        · have := HX5.out; rw [Array.getElem?_eq_none h'] at this; cases this
      have HK2 : Hid (∀ W, Below w5.heap.size w5 W → W.cell? ⟨Q, 0, none⟩ = some (.int .i64 (y0 : Int)) ∧ W.cell? ⟨Q, 1, none⟩ = some (.slice (some ⟨g4, 0, none⟩) z cap4)) := Lib.hid fun W hbw => (zcells ((hbw.block _ hQ).trans HX5.out)).1
      have HTX : Hid (∀ W, Below w5.heap.size w5 W → Calls Try.prog 13 #[.agg #[.int .i64 (y0 : Int), .slice (some ⟨g4, 0, none⟩) z cap4]] W fun e w' => ∃ g cp, e = .returned (.slice (some ⟨g, 0, none⟩) (12 + z) cp) ∧ w'.ownsRow W.heap.size 5 1 (.slice (some ⟨g, 0, none⟩) (12 + z) cp) (12 + z) (rowB (frm y0 z (fun j => f (12 + j))) (12 + z)) ∧ Below W.heap.size W w') :=
        Lib.hid fun W hb => text_any y0 _ z cap4 _ W hf0 (by omega) (fun j => HF.out _) ((own_src HO5.out).below hb) (fun h => by cases h)
      have HSM : Hid (∀ (W : World) base g c1 c2, Below w5.heap.size w5 W → W.ownsRow base 5 1 (.slice (some ⟨g, 0, none⟩) (12 + z) c1) (12 + z) (rowB (frm y0 z (fun j => f (12 + j))) (12 + z)) → Calls Try.prog 11 #[.slice (some ⟨g, 0, none⟩) (12 + z) c1, .slice (some ⟨b, off, none⟩) (12 + z) c2] W fun e w' => e = .returned (.bool true) ∧ W = w') :=
        Lib.hid fun W base g c1 c2 hb ho => same_any W _ _ (12 + z) c1 c2 _ f true (fun j _ => frm_lt _ _ _ (fun j => HF.out _) j) (fun j _ => HF.out j) (own_src ho) ((HS5.out.below hb).front _ (by omega)) ⟨fun _ => HT.out, fun _ => rfl⟩
      clear HK HCP HZ7 HC0 HX5 HS3 HB5
      have hB0 : Below w5.heap.size w5 w5 := Below.refl _ _
      have hB : Below w5.heap.size w5 w5.drew := (Below.refl _ _).drew
      go_wp2
      go_region_held3 (fun W => W.cell? ⟨Q, 0, none⟩ = some (.int .i64 (y0 : Int)) ∧ W.cell? ⟨Q, 1, none⟩ = some (.slice (some ⟨g4, 0, none⟩) z cap4))
        (first | exact HK2.out _ hB | exact HK2.out _ hB0)
        (first
          | (go_at_call 13; refine (HTX.out _ hB).mono ?_; rintro e w6 ⟨g6, cp6, rfl, hown6, hb6⟩; replace hB := hB.trans (hb6.mono hB.size))
          | (go_at_call 11; refine (HSM.out _ _ g6 cp6 _ hB hown6).mono ?_; rintro e wN ⟨rfl, rfl⟩))
      have HB6 := Lib.hid (HBB5.out.trans (hB.mono HBB5.out.size))
      obtain ⟨⟨z0, z1⟩, fz⟩ := zcells ((hB.block _ hl5).trans HZ5.out)
      obtain ⟨k0, k1⟩ := HK2.out _ hB
      have HO6 := Lib.hid (own_below HO5.out hB)
      clear hB hB0 hb6 hown6 HTX HSM HK2
      go_wp2
      refine bodyPost_ret (v := .tuple #[.agg #[.int .i64 (y0 : Int), .slice (some ⟨g4, 0, none⟩) z cap4], .int .i64 (12 + ((z : Nat) : Int)), .int .i64 0]) (by simp [results, Try.results15, go_sem, z0, z1]) rfl ⟨(HB6.out.setCell (Nat.le_refl _) _).setCell (Nat.le_refl _) _, .inr ⟨HE.out, some ⟨g4, 0, none⟩, cap4, ?_, ?_, fun h => by cases h⟩⟩
      · rw [kind_eq f HF.out, HZD.out, ← HY0.out]; rfl
      · rw [HZD.out]
        exact own_kept2 (own_mono HO6.out (Nat.le_of_lt hl3)) (fun k hk => by have hk' : g4 = k := Option.some.inj hk; omega)
    · have HB5 : Hid (Below w3.heap.size w3 ((w4.setCell ⟨w3.heap.size, 0, none⟩ (.int .i64 (y0 : Int))).setCell ⟨w3.heap.size, 1, none⟩ (.slice (some ⟨g4, 0, none⟩) z cap4))) := Lib.hid ((((((Below.refl _ _).drew).alloc (Nat.le_refl _) _).trans (hb4.mono hsz1)).setCell (Nat.le_refl _) _).setCell (Nat.le_refl _) _)
      have HX5 : Hid (((w4.setCell ⟨w3.heap.size, 0, none⟩ (.int .i64 (y0 : Int))).setCell ⟨w3.heap.size, 1, none⟩ (.slice (some ⟨g4, 0, none⟩) z cap4)).heap[w3.heap.size]? = some (.cells #[.int .i64 (y0 : Int), .slice (some ⟨g4, 0, none⟩) z cap4] 24 (0, 0))) := Lib.hid (heap_setCell_same _ w3.heap.size 1 _ 24 _ (heap_setCell_same _ w3.heap.size 0 _ 24 _ (HZ7.out _ hb4)))
      have HO5 : Hid (((w4.setCell ⟨w3.heap.size, 0, none⟩ (.int .i64 (y0 : Int))).setCell ⟨w3.heap.size, 1, none⟩ (.slice (some ⟨g4, 0, none⟩) z cap4)).ownsRow w3.heap.size 5 1 (.slice (some ⟨g4, 0, none⟩) z cap4) z (rowB (fun j => f (12 + j)) z)) := Lib.hid (own_kept2 (own_mono hown4 hsz1) (fun k hk => by have hk' : g4 = k := Option.some.inj hk; rw [← hk']; exact own_ne hown4 (HZ7.out _ hb4) (by decide)))
      clear hb4 hown4 q0 q1 fq
      generalize ((w4.setCell ⟨w3.heap.size, 0, none⟩ (.int .i64 (y0 : Int))).setCell ⟨w3.heap.size, 1, none⟩ (.slice (some ⟨g4, 0, none⟩) z cap4)) = w5 at *
      obtain ⟨Q, eQ⟩ : ∃ Q, Q = w3.heap.size := ⟨_, rfl⟩
      rw [← eQ] at HX5 ⊢
      clear eQ
      have HBB5 := Lib.hid (HB3.out.trans (HB5.out.mono HB3.out.size))
      have HZ5 := Lib.hid ((HB5.out.block _ hl3).trans HZ3.out)
      have HS5 := Lib.hid (HS3.out.below HB5.out)
      have hg4' := (own_cap HO5.out).2.2
      have hl5 : w.heap.size < w5.heap.size := Nat.lt_of_lt_of_le hl3 HB5.out.size
      have hQ : Q < w5.heap.size := by
        rcases Nat.lt_or_ge Q w5.heap.size with h' | h'
        · exact h'
        · have := HX5.out; rw [Array.getElem?_eq_none h'] at this; cases this
      have HK2 : Hid (∀ W, Below w5.heap.size w5 W → W.cell? ⟨Q, 0, none⟩ = some (.int .i64 (y0 : Int)) ∧ W.cell? ⟨Q, 1, none⟩ = some (.slice (some ⟨g4, 0, none⟩) z cap4)) := Lib.hid fun W hbw => (zcells ((hbw.block _ hQ).trans HX5.out)).1
      have HTX : Hid (∀ W, Below w5.heap.size w5 W → Calls Try.prog 13 #[.agg #[.int .i64 (y0 : Int), .slice (some ⟨g4, 0, none⟩) z cap4]] W fun e w' => ∃ g cp, e = .returned (.slice (some ⟨g, 0, none⟩) (12 + z) cp) ∧ w'.ownsRow W.heap.size 5 1 (.slice (some ⟨g, 0, none⟩) (12 + z) cp) (12 + z) (rowB (frm y0 z (fun j => f (12 + j))) (12 + z)) ∧ Below W.heap.size W w') :=
        Lib.hid fun W hb => text_any y0 _ z cap4 _ W hf0 (by omega) (fun j => HF.out _) ((own_src HO5.out).below hb) (fun h => by cases h)
      have HSM : Hid (∀ (W : World) base g c1 c2, Below w5.heap.size w5 W → W.ownsRow base 5 1 (.slice (some ⟨g, 0, none⟩) (12 + z) c1) (12 + z) (rowB (frm y0 z (fun j => f (12 + j))) (12 + z)) → Calls Try.prog 11 #[.slice (some ⟨g, 0, none⟩) (12 + z) c1, .slice (some ⟨b, off, none⟩) (12 + z) c2] W fun e w' => e = .returned (.bool true) ∧ W = w') :=
        Lib.hid fun W base g c1 c2 hb ho => same_any W _ _ (12 + z) c1 c2 _ f true (fun j _ => frm_lt _ _ _ (fun j => HF.out _) j) (fun j _ => HF.out j) (own_src ho) ((HS5.out.below hb).front _ (by omega)) ⟨fun _ => HT.out, fun _ => rfl⟩
      clear HK HCP HZ7 HC0 HX5 HS3 HB5
      have hB0 : Below w5.heap.size w5 w5 := Below.refl _ _
      have hB : Below w5.heap.size w5 w5.drew := (Below.refl _ _).drew
      go_wp2
      go_region_held3 (fun W => W.cell? ⟨Q, 0, none⟩ = some (.int .i64 (y0 : Int)) ∧ W.cell? ⟨Q, 1, none⟩ = some (.slice (some ⟨g4, 0, none⟩) z cap4))
        (first | exact HK2.out _ hB | exact HK2.out _ hB0)
        (first
          | (go_at_call 13; refine (HTX.out _ hB).mono ?_; rintro e w6 ⟨g6, cp6, rfl, hown6, hb6⟩; replace hB := hB.trans (hb6.mono hB.size))
          | (go_at_call 11; refine (HSM.out _ _ g6 cp6 _ hB hown6).mono ?_; rintro e wN ⟨rfl, rfl⟩))
      have HB6 := Lib.hid (HBB5.out.trans (hB.mono HBB5.out.size))
      obtain ⟨⟨z0, z1⟩, fz⟩ := zcells ((hB.block _ hl5).trans HZ5.out)
      obtain ⟨k0, k1⟩ := HK2.out _ hB
      have HO6 := Lib.hid (own_below HO5.out hB)
      clear hB hB0 hb6 hown6 HTX HSM HK2
      go_wp2
      refine bodyPost_ret (v := .tuple #[.agg #[.int .i64 (y0 : Int), .slice (some ⟨g4, 0, none⟩) z cap4], .int .i64 (12 + ((z : Nat) : Int)), .int .i64 0]) (by simp [results, Try.results15, go_sem, z0, z1]) rfl ⟨(HB6.out.setCell (Nat.le_refl _) _).setCell (Nat.le_refl _) _, .inr ⟨HE.out, some ⟨g4, 0, none⟩, cap4, ?_, ?_, fun h => by cases h⟩⟩
      · rw [kind_eq f HF.out, HZD.out, ← HY0.out]; rfl
      · rw [HZD.out]
        exact own_kept2 (own_mono HO6.out (Nat.le_of_lt hl3)) (fun k hk => by have hk' : g4 = k := Option.some.inj hk; omega)
  · have hc13 : ¬ 12 = cap := by omega
    have hc14 : (12 : Int) ≤ (cap : Int) := by omega
    have HCP : Hid (∀ W c, Below w3.heap.size w3 W → Calls Try.prog 9 #[.slice (some ⟨b, off + 12, none⟩) z c] W (CopySome z (fun j => f (12 + j)) W)) :=
      Lib.hid fun W c hb => rcopy_some _ _ c _ W (by omega) ((HS3.out.below hb).part 12 z (by omega)) (fun h => by cases h)
    go_wp2
    go_region_held3 (fun W => W.cell? ⟨b, off, none⟩ = some (.int .u8 (y0 : Int)))
      (first
        | exact HK.out _ ((Below.refl _ _).drew)
        | exact HK.out _ (Below.refl _ _)
        | exact HK.out _ (((Below.refl _ _).drew).alloc (Nat.le_refl _) _)
        | exact HK.out _ (((Below.refl _ _).drew).trans hb4)
        | exact HK.out _ ((((Below.refl _ _).drew).trans hb4).alloc hb4.size _)
        | exact HK.out _ ((((Below.refl _ _).drew).alloc (Nat.le_refl _) _).trans (hb4.mono hsz1))
        | exact HK.out _ ((((((Below.refl _ _).drew).alloc (Nat.le_refl _) _).trans (hb4.mono hsz1)).setCell (Nat.le_refl _) _).setCell (Nat.le_refl _) _))
      (first
        | (go_at_call 9; refine (HCP.out _ _ ((Below.refl _ _).drew)).mono ?_; rintro e w4 ⟨g4, cap4, rfl, hg4, hown4, hb4⟩)
        | (go_at_call 9; refine (HCP.out _ _ (((Below.refl _ _).drew).alloc (Nat.le_refl _) _)).mono ?_; rintro e w4 ⟨g4, cap4, rfl, hg4, hown4, hb4⟩; obtain ⟨⟨q0, q1⟩, fq⟩ := zcells (HZ7.out _ hb4)))
    · have HB5 : Hid (Below w3.heap.size w3 (w4.alloc (.cells #[.int .i64 (y0 : Int), .slice (some ⟨g4, 0, none⟩) z cap4] 24))) := Lib.hid ((((Below.refl _ _).drew).trans hb4).alloc hb4.size _)
      have HX5 : Hid ((w4.alloc (.cells #[.int .i64 (y0 : Int), .slice (some ⟨g4, 0, none⟩) z cap4] 24)).heap[w4.heap.size]? = some (.cells #[.int .i64 (y0 : Int), .slice (some ⟨g4, 0, none⟩) z cap4] 24 (0, 0))) := Lib.hid (heap_alloc_new w4 _)
      have HO5 : Hid ((w4.alloc (.cells #[.int .i64 (y0 : Int), .slice (some ⟨g4, 0, none⟩) z cap4] 24)).ownsRow w3.heap.size 5 1 (.slice (some ⟨g4, 0, none⟩) z cap4) z (rowB (fun j => f (12 + j)) z)) := Lib.hid (hown4.alloc _)
      clear hb4 hown4
      generalize (w4.alloc (.cells #[.int .i64 (y0 : Int), .slice (some ⟨g4, 0, none⟩) z cap4] 24)) = w5 at *
      generalize w4.heap.size = Q at *
      have HBB5 := Lib.hid (HB3.out.trans (HB5.out.mono HB3.out.size))
      have HZ5 := Lib.hid ((HB5.out.block _ hl3).trans HZ3.out)
      have HS5 := Lib.hid (HS3.out.below HB5.out)
      have hg4' := (own_cap HO5.out).2.2
      have hl5 : w.heap.size < w5.heap.size := Nat.lt_of_lt_of_le hl3 HB5.out.size
      have hQ : Q < w5.heap.size := by
        rcases Nat.lt_or_ge Q w5.heap.size with h' | h'
        · exact h'
        · have := HX5.out; rw [Array.getElem?_eq_none h'] at this; cases this
      have HK2 : Hid (∀ W, Below w5.heap.size w5 W → W.cell? ⟨Q, 0, none⟩ = some (.int .i64 (y0 : Int)) ∧ W.cell? ⟨Q, 1, none⟩ = some (.slice (some ⟨g4, 0, none⟩) z cap4)) := Lib.hid fun W hbw => (zcells ((hbw.block _ hQ).trans HX5.out)).1
      have HTX : Hid (∀ W, Below w5.heap.size w5 W → Calls Try.prog 13 #[.agg #[.int .i64 (y0 : Int), .slice (some ⟨g4, 0, none⟩) z cap4]] W fun e w' => ∃ g cp, e = .returned (.slice (some ⟨g, 0, none⟩) (12 + z) cp) ∧ w'.ownsRow W.heap.size 5 1 (.slice (some ⟨g, 0, none⟩) (12 + z) cp) (12 + z) (rowB (frm y0 z (fun j => f (12 + j))) (12 + z)) ∧ Below W.heap.size W w') :=
        Lib.hid fun W hb => text_any y0 _ z cap4 _ W hf0 (by omega) (fun j => HF.out _) ((own_src HO5.out).below hb) (fun h => by cases h)
      have HSM : Hid (∀ (W : World) base g c1 c2, Below w5.heap.size w5 W → W.ownsRow base 5 1 (.slice (some ⟨g, 0, none⟩) (12 + z) c1) (12 + z) (rowB (frm y0 z (fun j => f (12 + j))) (12 + z)) → Calls Try.prog 11 #[.slice (some ⟨g, 0, none⟩) (12 + z) c1, .slice (some ⟨b, off, none⟩) (12 + z) c2] W fun e w' => e = .returned (.bool true) ∧ W = w') :=
        Lib.hid fun W base g c1 c2 hb ho => same_any W _ _ (12 + z) c1 c2 _ f true (fun j _ => frm_lt _ _ _ (fun j => HF.out _) j) (fun j _ => HF.out j) (own_src ho) ((HS5.out.below hb).front _ (by omega)) ⟨fun _ => HT.out, fun _ => rfl⟩
      clear HK HCP HZ7 HC0 HX5 HS3 HB5
      have hB0 : Below w5.heap.size w5 w5 := Below.refl _ _
      have hB : Below w5.heap.size w5 w5.drew := (Below.refl _ _).drew
      go_wp2
      go_region_held3 (fun W => W.cell? ⟨Q, 0, none⟩ = some (.int .i64 (y0 : Int)) ∧ W.cell? ⟨Q, 1, none⟩ = some (.slice (some ⟨g4, 0, none⟩) z cap4))
        (first | exact HK2.out _ hB | exact HK2.out _ hB0)
        (first
          | (go_at_call 13; refine (HTX.out _ hB).mono ?_; rintro e w6 ⟨g6, cp6, rfl, hown6, hb6⟩; replace hB := hB.trans (hb6.mono hB.size))
          | (go_at_call 11; refine (HSM.out _ _ g6 cp6 _ hB hown6).mono ?_; rintro e wN ⟨rfl, rfl⟩))
      have HB6 := Lib.hid (HBB5.out.trans (hB.mono HBB5.out.size))
      obtain ⟨⟨z0, z1⟩, fz⟩ := zcells ((hB.block _ hl5).trans HZ5.out)
      obtain ⟨k0, k1⟩ := HK2.out _ hB
      have HO6 := Lib.hid (own_below HO5.out hB)
      clear hB hB0 hb6 hown6 HTX HSM HK2
      go_wp2
      refine bodyPost_ret (v := .tuple #[.agg #[.int .i64 (y0 : Int), .slice (some ⟨g4, 0, none⟩) z cap4], .int .i64 (12 + ((z : Nat) : Int)), .int .i64 0]) (by simp [results, Try.results15, go_sem, z0, z1]) rfl ⟨(HB6.out.setCell (Nat.le_refl _) _).setCell (Nat.le_refl _) _, .inr ⟨HE.out, some ⟨g4, 0, none⟩, cap4, ?_, ?_, fun h => by cases h⟩⟩
      · rw [kind_eq f HF.out, HZD.out, ← HY0.out]; rfl
      · rw [HZD.out]
        exact own_kept2 (own_mono HO6.out (Nat.le_of_lt hl3)) (fun k hk => by have hk' : g4 = k := Option.some.inj hk; omega)
    · have HB5 : Hid (Below w3.heap.size w3 ((w4.setCell ⟨w3.heap.size, 0, none⟩ (.int .i64 (y0 : Int))).setCell ⟨w3.heap.size, 1, none⟩ (.slice (some ⟨g4, 0, none⟩) z cap4))) := Lib.hid ((((((Below.refl _ _).drew).alloc (Nat.le_refl _) _).trans (hb4.mono hsz1)).setCell (Nat.le_refl _) _).setCell (Nat.le_refl _) _)
      have HX5 : Hid (((w4.setCell ⟨w3.heap.size, 0, none⟩ (.int .i64 (y0 : Int))).setCell ⟨w3.heap.size, 1, none⟩ (.slice (some ⟨g4, 0, none⟩) z cap4)).heap[w3.heap.size]? = some (.cells #[.int .i64 (y0 : Int), .slice (some ⟨g4, 0, none⟩) z cap4] 24 (0, 0))) := Lib.hid (heap_setCell_same _ w3.heap.size 1 _ 24 _ (heap_setCell_same _ w3.heap.size 0 _ 24 _ (HZ7.out _ hb4)))
      have HO5 : Hid (((w4.setCell ⟨w3.heap.size, 0, none⟩ (.int .i64 (y0 : Int))).setCell ⟨w3.heap.size, 1, none⟩ (.slice (some ⟨g4, 0, none⟩) z cap4)).ownsRow w3.heap.size 5 1 (.slice (some ⟨g4, 0, none⟩) z cap4) z (rowB (fun j => f (12 + j)) z)) := Lib.hid (own_kept2 (own_mono hown4 hsz1) (fun k hk => by have hk' : g4 = k := Option.some.inj hk; rw [← hk']; exact own_ne hown4 (HZ7.out _ hb4) (by decide)))
      clear hb4 hown4 q0 q1 fq
      generalize ((w4.setCell ⟨w3.heap.size, 0, none⟩ (.int .i64 (y0 : Int))).setCell ⟨w3.heap.size, 1, none⟩ (.slice (some ⟨g4, 0, none⟩) z cap4)) = w5 at *
      obtain ⟨Q, eQ⟩ : ∃ Q, Q = w3.heap.size := ⟨_, rfl⟩
      rw [← eQ] at HX5 ⊢
      clear eQ
      have HBB5 := Lib.hid (HB3.out.trans (HB5.out.mono HB3.out.size))
      have HZ5 := Lib.hid ((HB5.out.block _ hl3).trans HZ3.out)
      have HS5 := Lib.hid (HS3.out.below HB5.out)
      have hg4' := (own_cap HO5.out).2.2
      have hl5 : w.heap.size < w5.heap.size := Nat.lt_of_lt_of_le hl3 HB5.out.size
      have hQ : Q < w5.heap.size := by
        rcases Nat.lt_or_ge Q w5.heap.size with h' | h'
        · exact h'
        · have := HX5.out; rw [Array.getElem?_eq_none h'] at this; cases this
      have HK2 : Hid (∀ W, Below w5.heap.size w5 W → W.cell? ⟨Q, 0, none⟩ = some (.int .i64 (y0 : Int)) ∧ W.cell? ⟨Q, 1, none⟩ = some (.slice (some ⟨g4, 0, none⟩) z cap4)) := Lib.hid fun W hbw => (zcells ((hbw.block _ hQ).trans HX5.out)).1
      have HTX : Hid (∀ W, Below w5.heap.size w5 W → Calls Try.prog 13 #[.agg #[.int .i64 (y0 : Int), .slice (some ⟨g4, 0, none⟩) z cap4]] W fun e w' => ∃ g cp, e = .returned (.slice (some ⟨g, 0, none⟩) (12 + z) cp) ∧ w'.ownsRow W.heap.size 5 1 (.slice (some ⟨g, 0, none⟩) (12 + z) cp) (12 + z) (rowB (frm y0 z (fun j => f (12 + j))) (12 + z)) ∧ Below W.heap.size W w') :=
        Lib.hid fun W hb => text_any y0 _ z cap4 _ W hf0 (by omega) (fun j => HF.out _) ((own_src HO5.out).below hb) (fun h => by cases h)
      have HSM : Hid (∀ (W : World) base g c1 c2, Below w5.heap.size w5 W → W.ownsRow base 5 1 (.slice (some ⟨g, 0, none⟩) (12 + z) c1) (12 + z) (rowB (frm y0 z (fun j => f (12 + j))) (12 + z)) → Calls Try.prog 11 #[.slice (some ⟨g, 0, none⟩) (12 + z) c1, .slice (some ⟨b, off, none⟩) (12 + z) c2] W fun e w' => e = .returned (.bool true) ∧ W = w') :=
        Lib.hid fun W base g c1 c2 hb ho => same_any W _ _ (12 + z) c1 c2 _ f true (fun j _ => frm_lt _ _ _ (fun j => HF.out _) j) (fun j _ => HF.out j) (own_src ho) ((HS5.out.below hb).front _ (by omega)) ⟨fun _ => HT.out, fun _ => rfl⟩
      clear HK HCP HZ7 HC0 HX5 HS3 HB5
      have hB0 : Below w5.heap.size w5 w5 := Below.refl _ _
      have hB : Below w5.heap.size w5 w5.drew := (Below.refl _ _).drew
      go_wp2
      go_region_held3 (fun W => W.cell? ⟨Q, 0, none⟩ = some (.int .i64 (y0 : Int)) ∧ W.cell? ⟨Q, 1, none⟩ = some (.slice (some ⟨g4, 0, none⟩) z cap4))
        (first | exact HK2.out _ hB | exact HK2.out _ hB0)
        (first
          | (go_at_call 13; refine (HTX.out _ hB).mono ?_; rintro e w6 ⟨g6, cp6, rfl, hown6, hb6⟩; replace hB := hB.trans (hb6.mono hB.size))
          | (go_at_call 11; refine (HSM.out _ _ g6 cp6 _ hB hown6).mono ?_; rintro e wN ⟨rfl, rfl⟩))
      have HB6 := Lib.hid (HBB5.out.trans (hB.mono HBB5.out.size))
      obtain ⟨⟨z0, z1⟩, fz⟩ := zcells ((hB.block _ hl5).trans HZ5.out)
      obtain ⟨k0, k1⟩ := HK2.out _ hB
      have HO6 := Lib.hid (own_below HO5.out hB)
      clear hB hB0 hb6 hown6 HTX HSM HK2
      go_wp2
      refine bodyPost_ret (v := .tuple #[.agg #[.int .i64 (y0 : Int), .slice (some ⟨g4, 0, none⟩) z cap4], .int .i64 (12 + ((z : Nat) : Int)), .int .i64 0]) (by simp [results, Try.results15, go_sem, z0, z1]) rfl ⟨(HB6.out.setCell (Nat.le_refl _) _).setCell (Nat.le_refl _) _, .inr ⟨HE.out, some ⟨g4, 0, none⟩, cap4, ?_, ?_, fun h => by cases h⟩⟩
      · rw [kind_eq f HF.out, HZD.out, ← HY0.out]; rfl
      · rw [HZD.out]
        exact own_kept2 (own_mono HO6.out (Nat.le_of_lt hl3)) (fun k hk => by have hk' : g4 = k := Option.some.inj hk; omega)

theorem read_any (sp : Option Addr) (n cap : Nat) (f : Nat → Nat) (w : World) (hf : ∀ j, f j < 256) (hc : n ≤ cap) (hs : Src w sp n f) : Calls Try.prog 15 #[.slice sp n cap] w (DecPost f n w) := by
  by_cases h8 : n < 8
  · exact rd_short sp n cap f w h8
  · obtain ⟨ad, rfl, _, hcc⟩ := hs (by omega)
    obtain ⟨b, off, spot⟩ := ad
    have h0 := hcc 0 (by omega)
    have hspot : spot = none := by simpa [Addr.add] using World.cell?_spot h0
    subst hspot
    by_cases hg : good1 f
    · by_cases hz : 65536 < sizeOf' f
      · exact rd_long b off n cap f w (by omega) hc hf hs hg hz
      · by_cases hcut : n < 12 + sizeOf' f
        · exact rd_cut b off n cap f w (by omega) hc hf hs hg ⟨by omega, hcut⟩
        · by_cases hg2 : good2 f
          · exact rd_ok b off n cap f w (by omega) hc hf hs hg ⟨by omega, by omega⟩ hg2
          · exact rd_bad2 b off n cap f w (by omega) hc hf hs hg ⟨by omega, by omega⟩ hg2
    · exact rd_bad1 b off n cap f w (by omega) hc hf hs hg
end Go.Proofs.Ytgplannipnceeaa
