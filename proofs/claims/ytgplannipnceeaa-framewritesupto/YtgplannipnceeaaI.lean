/-
  The reference's frame: contract of the law's text.
-/
import Derived.Test.YtgplannipnceeaaH
namespace Go.Proofs.Ytgplannipnceeaa
open Go.ChangeShapes Go.WideShapes Go.ChangeAt Go.RowKit

theorem lfour_src (w : World) (s : Nat) : Src (w.alloc (.cells (cells4 (big s)) 5)) (some ⟨w.heap.size, 0, none⟩) 4 (big s) :=
  own_src (World.ownsRow_lit w (cells4 (big s)) 4 (Nat.le_refl _) (by unfold maxLen; omega) rfl)

set_option maxHeartbeats 800000 in
theorem text_any (k : Nat) (sp : Option Addr) (n cap : Nat) (d : Nat → Nat) (w : World) (hk : k < 256) (hn : n ≤ 65536) (hd : ∀ j, d j < 256) (hs : Src w sp n d) (hsp : sp = none → n = 0 ∧ cap = 0) :
    Calls Try.prog 13 #[.agg #[.int .i64 (k : Int), .slice sp n cap]] w fun e w' => ∃ g cp, e = .returned (.slice (some ⟨g, 0, none⟩) (12 + n) cp) ∧ w'.ownsRow w.heap.size 5 1 (.slice (some ⟨g, 0, none⟩) (12 + n) cp) (12 + n) (rowB (frm k n d) (12 + n)) ∧ Below w.heap.size w w' := by
  have HD := Lib.hid hd
  have HS := Lib.hid hs
  have HP := Lib.hid hsp
  clear hd hs hsp
  obtain ⟨x, ex⟩ : ∃ x, x = k * 16777216 + n := ⟨_, rfl⟩
  have hxx : (k : Int) * 16777216 + (n : Int) = (x : Int) := by omega
  have HX : Hid (x < 4294967296) := Lib.hid (by omega)
  have HEX := Lib.hid ex
  clear ex
  have HZ : Hid (Below w.heap.size w (w.alloc (.cells #[.int .i64 (k : Int), .slice sp n cap] 24))) := Lib.hid ((Below.refl _ _).alloc (Nat.le_refl _) _)
  have HBX : Hid ((w.alloc (.cells #[.int .i64 (k : Int), .slice sp n cap] 24)).heap[w.heap.size]? = some (.cells #[.int .i64 (k : Int), .slice sp n cap] 24 (0, 0))) := Lib.hid (heap_alloc_new w _)
  have HSZ : Hid ((w.alloc (.cells #[.int .i64 (k : Int), .slice sp n cap] 24)).heap.size = w.heap.size + 1) := Lib.hid (by simp)
  go_enter Try.func13, Try.ntmps13
  go_wp2_with fail
  refine (lfour_any x _ HX.out).mono ?_
  rintro e w' ⟨rfl, rfl⟩
  generalize (w.alloc (.cells #[.int .i64 (k : Int), .slice sp n cap] 24)) = wA at *
  have HO1 : Hid ((wA.alloc (.cells (cells4 (big x)) 5)).ownsRow wA.heap.size 5 1 (.slice (some ⟨wA.heap.size, 0, none⟩) 4 4) 4 (rowB (big x) 4)) := Lib.hid (World.ownsRow_lit wA (cells4 (big x)) 4 (Nat.le_refl _) (by unfold maxLen; omega) rfl)
  have HB1 : Hid (Below wA.heap.size wA (wA.alloc (.cells (cells4 (big x)) 5))) := Lib.hid ((Below.refl _ _).alloc (Nat.le_refl _) _)
  generalize (wA.alloc (.cells (cells4 (big x)) 5)) = w1 at *
  go_wp2_with fail
  refine (rsum_any _ 4 4 (big x) w1 (by omega) (fun j _ => big_lt x j) (own_src HO1.out)).mono ?_
  rintro e w' ⟨rfl, rfl⟩
  have HL2 := Lib.hid (CrcMath.more_lt 0 (big x) 4 (by decide) fun j _ => big_lt x j)
  obtain ⟨s2, es2⟩ : ∃ s2, s2 = CrcMath.more 0 (big x) 4 := ⟨_, rfl⟩
  rw [← es2] at HL2 ⊢
  have HS2 := Lib.hid es2
  have hs2 := HL2.out
  clear es2
  go_wp2_with fail
  refine (lfour_any s2 w1 HL2.out).mono ?_
  rintro e w' ⟨rfl, rfl⟩
  have HN2 : Hid (Src (w1.alloc (.cells (cells4 (big s2)) 5)) (some ⟨w1.heap.size, 0, none⟩) 4 (big s2)) := Lib.hid (own_src (World.ownsRow_lit w1 (cells4 (big s2)) 4 (Nat.le_refl _) (by unfold maxLen; omega) rfl))
  have HO2 := Lib.hid (HO1.out.alloc (.cells (cells4 (big s2)) 5))
  have HB2 := Lib.hid (HB1.out.alloc HB1.out.size (.cells (cells4 (big s2)) 5))
  generalize (w1.alloc (.cells (cells4 (big s2)) 5)) = w2 at *
  go_wp2_with (at_builtin; refine wpList_append_src rfl _ _ rfl wA.heap.size _ 4 (big x) rfl HO2.out _ 4 4 (big s2) rfl HN2.out (fun h => by cases h) (by omega) HB2.out.size ?_)
  intro v3 w3 hown3' hgrow3
  have hown3 : w3.ownsRow wA.heap.size 5 1 v3 8 (rowB (cat (big x) (big s2) 4) 8) := hown3'
  clear hown3'
  have HB3 := Lib.hid (HB2.out.grown hgrow3 HB2.out.size (fun q hq => (HO2.out.lt q hq).1))
  obtain ⟨g3, cp3, rfl, hg3, hg3'⟩ := hown3.form (by omega)
  have HO3 := Lib.hid hown3
  clear hown3 hgrow3 HO2 HB2 HN2 HO1 HB1
  have HK : Hid (∀ W, Below wA.heap.size wA W → W.cell? ⟨w.heap.size, 1, none⟩ = some (.slice sp n cap)) := Lib.hid fun W hbw => by
    rw [cell_of_row W w.heap.size 1 _ 24 (0, 0) ((hbw.block _ (by rw [HSZ.out]; omega)).trans HBX.out)]; rfl
  have HSA := Lib.hid (HS.out.below HZ.out)
  have HL8 : Hid (∀ j, cat (big x) (big s2) 4 j < 256) := Lib.hid (cat_lt (big_lt x) (big_lt s2) 4)
  have HCP : Hid (∀ W : World, W.heap = w3.heap → Calls Try.prog 9 #[.slice (some ⟨g3, 0, none⟩) 8 cp3] W (CopySome 8 (cat (big x) (big s2) 4) W)) :=
    Lib.hid fun W e => rcopy_some _ _ cp3 _ W (by omega) ((own_src HO3.out).heap e) (fun h => by cases h)
  have HSUM : Hid (∀ (W : World) base g c, W.ownsRow base 5 1 (.slice (some ⟨g, 0, none⟩) (8 + n) c) (8 + n) (rowB (cat (cat (big x) (big s2) 4) d 8) (8 + n)) → Calls Try.prog 26 #[.slice (some ⟨g, 0, none⟩) (8 + n) c] W fun e w' => e = .returned (.int .u32 ((CrcMath.more (CrcMath.more 0 (cat (big x) (big s2) 4) 8) d n : Nat) : Int)) ∧ W = w') :=
    Lib.hid fun W base g c h => by rw [← more_cat]; exact rsum_any _ _ c _ W (by omega) (fun j _ => cat_lt HL8.out HD.out _ j) (own_src h)
  have HL3 := Lib.hid (CrcMath.more_lt (CrcMath.more 0 (cat (big x) (big s2) 4) 8) d n (CrcMath.more_lt 0 _ 8 (by decide) fun j _ => HL8.out j) fun j _ => HD.out j)
  obtain ⟨s3v, es3⟩ : ∃ s3v, s3v = CrcMath.more (CrcMath.more 0 (cat (big x) (big s2) 4) 8) d n := ⟨_, rfl⟩
  rw [← es3] at HSUM HL3
  have HS3 := Lib.hid es3
  have hw3 : IntKind.u64.wrap (s3v : Int) = (s3v : Int) := by have := HL3.out; rw [IntKind.wrap_u64]; omega
  clear es3
  have hB0 : Below wA.heap.size wA w3 := HB3.out
  have hB : Below wA.heap.size wA w3.drew := HB3.out.drew
  have ho3 : w3.drew.ownsRow wA.heap.size 5 1 (.slice (some ⟨g3, 0, none⟩) 8 cp3) 8 (rowB (cat (big x) (big s2) 4) 8) := HO3.out
  go_wp2
  go_region_held3 (fun W => W.cell? ⟨w.heap.size, 1, none⟩ = some (.slice sp n cap))
    (first | exact HK.out _ hB | exact HK.out _ hB0)
    (first
      | (go_at_call 9; refine (HCP.out _ (by rfl)).mono ?_; rintro e w4 ⟨g4, cap4, rfl, hg4, hown4, hb4⟩; replace ho3 := own_below ho3 hb4; replace hB := hB.trans (hb4.mono hB.size))
      | (go_at_call 26; refine (HSUM.out _ _ g5 cp5 hown5).mono ?_; rintro e wN ⟨rfl, rfl⟩)
      | (go_at_call 25; refine (lfour_any s3v _ HL3.out).mono ?_; rintro e wN ⟨rfl, rfl⟩; have hsrc6 := lfour_src w5 s3v; replace ho3 := ho3.alloc (.cells (cells4 (big s3v)) 5); replace hB := hB.alloc hB.size (.cells (cells4 (big s3v)) 5))
      | (refine step_append_src (by rfl) _ _ (by rfl) wA.heap.size _ 8 (cat (big x) (big s2) 4) (by rfl) ho3 _ 4 4 (big s3v) (by rfl) hsrc6 (fun h => by cases h) (by omega) hB.size ?_; intro v7 w7 hown7 hgrow7; replace hB := hB.grown hgrow7 hB.size (fun q hq => (ho3.lt q hq).1))
      | (refine step_append_src (by rfl) _ _ (by rfl) w3.heap.size _ 8 (cat (big x) (big s2) 4) (by rfl) hown4 _ n cap d (by rfl) (HSA.out.below hB) HP.out (by omega) hb4.size ?_; intro v5 w5 hown5 hgrow5; obtain ⟨g5, cp5, rfl, hg5, hg5'⟩ := hown5.form (by omega); replace ho3 := own_low (B := w3.heap.size) ho3 (fun k hk => by have hk' : g3 = k := Option.some.inj hk; omega) ((Below.refl w3.heap.size w4).grown hgrow5 hb4.size (fun q hq => (hown4.lt q hq).1)); replace hB := hB.grown hgrow5 (Nat.le_trans hB0.size hb4.size) (fun q hq => Nat.le_trans hB0.size (hown4.lt q hq).1)))
  have HO7 : Hid (w7.ownsRow wA.heap.size 5 1 v7 12 (rowB (cat (cat (big x) (big s2) 4) (big s3v) 8) 12)) := Lib.hid hown7
  have HB7 := Lib.hid hB
  obtain ⟨g7, cp7, rfl, hg7, hg7'⟩ := HO7.out.form (by omega)
  have c7 := HK.out _ hB
  clear hB ho3 hown7 hgrow7 hown5 hgrow5 hown4 hb4 hsrc6 hB0
  go_wp2_with (at_builtin; refine wpList_append_src rfl _ _ rfl wA.heap.size _ 12 (cat (cat (big x) (big s2) 4) (big s3v) 8) rfl HO7.out sp n cap d rfl (HSA.out.below HB7.out) HP.out (by omega) HB7.out.size ?_)
  intro v9 w9 hown9 hgrow9
  have HB9 := Lib.hid (HB7.out.grown hgrow9 HB7.out.size (fun q hq => (HO7.out.lt q hq).1))
  have HFR : Hid (cat (cat (cat (big x) (big s2) 4) (big s3v) 8) d 12 = frm k n d) := Lib.hid (by
    rw [HS3.out, HS2.out, HEX.out]; rfl)
  rw [HFR.out] at hown9
  obtain ⟨g9, cp9, rfl, hg9, hg9'⟩ := hown9.form (by omega)
  have HO9 := Lib.hid (own_mono hown9 HZ.out.size)
  clear hown9 hgrow9
  go_wp2
  go_ret
  exact ⟨g9, cp9, rfl, HO9.out, HZ.out.trans (HB9.out.mono HZ.out.size)⟩

theorem lsame_any (k1 k2 : Int) (sp1 sp2 : Option Addr) (n cap1 cap2 : Nat) (f g : Nat → Nat) (w : World) (hf : ∀ j, j < n → f j < 256) (hg : ∀ j, j < n → g j < 256) (h1 : Src w sp1 n f) (h2 : Src w sp2 n g) (hk : k1 = k2) (he : ∀ j, j < n → f j = g j) :
    Calls Try.prog 14 #[.agg #[.int .i64 k1, .slice sp1 n cap1], .agg #[.int .i64 k2, .slice sp2 n cap2]] w fun e w' => e = .returned (.bool true) ∧ Below w.heap.size w w' := by
  subst hk
  have HB : Hid (Below w.heap.size w ((w.alloc (.cells #[.int .i64 k1, .slice sp1 n cap1] 24)).alloc (.cells #[.int .i64 k1, .slice sp2 n cap2] 24))) := Lib.hid (((Below.refl _ _).alloc (Nat.le_refl _) _).alloc (by simp) _)
  have H1 := Lib.hid (h1.below HB.out)
  have H2 := Lib.hid (h2.below HB.out)
  have HE := Lib.hid he
  have HF := Lib.hid hf
  have HG := Lib.hid hg
  clear h1 h2 he hf hg
  go_enter Try.func14, Try.ntmps14
  go_wp2_with fail
  refine (same_any _ sp1 sp2 n cap1 cap2 f g true HF.out HG.out H1.out H2.out ⟨fun _ => HE.out, fun _ => rfl⟩).mono ?_
  rintro e w' ⟨rfl, rfl⟩
  go_wp2
  go_ret
  exact ⟨rfl, HB.out⟩
end Go.Proofs.Ytgplannipnceeaa
