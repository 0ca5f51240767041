/-
  The reference's read, whatever bytes.
-/
import Derived.Test.YtgplannipnceeaaI
namespace Go.Proofs.Ytgplannipnceeaa
open Go.ChangeShapes Go.WideShapes Go.ChangeAt Go.RowKit

theorem rd_short (sp : Option Addr) (n cap : Nat) (f : Nat → Nat) (w : World) (hn : n < 8) : Calls Try.prog 15 #[.slice sp n cap] w (DecPost f n w) := by
  have HE : Hid (derr f n = 10) := Lib.hid (by unfold derr; rw [if_pos hn])
  have hn' : (n : Int) < 8 := by omega
  go_enter Try.func15, Try.ntmps15
  go_wp2
  exact bodyPost_ret (v := .tuple #[zeroF, .int .i64 0, .int .i64 10]) (by simp [results, Try.results15, go_sem, zeroF]) rfl ⟨(Below.refl _ _).alloc (Nat.le_refl _) _, .inl ⟨by rw [HE.out]; decide, by rw [HE.out]; rfl⟩⟩

theorem size_eq (f : Nat → Nat) (hf : ∀ j, f j < 256) : ((f 1 : Nat) : Int) * 65536 + ((f 2 : Nat) : Int) * 256 + ((f 3 : Nat) : Int) = ((sizeOf' f : Nat) : Int) := by
  have e : nval f 4 = ((f 0 * 256 + f 1) * 256 + f 2) * 256 + f 3 := by
    show (((0 * 256 + f 0) * 256 + f 1) * 256 + f 2) * 256 + f 3 = _
    rw [Nat.zero_mul, Nat.zero_add]
  have h1 := hf 1
  have h2 := hf 2
  have h3 := hf 3
  unfold sizeOf'
  rw [e]
  omega
theorem kind_eq (f : Nat → Nat) (hf : ∀ j, f j < 256) : kindOf f = f 0 := by
  have e : nval f 4 = ((f 0 * 256 + f 1) * 256 + f 2) * 256 + f 3 := by
    show (((0 * 256 + f 0) * 256 + f 1) * 256 + f 2) * 256 + f 3 = _
    rw [Nat.zero_mul, Nat.zero_add]
  have h1 := hf 1
  have h2 := hf 2
  have h3 := hf 3
  unfold kindOf
  rw [e]
  omega
theorem big_nval (f : Nat → Nat) (hf : ∀ j, f j < 256) (j : Nat) (hj : j < 4) : big (nval f 4) j = f j := by
  have e : nval f 4 = ((f 0 * 256 + f 1) * 256 + f 2) * 256 + f 3 := by
    show (((0 * 256 + f 0) * 256 + f 1) * 256 + f 2) * 256 + f 3 = _
    rw [Nat.zero_mul, Nat.zero_add]
  have h0 := hf 0
  have h1 := hf 1
  have h2 := hf 2
  have h3 := hf 3
  have hj' : j = 0 ∨ j = 1 ∨ j = 2 ∨ j = 3 := by omega
  unfold big
  rw [e]
  rcases hj' with rfl | rfl | rfl | rfl <;> simp <;> omega

set_option maxHeartbeats 2000000 in
theorem rd_bad1 (b off n cap : Nat) (f : Nat → Nat) (w : World) (hn : 8 ≤ n) (hc : n ≤ cap) (hf : ∀ j, f j < 256) (hs : Src w (some ⟨b, off, none⟩) n f) (hg : ¬ good1 f) : Calls Try.prog 15 #[.slice (some ⟨b, off, none⟩) n cap] w (DecPost f n w) := by
  have HE : Hid (derr f n = 13) := Lib.hid (by unfold derr; rw [if_neg (by omega), if_pos hg])
  have HF := Lib.hid hf
  have HS := Lib.hid hs
  have HG : Hid (¬ (∀ j, j < 4 → big (CrcMath.more 0 f 4) j = f (4 + j))) := Lib.hid (fun h => hg (fun j hj => (h j hj).symm))
  have hn' : ¬ (n : Int) < 8 := by omega
  have hn4 : (4 : Int) ≤ (n : Int) := by omega
  have hn8 : (8 : Int) ≤ (n : Int) := by omega
  have hc4 : (4 : Int) ≤ (cap : Int) := by omega
  have hc8 : (8 : Int) ≤ (cap : Int) := by omega
  have hcn : (n : Int) ≤ (cap : Int) := by omega
  have hc5 : ¬ cap = 4 := by omega
  have hc6 : ¬ 4 = cap := by omega
  have HZ : Hid (Below w.heap.size w (w.alloc (.cells #[.int .i64 0, .slice none 0 0] 24))) := Lib.hid ((Below.refl _ _).alloc (Nat.le_refl _) _)
  have HZ1 : Hid ((w.alloc (.cells #[.int .i64 0, .slice none 0 0] 24)).heap[w.heap.size]? = some (.cells #[.int .i64 0, .slice none 0 0] 24 (0, 0))) := Lib.hid (heap_alloc_new w _)
  have hl1 : w.heap.size < (w.alloc (.cells #[.int .i64 0, .slice none 0 0] 24)).heap.size := by simp
  clear hf hs hg
  go_enter Try.func15, Try.ntmps15
  go_wp2
  generalize (w.alloc (.cells #[.int .i64 0, .slice none 0 0] 24)) = w1 at *
  have HS1 := Lib.hid (HS.out.below HZ.out)
  have HL := Lib.hid (CrcMath.more_lt 0 f 4 (by decide) fun j _ => HF.out j)
  have HSU : Hid (∀ W c, Below w1.heap.size w1 W → Calls Try.prog 26 #[.slice (some ⟨b, off, none⟩) 4 c] W fun e w' => e = .returned (.int .u32 ((CrcMath.more 0 f 4 : Nat) : Int)) ∧ W = w') :=
    Lib.hid fun W c hb => rsum_any _ 4 c f W (by omega) (fun j _ => HF.out j) ((HS1.out.below hb).front 4 (by omega))
  have HSA : Hid (∀ (W : World) c, Below w1.heap.size w1 W → Calls Try.prog 11 #[.slice (some ⟨W.heap.size, 0, none⟩) 4 4, .slice (some ⟨b, off + 4, none⟩) 4 c] (W.alloc (.cells (cells4 (big (CrcMath.more 0 f 4))) 5)) fun e w' => e = .returned (.bool false) ∧ W.alloc (.cells (cells4 (big (CrcMath.more 0 f 4))) 5) = w') :=
    Lib.hid fun W c hb => same_any _ _ _ 4 4 c _ _ false (fun j _ => big_lt _ j) (fun j _ => HF.out _) (lfour_src W _) (((HS1.out.below hb).below ((Below.refl _ _).alloc (Nat.le_refl _) _)).part 4 4 (by omega)) ⟨fun h => absurd h (by decide), fun h => absurd h HG.out⟩
  obtain ⟨s, es⟩ : ∃ s, s = CrcMath.more 0 f 4 := ⟨_, rfl⟩
  rw [← es] at HL HSU HSA
  have HES := Lib.hid es
  clear es
  have hw : IntKind.u64.wrap (s : Int) = (s : Int) := by have := HL.out; rw [IntKind.wrap_u64]; omega
  have hB : Below w1.heap.size w1 w1.drew := (Below.refl _ _).drew
  go_region_held3 (fun _ => True) (trivial)
    (first
      | (go_at_call 26; refine (HSU.out _ _ hB).mono ?_; rintro e wN ⟨rfl, rfl⟩)
      | (go_at_call 25; refine (lfour_any s _ HL.out).mono ?_; rintro e wN ⟨rfl, rfl⟩)
      | (go_at_call 11; refine (HSA.out _ _ hB).mono ?_; rintro e wN ⟨rfl, rfl⟩))
  have HB2' : Hid (Below w1.heap.size w1 (w1.alloc (.cells (cells4 (big s)) 5)).drew) := Lib.hid ((Below.refl _ _).alloc (Nat.le_refl _) _).drew
  clear hB
  go_simp
  generalize (w1.alloc (.cells (cells4 (big s)) 5)).drew = w2 at *
  have HZ2 := Lib.hid ((HB2'.out.block _ hl1).trans HZ1.out)
  have HB2 := Lib.hid (HZ.out.trans (HB2'.out.mono HZ.out.size))
  have HS2 := Lib.hid (HS1.out.below HB2'.out)
  have hl2 : w.heap.size < w2.heap.size := Nat.lt_of_lt_of_le hl1 HB2'.out.size
  clear HB2' HSU HSA HZ1 HS1 hl1
  obtain ⟨⟨z0, z1⟩, fz⟩ := zcells HZ2.out
  go_wp2
  exact bodyPost_ret (v := .tuple #[zeroF, .int .i64 0, .int .i64 13]) (by simp [results, Try.results15, go_sem, zeroF, z0, z1]) rfl ⟨(HB2.out.setCell (Nat.le_refl _) _).setCell (Nat.le_refl _) _, .inl ⟨by rw [HE.out]; decide, by rw [HE.out]; rfl⟩⟩

set_option maxHeartbeats 2000000 in
theorem rd_long (b off n cap : Nat) (f : Nat → Nat) (w : World) (hn : 8 ≤ n) (hc : n ≤ cap) (hf : ∀ j, f j < 256) (hs : Src w (some ⟨b, off, none⟩) n f) (hg : good1 f) (hz : 65536 < sizeOf' f) : Calls Try.prog 15 #[.slice (some ⟨b, off, none⟩) n cap] w (DecPost f n w) := by
  have HE : Hid (derr f n = 3) := Lib.hid (by unfold derr; rw [if_neg (by omega), if_neg (fun h => h hg), if_pos hz])
  have HZZ := Lib.hid hz
  clear hz
  have HF := Lib.hid hf
  have HS := Lib.hid hs
  have HG : Hid (∀ j, j < 4 → big (CrcMath.more 0 f 4) j = f (4 + j)) := Lib.hid (fun j hj => (hg j hj).symm)
  have hn' : ¬ (n : Int) < 8 := by omega
  have hn4 : (4 : Int) ≤ (n : Int) := by omega
  have hn8 : (8 : Int) ≤ (n : Int) := by omega
  have hc4 : (4 : Int) ≤ (cap : Int) := by omega
  have hc8 : (8 : Int) ≤ (cap : Int) := by omega
  have hcn : (n : Int) ≤ (cap : Int) := by omega
  have hc5 : ¬ cap = 4 := by omega
  have hc6 : ¬ 4 = cap := by omega
  have HZ : Hid (Below w.heap.size w (w.alloc (.cells #[.int .i64 0, .slice none 0 0] 24))) := Lib.hid ((Below.refl _ _).alloc (Nat.le_refl _) _)
  have HZ1 : Hid ((w.alloc (.cells #[.int .i64 0, .slice none 0 0] 24)).heap[w.heap.size]? = some (.cells #[.int .i64 0, .slice none 0 0] 24 (0, 0))) := Lib.hid (heap_alloc_new w _)
  have hl1 : w.heap.size < (w.alloc (.cells #[.int .i64 0, .slice none 0 0] 24)).heap.size := by simp
  clear hf hs hg
  go_enter Try.func15, Try.ntmps15
  go_wp2
  generalize (w.alloc (.cells #[.int .i64 0, .slice none 0 0] 24)) = w1 at *
  have HS1 := Lib.hid (HS.out.below HZ.out)
  have HL := Lib.hid (CrcMath.more_lt 0 f 4 (by decide) fun j _ => HF.out j)
  have HSU : Hid (∀ W c, Below w1.heap.size w1 W → Calls Try.prog 26 #[.slice (some ⟨b, off, none⟩) 4 c] W fun e w' => e = .returned (.int .u32 ((CrcMath.more 0 f 4 : Nat) : Int)) ∧ W = w') :=
    Lib.hid fun W c hb => rsum_any _ 4 c f W (by omega) (fun j _ => HF.out j) ((HS1.out.below hb).front 4 (by omega))
  have HSA : Hid (∀ (W : World) c, Below w1.heap.size w1 W → Calls Try.prog 11 #[.slice (some ⟨W.heap.size, 0, none⟩) 4 4, .slice (some ⟨b, off + 4, none⟩) 4 c] (W.alloc (.cells (cells4 (big (CrcMath.more 0 f 4))) 5)) fun e w' => e = .returned (.bool true) ∧ W.alloc (.cells (cells4 (big (CrcMath.more 0 f 4))) 5) = w') :=
    Lib.hid fun W c hb => same_any _ _ _ 4 4 c _ _ true (fun j _ => big_lt _ j) (fun j _ => HF.out _) (lfour_src W _) (((HS1.out.below hb).below ((Below.refl _ _).alloc (Nat.le_refl _) _)).part 4 4 (by omega)) ⟨fun _ => HG.out, fun _ => rfl⟩
  obtain ⟨s, es⟩ : ∃ s, s = CrcMath.more 0 f 4 := ⟨_, rfl⟩
  rw [← es] at HL HSU HSA
  have HES := Lib.hid es
  clear es
  have hw : IntKind.u64.wrap (s : Int) = (s : Int) := by have := HL.out; rw [IntKind.wrap_u64]; omega
  have hB : Below w1.heap.size w1 w1.drew := (Below.refl _ _).drew
  go_region_held3 (fun _ => True) (trivial)
    (first
      | (go_at_call 26; refine (HSU.out _ _ hB).mono ?_; rintro e wN ⟨rfl, rfl⟩)
      | (go_at_call 25; refine (lfour_any s _ HL.out).mono ?_; rintro e wN ⟨rfl, rfl⟩)
      | (go_at_call 11; refine (HSA.out _ _ hB).mono ?_; rintro e wN ⟨rfl, rfl⟩))
  have HB2' : Hid (Below w1.heap.size w1 (w1.alloc (.cells (cells4 (big s)) 5)).drew) := Lib.hid ((Below.refl _ _).alloc (Nat.le_refl _) _).drew
  clear hB
  go_simp
  generalize (w1.alloc (.cells (cells4 (big s)) 5)).drew = w2 at *
  have HZ2 := Lib.hid ((HB2'.out.block _ hl1).trans HZ1.out)
  have HB2 := Lib.hid (HZ.out.trans (HB2'.out.mono HZ.out.size))
  have HS2 := Lib.hid (HS1.out.below HB2'.out)
  have hl2 : w.heap.size < w2.heap.size := Nat.lt_of_lt_of_le hl1 HB2'.out.size
  clear HB2' HSU HSA HZ1 HS1 hl1
  obtain ⟨c1, c2, c3⟩ : w2.cell? ⟨b, off + 1, none⟩ = some (.int .u8 ((f 1 : Nat) : Int)) ∧ w2.cell? ⟨b, off + 2, none⟩ = some (.int .u8 ((f 2 : Nat) : Int)) ∧ w2.cell? ⟨b, off + 3, none⟩ = some (.int .u8 ((f 3 : Nat) : Int)) := by
    obtain ⟨ad, e, _, hcc⟩ := HS2.out (by omega)
    injection e with e
    subst e
    have h1 := hcc 1 (by omega)
    have h2 := hcc 2 (by omega)
    have h3 := hcc 3 (by omega)
    rw [Go.WideShapes.add_plain] at h1 h2 h3
    exact ⟨h1, h2, h3⟩
  have hsize := size_eq f HF.out
  have hf1 := HF.out 1
  have hf2 := HF.out 2
  have hf3 := HF.out 3
  have hz24 : sizeOf' f < 16777216 := Nat.mod_lt _ (by decide)
  obtain ⟨z, ez⟩ : ∃ z, z = sizeOf' f := ⟨_, rfl⟩
  rw [← ez] at hsize hz24 HZZ
  have HZD := Lib.hid ez.symm
  clear ez
  generalize f 1 = y1 at c1 hsize hf1
  generalize f 2 = y2 at c2 hsize hf2
  generalize f 3 = y3 at c3 hsize hf3
  have hn1 : (1 : Int) < (n : Int) := by omega
  have hn2 : (2 : Int) < (n : Int) := by omega
  have hn3 : (3 : Int) < (n : Int) := by omega
  go_wp2
  go_quiet (fail)
  have HZ3 : Hid ((w2.drewN nq).heap[w.heap.size]? = some (.cells #[.int .i64 0, .slice none 0 0] 24 (0, 0))) := HZ2
  have HB3 : Hid (Below w.heap.size w (w2.drewN nq)) := Lib.hid (below_drewN HB2.out nq)
  have HS3 : Hid (Src (w2.drewN nq) (some ⟨b, off, none⟩) n f) := Lib.hid (HS2.out.drewN nq)
  have hl3 : w.heap.size < (w2.drewN nq).heap.size := hl2
  clear c1 c2 c3 HZ2 HB2 HS2 hl2
  generalize w2.drewN nq = w3 at *
  have hz' : (65536 : Int) < (z : Int) := by have := HZZ.out; omega
  obtain ⟨⟨z0, z1⟩, fz⟩ := zcells HZ3.out
  go_wp2
  exact bodyPost_ret (v := .tuple #[zeroF, .int .i64 0, .int .i64 3]) (by simp [results, Try.results15, go_sem, zeroF, z0, z1]) rfl ⟨(HB3.out.setCell (Nat.le_refl _) _).setCell (Nat.le_refl _) _, .inl ⟨by rw [HE.out]; decide, by rw [HE.out]; rfl⟩⟩

set_option maxHeartbeats 2000000 in
theorem rd_cut (b off n cap : Nat) (f : Nat → Nat) (w : World) (hn : 8 ≤ n) (hc : n ≤ cap) (hf : ∀ j, f j < 256) (hs : Src w (some ⟨b, off, none⟩) n f) (hg : good1 f) (hz : sizeOf' f ≤ 65536 ∧ n < 12 + sizeOf' f) : Calls Try.prog 15 #[.slice (some ⟨b, off, none⟩) n cap] w (DecPost f n w) := by
  have HE : Hid (derr f n = 10) := Lib.hid (by unfold derr; rw [if_neg (by omega), if_neg (fun h => h hg), if_neg (by omega), if_pos hz.2])
  have HZZ := Lib.hid hz
  clear hz
  have HF := Lib.hid hf
  have HS := Lib.hid hs
  have HG : Hid (∀ j, j < 4 → big (CrcMath.more 0 f 4) j = f (4 + j)) := Lib.hid (fun j hj => (hg j hj).symm)
  have hn' : ¬ (n : Int) < 8 := by omega
  have hn4 : (4 : Int) ≤ (n : Int) := by omega
  have hn8 : (8 : Int) ≤ (n : Int) := by omega
  have hc4 : (4 : Int) ≤ (cap : Int) := by omega
  have hc8 : (8 : Int) ≤ (cap : Int) := by omega
  have hcn : (n : Int) ≤ (cap : Int) := by omega
  have hc5 : ¬ cap = 4 := by omega
  have hc6 : ¬ 4 = cap := by omega
  have HZ : Hid (Below w.heap.size w (w.alloc (.cells #[.int .i64 0, .slice none 0 0] 24))) := Lib.hid ((Below.refl _ _).alloc (Nat.le_refl _) _)
  have HZ1 : Hid ((w.alloc (.cells #[.int .i64 0, .slice none 0 0] 24)).heap[w.heap.size]? = some (.cells #[.int .i64 0, .slice none 0 0] 24 (0, 0))) := Lib.hid (heap_alloc_new w _)
  have hl1 : w.heap.size < (w.alloc (.cells #[.int .i64 0, .slice none 0 0] 24)).heap.size := by simp
  clear hf hs hg
  go_enter Try.func15, Try.ntmps15
  go_wp2
  generalize (w.alloc (.cells #[.int .i64 0, .slice none 0 0] 24)) = w1 at *
  have HS1 := Lib.hid (HS.out.below HZ.out)
  have HL := Lib.hid (CrcMath.more_lt 0 f 4 (by decide) fun j _ => HF.out j)
  have HSU : Hid (∀ W c, Below w1.heap.size w1 W → Calls Try.prog 26 #[.slice (some ⟨b, off, none⟩) 4 c] W fun e w' => e = .returned (.int .u32 ((CrcMath.more 0 f 4 : Nat) : Int)) ∧ W = w') :=
    Lib.hid fun W c hb => rsum_any _ 4 c f W (by omega) (fun j _ => HF.out j) ((HS1.out.below hb).front 4 (by omega))
  have HSA : Hid (∀ (W : World) c, Below w1.heap.size w1 W → Calls Try.prog 11 #[.slice (some ⟨W.heap.size, 0, none⟩) 4 4, .slice (some ⟨b, off + 4, none⟩) 4 c] (W.alloc (.cells (cells4 (big (CrcMath.more 0 f 4))) 5)) fun e w' => e = .returned (.bool true) ∧ W.alloc (.cells (cells4 (big (CrcMath.more 0 f 4))) 5) = w') :=
    Lib.hid fun W c hb => same_any _ _ _ 4 4 c _ _ true (fun j _ => big_lt _ j) (fun j _ => HF.out _) (lfour_src W _) (((HS1.out.below hb).below ((Below.refl _ _).alloc (Nat.le_refl _) _)).part 4 4 (by omega)) ⟨fun _ => HG.out, fun _ => rfl⟩
  obtain ⟨s, es⟩ : ∃ s, s = CrcMath.more 0 f 4 := ⟨_, rfl⟩
  rw [← es] at HL HSU HSA
  have HES := Lib.hid es
  clear es
  have hw : IntKind.u64.wrap (s : Int) = (s : Int) := by have := HL.out; rw [IntKind.wrap_u64]; omega
  have hB : Below w1.heap.size w1 w1.drew := (Below.refl _ _).drew
  go_region_held3 (fun _ => True) (trivial)
    (first
      | (go_at_call 26; refine (HSU.out _ _ hB).mono ?_; rintro e wN ⟨rfl, rfl⟩)
      | (go_at_call 25; refine (lfour_any s _ HL.out).mono ?_; rintro e wN ⟨rfl, rfl⟩)
      | (go_at_call 11; refine (HSA.out _ _ hB).mono ?_; rintro e wN ⟨rfl, rfl⟩))
  have HB2' : Hid (Below w1.heap.size w1 (w1.alloc (.cells (cells4 (big s)) 5)).drew) := Lib.hid ((Below.refl _ _).alloc (Nat.le_refl _) _).drew
  clear hB
  go_simp
  generalize (w1.alloc (.cells (cells4 (big s)) 5)).drew = w2 at *
  have HZ2 := Lib.hid ((HB2'.out.block _ hl1).trans HZ1.out)
  have HB2 := Lib.hid (HZ.out.trans (HB2'.out.mono HZ.out.size))
  have HS2 := Lib.hid (HS1.out.below HB2'.out)
  have hl2 : w.heap.size < w2.heap.size := Nat.lt_of_lt_of_le hl1 HB2'.out.size
  clear HB2' HSU HSA HZ1 HS1 hl1
  obtain ⟨c1, c2, c3⟩ : w2.cell? ⟨b, off + 1, none⟩ = some (.int .u8 ((f 1 : Nat) : Int)) ∧ w2.cell? ⟨b, off + 2, none⟩ = some (.int .u8 ((f 2 : Nat) : Int)) ∧ w2.cell? ⟨b, off + 3, none⟩ = some (.int .u8 ((f 3 : Nat) : Int)) := by
    obtain ⟨ad, e, _, hcc⟩ := HS2.out (by omega)
    injection e with e
    subst e
    have h1 := hcc 1 (by omega)
    have h2 := hcc 2 (by omega)
    have h3 := hcc 3 (by omega)
    rw [Go.WideShapes.add_plain] at h1 h2 h3
    exact ⟨h1, h2, h3⟩
  have hsize := size_eq f HF.out
  have hf1 := HF.out 1
  have hf2 := HF.out 2
  have hf3 := HF.out 3
  have hz24 : sizeOf' f < 16777216 := Nat.mod_lt _ (by decide)
  obtain ⟨z, ez⟩ : ∃ z, z = sizeOf' f := ⟨_, rfl⟩
  rw [← ez] at hsize hz24 HZZ
  have HZD := Lib.hid ez.symm
  clear ez
  generalize f 1 = y1 at c1 hsize hf1
  generalize f 2 = y2 at c2 hsize hf2
  generalize f 3 = y3 at c3 hsize hf3
  have hn1 : (1 : Int) < (n : Int) := by omega
  have hn2 : (2 : Int) < (n : Int) := by omega
  have hn3 : (3 : Int) < (n : Int) := by omega
  go_wp2
  go_quiet (fail)
  have HZ3 : Hid ((w2.drewN nq).heap[w.heap.size]? = some (.cells #[.int .i64 0, .slice none 0 0] 24 (0, 0))) := HZ2
  have HB3 : Hid (Below w.heap.size w (w2.drewN nq)) := Lib.hid (below_drewN HB2.out nq)
  have HS3 : Hid (Src (w2.drewN nq) (some ⟨b, off, none⟩) n f) := Lib.hid (HS2.out.drewN nq)
  have hl3 : w.heap.size < (w2.drewN nq).heap.size := hl2
  clear c1 c2 c3 HZ2 HB2 HS2 hl2
  generalize w2.drewN nq = w3 at *
  have hz' : ¬ (65536 : Int) < (z : Int) := by have := HZZ.out; omega
  have hcut' : (n : Int) < 12 + (z : Int) := by have := HZZ.out; omega
  obtain ⟨⟨z0, z1⟩, fz⟩ := zcells HZ3.out
  go_wp2
  exact bodyPost_ret (v := .tuple #[zeroF, .int .i64 0, .int .i64 10]) (by simp [results, Try.results15, go_sem, zeroF, z0, z1]) rfl ⟨(HB3.out.setCell (Nat.le_refl _) _).setCell (Nat.le_refl _) _, .inl ⟨by rw [HE.out]; decide, by rw [HE.out]; rfl⟩⟩

end Go.Proofs.Ytgplannipnceeaa
