/-
  BookForm's walk.
-/
import Derived.Test.YtaddmegghikhpaaEq
import Derived.IntWalk
namespace Go.Proofs.Ytaddmegghikhpaa
open Go.ChangeShapes Go.WideShapes Go.ChangeAt Go.RowKit

set_option maxRecDepth 100000 in
set_option maxHeartbeats 8000000 in
theorem form_main (a : Option Addr) (n cap : Nat) (f : Nat → Nat) (A : Int) (z : Nat) (w : World) (hc : n ≤ cap) (hm : n ≤ 9223372036854775807) (hA : -9223372036854775808 ≤ A ∧ A ≤ 9223372036854775807) (hf : ∀ j, f j < 256) (hz : z < 256) (hs : Src w a n f) (hnil : a = none → n = 0 ∧ cap = 0) :
    Calls Try.prog 5 #[.slice a n cap, .int .i64 A, .int .u8 (z : Int)] w fun e w' => e = .returned (.bool true) ∧ Below w.heap.size w w' := by
  obtain ⟨i5, hi5, hy0, hy1, hy2⟩ := info_parts info5
  have HS := Lib.hid hs
  have HF := Lib.hid hf
  have HNIL := Lib.hid hnil
  have HZ := Lib.hid hz
  clear hs hf hnil
  by_cases hn3 : 3000 < n
  · have hn3' : (3000 : Int) < (n : Int) := by omega
    go_enter Try.func5, Try.ntmps5
    go_wp2_with fail
    refine (head_any _).mono ?_
    rintro e w1 ⟨rfl, hb1⟩
    have HB1 := Lib.hid hb1
    clear hb1
    go_wp2
    go_ret
    exact ⟨rfl, HB1.out⟩
  have hn3' : ¬ (3000 : Int) < (n : Int) := by omega
  go_enter Try.func5, Try.ntmps5
  go_wp2_with fail
  refine (head_any _).mono ?_
  rintro e w1 ⟨rfl, hb1⟩
  have HB1 := Lib.hid hb1
  clear hb1
  go_wp2_with fail
  refine (rcopy_own a n cap f w1 (by omega) (HS.out.below HB1.out) HNIL.out).mono ?_
  rintro e w2 ⟨s2, c2, rfl, ho2, hb2⟩
  have HB2 := Lib.hid (HB1.out.trans (hb2.mono HB1.out.size))
  have HO2 := Lib.hid (own_src ho2)
  clear hb2 ho2 HB1
  go_wp2_with fail
  refine (decode_any s2 n c2 f w2 (by omega) HF.out HO2.out).mono ?_
  rintro e w3 ⟨hb3, hres3⟩
  have HB3 := Lib.hid (HB2.out.trans (hb3.mono HB2.out.size))
  clear hb3 HB2 HO2
  rcases hres3 with ⟨E, len, sp3, cap3, V, rfl, hG⟩ | ⟨er, her, rfl, _⟩
  · have HBK := Lib.hid hG.bk
    have HEV := Lib.hid hG.2.1.evs
    clear hG
    go_wp2_with fail
    refine (encode_any sp3 len cap3 E w3 HEV.out).mono ?_
    rintro e w4 ⟨hb4, hres4⟩
    have HB4 := Lib.hid (HB3.out.trans (hb4.mono HB3.out.size))
    rcases hres4 with ⟨h4, _⟩ | ⟨_, ⟨⟨i, hi, hno⟩, _⟩ | ⟨_, g4, m4, F4, rfl, hE4⟩⟩
    · have := HBK.out.1
      omega
    · exact absurd (HBK.out.2.1 i hi) hno
    · have HSM := Lib.hid (form_same HBK.out hE4.2.2.2.2 hE4.2.2.2.1 hE4.2.2.1)
      have HS4 := Lib.hid (row_src hE4.1)
      have HF4 := Lib.hid hE4.2.2.2.1.1
      clear hb4 hE4 HB3 HEV
      go_wp2_with fail
      refine (sameB_any w4 a (some ⟨g4, 0, none⟩) n m4 cap m4 f F4 true HF.out HF4.out (HS.out.below HB4.out) HS4.out ⟨fun _ => HSM.out, fun _ => rfl⟩).mono ?_
      rintro e w5 ⟨rfl, rfl⟩
      clear HSM HS4 HF4
      go_wp2_with fail
      refine (rcopy_own a n cap f w4 (by omega) (HS.out.below HB4.out) HNIL.out).mono ?_
      rintro e w6 ⟨s6, c6, rfl, ho6, hb6⟩
      have HB6 := Lib.hid (HB4.out.trans (hb6.mono HB4.out.size))
      have HZ6 := Lib.hid hb6.size
      have HO6 : Hid ((w6.alloc (.cells #[.int .u8 (z : Int)] 5)).ownsRow w4.heap.size 5 1 (.slice s6 n c6) n (rowB f n)) := Lib.hid (ho6.alloc _)
      have HNW : Hid (∀ (i : Nat) (u : Value), [Value.int .u8 (z : Int)][i]? = some u → (w6.alloc (.cells #[.int .u8 (z : Int)] 5)).cell? ((⟨w6.heap.size, 0, none⟩ : Addr).add i) = some u) := Lib.hid fun i u hu => by
        rw [Go.WideShapes.add_plain, cell_of_row _ _ _ _ 5 (0, 0) (heap_alloc_new w6 _), Nat.zero_add]
        simpa using hu
      clear hb6 ho6
      go_wp2_with (at_builtin; refine wpList_append_lies _ rfl _ _ 26 rfl w4.heap.size 5 i5 (.int .u8 0) 1 1 Try.underlying26 hi5 hy0 hy1 hy2 rfl (by decide) _ n _ rfl HO6.out ⟨w6.heap.size, 0, none⟩ 1 1 [.int .u8 (z : Int)] rfl rfl HNW.out (by intro u hu; simp at hu; subst hu; rfl) (by omega) (by unfold maxLen; omega) (by omega) (Nat.le_trans HZ6.out (by simp)) _ rfl ?_)
      intro g7 c7 w7 ho7 hg7 hat7 hl7
      rw [rowB_add] at ho7
      have HO7 := Lib.hid (own_src ho7)
      have HB7 : Hid (Below w.heap.size w w7) := Lib.hid ((HB6.out.alloc HB6.out.size _).grown hg7 (Nat.le_trans HB6.out.size (by simp)) (fun q hq => Nat.le_trans HB4.out.size (HO6.out.lt q hq).1))
      clear ho7 hg7 hat7 hl7 HO6 HNW HZ6 HB6
      go_wp2_with fail
      refine (decode_any (some ⟨g7, 0, none⟩) (n + 1) c7 (addB f n z) w7 (by omega) (addB_lt HF.out HZ.out) HO7.out).mono ?_
      rintro e w8 ⟨hb8, hres8⟩
      have HB8 := Lib.hid (HB7.out.trans (hb8.mono HB7.out.size))
      clear hb8 HB7 HO7
      rcases hres8 with ⟨E8, len8, sp8, cap8, V8, rfl, hG8⟩ | ⟨er8, her8, rfl, _⟩
      · exact (form_more HBK.out hG8.bk (addB_low f n z)).elim
      · have he8 : (er8 == 0) = false := by simpa using her8
        by_cases hA0 : A < 0
        · go_wp2
          go_ret
          exact ⟨rfl, HB8.out⟩
        · by_cases hAn : (n : Int) ≤ A
          · go_wp2
            go_ret
            exact ⟨rfl, HB8.out⟩
          · obtain ⟨k, rfl⟩ : ∃ k : Nat, A = (k : Int) := ⟨A.toNat, by omega⟩
            have hkn : k < n := by omega
            obtain ⟨ad, ea, _⟩ := HS.out (by omega)
            subst ea
            have HSK : Hid (Src w (some ad) k f) := Lib.hid fun h => by
              obtain ⟨ad', e', h1, h2⟩ := HS.out (by omega)
              exact ⟨ad', e', h1, fun j hj => h2 j (by omega)⟩
            have hkc : (k : Int) ≤ (cap : Int) := by omega
            go_wp2_with fail
            refine (decode_any (some ad) k cap f w8 (by omega) HF.out (HSK.out.below HB8.out)).mono ?_
            rintro e w9 ⟨hb9, hres9⟩
            have HB9 := Lib.hid (HB8.out.trans (hb9.mono HB8.out.size))
            clear hb9
            rcases hres9 with ⟨E9, len9, sp9, cap9, V9, rfl, hG9⟩ | ⟨er9, her9, rfl, hno9⟩
            · exact (form_cut HBK.out hkn hG9.bk).elim
            · obtain rfl := form_short HBK.out hkn hno9
              go_wp2
              go_ret
              exact ⟨rfl, HB9.out⟩
  · have he : (er != 0) = true := by simpa using her
    go_wp2
    go_ret
    exact ⟨rfl, HB3.out⟩
end Go.Proofs.Ytaddmegghikhpaa
