/-
  The law DrawPlans' walk; a plan that came in.
-/
import Derived.Test.YtbdpinfiicpmhaaP8
namespace Go.Proofs.Ytbdpinfiicpmhaa
open Go.ChangeShapes Go.WideShapes Go.ChangeAt Go.RowKit RefMath
set_option linter.unusedVariables false

section
variable {H : Type} {enc : TypeId × Value → H} {w : World} {base : Nat} {spare : Nat → Bool} {held : Bool}
theorem cellsI : Try.prog.cellsOf 3 = 1 := by kernel_rfl
theorem cells23 : Try.prog.cellsOf 23 = 6 := by kernel_rfl
theorem plan_of {n : Nat} {cs : List Value} {y : DataW H × List MemPlace} (h : DataW.trod enc Try.prog w base spare held n 23 cs = some y) :
    ∃ P : Pl, cs = [.int .i64 P.keys, .int .i64 P.most, .int .i64 P.r, .int .i64 P.w, .int .i64 P.b, .int .i64 P.s] ∧ P.fits := by
  obtain ⟨xs, n', _, _, hlen, hxl, hf⟩ := DataW.trod_struct Try.underlying23 h
  rw [cells23] at hlen
  match cs, hlen with
  | [c0, c1, c2, c3, c4, c5], _ =>
    match xs, hxl with
    | [y0, y1, y2, y3, y4, y5], _ =>
      have g0 := hf 0 _ rfl
      have g1 := hf 1 _ rfl
      have g2 := hf 2 _ rfl
      have g3 := hf 3 _ rfl
      have g4 := hf 4 _ rfl
      have g5 := hf 5 _ rfl
      simp [cellsI] at g0 g1 g2 g3 g4 g5
      obtain ⟨k0, e0, _, b0⟩ := DataW.trod_int Try.underlying3 g0
      obtain ⟨k1, e1, _, b1⟩ := DataW.trod_int Try.underlying3 g1
      obtain ⟨k2, e2, _, b2⟩ := DataW.trod_int Try.underlying3 g2
      obtain ⟨k3, e3, _, b3⟩ := DataW.trod_int Try.underlying3 g3
      obtain ⟨k4, e4, _, b4⟩ := DataW.trod_int Try.underlying3 g4
      obtain ⟨k5, e5, _, b5⟩ := DataW.trod_int Try.underlying3 g5
      simp at e0 e1 e2 e3 e4 e5
      subst e0 e1 e2 e3 e4 e5
      refine ⟨⟨k0, k1, k2, k3, k4, k5⟩, rfl, ?_⟩
      intro x hx
      simp at hx
      rcases hx with rfl | rfl | rfl | rfl | rfl | rfl
      · exact i64_bounds b0
      · exact i64_bounds b1
      · exact i64_bounds b2
      · exact i64_bounds b3
      · exact i64_bounds b4
      · exact i64_bounds b5
end

set_option maxRecDepth 100000 in
set_option maxHeartbeats 4000000 in
theorem plans_main (p : Pl) (c : Int) (seed : Nat) (w : World) (hs : seed < 18446744073709551616) :
    Calls Try.prog 3 #[plV p, .int .i64 c, .int .u64 (seed : Int)] w (fun e w' => e = .returned (.bool true) ∧ Below w.heap.size w w') := by
  have HB0 : Hid (Below w.heap.size w (w.alloc (.cells #[.int .i64 p.keys, .int .i64 p.most, .int .i64 p.r, .int .i64 p.w, .int .i64 p.b, .int .i64 p.s] 23))) := Lib.hid ((Below.refl _ _).alloc (Nat.le_refl _) _)
  have HPl : Hid ((w.alloc (.cells #[.int .i64 p.keys, .int .i64 p.most, .int .i64 p.r, .int .i64 p.w, .int .i64 p.b, .int .i64 p.s] 23)).heap[w.heap.size]? = some (.cells #[.int .i64 p.keys, .int .i64 p.most, .int .i64 p.r, .int .i64 p.w, .int .i64 p.b, .int .i64 p.s] 23 (0, 0))) := Lib.hid (heap_alloc_new w _)
  have HRi : Hid (∀ w, Calls Try.prog 9 #[.agg #[.int .i64 p.keys, .int .i64 p.most, .int .i64 p.r, .int .i64 p.w, .int .i64 p.b, .int .i64 p.s]] w (fun e w' => e = .returned (.bool (rt p)) ∧ Below w.heap.size w w')) := Lib.hid (right_any p)
  have HCk : Hid (∀ w, Calls Try.prog 11 #[.agg #[.int .i64 p.keys, .int .i64 p.most, .int .i64 p.r, .int .i64 p.w, .int .i64 p.b, .int .i64 p.s]] w (fun e w' => e = .returned (.int .i64 (ck p)) ∧ Below w.heap.size w w')) := Lib.hid (check_any p)
  have HNw : Hid (∀ w, Calls Try.prog 10 #[.agg #[.int .i64 p.keys, .int .i64 p.most, .int .i64 p.r, .int .i64 p.w, .int .i64 p.b, .int .i64 p.s], .int .i64 c, .int .u64 (seed : Int)] w (NewP p c seed w)) := Lib.hid fun w => gnew_any p c seed w hs
  clear hs
  show Calls Try.prog 3 #[.agg #[.int .i64 p.keys, .int .i64 p.most, .int .i64 p.r, .int .i64 p.w, .int .i64 p.b, .int .i64 p.s], .int .i64 c, .int .u64 (seed : Int)] w _
  generalize p.keys = x0 at *
  generalize p.most = x1 at *
  generalize p.r = x2 at *
  generalize p.w = x3 at *
  generalize p.b = x4 at *
  generalize p.s = x5 at *
  go_enter Try.func3, Try.ntmps3
  go_wp2_with fail
  refine (head_any _).mono ?_
  rintro e w1 ⟨rfl, hb1⟩
  have HB1 := Lib.hid (HB0.out.trans (hb1.mono HB0.out.size))
  have HP1 := Lib.hid ((hb1.block _ (heap_lt HPl.out)).trans HPl.out)
  clear hb1 HB0 HPl
  obtain ⟨d0, d1, d2, d3, d4, d5⟩ := cells6 HP1.out
  go_wp2_with fail
  refine (HRi.out _).mono ?_
  rintro e w2 ⟨rfl, hb2⟩
  have HB2 := Lib.hid (HB1.out.trans (hb2.mono HB1.out.size))
  have HP2 := Lib.hid ((hb2.block _ (heap_lt HP1.out)).trans HP1.out)
  clear hb2 HB1 HP1 d0 d1 d2 d3 d4 d5
  obtain ⟨d0, d1, d2, d3, d4, d5⟩ := cells6 HP2.out
  go_wp2_with fail
  refine (HNw.out _).mono ?_
  rintro e w3 hnp
  have hbb : Below w2.heap.size w2 w3 := by
    rcases hnp with ⟨_, _, _, g, _, _, _, hb⟩ | ⟨_, _, hb⟩ <;> exact hb
  have HB3 := Lib.hid (HB2.out.trans (hbb.mono HB2.out.size))
  have HP3 := Lib.hid ((hbb.block _ (heap_lt HP2.out)).trans HP2.out)
  clear hbb HB2 HP2 d0 d1 d2 d3 d4 d5
  obtain ⟨d0, d1, d2, d3, d4, d5⟩ := cells6 HP3.out
  rcases hnp with ⟨hr, h1, h2, g, rfl, _, _, _⟩ | ⟨hno, rfl, _⟩
  · have hrt := rt_yes hr
    have HCk' := Lib.hid (ck_yes hr ▸ HCk.out)
    clear HCk
    rw [hrt]
    go_wp2_with fail
    refine (HCk'.out _).mono ?_
    rintro e w4 ⟨rfl, hb4⟩
    have HB4 := Lib.hid (HB3.out.trans (hb4.mono HB3.out.size))
    clear hb4
    go_wp2
    go_ret
    exact ⟨rfl, HB4.out⟩
  · by_cases hr : p.right
    · have hrt := rt_yes hr
      have HCk' := Lib.hid (ck_yes hr ▸ HCk.out)
      have hcc : c < 1 ∨ 16 < c := by
        rcases Int.lt_or_le c 1 with h | h
        · exact .inl h
        · rcases Int.lt_or_le 16 c with h' | h'
          · exact .inr h'
          · exact absurd ⟨hr, h, h'⟩ hno
      clear HCk
      rw [hrt]
      go_wp2_with fail
      refine (HCk'.out _).mono ?_
      rintro e w4 ⟨rfl, hb4⟩
      have HB4 := Lib.hid (HB3.out.trans (hb4.mono HB3.out.size))
      clear hb4
      rcases hcc with h | h
      · go_wp2_with fail
        refine (next_none _).mono ?_
        rintro e w5 ⟨rfl, rfl⟩
        go_wp2
        go_ret
        exact ⟨rfl, HB4.out⟩
      · have h' : ¬ c < 1 := by omega
        go_wp2_with fail
        refine (next_none _).mono ?_
        rintro e w5 ⟨rfl, rfl⟩
        go_wp2
        go_ret
        exact ⟨rfl, HB4.out⟩
    · have hrt := rt_no hr
      have HCk' := Lib.hid (ck_no hr ▸ HCk.out)
      clear HCk
      rw [hrt]
      go_wp2_with fail
      refine (HCk'.out _).mono ?_
      rintro e w4 ⟨rfl, hb4⟩
      have HB4 := Lib.hid (HB3.out.trans (hb4.mono HB3.out.size))
      have HP4 := Lib.hid ((hb4.block _ (heap_lt HP3.out)).trans HP3.out)
      clear hb4 HB3 HP3 d0 d1 d2 d3 d4 d5
      obtain ⟨d0, d1, d2, d3, d4, d5⟩ := cells6 HP4.out
      go_wp2_with fail
      refine (HCk'.out _).mono ?_
      rintro e w5 ⟨rfl, hb5⟩
      have HB5 := Lib.hid (HB4.out.trans (hb5.mono HB4.out.size))
      clear hb5
      go_wp2_with fail
      refine (next_none _).mono ?_
      rintro e w6 ⟨rfl, rfl⟩
      go_wp2
      go_ret
      exact ⟨rfl, HB5.out⟩
end Go.Proofs.Ytbdpinfiicpmhaa
