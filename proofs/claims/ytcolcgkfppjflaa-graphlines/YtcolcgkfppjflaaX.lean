/-
  The reference's Order.
-/
import Derived.Test.YtcolcgkfppjflaaU
namespace Go.Proofs.Ytcolcgkfppjflaa
open Go.ChangeShapes Go.WideShapes Go.ChangeAt Go.RowKit
set_option linter.unusedVariables false

/-- the least free one from s on -/
def Lst (A : Nat → Nat → Prop) (N : Nat) (O : List Nat) (s : Nat) (x : Int) : Prop :=
  (x = -1 ∧ ∀ u, s ≤ u → ¬ Free A N O u) ∨ ∃ m : Nat, x = (m : Int) ∧ s ≤ m ∧ Free A N O m ∧ ∀ u, s ≤ u → u < m → ¬ Free A N O u
theorem Lst.hit {A : Nat → Nat → Prop} {N : Nat} {O : List Nat} {s : Nat} (h : Free A N O s) : Lst A N O s (s : Int) := .inr ⟨s, rfl, Nat.le_refl _, h, fun u h1 h2 => by omega⟩
theorem Lst.miss {A : Nat → Nat → Prop} {N : Nat} {O : List Nat} {s : Nat} {x : Int} (h : Lst A N O (s + 1) x) (hno : ¬ Free A N O s) : Lst A N O s x := by
  have hh : ∀ u, s ≤ u → u = s ∨ s + 1 ≤ u := fun u hu => by omega
  rcases h with ⟨rfl, h1⟩ | ⟨m, rfl, h1, h2, h3⟩
  · refine .inl ⟨rfl, fun u hu => ?_⟩
    rcases hh u hu with rfl | h
    · exact hno
    · exact h1 u h
  · refine .inr ⟨m, rfl, by omega, h2, fun u hu hm => ?_⟩
    rcases hh u hu with rfl | h
    · exact hno
    · exact h3 u h hm
def ROrdP (A : Nat → Nat → Prop) (N : Nat) (w : World) (e : Ending) (w' : World) : Prop :=
  ∃ O b sp cp, e = .returned (.tuple #[.slice sp O.length cp, .bool b]) ∧ OrdR A N O b ∧ LsS w' (.slice sp O.length cp) O ∧ Below w.heap.size w w'
/-- is v free, as far as the first q say? -/
def Fr (P : Nat → Bool) (T : Nat → Nat → Bool) (v q : Nat) (fb : Bool) : Prop := fb = true ↔ P v = false ∧ ∀ u, u < q → P u = true ∨ T u v = false

set_option maxRecDepth 100000 in
set_option maxHeartbeats 4000000 in
theorem rorder_any (g N : Nat) (rb : Nat → Nat) (T : Nat → Nat → Bool) (A : Nat → Nat → Prop) (w : World) (hN : N ≤ 400) (ht : TabR w g N rb T) (hA : ∀ i j, i < N → j < N → (T i j = true ↔ A i j)) :
    Calls Try.prog 21 #[.slice (some ⟨g, 0, none⟩) N N] w (ROrdP A N w) := by
  obtain ⟨i0, hi0, hy0, hy1, hy2⟩ := info_parts info3
  have HT := Lib.hid ht
  have HA := Lib.hid hA
  obtain ⟨md, hmd⟩ : ∃ md, md = madeCells #[.bool false] N := ⟨_, rfl⟩
  have hmb := makeB N (by omega) md hmd
  have HST : Hid (RchR w ((w.alloc (.cells #[] 3)).alloc (.cells md 4)) (w.heap.size + 1) w.heap.size 0 N [] (fun _ => false)) := Lib.hid (by
    have h1 : Below w.heap.size w (w.alloc (.cells #[] 3)) := (Below.refl _ _).alloc (Nat.le_refl _) _
    have h2 : Below (w.alloc (.cells #[] 3)).heap.size (w.alloc (.cells #[] 3)) ((w.alloc (.cells #[] 3)).alloc (.cells md 4)) := (Below.refl _ _).alloc (Nat.le_refl _) _
    refine ⟨?_, ⟨rfl, .inr ⟨w.heap.size, 0, #[], rfl, Nat.le_refl _, ?_, Nat.le_refl _, by unfold maxLen; omega, rfl, rfl⟩⟩, h1.trans (h2.mono h1.size)⟩
    · have := MetS.made (w := w.alloc (.cells #[] 3)) (N := N) hN h1.size
      rw [← hmd] at this
      simpa using this
    · exact (h2.block _ (by simp)).trans (heap_alloc_new _ _))
  clear hmd ht hA
  go_enter Try.func21, Try.ntmps21
  go_wp2
  clear hmb
  obtain ⟨gp, egp⟩ : ∃ gp, gp = w.heap.size + 1 := ⟨_, rfl⟩
  obtain ⟨wc, ewc⟩ : ∃ wc, wc = (w.alloc (.cells #[] 3)).alloc (.cells md 4) := ⟨_, rfl⟩
  obtain ⟨g1, eg1⟩ : ∃ g1, g1 = w.heap.size := ⟨_, rfl⟩
  have HS1 : Hid (RchR w wc gp g1 0 N [] (fun _ => false)) := Lib.hid (by rw [ewc, egp, eg1]; exact HST.out)
  rw [← ewc, ← egp, ← eg1]
  clear HST ewc egp eg1
  go_loopg [5, 7, 8, 9, 10] N (fun k v _ _ _ _ wr => ∃ (go co : Nat) (O : List Nat) (P : Nat → Bool), O.length ≤ N ∧ k = N - O.length ∧ v = .slice (some ⟨go, 0, none⟩) O.length co ∧ Hid (RchR w wr gp go co N O P ∧ Bld A N O ∧ ∀ x, x < N → (P x = true ↔ x ∈ O)))
  case atStart => exact ⟨g1, 0, [], _, Nat.zero_le _, rfl, rfl, Lib.hid ⟨HS1.out, .nil, fun x _ => by simp⟩⟩
  case round =>
    obtain ⟨go, co, O, P, hO, rfl, rfl, HJ⟩ := hrel
    clear HS1
    by_cases hON : O.length < N
    · have hON' : (O.length : Int) < (N : Int) := by omega
      have HL0 : Hid (Lst A N O N (-1)) := Lib.hid (.inl ⟨rfl, fun u hu h => by have := h.1; omega⟩)
      go_wp2
      obtain ⟨wF, ewF⟩ : ∃ wF, wF = wr := ⟨_, rfl⟩
      rw [← ewF] at HJ ⊢
      clear ewF
      go_loopg [7, 8, 9, 10] N (fun k at_ v _ _ wr => ∃ (s : Nat) (x : Int), s ≤ N ∧ s = k ∧ v = .int .i64 ((s : Int) - 1) ∧ at_ = .int .i64 x ∧ wF = wr ∧ Hid (Lst A N O s x))
      case atStart => exact ⟨N, -1, Nat.le_refl _, rfl, rfl, rfl, rfl, HL0⟩
      case round =>
        obtain ⟨s, x, hs, rfl, rfl, rfl, rfl, HX⟩ := hrel
        clear HL0
        by_cases hs0 : s = 0
        · subst hs0
          rcases HX.out with ⟨hx, hno⟩ | ⟨m, hx, _, hm, hlt⟩
          · subst hx
            go_wp2
            go_ret2
            exact ⟨[], false, none, 0, rfl, .inr ⟨rfl, rfl, O, HJ.out.2.1, hON, fun v => hno v (Nat.zero_le _)⟩, ⟨none, 0, rfl, fun h => absurd h (Nat.lt_irrefl _)⟩, HJ.out.1.bel⟩
          · subst hx
            have hmN := hm.1
            have hmN' : (m : Int) < (N : Int) := by omega
            have HNX : Hid (Next A N O m) := Lib.hid ⟨hm, fun u hu => hlt u (Nat.zero_le _) hu⟩
            have cm := HJ.out.1.met.cell hmN
            have fm := HJ.out.1.met.fz m
            have hb1 : Below (wF.setCell ⟨gp, m, none⟩ (.bool true)).heap.size (wF.setCell ⟨gp, m, none⟩ (.bool true)) ((wF.setCell ⟨gp, m, none⟩ (.bool true)).alloc (.cells #[.int .i64 (m : Int)] 3)) := (Below.refl _ _).alloc (Nat.le_refl _) _
            have HR2 := Lib.hid ((HJ.out.1.mark m).below hb1)
            have HNW := Lib.hid (one_new (m : Int) (wF.setCell ⟨gp, m, none⟩ (.bool true)))
            have HPM : Hid (∀ x, x < N → ((if x = m then true else P x) = true ↔ x ∈ O ++ [m])) := Lib.hid fun x hx => by
              by_cases hxm : x = m
              · rw [if_pos hxm]; simp [hxm]
              · rw [if_neg hxm, HJ.out.2.2 x hx]; simp [hxm]
            clear hm hlt hb1
            go_wp2_with (at_builtin; refine wpList_append_lies _ rfl _ _ 33 rfl w.heap.size 3 i0 (.int .i64 0) 1 8 Try.underlying33 hi0 hy0 hy1 hy2 rfl (by decide) _ O.length (rowN O) rfl HR2.out.stk ⟨(wF.setCell ⟨gp, m, none⟩ (.bool true)).heap.size, 0, none⟩ 1 1 [.int .i64 (m : Int)] (by simp [Act.eval]) rfl HNW.out (by intro u hu; simp at hu; subst hu; rfl) (by omega) (by unfold maxLen; omega) (by omega) HR2.out.bel.size _ rfl ?_)
            intro g7 c7 w7 ho7 hg7 hat7 hl7
            have HP7 := Lib.hid (HR2.out.push ho7 hg7)
            clear ho7 hg7 hat7 hl7 cm fm
            go_wp2
            go_roundg (N - (O.length + 1))
            case measure => omega
            case rel => exact ⟨g7, c7, O ++ [m], _, by simp; omega, by simp, by simp, Lib.hid ⟨HP7.out, .snoc HJ.out.2.1 HNX.out, HPM.out⟩⟩
        · obtain ⟨v, rfl⟩ : ∃ v, s = v + 1 := ⟨s - 1, by omega⟩
          have hvN : v < N := by omega
          have hvN' : (v : Int) < (N : Int) := by omega
          have hv1 : ((v + 1 : Nat) : Int) - 1 = (v : Int) := by omega
          rw [hv1]
          have cv := HJ.out.1.met.cell hvN
          have HF0 : Hid (Fr P T v 0 (!P v)) := Lib.hid (by unfold Fr; simp)
          go_wp2
          clear cv hv1
          go_loopg [9, 10] N (fun k f u wr => ∃ (q : Nat) (fb : Bool), q ≤ N ∧ k = N - q ∧ u = .int .i64 (q : Int) ∧ f = .bool fb ∧ wF = wr ∧ Hid (Fr P T v q fb))
          case atStart => exact ⟨0, _, Nat.zero_le _, rfl, rfl, rfl, rfl, HF0⟩
          case round =>
            obtain ⟨q, fb, hq, rfl, rfl, rfl, rfl, HQ⟩ := hrel
            clear HF0
            by_cases hqN : q < N
            · have hqN' : (q : Int) < (N : Int) := by omega
              cases fb with
              | false =>
                have HN : Hid (Fr P T v (q + 1) false) := Lib.hid ⟨fun h => (by cases h), fun h => HQ.out.2 ⟨h.1, fun u hu => h.2 u (by omega)⟩⟩
                go_wp2
                go_roundg (N - (q + 1))
                case measure => omega
                case rel => exact ⟨q + 1, false, by omega, rfl, by go_num, rfl, rfl, HN⟩
              | true =>
                have cq := HJ.out.1.met.cell hqN
                have d0 := ((HT.out.below HJ.out.1.bel).top q hqN).1
                have d1 := (HT.out.below HJ.out.1.bel).cell q v hqN hvN
                cases hP : P q with
                | true =>
                  rw [hP] at cq
                  have HN : Hid (Fr P T v (q + 1) true) := Lib.hid ⟨fun _ => ⟨(HQ.out.1 rfl).1, fun u hu => by
                    by_cases h : u < q
                    · exact (HQ.out.1 rfl).2 u h
                    · obtain rfl : u = q := by omega
                      exact .inl hP⟩, fun _ => rfl⟩
                  clear hP
                  go_wp2
                  go_roundg (N - (q + 1))
                  case measure => omega
                  case rel => exact ⟨q + 1, true, by omega, rfl, by go_num, rfl, rfl, HN⟩
                | false =>
                  rw [hP] at cq
                  cases hTq : T q v with
                  | true =>
                    rw [hTq] at d1
                    have HN : Hid (Fr P T v (q + 1) false) := Lib.hid ⟨fun h => (by cases h), fun h => by
                      rcases h.2 q (by omega) with h1 | h1
                      · rw [hP] at h1; cases h1
                      · rw [hTq] at h1; cases h1⟩
                    clear hP hTq
                    go_wp2
                    go_roundg (N - (q + 1))
                    case measure => omega
                    case rel => exact ⟨q + 1, false, by omega, rfl, by go_num, rfl, rfl, HN⟩
                  | false =>
                    rw [hTq] at d1
                    have HN : Hid (Fr P T v (q + 1) true) := Lib.hid ⟨fun _ => ⟨(HQ.out.1 rfl).1, fun u hu => by
                      by_cases h : u < q
                      · exact (HQ.out.1 rfl).2 u h
                      · obtain rfl : u = q := by omega
                        exact .inr hTq⟩, fun _ => rfl⟩
                    clear hP hTq
                    go_wp2
                    go_roundg (N - (q + 1))
                    case measure => omega
                    case rel => exact ⟨q + 1, true, by omega, rfl, by go_num, rfl, rfl, HN⟩
            · obtain rfl : q = N := by omega
              have HFF : Hid (fb = true ↔ Free A q O v) := Lib.hid (by
                have hq := HQ.out
                unfold Fr at hq
                rw [hq]
                constructor
                · rintro ⟨h1, h2⟩
                  refine ⟨hvN, fun hm => ?_, fun u hu ha => ?_⟩
                  · rw [(HJ.out.2.2 v hvN).2 hm] at h1; cases h1
                  · rcases h2 u hu with h3 | h3
                    · exact (HJ.out.2.2 u hu).1 h3
                    · rw [(HA.out u v hu hvN).2 ha] at h3; cases h3
                · rintro ⟨_, h2, h3⟩
                  refine ⟨?_, fun u hu => ?_⟩
                  · cases hp : P v with
                    | false => rfl
                    | true => exact absurd ((HJ.out.2.2 v hvN).1 hp) h2
                  · cases hp : T u v with
                    | false => exact .inr rfl
                    | true => exact .inl ((HJ.out.2.2 u hu).2 (h3 u hu ((HA.out u v hu hvN).1 hp))))
              cases fb with
              | true =>
                have HN := Lib.hid (Lst.hit (HFF.out.1 rfl))
                go_wp2
                go_roundg v
                case measure => omega
                case rel => exact ⟨v, (v : Int), by omega, rfl, by go_num, rfl, rfl, HN⟩
              | false =>
                have HN := Lib.hid (HX.out.miss (fun h => by have := HFF.out.2 h; cases this))
                go_wp2
                go_roundg v
                case measure => omega
                case rel => exact ⟨v, x, by omega, rfl, by go_num, rfl, rfl, HN⟩
    · have hON2 : O.length = N := by omega
      have hON' : decide ((O.length : Int) < (N : Int)) = false := by simp; omega
      go_wp2
      go_ret2
      exact ⟨O, true, _, _, rfl, .inl ⟨rfl, HJ.out.2.1, hON2⟩, LsS.of HJ.out.1.stk, HJ.out.1.bel⟩
end Go.Proofs.Ytcolcgkfppjflaa
