/-
  ChainsAll: mathematics.
  ChainsAll's walk.
-/
import Derived.Test.YteobndfkkpfnlaaJ17
import Derived.Test.YteobndfkkpfnlaaJ16
import Derived.StillTailTactics

namespace Go.Proofs.Yteobndfkkpfnlaa
open Go.ChangeShapes Go.WideShapes Go.ChangeAt Go.RowKit Go.Maps
set_option linter.unusedVariables false

/-- how many of these are said -/
def sdN (F : CM) (l : List C4) : Nat := l.countP fun c => (F c.k c.y c.a c.b).isSome
theorem sdN_lt {F : CM} {l : List C4} {c : C4} (h : c ∈ l) (hn : F c.k c.y c.a c.b = none) : sdN F l < l.length := by
  unfold sdN
  rcases Nat.lt_or_ge (l.countP fun c => (F c.k c.y c.a c.b).isSome) l.length with h1 | h1
  · exact h1
  · have h2 := List.countP_le_length (p := fun c : C4 => (F c.k c.y c.a c.b).isSome) (l := l)
    have h3 := List.countP_eq_length.1 (Nat.le_antisymm h2 h1) c h
    rw [hn] at h3
    cases h3
theorem updC_some {F : CM} {c : C4} {v : Bool} {k y i j : Int} (h : (F k y i j).isSome = true) : (updC F c.k c.y c.a c.b v k y i j).isSome = true := by
  unfold updC
  split
  · rfl
  · exact h
theorem count_more {p q : C4 → Bool} (hpq : ∀ x, p x = true → q x = true) {c : C4} (hp : p c = false) (hq : q c = true) : ∀ {l : List C4}, c ∈ l → l.countP p + 1 ≤ l.countP q := by
  intro l
  induction l with
  | nil => intro h; cases h
  | cons a l ih =>
    intro h
    rw [List.countP_cons, List.countP_cons]
    by_cases e : c = a
    · subst e
      have := List.countP_mono_left (l := l) (fun x _ h => hpq x h)
      rw [hp, hq]
      simp
      omega
    · have h2 := ih (by rcases List.mem_cons.1 h with h | h
                        · exact absurd h e
                        · exact h)
      have h3 : (if p a = true then 1 else 0) ≤ (if q a = true then 1 else 0) := by
        by_cases h4 : p a = true
        · rw [if_pos h4, if_pos (hpq a h4)]; exact Nat.le_refl _
        · rw [if_neg h4]; exact Nat.zero_le _
      omega
theorem sdN_more {F : CM} {l : List C4} {c : C4} (h : c ∈ l) (hn : F c.k c.y c.a c.b = none) (v : Bool) : sdN F l + 1 ≤ sdN (updC F c.k c.y c.a c.b v) l := by
  refine count_more (fun x hx => updC_some hx) ?_ ?_ h
  · simp [hn]
  · simp [updC_same]
theorem dn_gone {T : Nat → Tx} {m i : Nat} {F : CM} (hu : Uq m T) (hi : i < m) (h : dnF T m F i) : (T i).st ≠ 2 := by
  rcases h with h | ⟨h, _⟩
  · rcases su_cases hu hi h with h | h
    · rw [h]; decide
    · rw [h.1]; decide
  · rw [h.1]; decide
theorem nxA_chA {T : Nat → Tx} {m : Nat} {F : CM} (hu : Uq m T) {c : C4} (h : c ∈ nxA T m F) : c ∈ chA T m := by
  unfold nxA at h
  unfold chA
  rcases List.mem_append.1 h with h | h
  · exact List.mem_append_left _ h
  · refine List.mem_append_right _ ?_
    obtain ⟨y, a, b, rfl, hy, hab, hb, ha2, hb2⟩ := prA_in h
    unfold prA
    refine List.mem_flatMap.2 ⟨y, List.mem_range.2 hy, ?_⟩
    unfold prs
    refine List.mem_flatMap.2 ⟨b, List.mem_range.2 hb, ?_⟩
    unfold prK
    refine List.mem_map.2 ⟨a, List.mem_filter.2 ⟨List.mem_range.2 hab, ?_⟩, rfl⟩
    exact @decide_eq_true _ (_) ⟨⟨dn_gone hu (by omega) (dnB_iff.1 ha2.1), ha2.2⟩, ⟨dn_gone hu hb (dnB_iff.1 hb2.1), hb2.2⟩⟩
theorem nx_false {l : List C4} {ok : C4 → Prop} {c : C4} (h : NxG l ok c false) : ∀ x ∈ l, ¬ ok x := by
  rcases h with ⟨h, _⟩ | ⟨_, _, h⟩
  · cases h
  · intro x hx
    obtain ⟨j, hj, rfl⟩ := List.getElem_of_mem hx
    have := h j hj
    rwa [List.getD_eq_getElem?_getD, List.getElem?_eq_getElem hj] at this
/-- all is known -/
theorem known_of {T : Nat → Tx} {m : Nat} {F : CM} {c : C4} (h : NxG (nxA T m F) (unsF F) c false) {i : Nat} (hi : i < m) : ¬ unT (T i) ∨ suL T m i = true ∨ (F 1 0 (i : Int) 0).isSome = true := by
  by_cases h1 : unT (T i)
  · cases h2 : suL T m i with
    | true => exact .inr (.inl rfl)
    | false =>
      have hm : (⟨1, 0, (i : Int), 0⟩ : C4) ∈ nxA T m F := by
        unfold nxA chC
        refine List.mem_append_left _ (List.mem_map.2 ⟨i, List.mem_filter.2 ⟨List.mem_range.2 hi, ?_⟩, rfl⟩)
        exact @decide_eq_true _ (_) ⟨h1, h2⟩
      have h3 := nx_false h _ hm
      unfold unsF at h3
      refine .inr (.inr ?_)
      cases h4 : F 1 0 (i : Int) 0 with
      | none => exact absurd h4 h3
      | some v => rfl
  · exact .inl h1
/-- who stands in a chain is done -/
theorem chain_done {T : Nat → Tx} {m : Nat} {F : CM} (hu : Uq m T) {y : Int} {ah : Int → Nat} {o : List Int} (h : Fil (wlF T (dnB T m F) m y) ah (wlF T (dnB T m F) m y).length o) {x : Int} (hx : x ∈ o) :
    ∃ k : Nat, x = (k : Int) ∧ k < m ∧ ((T k).st = 1 ∨ unT (T k) ∧ (suL T m k = true ∨ F 1 0 (k : Int) 0 = some true)) := by
  obtain ⟨k, rfl, hk, hc, _⟩ := wlF_lt (h.full x hx)
  refine ⟨k, rfl, hk, ?_⟩
  rcases dnB_iff.1 hc with h1 | ⟨h1, h2⟩
  · rcases su_cases hu hk h1 with h2 | h2
    · exact .inl h2
    · exact .inr ⟨h2, .inl h1⟩
  · exact .inr ⟨h1, .inr h2⟩
end Go.Proofs.Yteobndfkkpfnlaa

namespace Go.Proofs.Yteobndfkkpfnlaa
open Go.ChangeShapes Go.WideShapes Go.ChangeAt Go.RowKit Go.Maps Go.Shelf Go.MapKept Go.ChangeMaps
set_option linter.unusedVariables false

/-- between two rounds -/
def AllS (B : Nat) (wb : World) (T : Nat → Tx) (m : Nat) (b t : Nat) (F : CM) (wr : World) : Prop :=
  (∃ D, OwC wr b t D F) ∧ t ≤ sdN F (chA T m) ∧ Below B wb wr

set_option maxRecDepth 100000 in
set_option maxHeartbeats 16000000 in
theorem all_law (a : Option Addr) (len cap : Nat) (E : Nat → Ev) (ap : Option Addr) (np capp : Nat) (P : Nat → Int) (w : World) (hs : EvS w a len E) (hp : PkS w ap np P) :
    Calls Try.prog 12 #[.slice a len cap, .slice ap np capp] w (fun e w' => e = .returned (.bool true) ∧ Below w.heap.size w w') := by
  have HS := Lib.hid hs
  have HP := Lib.hid hp
  have HH := Lib.hid (head9_any w)
  have hmm := @run_makeMap Try.prog
  clear hs hp
  go_enter Try.func12, Try.ntmps12
  go_wp2_with fail
  refine HH.out.mono ?_
  rintro e w1 ⟨rfl, hb1⟩
  have HB1 := Lib.hid hb1
  have HM := Lib.hid (made_any a len cap E w1 (HS.out.below hb1))
  clear hb1 HH
  go_wp2_with fail
  refine HM.out.mono ?_
  rintro e w2 ⟨sp, m, cp, ok, rfl, hb2, hok⟩
  have HB2 := Lib.hid (HB1.out.trans (hb2.mono HB1.out.size))
  have HOK := Lib.hid hok
  clear hb2 hok HM HB1
  cases ok with
  | false =>
    go_wp2
    go_ret
    exact ⟨rfl, HB2.out⟩
  | true =>
    obtain ⟨-, hme, hm60, hx, hu, ht⟩ := HOK.out rfl
    clear hme
    generalize (stateAt E len).T = T at *
    have HX := Lib.hid hx
    have HU := Lib.hid hu
    have hal : Below w2.heap.size w2 (w2.alloc (.map #[] 0)) := (Below.refl _ _).alloc (Nat.le_refl _) _
    have HAL := Lib.hid hal
    have HT := Lib.hid ht
    have HM0 := Lib.hid (MapC.made w2)
    have HC := Lib.hid (choices_any sp m cp T (w2.alloc (.map #[] 0)) (ht.below hal) hx.ok (by omega))
    clear ht hx hu HOK hal
    go_wp2_with fail
    refine HC.out.mono ?_
    rintro e w3 ⟨s3, c3, rfl, _, hb3⟩
    have HB3 := Lib.hid (HAL.out.trans (hb3.mono HAL.out.size))
    obtain ⟨D0, hD0⟩ := HM0.out.below hb3
    have HO3 : Hid (OwC w3 w2.heap.size 0 D0 (fun _ _ _ _ => none)) := Lib.hid hD0
    have HT3 := Lib.hid (HT.out.below HB3.out)
    have HP3 := Lib.hid ((HP.out.below HB2.out).below HB3.out)
    have HBW := Lib.hid (HB2.out.trans (HB3.out.mono HB2.out.size))
    have HLE := Lib.hid (chA_le T m (by omega))
    clear hD0 hb3 HC HM0 HAL HT HP HS HB2 HB3
    obtain ⟨N, eN⟩ : ∃ N, N = (chA T m).length := ⟨_, rfl⟩
    rw [← eN] at HLE ⊢
    have HEN := Lib.hid eN
    clear eN
    have hN := HLE.out
    go_wp2
    go_loopw [7, 9, 10, 11] (fun fv x _ _ wr => ∃ (t b : Nat) (F : CM), t ≤ N ∧ fv = .map (some b) ∧ x = .int .i64 (t : Int) ∧ Hid (AllS w3.heap.size w3 T m b t F wr)) (fun _ x _ _ _ => N - (intOf x).toNat)
    case atStart => exact ⟨0, w2.heap.size, _, Nat.zero_le _, rfl, rfl, Lib.hid ⟨⟨D0, HO3.out⟩, Nat.zero_le _, Below.refl _ _⟩⟩
    case round =>
      obtain ⟨t, b, F, htN, rfl, rfl, HT1⟩ := hrel
      obtain ⟨⟨D, ho⟩, hsd, hb⟩ := HT1.out
      have HO := Lib.hid ho
      have HB := Lib.hid hb
      have HSD := Lib.hid hsd
      have HN := Lib.hid (next_any sp m cp T (.map (some b)) F wr (HT3.out.below hb) HX.out.ok ho.facs)
      clear ho hsd hb HT1 HO3
      go_wp2_with fail
      refine HN.out.mono ?_
      rintro e w4 ⟨c, is, rfl, hnx, hb4⟩
      have HNX := Lib.hid hnx
      have hal : Below w4.heap.size w4 (w4.alloc (.cells #[.int .i64 c.k, .int .i64 c.y, .int .i64 c.a, .int .i64 c.b] 58)) := (Below.refl _ _).alloc (Nat.le_refl _) _
      have HB4 := Lib.hid (HB.out.trans (hb4.mono HB.out.size))
      have HB5 := Lib.hid (HB4.out.trans (hal.mono HB4.out.size))
      have HO5 := Lib.hid ((HO.out.below hb4).below hal)
      have HXW := Lib.hid (heap_alloc_new w4 (.cells #[.int .i64 c.k, .int .i64 c.y, .int .i64 c.a, .int .i64 c.b] 58))
      clear hnx hb4 hal HN HO HB
      cases is with
      | true =>
        obtain ⟨hmem, hun⟩ := nx_true HNX.out
        have hmem := nxA_chA HU.out hmem
        have hlt : t < N := by
          have := sdN_lt hmem hun
          rw [← HEN.out] at this
          have := HSD.out
          omega
        have hlt' : (t : Int) < (N : Int) := by omega
        have hin := chA_in T m (by omega) c hmem
        have HWI : Hid (∀ so W, Below w3.heap.size w3 W → OwC W b t D F → Calls Try.prog 32 #[.map (some b), .agg #[.int .i64 c.k, .int .i64 c.y, .int .i64 c.a, .int .i64 c.b], .bool so] W (WiP b t D F c so W)) := Lib.hid fun so W hW hO => with_any b t D F c so W hO (by omega) hin
        have HMO : Hid (∀ so, t + 1 ≤ sdN (updC F c.k c.y c.a c.b so) (chA T m)) := Lib.hid fun so => by
          have := sdN_more hmem hun so
          have := HSD.out
          omega
        clear hmem hun hin HNX
        go_wp2_with fail
        obtain ⟨W5, e5⟩ : ∃ W5, W5 = w4.alloc (.cells #[.int .i64 c.k, .int .i64 c.y, .int .i64 c.a, .int .i64 c.b] 58) := ⟨_, rfl⟩
        rw [← e5] at HB5 HO5 HXW ⊢
        clear e5
        obtain ⟨p0, p1, p2, p3⟩ := cells4' HXW.out
        have HD5 := Lib.hid (HB5.out.trans (((Below.refl _ _).drew).mono HB5.out.size))
        have HOD := Lib.hid (HO5.out.below ((Below.refl _ _).drew))
        have HPX := Lib.hid (HP3.out.below HB5.out)
        have HLX : Hid (w4.heap.size < W5.heap.size) := Lib.hid (Array.getElem?_eq_some_iff.1 HXW.out).1
        have hal5 : Below w3.heap.size w3 W5.drew := HD5.out
        by_cases htn : t < np
        · obtain ⟨bp, off, rfl, hbl, hci⟩ := HPX.out (by omega)
          have x0 := hci t htn
          have htn' : (t : Int) < (np : Int) := by omega
          have hd : decide ((t : Int) < (np : Int)) = true := by simpa using htn'
          clear hci
          go_still_tail 14, (by kernel_rfl)
          change wpList _ _ _ _ _ W5.drew
          generalize W5.drew = w2d at *
          go_wp2_with fail
          refine (HWI.out _ _ HD5.out HOD.out).mono ?_
          rintro e w6 ⟨b', rfl, ho6, hb6⟩
          have HO6 := Lib.hid ho6
          have HB6 := Lib.hid (HD5.out.trans (hb6.mono HD5.out.size))
          clear hb6 ho6
          go_wp2
          go_roundw
          case rel => exact ⟨t + 1, b', _, by omega, rfl, by go_num, Lib.hid ⟨⟨_, HO6.out⟩, HMO.out _, HB6.out⟩⟩
          case measure => simp [intOf]; omega
        · have htn' : ¬ (t : Int) < (np : Int) := by omega
          have hd : decide ((t : Int) < (np : Int)) = false := by simpa using htn'
          go_still_tail 14, (by kernel_rfl)
          change wpList _ _ _ _ _ W5.drew
          generalize W5.drew = w2e at *
          go_wp2_with fail
          refine (HWI.out _ _ HD5.out HOD.out).mono ?_
          rintro e w6 ⟨b', rfl, ho6, hb6⟩
          have HO6 := Lib.hid ho6
          have HB6 := Lib.hid (HD5.out.trans (hb6.mono HD5.out.size))
          clear hb6 ho6
          go_wp2
          go_roundw
          case rel => exact ⟨t + 1, b', _, by omega, rfl, by go_num, Lib.hid ⟨⟨_, HO6.out⟩, HMO.out _, HB6.out⟩⟩
          case measure => simp [intOf]; omega
      | false =>
        have hkn := fun (i : Nat) (hi : i < m) => known_of HNX.out hi
        have HIS : Hid (∀ (i : Nat) (W : World), i < m → Below w3.heap.size w3 W → OwC W b t D F → ∃ so, Calls Try.prog 28 #[.slice sp m cp, .map (some b), .int .i64 (i : Int)] W (fun e w' => e = .returned (.tuple #[.bool so, .bool true]) ∧ Below W.heap.size W w') ∧ (((T i).st = 1 ∨ unT (T i) ∧ (suL T m i = true ∨ F 1 0 (i : Int) 0 = some true)) → so = true)) := Lib.hid fun i W hi hW hO => by
          classical
          refine ⟨decide ((T i).st = 1 ∨ unT (T i) ∧ (suL T m i = true ∨ F 1 0 (i : Int) 0 = some true)), is_any sp m cp T (.map (some b)) F (i : Int) _ true W (HT3.out.below hW) HX.out.ok hO.facs ?_ ?_, fun h => decide_eq_true h⟩
          · rw [decide_eq_true_eq]
            exact ⟨fun h => ⟨i, rfl, hi, h⟩, fun ⟨k', e, _, h⟩ => by obtain rfl : i = k' := by omega
                                                                     exact h⟩
          · exact ⟨fun _ => ⟨i, rfl, hi, hkn i hi⟩, fun _ => rfl⟩
        have HCH : Hid (∀ (y : Nat) (W : World), y < 16 → Below w3.heap.size w3 W → OwC W b t D F → Calls Try.prog 33 #[.slice sp m cp, .map (some b), .int .i64 (y : Int)] W (ChainP F (wlF T (dnB T m F) m y) y W)) := Lib.hid fun y W hy hW hO => chain_any sp m cp T (.map (some b)) F (y : Int) W (HT3.out.below hW) HX.out.ok hO.facs (by unfold In64; omega)
        clear hkn HNX
        go_wp2_with fail
        obtain ⟨W5, e5⟩ : ∃ W5, W5 = w4.alloc (.cells #[.int .i64 c.k, .int .i64 c.y, .int .i64 c.a, .int .i64 c.b] 58) := ⟨_, rfl⟩
        rw [← e5] at HB5 HO5 HXW ⊢
        clear e5 HXW
        clear hmm HB4 HLE HEN hN
        go_loopw [12, 13, 14, 65] (fun _ _ _ x wr => ∃ i : Nat, i ≤ m ∧ x = .int .i64 (i : Int) ∧ Hid (Below W5.heap.size W5 wr)) (fun _ _ _ x _ => m - (intOf x).toNat)
        case atStart => exact ⟨0, Nat.zero_le _, rfl, Lib.hid (Below.refl _ _)⟩
        case round =>
          obtain ⟨i, hi, rfl, HI⟩ := hrel
          have HBI := Lib.hid (HB5.out.trans (HI.out.mono HB5.out.size))
          have HOI := Lib.hid (HO5.out.below HI.out)
          by_cases hlt : i < m
          · have hlt' : (i : Int) < (m : Int) := by omega
            obtain ⟨so, hcall, _⟩ := HIS.out i wr hlt HBI.out HOI.out
            have HC := Lib.hid hcall
            clear hcall
            go_wp2_with fail
            refine HC.out.mono ?_
            rintro e w6 ⟨rfl, hb6⟩
            have HB6 := Lib.hid (HI.out.trans (hb6.mono HI.out.size))
            clear hb6 HC HI HBI HOI
            go_wp2
            go_roundw
            case rel => exact ⟨i + 1, by omega, by go_num, HB6⟩
            case measure => simp [intOf]; omega
          · obtain rfl : i = m := by omega
            clear HI
            obtain ⟨wz, ez⟩ : ∃ wz, wz = wr := ⟨_, rfl⟩
            rw [← ez] at HBI HOI ⊢
            clear ez HB5 HO5
            go_wp2
            go_loopw [15, 16, 17, 19, 20, 21] (fun x _ _ _ _ _ wr => ∃ y : Nat, y ≤ 16 ∧ x = .int .i64 (y : Int) ∧ Hid (Below wz.heap.size wz wr)) (fun x _ _ _ _ _ _ => 16 - (intOf x).toNat)
            case atStart => exact ⟨0, Nat.zero_le _, rfl, Lib.hid (Below.refl _ _)⟩
            case round =>
              obtain ⟨y, hy, rfl, HY⟩ := hrel
              have HBY := Lib.hid (HBI.out.trans (HY.out.mono HBI.out.size))
              have HOY := Lib.hid (HOI.out.below HY.out)
              by_cases hlt : y < 16
              · have hlt' : (y : Int) < 16 := by omega
                have HC := Lib.hid (HCH.out y wr (by omega) HBY.out HOY.out)
                go_wp2_with fail
                refine HC.out.mono ?_
                rintro e w7 ⟨o, so, co, okc, rfl, hps, hb7, htrue, hfalse⟩
                have HB7 := Lib.hid (HY.out.trans (hb7.mono HY.out.size))
                have HTR := Lib.hid htrue
                have HPS := Lib.hid hps
                clear hb7 htrue hfalse hps HC HBY HOY
                cases okc with
                | false =>
                  go_wp2
                  go_roundw
                  case rel => exact ⟨y + 1, by omega, by go_num, HB7⟩
                  case measure => simp [intOf]; omega
                | true =>
                  have HFU : Hid (∀ j, j < o.length → ∃ k : Nat, o.getD j 0 = (k : Int) ∧ k < i ∧ ((T k).st = 1 ∨ unT (T k) ∧ (suL T i k = true ∨ F 1 0 (k : Int) 0 = some true))) := Lib.hid fun j hj => by
                    refine chain_done HU.out (HTR.out rfl).2 ?_
                    rw [List.getD_eq_getElem?_getD, List.getElem?_eq_getElem hj]
                    exact List.getElem_mem _
                  have hol : o.length ≤ 60 := by
                    have h1 := (HTR.out rfl).2.len
                    have h2 := wlF_le (T := T) (c := dnB T i F) (t := i) (y : Int)
                    omega
                  clear HTR
                  go_wp2
                  go_loopw [19, 20, 21, 93] (fun _ _ _ x wr => ∃ j : Nat, j ≤ o.length ∧ x = .int .i64 (j : Int) ∧ Hid (Below w7.heap.size w7 wr)) (fun _ _ _ x _ => o.length - (intOf x).toNat)
                  case atStart => exact ⟨0, Nat.zero_le _, rfl, Lib.hid (Below.refl _ _)⟩
                  case round =>
                    obtain ⟨j, hj, rfl, HJ⟩ := hrel
                    have HBJ := Lib.hid (HBI.out.trans ((HB7.out.trans (HJ.out.mono HB7.out.size)).mono HBI.out.size))
                    have HOJ := Lib.hid (HOI.out.below (HB7.out.trans (HJ.out.mono HB7.out.size)))
                    by_cases hlt2 : j < o.length
                    · have hlt2' : (j : Int) < (o.length : Int) := by omega
                      obtain ⟨bo, oo, rfl, hbo, hco⟩ := HPS.out (by omega)
                      have x0 := (HJ.out.cell (p := ⟨bo, oo + j, none⟩) hbo).trans (hco j hlt2)
                      obtain ⟨k, ek, hk, hdone⟩ := HFU.out j hlt2
                      dsimp only at x0
                      rw [ek] at x0
                      obtain ⟨so, hcall, hso⟩ := HIS.out k wr hk HBJ.out HOJ.out
                      obtain rfl := hso hdone
                      have HC2 := Lib.hid hcall
                      clear hcall hdone hso ek hco
                      go_wp2_with fail
                      refine HC2.out.mono ?_
                      rintro e w8 ⟨rfl, hb8⟩
                      have HB8 := Lib.hid (HJ.out.trans (hb8.mono HJ.out.size))
                      clear hb8 HC2 HBJ HOJ
                      go_wp2
                      go_roundw
                      case rel => exact ⟨j + 1, by omega, by go_num, HB8⟩
                      case measure => simp [intOf]; omega
                    · obtain rfl : j = o.length := by omega
                      have HBE := Lib.hid (HB7.out.trans (HJ.out.mono HB7.out.size))
                      clear HBJ HOJ
                      go_wp2
                      go_roundw
                      case rel => exact ⟨y + 1, by omega, by go_num, HBE⟩
                      case measure => simp [intOf]; omega
              · obtain rfl : y = 16 := by omega
                go_wp2
                go_ret
                exact ⟨rfl, HBW.out.trans ((HBI.out.trans (HY.out.mono HBI.out.size)).mono HBW.out.size)⟩
end Go.Proofs.Yteobndfkkpfnlaa

