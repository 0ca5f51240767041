/-
  The reference's walk, which calls itself.
-/
import Derived.Test.YtcolcgkfppjflaaCm
import Derived.Test.YtcolcgkfppjflaaI
import Derived.Test.YtcolcgkfppjflaaJ
import Derived.Deep.CutRange
import Derived.Deep.CutBlock
import Derived.Laws.AppendOwnNone
namespace Go.Proofs.Ytcolcgkfppjflaa
open Go.ChangeShapes Go.WideShapes Go.ChangeAt Go.RowKit
set_option linter.unusedVariables false

theorem rowN_one (L : List Nat) : ∀ u ∈ rowN L, u.oneCell' = true := by
  intro u hu
  unfold rowN at hu
  rw [List.mem_map] at hu
  obtain ⟨b, _, rfl⟩ := hu
  rfl
theorem rowN_app (L M : List Nat) : rowN L ++ rowN M = rowN (L ++ M) := by unfold rowN; rw [List.map_append]
section
variable {w : World}
theorem wp_append_ls {o : Oper} {a : Act} {K : Act → World → Prop} {Q : Exit → Act → World → Prop} (s x : Operand)
    (ho : o.op = .call { callee := .builtin .append, args := #[s, x], argTypes := #[33, 33] })
    (base : Nat) (v : Value) (O : List Nat) (hs : a.eval s = v) (hown : w.ownsRow base 3 1 v O.length (rowN O))
    (sp : Option Addr) (c : Nat) (W : List Nat) (hx : a.eval x = .slice sp W.length c) (hsrc : LsS w (.slice sp W.length c) W) (hsp : sp = none → W.length = 0 ∧ c = 0)
    (h63 : O.length + W.length ≤ 10000) (hbase : base ≤ w.heap.size)
    (h : ∀ v' w', w'.ownsRow base 3 1 v' (O ++ W).length (rowN (O ++ W)) → w.grownBy w' v.ownBlock → K (a.put o.dst v') w') : o.wp Try.prog a w K Q := by
  obtain ⟨i0, hi, hz0, hz1, hz2⟩ := info_parts info3
  rcases sp with _ | ad
  · obtain ⟨hW, rfl⟩ := hsp rfl
    obtain rfl : W = [] := List.eq_nil_of_length_eq_zero hW
    have hrun := run_append_owned_none (P := Try.prog) (w := w) base 33 o.type 3 i0 1 Try.underlying33 hi v O.length (rowN O) hown
    unfold Oper.wp
    simp [execOp, ho, resolve, invoke, builtin, hs, hx, hrun, Result.andThen]
    exact h v w (by rw [List.append_nil]; exact hown) ⟨rfl, rfl, rfl, Nat.le_refl _, fun _ _ _ => rfl⟩
  · refine wp_append_own w s x 33 ho base 3 i0 (.int .i64 0) 1 8 Try.underlying33 hi hz0 hz1 hz2 rfl (by decide) v O.length (rowN O) hs hown ad W.length c (rowN W) hx (by rw [rowN_length]; omega) ?_ (rowN_one _) (by unfold maxLen; omega) (by omega) hbase ?_
    · intro j u hj
      have hjn : j < W.length := by
        rcases Nat.lt_or_ge j W.length with h' | h'
        · exact h'
        · rw [List.getElem?_eq_none (by rw [rowN_length]; exact h')] at hj; cases hj
      obtain ⟨sp', cp', e, hc⟩ := hsrc
      injection e with e _ _
      subst e
      obtain ⟨b, e, _, hcc⟩ := hc (by omega)
      injection e with e
      subst e
      rw [Go.WideShapes.add_plain, Nat.zero_add, hcc j hjn, ← hj, rowN_get W j hjn]
    · intro v' w' h2 h3 _
      rw [rowN_app] at h2
      rw [← List.length_append] at h2
      exact h v' w' h2 h3
theorem wpList_append_ls {ops : Array Oper} {rest : List Oper} {o : Oper} {a : Act} {Q : Exit → Act → World → Prop} (hgd : o.guard = none) (s x : Operand)
    (ho : o.op = .call { callee := .builtin .append, args := #[s, x], argTypes := #[33, 33] })
    (base : Nat) (v : Value) (O : List Nat) (hs : a.eval s = v) (hown : w.ownsRow base 3 1 v O.length (rowN O))
    (sp : Option Addr) (c : Nat) (W : List Nat) (hx : a.eval x = .slice sp W.length c) (hsrc : LsS w (.slice sp W.length c) W) (hsp : sp = none → W.length = 0 ∧ c = 0)
    (h63 : O.length + W.length ≤ 10000) (hbase : base ≤ w.heap.size)
    (h : ∀ v' w', w'.ownsRow base 3 1 v' (O ++ W).length (rowN (O ++ W)) → w.grownBy w' v.ownBlock → wpList Try.prog ops Q rest (a.put o.dst v') w') : wpList Try.prog ops Q (o :: rest) a w :=
  wpList_plain hgd fun _ hK => wp_append_ls s x ho base v O hs hown sp c W hx hsrc hsp h63 hbase fun v' w' h2 h3 => hK _ _ (h v' w' h2 h3)
end
theorem own_form3 {w : World} {base e size n : Nat} {v : Value} {xs : List Value} (h : w.ownsRow base e size v n xs) : ∃ sp cp, v = .slice sp n cp := by
  rcases h.2 with ⟨e, rfl⟩ | ⟨g, cp, cur, e, _⟩
  · exact ⟨none, 0, e⟩
  · exact ⟨_, _, e⟩
theorem LsS.at {w : World} {sp : Option Addr} {W : List Nat} {c : Nat} (h : LsS w (.slice sp W.length c) W) (h0 : 0 < W.length) : ∃ b, sp = some ⟨b, 0, none⟩ ∧ b < w.heap.size ∧ ∀ j, j < W.length → w.cell? ⟨b, j, none⟩ = some (.int .i64 ((W.getD j 0 : Nat) : Int)) := by
  obtain ⟨sp', cp', e, hc⟩ := h
  injection e with e _ _
  subst e
  exact hc h0
def WkP (A : Nat → Nat → Prop) (N L : Nat) (W : List Nat) (w : World) (e : Ending) (w' : World) : Prop :=
  ∃ R sp cp, e = .returned (.slice sp R.length cp) ∧ WkR A N L W R ∧ LsS w' (.slice sp R.length cp) R ∧ Below w.heap.size w w'

set_option maxRecDepth 100000 in
set_option maxHeartbeats 4000000 in
theorem walk_any (A : Nat → Nat → Prop) (g N : Nat) (rb : Nat → Nat) (T : Nat → Nat → Bool) (M : Nat) (hN : N ≤ 100) (hM : M ≤ 100) (hTA : ∀ i j, i < N → j < N → (T i j = true ↔ A i j)) :
    ∀ (k : Nat) (W : List Nat) (sp : Option Addr) (c : Nat) (w : World), W.length + k = M + 1 → Pth A N W → TabR w g N rb T → LsS w (.slice sp W.length c) W → (sp = none → W.length = 0 ∧ c = 0) →
    Calls Try.prog 28 #[.slice (some ⟨g, 0, none⟩) N N, .slice sp W.length c, .int .i64 ((M : Int) + 1)] w (WkP A N (M + 1) W w) := by
  intro k
  induction k with
  | zero =>
    intro W sp c w hk hp hT hW hsp
    have hwl : W.length = M + 1 := by omega
    obtain ⟨b, rfl, hbl, hc⟩ := hW.at (by omega)
    have hlt : ∀ i, i < W.length → W.getD i 0 < N := fun i hi => hp.lt _ (getD_mem hi)
    have HW := Lib.hid hW
    have c0 := hc 0 (by omega)
    have c1 := hc M (by omega)
    have l0 := hlt 0 (by omega)
    have l1 := hlt M (by omega)
    obtain ⟨t0, _⟩ := hT.top (W.getD M 0) l1
    have t1 := hT.cell _ _ l1 l0
    have HFU := Lib.hid (fun hb => WkR.full (A := A) (N := N) hwl hp (Nat.succ_pos M) hb)
    have HNO := Lib.hid (fun hb => WkR.no (A := A) (N := N) hwl hb)
    have HTA := Lib.hid (hTA _ _ l1 l0)
    have hl2 : (M : Int) < (M : Int) + 1 := by omega
    have l0' : ((W.getD 0 0 : Nat) : Int) < (N : Int) := by omega
    have l1' : ((W.getD M 0 : Nat) : Int) < (N : Int) := by omega
    have h0' : (0 : Int) < (M : Int) + 1 := by omega
    rw [Nat.add_sub_cancel] at HFU HNO
    have HWL := Lib.hid hwl
    have hsl : Value.slice (some ⟨b, 0, none⟩) W.length c = .slice (some ⟨b, 0, none⟩) (M + 1) c := by rw [hwl]
    rw [hsl] at HW ⊢
    clear hlt hc hW hp hT hTA hsp hk hwl hsl
    generalize W.getD 0 0 = x0 at *
    generalize W.getD M 0 = x1 at *
    cases hb : T x1 x0 with
    | true =>
      rw [hb] at t1
      have HZ := Lib.hid (HFU.out (HTA.out.1 hb))
      clear HFU HNO HTA hb
      go_enter Try.func28, Try.ntmps28
      go_wp2_with fail
      go_quiet (fail)
      go_wp2_with fail
      go_ret
      exact ⟨W, some ⟨b, 0, none⟩, c, by rw [HWL.out]; rfl, HZ.out, by rw [HWL.out]; exact HW.out.below (below_drewN (Below.refl _ _) _), below_drewN (Below.refl _ _) _⟩
    | false =>
      rw [hb] at t1
      have HZ := Lib.hid (HNO.out (fun h => by have := HTA.out.2 h; rw [hb] at this; cases this))
      clear HFU HNO HTA hb
      go_enter Try.func28, Try.ntmps28
      go_wp2_with fail
      go_quiet (fail)
      go_wp2_with fail
      go_ret
      exact ⟨[], none, 0, rfl, HZ.out, ⟨none, 0, rfl, fun h => absurd h (Nat.lt_irrefl _)⟩, below_drewN (Below.refl _ _) _⟩
  | succ k ih =>
    intro W sp c w hk hp hT hW hsp
    have hwl : W.length < M + 1 := by omega
    have hwl' : (W.length : Int) < (M : Int) + 1 := by omega
    have hne : ((W.length : Int) == (M : Int) + 1) = false := beq_eq_false_iff_ne.2 (by omega)
    have hne2 : ¬ ((W.length : Int) = (M : Int) + 1) := by omega
    have HW := Lib.hid hW
    have HT := Lib.hid hT
    have HP := Lib.hid hp
    have HTA := Lib.hid hTA
    have HSP := Lib.hid hsp
    have HIH := Lib.hid ih
    have hkk : W.length + 1 + k = M + 1 := by omega
    have HLT : Hid (∀ i, i < W.length → W.getD i 0 < N) := Lib.hid fun i hi => hp.lt _ (getD_mem hi)
    clear hW hT hp hsp ih hk
    go_enter Try.func28, Try.ntmps28
    go_wp2_with fail
    go_loopw [6, 7, 8, 10, 11, 32] (fun _ _ _ _ _ x wr => ∃ v : Nat, v ≤ N ∧ x = .int .i64 (v : Int) ∧ Hid (Below w.heap.size w wr ∧ ∀ u, u < v → ∀ Q, SCy A N (M + 1) Q → ¬ Pre (W ++ [u]) Q)) (fun _ _ _ _ _ x _ => N - (intOf x).toNat)
    case atStart => exact ⟨0, Nat.zero_le _, rfl, Lib.hid ⟨Below.refl _ _, fun u hu => absurd hu (Nat.not_lt_zero _)⟩⟩
    case round =>
      obtain ⟨v, hv, rfl, HV⟩ := hrel
      by_cases hvN : v < N
      · have hvN' : (v : Int) < (N : Int) := by omega
        have HBV := Lib.hid HV.out.1
        have HNV := Lib.hid HV.out.2
        have HNX : Hid ((∀ Q, SCy A N (M + 1) Q → ¬ Pre (W ++ [v]) Q) → ∀ u, u < v + 1 → ∀ Q, SCy A N (M + 1) Q → ¬ Pre (W ++ [u]) Q) := Lib.hid fun h u hu => by
          by_cases e : u < v
          · exact HV.out.2 u e
          · obtain rfl : u = v := by omega
            exact h
        have HT1 := Lib.hid (HT.out.below HV.out.1)
        have HW1 := Lib.hid (HW.out.below HV.out.1)
        clear HV
        obtain ⟨wz, ewz⟩ : ∃ wz, wz = wr := ⟨_, rfl⟩
        rw [← ewz] at HBV HT1 HW1 ⊢
        clear ewz
        go_upto_region 8 with (fail)
        go_cut [8] from 35 to 51 (fun ov wc => ∃ ob : Bool, ov = .bool ob ∧ Hid (ob = true ↔ (0 < W.length → A (W.getD (W.length - 1) 0) v)) ∧ wz = wc)
        case first =>
          by_cases hw0 : W.length = 0
          · have hz : ((W.length : Int) == 0) = true := by rw [hw0]; rfl
            have HW0 := Lib.hid hw0
            clear hw0
            go_wp2_with fail
            go_meet
            exact ⟨true, rfl, Lib.hid ⟨fun _ h => by have := HW0.out; omega, fun _ => rfl⟩, rfl⟩
          · have hz : ((W.length : Int) == 0) = false := beq_eq_false_iff_ne.2 (by omega)
            have hz2 : ¬ W.length = 0 := hw0
            obtain ⟨b, rfl, hbl, hc⟩ := HW1.out.at (by omega)
            have c1 := hc (W.length - 1) (by omega)
            have l1 := HLT.out (W.length - 1) (by omega)
            obtain ⟨t0, _⟩ := HT1.out.top (W.getD (W.length - 1) 0) l1
            have t1 := HT1.out.cell _ v l1 hvN
            have HTV := Lib.hid (HTA.out _ v l1 hvN)
            have l1' : ((W.getD (W.length - 1) 0 : Nat) : Int) < (N : Int) := by omega
            have hwm : (W.length : Int) - 1 = ((W.length - 1 : Nat) : Int) := by omega
            have hwm2 : ((W.length - 1 : Nat) : Int) < (W.length : Int) := by omega
            generalize W.getD (W.length - 1) 0 = x1 at *
            obtain ⟨lm, hlm⟩ : ∃ lm, lm = W.length - 1 := ⟨_, rfl⟩
            rw [← hlm] at c1 hwm hwm2
            clear hc hlm
            cases hb : T x1 v with
            | true =>
              rw [hb] at t1
              have HZ : Hid (A x1 v) := Lib.hid (HTV.out.1 hb)
              clear HTV hb
              go_wp2_with fail
              go_meet
              exact ⟨true, rfl, Lib.hid ⟨fun _ _ => HZ.out, fun _ => rfl⟩, rfl⟩
            | false =>
              rw [hb] at t1
              have HZ : Hid (¬ A x1 v) := Lib.hid (fun h => by have := HTV.out.2 h; rw [hb] at this; cases this)
              clear HTV hb
              go_wp2_with fail
              go_meet
              exact ⟨false, rfl, Lib.hid ⟨fun h => (by cases h), fun h => absurd (h (by omega)) HZ.out⟩, rfl⟩
        case rest =>
          obtain ⟨ob, rfl, HOB, rfl⟩ := hcut
          go_wp2_with fail
          go_loopw [8, 10, 54] (fun ov _ x wr => ∃ (y : Nat) (o2 : Bool), y ≤ W.length ∧ x = .int .i64 (y : Int) ∧ ov = .bool o2 ∧ Hid (o2 = true ↔ (ob = true ∧ ∀ j, j < y → W.getD j 0 ≠ v)) ∧ wz = wr) (fun _ _ x _ => W.length - (intOf x).toNat)
          case atStart => exact ⟨0, ob, Nat.zero_le _, rfl, rfl, Lib.hid ⟨fun h => ⟨h, fun j hj => absurd hj (Nat.not_lt_zero _)⟩, fun h => h.1⟩, rfl⟩
          case round =>
            obtain ⟨y, o2, hy, rfl, rfl, HY, rfl⟩ := hrel
            by_cases hyw : y < W.length
            · obtain ⟨b, rfl, hbl, hc⟩ := HW1.out.at (by omega)
              have x0 := hc y hyw
              have hyw' : (y : Int) < (W.length : Int) := by omega
              have HYN : Hid ((ob = true ∧ ∀ j, j < y + 1 → W.getD j 0 ≠ v) ↔ (o2 = true ∧ W.getD y 0 ≠ v)) := Lib.hid (by
                rw [HY.out]
                constructor
                · rintro ⟨h1, h2⟩
                  exact ⟨⟨h1, fun j hj => h2 j (by omega)⟩, h2 y (by omega)⟩
                · rintro ⟨⟨h1, h2⟩, h3⟩
                  refine ⟨h1, fun j hj => ?_⟩
                  by_cases e : j < y
                  · exact h2 j e
                  · obtain rfl : j = y := by omega
                    exact h3)
              clear hc HY
              generalize W.getD y 0 = wy at *
              cases o2 with
              | false =>
                go_wp2_with fail
                go_roundw
                case rel => exact ⟨y + 1, false, by omega, by go_num, rfl, Lib.hid (by rw [HYN.out]; exact ⟨fun h => (by cases h), fun h => h.1⟩), by first | rfl | trivial⟩
                case measure => simp [intOf]; omega
              | true =>
                by_cases hwv : wy = v
                · have hb1 : ((wy : Int) != (v : Int)) = false := by rw [hwv]; simp
                  have HZ : Hid (¬ (true = true ∧ wy ≠ v)) := Lib.hid fun h => h.2 hwv
                  clear hwv
                  go_wp2_with fail
                  go_roundw
                  case rel => exact ⟨y + 1, false, by omega, by go_num, rfl, Lib.hid (by rw [HYN.out]; exact ⟨fun h => (by cases h), fun h => absurd h HZ.out⟩), by first | rfl | trivial⟩
                  case measure => simp [intOf]; omega
                · have hb1 : ((wy : Int) != (v : Int)) = true := bne_iff_ne.2 (by omega)
                  have HZ : Hid (wy ≠ v) := Lib.hid hwv
                  go_wp2_with fail
                  go_roundw
                  case rel => exact ⟨y + 1, true, by omega, by go_num, rfl, Lib.hid (by rw [HYN.out]; exact ⟨fun _ => ⟨rfl, HZ.out⟩, fun _ => rfl⟩), by first | rfl | trivial⟩
                  case measure => simp [intOf]; omega
            · obtain rfl : y = W.length := by omega
              have HOK : Hid (o2 = true ↔ (v ∉ W ∧ (0 < W.length → A (W.getD (W.length - 1) 0) v))) := Lib.hid (by
                rw [HY.out, HOB.out]
                constructor
                · rintro ⟨h1, h2⟩
                  refine ⟨fun hm => ?_, h1⟩
                  obtain ⟨i, hi, e⟩ := List.getElem_of_mem hm
                  exact h2 i hi (by rw [List.getD_eq_getElem?_getD, List.getElem?_eq_getElem hi]; exact e)
                · rintro ⟨h1, h2⟩
                  exact ⟨h2, fun j hj e => h1 (e ▸ getD_mem hj)⟩)
              clear HY HOB
              obtain ⟨wq, ewq⟩ : ∃ wq, wq = wz := ⟨_, rfl⟩
              rw [← ewq] at HBV HT1 HW1 ⊢
              clear ewq
              cases o2 with
              | false =>
                have HZ : Hid (∀ Q, SCy A N (M + 1) Q → ¬ Pre (W ++ [v]) Q) := Lib.hid fun Q hQ hp => by
                  have := hQ.ok hp
                  have := HOK.out.2 this.2
                  cases this
                go_wp2_with fail
                go_roundw
                case rel => exact ⟨v + 1, by omega, by go_num, Lib.hid ⟨HBV.out, HNX.out HZ.out⟩⟩
                case measure => simp [intOf]; omega
              | true =>
                obtain ⟨hm1, hm2⟩ := HOK.out.1 rfl
                have HPS := Lib.hid (HP.out.snoc hvN hm1 hm2)
                have HO1 : Hid ((wq.alloc (.cells #[] 3)).ownsRow wq.heap.size 3 1 (.slice (some ⟨wq.heap.size, 0, none⟩) 0 0) ([] : List Nat).length (rowN [])) := Lib.hid (World.ownsRow_lit wq #[] 0 (Nat.le_refl _) (Nat.zero_le _) rfl)
                have hb1 : Below wq.heap.size wq (wq.alloc (.cells #[] 3)) := (Below.refl _ _).alloc (Nat.le_refl _) _
                have HX1 := Lib.hid hb1
                have HWX := Lib.hid (HW1.out.below hb1)
                have HSQ := Lib.hid HSP.out
                clear hb1 hm1 hm2 HOK
                have hw1 : W.length ≤ 100 := by omega
                have HNW : Hid (∀ (Z : World) (j : Nat) (z : Value), [Value.int .i64 (v : Int)][j]? = some z → (Z.alloc (.cells #[.int .i64 (v : Int)] 3)).cell? ((⟨Z.heap.size, 0, none⟩ : Addr).add j) = some z) := Lib.hid fun Z j z hj => by
                  rw [Go.WideShapes.add_plain, cell_of_row _ _ _ _ 3 (0, 0) (heap_alloc_new Z _), Nat.zero_add]
                  simpa using hj
                obtain ⟨i3, hi3, hy0, hy1, hy2⟩ := info_parts info3
                go_wp2_with (first | (at_builtin; refine wpList_append_ls rfl (.tmp 68) (.tmp 69) rfl wq.heap.size _ [] rfl HO1.out sp c W rfl HWX.out HSQ.out (by simp; omega) HX1.out.size ?_; intro v2 w2 ho2 hg2; rw [List.nil_append] at ho2; have hB2 := HX1.out.grown hg2 HX1.out.size (fun q hq => (HO1.out.lt q hq).1); obtain ⟨sp2, cp2, rfl⟩ := own_form3 ho2; have HO2 := Lib.hid (ho2.alloc (.cells #[.int .i64 (v : Int)] 3)); have HX2 := Lib.hid (hB2.alloc hB2.size (.cells #[.int .i64 (v : Int)] 3)); clear ho2 hg2 hB2) | (at_builtin; refine wpList_append_lies _ rfl (.tmp 70) (.tmp 72) 33 rfl wq.heap.size 3 i3 (.int .i64 0) 1 8 Try.underlying33 hi3 hy0 hy1 hy2 rfl (by decide) _ W.length (rowN W) rfl HO2.out ⟨w2.heap.size, 0, none⟩ 1 1 [.int .i64 (v : Int)] rfl rfl (HNW.out _) (by intro u hu; simp at hu; rcases hu with rfl; rfl) (by omega) (by unfold maxLen; omega) (by omega) HX2.out.size _ rfl ?_; intro g7 c7 w7 ho7 hg7 hat7 hl7; have HX7 := Lib.hid (HX2.out.grown hg7 HX2.out.size (fun q hq => (HO2.out.lt q hq).1)); rw [← rowN_snoc] at ho7; have HL7 : Hid (LsS w7 (.slice (some ⟨g7, 0, none⟩) (W ++ [v]).length c7) (W ++ [v])) := Lib.hid (LsS.of (by rw [List.length_append, List.length_singleton]; exact ho7)); have HCA := Lib.hid (HIH.out (W ++ [v]) (some ⟨g7, 0, none⟩) c7 w7 (by rw [List.length_append, List.length_singleton]; exact hkk) HPS.out (HT1.out.below HX7.out) HL7.out (fun h => by cases h)); clear ho7 hg7 hat7) | fail)
                have hcl := HCA.out
                rw [List.length_append, List.length_singleton] at hcl
                clear HCA
                refine hcl.mono ?_
                rintro e w8 ⟨R, spr, cpr, rfl, hR, hLR, hb⟩
                have HB8 : Hid (Below w.heap.size w w8) := Lib.hid ((HBV.out.trans (HX7.out.mono HBV.out.size)).trans (hb.mono (Nat.le_trans HBV.out.size HX7.out.size)))
                have HLR := Lib.hid hLR
                clear hb hLR hcl
                rcases hR with ⟨rfl, hno⟩ | ⟨h1, h2, h3⟩
                · have HZ := Lib.hid (HNX.out hno)
                  clear hno
                  go_wp2_with fail
                  go_roundw
                  case rel => exact ⟨v + 1, by omega, by go_num, Lib.hid ⟨HB8.out, HZ.out⟩⟩
                  case measure => simp [intOf]; omega
                · have hrl : 0 < R.length := by rw [h1.len]; omega
                  have hrl2 : (0 : Int) < (R.length : Int) := by omega
                  have HZ := Lib.hid (WkR.found HNV.out hwl h1 h2 h3)
                  clear h1 h2 h3
                  go_wp2_with fail
                  go_ret
                  exact ⟨R, spr, cpr, rfl, HZ.out, HLR.out, HB8.out⟩
      · obtain rfl : v = N := by omega
        have HZ := Lib.hid (WkR.end HV.out.2 hwl)
        have HBV := Lib.hid HV.out.1
        clear HV
        go_wp2_with fail
        go_ret
        exact ⟨[], none, 0, rfl, HZ.out, ⟨none, 0, rfl, fun h => absurd h (Nat.lt_irrefl _)⟩, HBV.out⟩
end Go.Proofs.Ytcolcgkfppjflaa
