/-
  The reference of chains: Right.
-/
import Derived.Test.YteobndfkkpfnlaaMc
import Derived.Deep.RegionWith
namespace Go.Proofs.Yteobndfkkpfnlaa
open Go.ChangeShapes Go.WideShapes Go.ChangeAt Go.RowKit Go.Maps
set_option linter.unusedVariables false

/-- who tells whether a list is right -/
def RgC (l : List Int) (G : Int → Int → Bool) (o : List Int) (w : World) (e : Ending) (w' : World) : Prop :=
  ∃ b : Bool, e = .returned (.bool b) ∧ (b = true ↔ RgtP l G o) ∧ Below w.heap.size w w'
theorem RgC.no {l : List Int} {G : Int → Int → Bool} {o : List Int} {w w' : World} (h : ¬ RgtP l G o) (hb : Below w.heap.size w w') : RgC l G o w (.returned (.bool false)) w' :=
  ⟨false, rfl, ⟨fun h => (by cases h), fun h' => absurd h' h⟩, hb⟩
theorem RgC.yes {l : List Int} {G : Int → Int → Bool} {o : List Int} {w w' : World} (h : RgtP l G o) (hb : Below w.heap.size w w') : RgC l G o w (.returned (.bool true)) w' :=
  ⟨true, rfl, ⟨fun _ => h, fun _ => rfl⟩, hb⟩
theorem wlF_mem {T : Nat → Tx} {c : Nat → Bool} {m t : Nat} {y : Int} (ht : t < m) (hc : c t = true) (hw : wkT (T t) y) : (t : Int) ∈ wlF T c m y := by
  unfold wlF
  exact List.mem_map.2 ⟨t, List.mem_filter.2 ⟨List.mem_range.2 ht, by simp [hc, hw]⟩, rfl⟩

set_option maxRecDepth 100000 in
set_option maxHeartbeats 8000000 in
theorem rright_any (a : Option Addr) (m cap : Nat) (T : Nat → Tx) (sp : Option Addr) (n cp : Nat) (f : Nat → C4 × Bool) (y : Int) (so : Option Addr) (N co : Nat) (o : List Int) (w : World) (hm : m ≤ 100) (hnb : n ≤ 1000000) (hN : o.length = N) (hNb : N ≤ 1000000) (hs : TxS w a m T) (hx : HTx m T) (hu : Uq m T) (hf : SaS w sp n f) (ho : IsL w so N o) :
    Calls Try.prog 34 #[.slice a m cap, .slice sp n cp, .int .i64 y, .slice so N co] w (RgC (wlF T (cG T m n f) m y) (ahG f n y) o w) := by
  have HS := Lib.hid hs
  have HXX := Lib.hid hx
  have HO := Lib.hid ho
  have HN := Lib.hid hN
  have HIS : Hid (∀ (t : Nat) (W : World), t < m → Below w.heap.size w W → Calls Try.prog 29 #[.slice a m cap, .slice sp n cp, .int .i64 (t : Int)] W (fun e w' => e = .returned (.int .i64 (isG T m n f t)) ∧ Below W.heap.size W w')) := Lib.hid fun t W ht hW => ris_any a m cap T sp n cp f t W ht hnb (hs.below hW) hx hu (hf.below hW)
  have HAH : Hid (∀ (p q : Int) (W : World), Below w.heap.size w W → Calls Try.prog 65 #[.slice sp n cp, .int .i64 y, .int .i64 p, .int .i64 q] W (fun e w' => e = .returned (.bool (ahG f n y p q)) ∧ Below W.heap.size W w')) := Lib.hid fun p q W hW => ahead_any sp n cp f y p q W hnb (hf.below hW)
  have HL0 : Hid (wlF T (cG T m n f) 0 y = []) := Lib.hid (by rw [wlF_zero])
  have HB0 := Lib.hid (Below.refl w.heap.size w)
  clear hs hx hu hf ho hN
  generalize ahG f n y = G at *
  go_enter Try.func34, Try.ntmps34
  go_wp2
  go_loopw [9, 18] (fun c i wr => ∃ (t : Nat), t ≤ m ∧ i = .int .i64 (t : Int) ∧ c = .int .i64 ((wlF T (cG T m n f) t y).length : Int) ∧ (wlF T (cG T m n f) t y).length ≤ t ∧ Hid ((∀ x ∈ wlF T (cG T m n f) t y, x ∈ o) ∧ Below w.heap.size w wr)) (fun _ i _ => m - (intOf i).toNat)
  case atStart => exact ⟨0, Nat.zero_le _, rfl, by rw [HL0.out]; rfl, by rw [HL0.out]; exact Nat.le_refl _, Lib.hid ⟨(by rw [HL0.out]; intro x hx; exact absurd hx (by simp)), HB0.out⟩⟩
  case round =>
    obtain ⟨t, ht, rfl, rfl, hlen, HR⟩ := hrel
    by_cases hlt : t < m
    · have hlt' : (t : Int) < (m : Int) := by omega
      have HN1 := Lib.hid (wlF_succ (T := T) (c := cG T m n f) (t := t) y)
      have HCG : Hid (cG T m n f t = true ↔ isG T m n f t = 1) := Lib.hid (by unfold cG; exact beq_iff_eq)
      have HMM : Hid (isG T m n f t = 1 → wkT (T t) y → (t : Int) ∈ wlF T (cG T m n f) m y) := Lib.hid fun h1 h2 => wlF_mem hlt (HCG.out.2 h1) h2
      obtain ⟨t0, ht0⟩ : ∃ t0, t0 = t := ⟨_, rfl⟩
      have HT0 := Lib.hid ht0
      clear ht0
      obtain ⟨l1, hl1⟩ : ∃ l, l = wlF T (cG T m n f) (t + 1) y := ⟨_, rfl⟩
      have HREL : Hid (∀ (wr' : World) (k : Nat), k = l1.length → k ≤ t + 1 → (∀ x ∈ l1, x ∈ o) → Below w.heap.size w wr' →
          ∃ (t : Nat), t ≤ m ∧ Value.int .i64 ((t0 : Int) + 1) = .int .i64 (t : Int) ∧ Value.int .i64 (k : Int) = .int .i64 ((wlF T (cG T m n f) t y).length : Int) ∧ (wlF T (cG T m n f) t y).length ≤ t ∧ Hid ((∀ x ∈ wlF T (cG T m n f) t y, x ∈ o) ∧ Below w.heap.size w wr')) := Lib.hid fun wr' k hk hle ho hb => by
        have ht0 := HT0.out
        subst hk ht0
        refine ⟨t0 + 1, by omega, val_int (by omega), ?_, ?_, ?_⟩
        · rw [← hl1]
        · rw [← hl1]; exact hle
        · rw [← hl1]; exact Lib.hid ⟨ho, hb⟩
      rw [← hl1] at HN1
      clear hl1
      generalize wlF T (cG T m n f) t y = l at *
      obtain ⟨k, hk⟩ : ∃ k, l.length = k := ⟨_, rfl⟩
      rw [hk] at hlen ⊢
      have HK := Lib.hid hk
      clear hk
      have HCI := Lib.hid (HIS.out t wr hlt HR.out.2)
      obtain ⟨bl, off, rfl, hbl, hci⟩ := (HS.out.below HR.out.2) (by omega)
      obtain ⟨spx, cpx, x0, x1, x2, hox⟩ := hci t hlt
      clear hci
      by_cases hg : isG T m n f t = 1
      · have HCK : Hid (∀ (b : Bool), (b = true ↔ wkT (T t) y) → ∀ W, Below wr.heap.size wr W → Calls Try.prog 53 #[.agg #[.int .i64 (T t).c, .int .i64 (T t).st, .slice spx (T t).n cpx], .int .i64 y] W (fun e w' => e = .returned (.bool b) ∧ Below W.heap.size W w')) := Lib.hid fun b hb W hW => rwkey_any (T t).c (T t).st spx (T t).n cpx (T t).o y b W (by have := HXX.out.n t hlt; omega) (HXX.out.ok.key t hlt) (hox.below hW) hb
        have HMM' := Lib.hid (HMM.out hg)
        have HCT := Lib.hid (HCG.out.2 hg)
        rw [hg] at HCI
        clear hg hox HCG HMM
        generalize (T t).c = xc at *
        generalize (T t).st = xst at *
        generalize (T t).n = xn at *
        go_wp2_with fail
        refine HCI.out.mono ?_
        rintro e w3 ⟨rfl, hb3⟩
        have z0 := (hb3.cell (p := ⟨bl, off + t * 3, none⟩) hbl).trans x0
        have z1 := (hb3.cell (p := ⟨bl, off + t * 3 + 1, none⟩) hbl).trans x1
        have z2 := (hb3.cell (p := ⟨bl, off + t * 3 + 2, none⟩) hbl).trans x2
        have HB3 := Lib.hid (HR.out.2.trans (hb3.mono HR.out.2.size))
        have HAL := Lib.hid HR.out.1
        by_cases hwk : wkT (T t) y
        · have HC3 := Lib.hid (HCK.out true ⟨fun _ => hwk, fun _ => rfl⟩ w3 hb3)
          have HNX := Lib.hid (HN1.out.1 ⟨HCT.out, hwk⟩)
          have HME := Lib.hid (HMM'.out hwk)
          clear hb3 HCI HCK x0 x1 x2 HR hwk HN1
          go_wp2_with fail
          refine HC3.out.mono ?_
          rintro e w5 ⟨rfl, hb5⟩
          have HB5 := Lib.hid (HB3.out.trans (hb5.mono HB3.out.size))
          clear hb5 HC3 z0 z1 z2 HB3
          go_wp2
          go_loopw [11, 38] (fun fo i wr' => ∃ (r : Nat) (fd : Bool), r ≤ N ∧ i = .int .i64 (r : Int) ∧ fo = .bool fd ∧ Hid ((fd = true ↔ ∃ i, i < r ∧ o.getD i 0 = (t : Int)) ∧ wr' = w5)) (fun _ i _ => N - (intOf i).toNat)
          case atStart => exact ⟨0, false, Nat.zero_le _, rfl, rfl, Lib.hid ⟨⟨fun h => (by cases h), fun ⟨i, hi, _⟩ => absurd hi (Nat.not_lt_zero _)⟩, rfl⟩⟩
          case round =>
            obtain ⟨r, fd, hr, rfl, rfl, HF⟩ := hrel
            have HW := Lib.hid HF.out.2
            by_cases hlr : r < N
            · have hlr' : (r : Int) < (N : Int) := by omega
              obtain ⟨bo, oo, rfl, hbo, hco⟩ := (HO.out.below HB5.out) (by omega)
              have c1 := hco r hlr
              rw [← HW.out] at c1
              have HFN : Hid ((∃ i, i < r + 1 ∧ o.getD i 0 = (t : Int)) ↔ (fd = true ∨ o.getD r 0 = (t : Int))) := Lib.hid (by
                rw [HF.out.1]
                constructor
                · rintro ⟨i, hi, e⟩
                  by_cases h : i < r
                  · exact .inl ⟨i, h, e⟩
                  · obtain rfl : i = r := by omega
                    exact .inr e
                · rintro (⟨i, hi, e⟩ | e)
                  · exact ⟨i, by omega, e⟩
                  · exact ⟨r, by omega, e⟩)
              clear hco HF
              generalize o.getD r 0 = z at *
              cases fd with
              | true =>
                have HQ : Hid ((true = true ↔ ∃ i, i < r + 1 ∧ o.getD i 0 = (t : Int)) ∧ wr = w5) := Lib.hid ⟨⟨fun _ => HFN.out.2 (.inl rfl), fun _ => rfl⟩, HW.out⟩
                go_wp2
                go_roundw
                case rel => exact ⟨r + 1, true, by omega, by go_num, rfl, HQ⟩
                case measure => simp [intOf]; omega
              | false =>
                by_cases hz : z = (t : Int)
                · have hzb : (z == (t : Int)) = true := by rw [hz]; simp
                  have HQ : Hid ((true = true ↔ ∃ i, i < r + 1 ∧ o.getD i 0 = (t : Int)) ∧ wr = w5) := Lib.hid ⟨⟨fun _ => HFN.out.2 (.inr hz), fun _ => rfl⟩, HW.out⟩
                  clear hz
                  go_wp2
                  go_roundw
                  case rel => exact ⟨r + 1, true, by omega, by go_num, rfl, HQ⟩
                  case measure => simp [intOf]; omega
                · have hzb : (z == (t : Int)) = false := beq_eq_false_iff_ne.2 hz
                  have HQ : Hid ((false = true ↔ ∃ i, i < r + 1 ∧ o.getD i 0 = (t : Int)) ∧ wr = w5) := Lib.hid ⟨⟨fun h => (by cases h), fun h => (HFN.out.1 h).elim (fun e => (by cases e)) (fun e => absurd e hz)⟩, HW.out⟩
                  go_wp2
                  go_roundw
                  case rel => exact ⟨r + 1, false, by omega, by go_num, rfl, HQ⟩
                  case measure => simp [intOf]; omega
            · obtain rfl : r = N := by omega
              have hww := HW.out
              have HBW : Hid (Below w.heap.size w wr) := Lib.hid (hww ▸ HB5.out)
              cases fd with
              | true =>
                have hin : (t : Int) ∈ o := by
                  obtain ⟨i, hi, e⟩ := HF.out.1.1 rfl
                  rw [← e]
                  exact getD_in (by rw [HN.out]; exact hi)
                have hk1 : l1.length = k + 1 := by rw [HNX.out, List.length_append, HK.out]; rfl
                have HG := Lib.hid (HREL.out wr (k + 1) hk1.symm (by omega) (by rw [HNX.out]; intro x hx; exact (List.mem_append.1 hx).elim (HAL.out x) (fun h => (by rw [List.mem_singleton.1 h]; exact hin))) HBW.out)
                clear hin hk1 HREL hww HF HW
                go_wp2
                go_roundw
                case rel =>
                  obtain ⟨t', h1, h2, h3, h4⟩ := HG.out
                  rw [HT0.out] at h2
                  exact ⟨t', h1, h2, by first | exact h3 | (rw [← h3]; exact val_int (by omega)), h4⟩
                case measure => simp [intOf]; omega
              | false =>
                have hno : ¬ RgtP (wlF T (cG T m n f) m y) G o := fun h => by
                  obtain ⟨i, hi, e⟩ := mem_getD (h.all _ HME.out)
                  have := HF.out.1.2 ⟨i, by rw [← HN.out]; exact hi, e⟩
                  cases this
                have HG := Lib.hid (RgC.no hno HBW.out)
                clear hno hww HF HW
                go_wp2
                go_ret
                exact HG.out
        · have HC3 := Lib.hid (HCK.out false ⟨fun h => (by cases h), fun h => absurd h hwk⟩ w3 hb3)
          have HNX := Lib.hid (HN1.out.2 (fun h => hwk h.2))
          clear hb3 HCI HCK x0 x1 x2 HR hwk HN1
          go_wp2_with fail
          refine HC3.out.mono ?_
          rintro e w5 ⟨rfl, hb5⟩
          have HB5 := Lib.hid (HB3.out.trans (hb5.mono HB3.out.size))
          have HG := Lib.hid (HREL.out w5 k (by rw [HNX.out, HK.out]) (by omega) (by rw [HNX.out]; exact HAL.out) HB5.out)
          clear hb5 HC3 z0 z1 z2 HB3 HREL
          go_wp2
          go_roundw
          case rel =>
            obtain ⟨t', h1, h2, h3, h4⟩ := HG.out
            rw [HT0.out] at h2
            exact ⟨t', h1, h2, h3, h4⟩
          case measure => simp [intOf]; omega
      · have HNX := Lib.hid (HN1.out.2 (fun h => hg (HCG.out.1 h.1)))
        have hgb : (isG T m n f t == 1) = false := beq_eq_false_iff_ne.2 hg
        clear hg hox HN1 HCG HMM x0 x1 x2
        generalize isG T m n f t = ig at *
        go_wp2_with fail
        refine HCI.out.mono ?_
        rintro e w3 ⟨rfl, hb3⟩
        have HB3 := Lib.hid (HR.out.2.trans (hb3.mono HR.out.2.size))
        have HG := Lib.hid (HREL.out w3 k (by rw [HNX.out, HK.out]) (by omega) (by rw [HNX.out]; exact HR.out.1) HB3.out)
        clear hb3 HCI HR HREL
        go_wp2
        go_roundw
        case rel =>
          obtain ⟨t', h1, h2, h3, h4⟩ := HG.out
          rw [HT0.out] at h2
          exact ⟨t', h1, h2, h3, h4⟩
        case measure => simp [intOf]; omega
    · obtain rfl : t = m := by omega
      generalize wlF T (cG T t n f) t y = l at *
      obtain ⟨k, hk⟩ : ∃ k, l.length = k := ⟨_, rfl⟩
      rw [hk] at hlen ⊢
      have HK := Lib.hid hk
      clear hk
      by_cases hkn : k = N
      · subst hkn
        have HAL := Lib.hid HR.out.1
        have HB1 := Lib.hid HR.out.2
        clear HR
        go_wp2
        go_loopw [15, 58] (fun _ i wr' => ∃ (K : Nat), K ≤ k ∧ i = .int .i64 (K : Int) ∧ Hid ((∀ q p, p < q → q < K → G (o.getD p 0) (o.getD q 0) = true) ∧ Below w.heap.size w wr')) (fun _ i _ => k - (intOf i).toNat)
        case atStart => exact ⟨0, Nat.zero_le _, rfl, Lib.hid ⟨fun q p _ h => absurd h (Nat.not_lt_zero _), HB1.out⟩⟩
        case round =>
          clear HB1
          obtain ⟨K, hK, rfl, HQ⟩ := hrel
          by_cases hlk : K < k
          · have hlk' : (K : Int) < (k : Int) := by omega
            go_wp2
            go_loopw [15] (fun i wr' => ∃ (J : Nat), J ≤ K ∧ i = .int .i64 (J : Int) ∧ Hid ((∀ p, p < J → G (o.getD p 0) (o.getD K 0) = true) ∧ Below w.heap.size w wr')) (fun i _ => K - (intOf i).toNat)
            case atStart => exact ⟨0, Nat.zero_le _, rfl, Lib.hid ⟨fun p h => absurd h (Nat.not_lt_zero _), HQ.out.2⟩⟩
            case round =>
              obtain ⟨J, hJ, rfl, HJ⟩ := hrel
              by_cases hlj : J < K
              · have hlj' : (J : Int) < (K : Int) := by omega
                have hjk' : (J : Int) < (k : Int) := by omega
                obtain ⟨bo, oo, rfl, hbo, hco⟩ := (HO.out.below HJ.out.2) (by omega)
                have c1 := hco J (by omega)
                have c2 := hco K hlk
                have HCA := Lib.hid fun (W : World) (hW : Below wr.heap.size wr W) => HAH.out (o.getD J 0) (o.getD K 0) W (HJ.out.2.trans (hW.mono HJ.out.2.size))
                have HNO : Hid (G (o.getD J 0) (o.getD K 0) = false → ¬ RgtP l G o) := Lib.hid fun e h => by
                  have := h.lin J K hlj (by rw [HN.out]; exact hlk)
                  rw [e] at this
                  cases this
                have HYES : Hid (G (o.getD J 0) (o.getD K 0) = true → ∀ p, p < J + 1 → G (o.getD p 0) (o.getD K 0) = true) := Lib.hid fun e p hp => by
                  by_cases h : p < J
                  · exact HJ.out.1 p h
                  · obtain rfl : p = J := by omega
                    exact e
                have hdr : Below wr.heap.size wr wr.drew := (Below.refl _ _).drew
                have HCA' := Lib.hid (HCA.out _ hdr)
                have HDR := Lib.hid hdr
                clear hco HCA hdr
                generalize o.getD J 0 = z1 at *
                generalize o.getD K 0 = z2 at *
                cases hb : G z1 z2 with
                | true =>
                  rw [hb] at HCA'
                  have HP := Lib.hid (HYES.out hb)
                  clear HNO HYES hb
                  go_wp2
                  go_region_with (go_at_call 65; refine HCA'.out.mono ?_; rintro e w5 ⟨rfl, hb5⟩)
                  all_goals
                    have HB5 : Hid (Below w.heap.size w w5) := Lib.hid (HJ.out.2.trans ((HDR.out.trans hb5).mono HJ.out.2.size))
                    clear hb5 HJ HCA'
                    go_wp2
                    go_roundw
                    case rel => exact ⟨J + 1, by omega, by go_num, Lib.hid ⟨HP.out, HB5.out⟩⟩
                    case measure => simp [intOf]; omega
                | false =>
                  rw [hb] at HCA'
                  have HP := Lib.hid (HNO.out hb)
                  clear HNO HYES hb
                  go_wp2
                  go_region_with (go_at_call 65; refine HCA'.out.mono ?_; rintro e w5 ⟨rfl, hb5⟩)
                  all_goals
                    have HB5 : Hid (Below w.heap.size w w5) := Lib.hid (HJ.out.2.trans ((HDR.out.trans hb5).mono HJ.out.2.size))
                    have HG := Lib.hid (RgC.no HP.out HB5.out)
                    clear hb5 HJ HCA'
                    go_wp2
                    go_ret
                    exact HG.out
              · obtain rfl : J = K := by omega
                have HQ2 : Hid ((∀ q p, p < q → q < J + 1 → G (o.getD p 0) (o.getD q 0) = true) ∧ Below w.heap.size w wr) := Lib.hid ⟨fun q p hpq hq => by
                  by_cases h : q < J
                  · exact HQ.out.1 q p hpq h
                  · obtain rfl : q = J := by omega
                    exact HJ.out.1 p hpq, HJ.out.2⟩
                clear HQ HJ
                go_wp2
                go_roundw
                case rel => exact ⟨J + 1, by omega, by go_num, HQ2⟩
                case measure => simp [intOf]; omega
          · obtain rfl : K = k := by omega
            have HG := Lib.hid (RgC.yes (l := l) (G := G) (o := o) ⟨HAL.out, by rw [HK.out, HN.out], fun j q hjq hq => HQ.out.1 q j hjq (by rw [← HN.out]; exact hq)⟩ HQ.out.2)
            clear HQ
            go_wp2
            go_ret
            exact HG.out
      · have hno : ¬ RgtP l G o := fun h => hkn (by rw [← HK.out, ← HN.out]; exact h.len)
        have HG := Lib.hid (RgC.no hno HR.out.2)
        have hkb : ((k : Int) != (N : Int)) = true := by rw [bne_iff_ne]; omega
        clear HR hno
        go_wp2
        go_ret
        exact HG.out
end Go.Proofs.Yteobndfkkpfnlaa
