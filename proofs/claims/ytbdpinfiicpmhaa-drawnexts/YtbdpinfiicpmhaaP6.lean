/-
  Contract of Next: a client's next transaction.
-/
import Derived.Test.YtbdpinfiicpmhaaP5
namespace Go.Proofs.Ytbdpinfiicpmhaa
open Go.ChangeShapes Go.WideShapes Go.ChangeAt Go.RowKit RefMath

theorem Chg.grown {w w1 w2 : World} {g : Nat} {ob : Option Nat} (h : Chg w g w1) (hg : w1.grownBy w2 ob) (ho : ∀ q, ob = some q → w.heap.size ≤ q) : Chg w g w2 :=
  ⟨hg.os.trans h.os, hg.tape.trans h.tape, hg.output.trans h.output, Nat.le_trans h.size hg.size, fun q hq hn => (hg.block q (Nat.lt_of_lt_of_le hq h.size) (fun e => by have := ho q e.symm; omega)).trans (h.block q hq hn)⟩
theorem GenS.grown {w1 w2 : World} {g : Nat} {p : Pl} {c : Int} {st n : Nat} {ob : Option Nat} (h : GenS w1 g p c st n) (hg : w1.grownBy w2 ob) (ho : ∀ q, ob = some q → g < q) : GenS w2 g p c st n :=
  (hg.block g (heap_lt h) (fun e => by have := ho g e.symm; omega)).trans h
def lenOf : Value → Nat
  | .slice _ n _ => n
  | _ => 0
/-- a generator's Next -/
theorem next_none (w : World) : Calls Try.prog 12 #[.pointer none] w (fun e w' => e = .returned (.slice none 0 0) ∧ w = w') := by
  go_enter Try.func12, Try.ntmps12
  go_wp2
  go_ret
  exact ⟨rfl, rfl⟩

set_option maxRecDepth 100000 in
set_option maxHeartbeats 2000000 in
theorem gnext_any (g : Nat) (p : Pl) (c : Int) (st n : Nat) (w : World) (hp : p.right) (hc1 : 1 ≤ c) (hc2 : c ≤ 16) (hn : n ≤ 90000) (hg : GenS w g p c st n) :
    Calls Try.prog 12 #[.pointer (some ⟨g, 0, none⟩)] w (SmP g p c (nx p c st n) w) := by
  have HG := Lib.hid hg
  have HP := Lib.hid hp
  have hgl := heap_lt hg
  have hw := wants_in hp st
  have hm2 := hp.m2
  obtain ⟨⟨c0, c1, c2, c3, c4, c5, c6, c7, c8⟩, hf⟩ := cells9 hg
  have hf7 := hf 7
  clear hf hg hp
  obtain ⟨want, hwt⟩ : ∃ want, want = wants p st := ⟨_, rfl⟩
  have HEN : Hid (∀ j, want ≤ (its p c want ([], MixMath.nxt st, n) j).1.length → its p c want ([], MixMath.nxt st, n) j = nx p c st n) := Lib.hid fun j h => by
    rw [hwt] at h ⊢
    exact its_end HP.out h
  rw [← hwt] at hw
  have HD : Hid (drawn st p.most = (want : Int) - 1) := Lib.hid (by omega)
  have HRN : Hid (∀ j, Rnd n want (its p c want ([], MixMath.nxt st, n) j)) := Lib.hid (its_rnd HP.out (rnd0 n want st))
  obtain ⟨hw1, hw2, hw3, hw4⟩ := hw
  clear hw4
  clear hwt
  obtain ⟨s0, hs0⟩ : ∃ s0, s0 = MixMath.nxt st := ⟨_, rfl⟩
  rw [← hs0] at HEN HRN
  have HE0 := Lib.hid hs0
  clear hs0
  generalize nx p c st n = r at *
  go_enter Try.func12, Try.ntmps12
  go_wp2
  go_region_with (go_at_call 20; refine (below_all g 7 st _ (by omega) _ (by simpa using c7) (by simpa using hf7)).mono ?_; rw [HD.out, ← HE0.out]; rintro e w' ⟨rfl, rfl⟩)
  have HGA : Hid (GenS (w.setCell ⟨g, 7, none⟩ (.int .u64 (s0 : Int))).drew g p c s0 n) := Lib.hid (HG.out.drawn s0)
  have HCA : Hid (Chg w g (w.setCell ⟨g, 7, none⟩ (.int .u64 (s0 : Int))).drew) := Lib.hid ((Chg.set g 7 _).trans (Chg.of_below (Below.refl _ _).drew))
  generalize (w.setCell ⟨g, 7, none⟩ (.int .u64 (s0 : Int))).drew = wA at *
  clear c0 c1 c2 c3 c4 c5 c6 c7 c8 hf7 HE0
  go_wp2
  rw [show (1 : Int) + ((want : Int) - 1) = (want : Int) from by omega]
  go_loopw [4] (fun vo wr => ∃ (j : Nat) (sp : Option Addr) (cp : Nat), vo = .slice sp (its p c want ([], s0, n) j).1.length cp ∧ Hid (wr.ownsRow w.heap.size 45 3 (.slice sp (its p c want ([], s0, n) j).1.length cp) (its p c want ([], s0, n) j).1.length (rowL (its p c want ([], s0, n) j).1) ∧ GenS wr g p c (its p c want ([], s0, n) j).2.1 (its p c want ([], s0, n) j).2.2 ∧ Chg w g wr)) (fun vo _ => want - lenOf vo)
  case atStart => exact ⟨0, none, 0, rfl, Lib.hid ⟨World.ownsRow_nil _ _ _ _, HGA.out, HCA.out⟩⟩
  case round =>
    obtain ⟨j, sp, cp, rfl, HR⟩ := hrel
    have hrn := HRN.out j
    have h1 := hrn.len
    have h2 := hrn.hi
    have HEN' := Lib.hid (HEN.out j)
    have HST : Hid ((its p c want ([], s0, n) j).1.length < want → its p c want ([], s0, n) (j + 1) = ((its p c want ([], s0, n) j).1 ++ (smO p c (its p c want ([], s0, n) j).2.1 (its p c want ([], s0, n) j).2.2 ((want : Int) - ((its p c want ([], s0, n) j).1.length : Int))).1, (smO p c (its p c want ([], s0, n) j).2.1 (its p c want ([], s0, n) j).2.2 ((want : Int) - ((its p c want ([], s0, n) j).1.length : Int))).2.1, (smO p c (its p c want ([], s0, n) j).2.1 (its p c want ([], s0, n) j).2.2 ((want : Int) - ((its p c want ([], s0, n) j).1.length : Int))).2.2)) := Lib.hid fun h => by
      show stp p c want (its p c want ([], s0, n) j) = _
      unfold stp; rw [if_pos h]
    clear hrn
    obtain ⟨S, hS⟩ : ∃ S, its p c want ([], s0, n) j = S := ⟨_, rfl⟩
    rw [hS] at HR h1 h2 HEN' HST ⊢
    obtain ⟨l, s1, n1⟩ := S
    dsimp only at HR h1 h2 HEN' HST ⊢
    clear hS
    obtain ⟨k, hk⟩ : ∃ k, l.length = k := ⟨_, rfl⟩
    rw [hk] at HR h1 h2 HEN' HST ⊢
    have HK := Lib.hid hk
    have HG1 := Lib.hid HR.out.2.1
    have HC1 := Lib.hid HR.out.2.2
    have HW1 := Lib.hid HR.out.1
    clear HR hk
    by_cases hlt : k < want
    · have HST' := Lib.hid (HST.out hlt)
      have hln := smO_len HP.out c s1 n1 ((want : Int) - (k : Int)) (by omega)
      have HS1 := Lib.hid (some_any g p c s1 n1 ((want : Int) - (k : Int)) wr HP.out hc1 hc2 (by omega) (by omega) (by omega) HG1.out)
      obtain ⟨R, hR⟩ : ∃ R, smO p c s1 n1 ((want : Int) - (k : Int)) = R := ⟨_, rfl⟩
      rw [hR] at HST' HS1 hln
      obtain ⟨l2, s2, n2⟩ := R
      dsimp only at HST' hln
      clear HST hR
      have hlt' : (k : Int) < (want : Int) := by omega
      go_wp2_with fail
      refine HS1.out.mono ?_
      rintro e wD ⟨sp2, cp2, rfl, ho, hS2, hC2⟩
      dsimp only at ho hS2
      obtain ⟨k2, hk2⟩ : ∃ k2, l2.length = k2 := ⟨_, rfl⟩
      have HO2 := Lib.hid ho
      have HSS := Lib.hid hS2
      have HCC := Lib.hid (HC1.out.trans hC2)
      have HW2 : Hid (wD.ownsRow w.heap.size 45 3 (.slice sp k cp) k (rowL l)) := Lib.hid (own_keep HW1.out fun q hq => hC2.block q (HW1.out.lt q hq).2 (fun e => by injection e with e; have := (HW1.out.lt q hq).1; omega))
      have HSR : Hid (OpS wD sp2 k2 (lf l2) ∧ (sp2 = none → k2 = 0 ∧ cp2 = 0)) := Lib.hid (by rw [← hk2]; exact ⟨own_ops ho, own_nil' ho⟩)
      rw [hk2] at hln ⊢
      have HK2 := Lib.hid hk2
      clear ho hS2 hC2 hk2
      go_wp2_with (at_builtin; refine wpList_append_ops rfl _ _ rfl w.heap.size _ k l HK.out.symm rfl HW2.out sp2 k2 cp2 l2 HK2.out.symm rfl HSR.out.1 HSR.out.2 (by omega) HCC.out.size ?_; intro v7 w7 ho7 hg7; obtain ⟨sp7, cp7, hv7⟩ := own_form' ho7; have HO7 := Lib.hid ho7; have HV7 := Lib.hid hv7; have HC7 := Lib.hid (HCC.out.grown hg7 (fun q hq => (HW2.out.lt q hq).1)); have HG7 := Lib.hid (HSS.out.grown hg7 (fun q hq => Nat.lt_of_lt_of_le hgl (HW2.out.lt q hq).1)); clear ho7 hg7 hv7)
      go_roundw
      case rel =>
        refine ⟨j + 1, sp7, cp7, ?_, ?_⟩
        · rw [HST'.out]
          dsimp only
          rw [List.length_append, HK.out, HK2.out]
          exact HV7.out
        · rw [HST'.out]
          dsimp only
          rw [List.length_append, HK.out, HK2.out]
          have h := HO7.out
          rw [HV7.out] at h
          exact Lib.hid ⟨h, HG7.out, HC7.out⟩
      case measure =>
        have h := HV7.out
        subst h
        simp [lenOf]; omega
    · have er := HEN'.out (by omega)
      subst er
      have hnlt : ¬ (k : Int) < (want : Int) := by omega
      have hF : SmP g p c (l, s1, n1) w (.returned (.slice sp k cp)) wr := ⟨sp, cp, by dsimp only; rw [HK.out], by dsimp only; rw [HK.out]; exact HW1.out, HG1.out, HC1.out⟩
      clear HG1 HC1 HW1
      go_wp2
      go_ret
      exact hF
end Go.Proofs.Ytbdpinfiicpmhaa
