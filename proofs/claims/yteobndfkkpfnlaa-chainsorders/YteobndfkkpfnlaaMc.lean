/-
  The reference of chains: Writers.
-/
import Derived.Test.YteobndfkkpfnlaaMb
import Derived.Test.YteobndfkkpfnlaaMp
namespace Go.Proofs.Yteobndfkkpfnlaa
open Go.ChangeShapes Go.WideShapes Go.ChangeAt Go.RowKit Go.Maps
set_option linter.unusedVariables false

/-- who is done, as the reference tells it -/
noncomputable def cG (T : Nat → Tx) (m n : Nat) (f : Nat → C4 × Bool) (i : Nat) : Bool := isG T m n f i == 1
/-- who answers numbers, in memory of its own -/
def IntP (l : List Int) (w : World) (e : Ending) (w' : World) : Prop :=
  ∃ sp cp, e = .returned (.slice sp l.length cp) ∧ w'.ownsRow w.heap.size 3 1 (.slice sp l.length cp) l.length (rwI l) ∧ Below w.heap.size w w'

set_option maxRecDepth 100000 in
set_option maxHeartbeats 4000000 in
theorem rwriters_any (a : Option Addr) (m cap : Nat) (T : Nat → Tx) (sp : Option Addr) (n cp : Nat) (f : Nat → C4 × Bool) (y : Int) (w : World) (hm : m ≤ 100) (hnb : n ≤ 1000000) (hs : TxS w a m T) (hx : HTx m T) (hu : Uq m T) (hf : SaS w sp n f) :
    Calls Try.prog 35 #[.slice a m cap, .slice sp n cp, .int .i64 y] w (IntP (wlF T (cG T m n f) m y) w) := by
  have HS := Lib.hid hs
  have HXX := Lib.hid hx
  have HIS : Hid (∀ (t : Nat) (W : World), t < m → Below w.heap.size w W → Calls Try.prog 29 #[.slice a m cap, .slice sp n cp, .int .i64 (t : Int)] W (fun e w' => e = .returned (.int .i64 (isG T m n f t)) ∧ Below W.heap.size W w')) := Lib.hid fun t W ht hW => ris_any a m cap T sp n cp f t W ht hnb (hs.below hW) hx hu (hf.below hW)
  have HL0 : Hid (wlF T (cG T m n f) 0 y = []) := Lib.hid (by rw [wlF_zero])
  have hb0 : Below w.heap.size w (w.alloc (.cells #[] 3)) := (Below.refl _ _).alloc (Nat.le_refl _) _
  have HR0 : Hid ((w.alloc (.cells #[] 3)).ownsRow w.heap.size 3 1 (.slice (some ⟨w.heap.size, 0, none⟩) 0 0) 0 (rwI []) ∧ Below w.heap.size w (w.alloc (.cells #[] 3))) := Lib.hid ⟨World.ownsRow_lit w #[] 0 (Nat.le_refl _) (Nat.zero_le _) rfl, hb0⟩
  clear hs hx hu hf hb0
  go_enter Try.func35, Try.ntmps35
  go_wp2
  generalize w.alloc (.cells #[] 3) = w1 at *
  go_loopw [7, 12] (fun vo i wr => ∃ (t : Nat) (sp : Option Addr) (cp : Nat), t ≤ m ∧ i = .int .i64 (t : Int) ∧ vo = .slice sp (wlF T (cG T m n f) t y).length cp ∧ (wlF T (cG T m n f) t y).length ≤ t ∧ Hid (wr.ownsRow w.heap.size 3 1 (.slice sp (wlF T (cG T m n f) t y).length cp) (wlF T (cG T m n f) t y).length (rwI (wlF T (cG T m n f) t y)) ∧ Below w.heap.size w wr)) (fun _ i _ => m - (intOf i).toNat)
  case atStart => exact ⟨0, some ⟨w.heap.size, 0, none⟩, 0, Nat.zero_le _, rfl, by rw [HL0.out]; rfl, by rw [HL0.out]; exact Nat.le_refl _, by rw [HL0.out]; exact HR0⟩
  case round =>
    clear HR0
    obtain ⟨t, s3, c3, ht, rfl, rfl, hlen, HR⟩ := hrel
    by_cases hlt : t < m
    · have hlt' : (t : Int) < (m : Int) := by omega
      have HN1 := Lib.hid (wlF_succ (T := T) (c := cG T m n f) (t := t) y)
      have HCG : Hid (cG T m n f t = true ↔ isG T m n f t = 1) := Lib.hid (by unfold cG; exact beq_iff_eq)
      obtain ⟨t0, ht0⟩ : ∃ t0, t0 = t := ⟨_, rfl⟩
      have HT0 := Lib.hid ht0
      clear ht0
      obtain ⟨l1, hl1⟩ : ∃ l, l = wlF T (cG T m n f) (t + 1) y := ⟨_, rfl⟩
      have HREL : Hid (∀ (v : Value) (wr' : World) (s' : Option Addr) (c' k : Nat), k = l1.length → v = .slice s' k c' → l1.length ≤ t + 1 → wr'.ownsRow w.heap.size 3 1 (.slice s' k c') k (rwI l1) → Below w.heap.size w wr' →
          ∃ (t : Nat) (sp : Option Addr) (cp : Nat), t ≤ m ∧ Value.int .i64 ((t0 : Int) + 1) = .int .i64 (t : Int) ∧ v = .slice sp (wlF T (cG T m n f) t y).length cp ∧ (wlF T (cG T m n f) t y).length ≤ t ∧ Hid (wr'.ownsRow w.heap.size 3 1 (.slice sp (wlF T (cG T m n f) t y).length cp) (wlF T (cG T m n f) t y).length (rwI (wlF T (cG T m n f) t y)) ∧ Below w.heap.size w wr')) := Lib.hid fun v wr' s' c' k hk hv hle ho hb => by
        have ht0 := HT0.out
        subst hk ht0
        refine ⟨t0 + 1, s', c', by omega, val_int (by omega), ?_, ?_, ?_⟩
        · rw [← hl1]; exact hv
        · rw [← hl1]; exact hle
        · rw [← hl1]; exact Lib.hid ⟨ho, hb⟩
      have HL1 := Lib.hid hl1
      rw [← hl1] at HN1
      clear hl1
      generalize wlF T (cG T m n f) t y = l at *
      obtain ⟨k, hk⟩ : ∃ k, l.length = k := ⟨_, rfl⟩
      rw [hk] at HR hlen ⊢
      have HK := Lib.hid hk
      clear hk
      have HCI := Lib.hid (HIS.out t wr hlt HR.out.2)
      obtain ⟨bl, off, rfl, hbl, hci⟩ := (HS.out.below HR.out.2) (by omega)
      obtain ⟨spx, cpx, x0, x1, x2, hox⟩ := hci t hlt
      clear hci
      by_cases hg : isG T m n f t = 1
      · by_cases hwk : wkT (T t) y
        · have HNX := Lib.hid (HN1.out.1 ⟨HCG.out.2 hg, hwk⟩)
          have HCK : Hid (∀ W, Below wr.heap.size wr W → Calls Try.prog 53 #[.agg #[.int .i64 (T t).c, .int .i64 (T t).st, .slice spx (T t).n cpx], .int .i64 y] W (fun e w' => e = .returned (.bool true) ∧ Below W.heap.size W w')) := Lib.hid fun W hW => rwkey_any (T t).c (T t).st spx (T t).n cpx (T t).o y true W (by have := HXX.out.n t hlt; omega) (HXX.out.ok.key t hlt) (hox.below hW) ⟨fun _ => hwk, fun _ => rfl⟩
          rw [hg] at HCI
          clear hg hwk hox HN1 HCG
          generalize (T t).c = xc at *
          generalize (T t).st = xst at *
          generalize (T t).n = xn at *
          go_wp2_with fail
          refine HCI.out.mono ?_
          rintro e w3 ⟨rfl, hb3⟩
          have z0 := (hb3.cell (p := ⟨bl, off + t * 3, none⟩) hbl).trans x0
          have z1 := (hb3.cell (p := ⟨bl, off + t * 3 + 1, none⟩) hbl).trans x1
          have z2 := (hb3.cell (p := ⟨bl, off + t * 3 + 2, none⟩) hbl).trans x2
          have HC3 := Lib.hid (HCK.out w3 hb3)
          have HR3 : Hid (w3.ownsRow w.heap.size 3 1 (.slice s3 k c3) k (rwI l) ∧ Below w.heap.size w w3) := Lib.hid ⟨own_keep HR.out.1 fun q hq => hb3.block q (HR.out.1.lt q hq).2, HR.out.2.trans (hb3.mono HR.out.2.size)⟩
          clear hb3 HCI HCK x0 x1 x2 HR
          go_wp2_with (first
            | (go_at_call 53; refine HC3.out.mono ?_; rintro e w5 ⟨rfl, hb5⟩; have HR5 : Hid ((w5.alloc (.cells #[.int .i64 (t : Int)] 3)).ownsRow w.heap.size 3 1 (.slice s3 k c3) k (rwI l) ∧ Below w.heap.size w (w5.alloc (.cells #[.int .i64 (t : Int)] 3))) := Lib.hid ⟨(own_keep HR3.out.1 fun q hq => hb5.block q (HR3.out.1.lt q hq).2).alloc _, (HR3.out.2.trans (hb5.mono HR3.out.2.size)).alloc (HR3.out.2.trans (hb5.mono HR3.out.2.size)).size _⟩; have HSL : Hid (IsL (w5.alloc (.cells #[.int .i64 (t : Int)] 3)) (some ⟨w5.heap.size, 0, none⟩) 1 [(t : Int)]) := Lib.hid (own_isL (World.ownsRow_lit w5 #[.int .i64 (t : Int)] 1 (Nat.le_refl _) (by decide) rfl) rfl); clear hb5)
            | (at_builtin; refine wpList_append_ints rfl _ _ rfl w.heap.size _ k l HK.out.symm rfl HR5.out.1 (some ⟨w5.heap.size, 0, none⟩) 1 1 [(t : Int)] rfl rfl HSL.out (fun h => by cases h) (by omega) HR5.out.2.size ?_; intro v7 w7 ho7 hg7; rw [← HNX.out] at ho7; obtain ⟨s7, c7, hv7⟩ := own_form' ho7; subst hv7; have HO7 := Lib.hid ho7; have HB7 := Lib.hid (HR5.out.2.grown hg7 HR5.out.2.size (fun q hq => (HR5.out.1.lt q hq).1)); clear ho7 hg7))
          have hk1 : l1.length = k + 1 := by rw [HNX.out, List.length_append, HK.out]; rfl
          have HF := Lib.hid (HREL.out _ w7 s7 c7 (k + 1) hk1.symm rfl (by omega) HO7.out HB7.out)
          clear hk1 HO7 HB7 HREL
          go_roundw
          case rel =>
            obtain ⟨t', s', c', h1, h2, h3⟩ := HF.out
            rw [HT0.out] at h2
            exact ⟨t', s', c', h1, h2, h3⟩
          case measure => simp [intOf]; omega
        · have HNX := Lib.hid (HN1.out.2 (fun h => hwk h.2))
          have HCK : Hid (∀ W, Below wr.heap.size wr W → Calls Try.prog 53 #[.agg #[.int .i64 (T t).c, .int .i64 (T t).st, .slice spx (T t).n cpx], .int .i64 y] W (fun e w' => e = .returned (.bool false) ∧ Below W.heap.size W w')) := Lib.hid fun W hW => rwkey_any (T t).c (T t).st spx (T t).n cpx (T t).o y false W (by have := HXX.out.n t hlt; omega) (HXX.out.ok.key t hlt) (hox.below hW) ⟨fun h => (by cases h), fun h => absurd h hwk⟩
          rw [hg] at HCI
          clear hg hwk hox HN1 HCG
          generalize (T t).c = xc at *
          generalize (T t).st = xst at *
          generalize (T t).n = xn at *
          go_wp2_with fail
          refine HCI.out.mono ?_
          rintro e w3 ⟨rfl, hb3⟩
          have z0 := (hb3.cell (p := ⟨bl, off + t * 3, none⟩) hbl).trans x0
          have z1 := (hb3.cell (p := ⟨bl, off + t * 3 + 1, none⟩) hbl).trans x1
          have z2 := (hb3.cell (p := ⟨bl, off + t * 3 + 2, none⟩) hbl).trans x2
          have HC3 := Lib.hid (HCK.out w3 hb3)
          have HR3 : Hid (w3.ownsRow w.heap.size 3 1 (.slice s3 k c3) k (rwI l) ∧ Below w.heap.size w w3) := Lib.hid ⟨own_keep HR.out.1 fun q hq => hb3.block q (HR.out.1.lt q hq).2, HR.out.2.trans (hb3.mono HR.out.2.size)⟩
          clear hb3 HCI HCK x0 x1 x2 HR
          go_wp2_with fail
          refine HC3.out.mono ?_
          rintro e w5 ⟨rfl, hb5⟩
          have HR5 : Hid (w5.ownsRow w.heap.size 3 1 (.slice s3 k c3) k (rwI l) ∧ Below w.heap.size w w5) := Lib.hid ⟨own_keep HR3.out.1 fun q hq => hb5.block q (HR3.out.1.lt q hq).2, HR3.out.2.trans (hb5.mono HR3.out.2.size)⟩
          clear hb5
          have HF := Lib.hid (HREL.out _ w5 s3 c3 k (by rw [HNX.out, HK.out]) rfl (by rw [HNX.out, HK.out]; omega) (by rw [HNX.out]; exact HR5.out.1) HR5.out.2)
          clear HREL HR5 HR3
          go_wp2
          go_roundw
          case rel =>
            obtain ⟨t', s', c', h1, h2, h3⟩ := HF.out
            rw [HT0.out] at h2
            exact ⟨t', s', c', h1, h2, h3⟩
          case measure => simp [intOf]; omega
      · have HNX := Lib.hid (HN1.out.2 (fun h => hg (HCG.out.1 h.1)))
        have hgb : (isG T m n f t == 1) = false := beq_eq_false_iff_ne.2 hg
        clear hg hox HN1 HCG x0 x1 x2
        generalize isG T m n f t = ig at *
        go_wp2_with fail
        refine HCI.out.mono ?_
        rintro e w3 ⟨rfl, hb3⟩
        have HR3 : Hid (w3.ownsRow w.heap.size 3 1 (.slice s3 k c3) k (rwI l) ∧ Below w.heap.size w w3) := Lib.hid ⟨own_keep HR.out.1 fun q hq => hb3.block q (HR.out.1.lt q hq).2, HR.out.2.trans (hb3.mono HR.out.2.size)⟩
        clear hb3 HCI HR
        have HF := Lib.hid (HREL.out _ w3 s3 c3 k (by rw [HNX.out, HK.out]) rfl (by rw [HNX.out, HK.out]; omega) (by rw [HNX.out]; exact HR3.out.1) HR3.out.2)
        clear HREL HR3
        go_wp2
        go_roundw
        case rel =>
          obtain ⟨t', s', c', h1, h2, h3⟩ := HF.out
          rw [HT0.out] at h2
          exact ⟨t', s', c', h1, h2, h3⟩
        case measure => simp [intOf]; omega
    · obtain rfl : t = m := by omega
      generalize wlF T (cG T t n f) t y = l at *
      have HF : IntP l w (.returned (.slice s3 l.length c3)) wr := ⟨s3, c3, rfl, HR.out.1, HR.out.2⟩
      clear HR
      generalize l.length = k at *
      go_wp2
      go_ret
      exact HF
end Go.Proofs.Yteobndfkkpfnlaa
