/-
  The laws' head; BookSizes' walk.
-/
import Derived.Test.YtaddmegghikhpaaEf
namespace Go.Proofs.Ytaddmegghikhpaa
open Go.ChangeShapes Go.WideShapes Go.ChangeAt Go.RowKit

def exE : Nat → Ev := fun _ => ⟨4, 1, 0, fun _ => ⟨0, 0, 0⟩⟩
def exB : Nat → Nat := fun j => if j = 0 then 88 else 0
theorem exFit : ∀ i, i < 1 → Fit (exE i) := fun i _ => ⟨(by decide : (1 : Int) ≤ 4), (by decide : (4 : Int) ≤ 4), (by decide : (1 : Int) ≤ 1), (by decide : (1 : Int) ≤ 16), (by decide : 0 ≤ 12), fun i hi => absurd hi (Nat.not_lt_zero _)⟩
theorem exBL : BL exE 1 = [0, 1, 0, 1, 1, 0, 0, 0, 0, 0, 0, 0, 0] := by decide +kernel
theorem exEnds : Ends exB 13 := ⟨fun j => by unfold exB; split <;> decide, fun _ => by decide⟩
theorem exBits : ∀ i, i < 13 → bitAt exB i = [0, 1, 0, 1, 1, 0, 0, 0, 0, 0, 0, 0, 0].getD i 0 := by decide +kernel
theorem ex_bytes {F : Nat → Nat} (hs : Sp F 0 (BL exE 1)) (he : Ends F (BL exE 1).length) : ∀ j, j < 2 → F j = exB j := by
  rw [exBL] at hs he
  refine fun j hj => bytes_eq he exEnds (fun i hi => ?_) j hj
  have h1 := hs i hi
  rw [Nat.zero_add] at h1
  rw [h1, exBits i hi]
theorem ex_mem (w : World) : EvS (w.alloc (.cells #[.int .i64 4, .int .i64 1, .slice none 0 0] 43)) (some ⟨w.heap.size, 0, none⟩) 1 exE := by
  have h0 := heap_alloc_new w (.cells #[.int .i64 4, .int .i64 1, .slice none 0 0] 43)
  refine fun _ => ⟨_, 0, rfl, by simp, fun j hj => ?_⟩
  obtain rfl : j = 0 := by omega
  obtain ⟨⟨c0, c1, c2⟩, _⟩ := cells3 h0
  exact ⟨none, 0, c0, c1, c2, fun h => absurd h (Nat.lt_irrefl 0), fun _ => ⟨rfl, rfl⟩, Nat.zero_le _⟩
theorem exLit (w : World) : Src (w.alloc (.cells #[.int .u8 88, .int .u8 0] 5)) (some ⟨w.heap.size, 0, none⟩) 2 exB := by
  have h0 := heap_alloc_new w (.cells #[.int .u8 88, .int .u8 0] 5)
  refine fun _ => ⟨_, rfl, by simp, fun j hj => ?_⟩
  rw [Go.WideShapes.add_plain, cell_of_row _ _ _ _ 5 (0, 0) h0]
  have : j = 0 ∨ j = 1 := by omega
  rcases this with rfl | rfl <;> rfl
theorem enc_src {L : List Nat} {w w' : World} {g n : Nat} {F : Nat → Nat} (h : EncB L w w' g n F) : Src w' (some ⟨g, 0, none⟩) n F := row_src h.1
theorem Src.below' {w w' : World} {sp : Option Addr} {n : Nat} {f : Nat → Nat} (h : Src w sp n f) (hb : Below w.heap.size w w') : Src w' sp n f := h.below hb

set_option maxRecDepth 100000 in
set_option maxHeartbeats 2000000 in
theorem head_any (w : World) : Calls Try.prog 7 #[] w fun e w' => e = .returned (.bool true) ∧ Below w.heap.size w w' := by
  have HM := Lib.hid (ex_mem w)
  have HB : Hid (Below w.heap.size w (w.alloc (.cells #[.int .i64 4, .int .i64 1, .slice none 0 0] 43))) := Lib.hid ((Below.refl _ _).alloc (Nat.le_refl _) _)
  go_enter Try.func7, Try.ntmps7
  go_wp2_with fail
  refine (encode_any _ 1 1 exE _ HM.out).mono ?_
  rintro e w2 ⟨hb2, hres⟩
  have HB2 := Lib.hid (HB.out.trans (hb2.mono HB.out.size))
  clear hb2 HM HB
  rcases hres with ⟨h, _⟩ | ⟨_, ⟨⟨i, hi, hno⟩, _⟩ | ⟨_, g, n, F, rfl, hE⟩⟩
  · exact absurd h (by decide)
  · exact absurd (exFit i hi) hno
  · obtain rfl : n = 2 := by rw [hE.2.2.1, exBL]; rfl
    have HEB := Lib.hid (ex_bytes hE.2.2.2.2 hE.2.2.2.1)
    have HF := Lib.hid hE.2.2.2.1.1
    have HSR := Lib.hid (enc_src hE)
    have HLT := Lib.hid (exLit w2)
    have hb3 : Below w2.heap.size w2 (w2.alloc (.cells #[.int .u8 88, .int .u8 0] 5)) := (Below.refl _ _).alloc (Nat.le_refl _) _
    have HB3 := Lib.hid hb3
    clear hE hb3
    go_wp2_with fail
    refine (sameB_any _ _ _ 2 2 _ _ F exB true HF.out (fun j => exEnds.1 j) (HSR.out.below HB3.out) HLT.out ⟨fun _ => ⟨rfl, HEB.out⟩, fun _ => rfl⟩).mono ?_
    rintro e w3 ⟨rfl, rfl⟩
    go_wp2
    go_ret
    exact ⟨rfl, HB2.out.trans (HB3.out.mono HB2.out.size)⟩

theorem wpList_append_none {w : World} {ops : Array Oper} {rest : List Oper} {o : Oper} {a : Act} {Q : Exit → Act → World → Prop} (hgd : o.guard = none) (s x : Operand)
    (ho : o.op = .call { callee := .builtin .append, args := #[s, x], argTypes := #[22, 22] }) (base n : Nat) (v : Value) (xs : List Value) (hs : a.eval s = v) (hown : w.ownsRow base 43 3 v n xs) (hx : a.eval x = .slice none 0 0)
    (h : wpList Try.prog ops Q rest (a.put o.dst v) w) : wpList Try.prog ops Q (o :: rest) a w := by
  obtain ⟨i1, hi1, _, _, _⟩ := info_parts info43
  have hrun := run_append_owned_none (P := Try.prog) (w := w) base 22 o.type 43 i1 3 Try.underlying22 hi1 v n xs hown
  refine wpList_plain hgd fun K hK => ?_
  unfold Oper.wp
  simp [execOp, ho, resolve, invoke, builtin, hs, hx, hrun, Result.andThen]
  exact hK _ _ h

/-- another's events as a row -/
theorem ev_row {w : World} {ad : Addr} {len : Nat} {E : Nat → Ev} (h : EvS w (some ad) len E) :
    ∃ V : Nat → Value, (∀ j, j < len → ∃ sp cap, V j = .slice sp (E j).n cap ∧ OpS w sp (E j).n (E j).o ∧ (sp = none → (E j).n = 0 ∧ cap = 0) ∧ (E j).n ≤ 9223372036854775807) ∧
      ∀ j u, (rowT (fun i => asT (E i)) V len)[j]? = some u → w.cell? (ad.add j) = some u := by
  by_cases hl : 0 < len
  · obtain ⟨b, off, e, hb, hc⟩ := h hl
    injection e with e
    subst e
    have hex : ∀ j, ∃ v : Value, j < len → (∃ sp cap, v = .slice sp (E j).n cap ∧ OpS w sp (E j).n (E j).o ∧ (sp = none → (E j).n = 0 ∧ cap = 0) ∧ (E j).n ≤ 9223372036854775807) ∧ w.cell? ⟨b, off + j * 3, none⟩ = some (.int .i64 (E j).k) ∧ w.cell? ⟨b, off + j * 3 + 1, none⟩ = some (.int .i64 (E j).c) ∧ w.cell? ⟨b, off + j * 3 + 2, none⟩ = some v := fun j => by
      by_cases hj : j < len
      · obtain ⟨sp, cap, c0, c1, c2, ho, hp, hn⟩ := hc j hj
        exact ⟨.slice sp (E j).n cap, fun _ => ⟨⟨sp, cap, rfl, ho, hp, hn⟩, c0, c1, c2⟩⟩
      · exact ⟨.slice none 0 0, fun h => absurd h hj⟩
    obtain ⟨V, hV⟩ := Classical.skolem.mp hex
    refine ⟨V, fun j hj => (hV j hj).1, fun j u hu => ?_⟩
    have hjl : j < len * 3 := by
      rcases Nat.lt_or_ge j (len * 3) with h' | h'
      · exact h'
      · rw [List.getElem?_eq_none (by rw [rowT_length]; exact h')] at hu; cases hu
    rw [Go.WideShapes.add_plain]
    obtain ⟨_, c0, c1, c2⟩ := hV (j / 3) (by omega)
    obtain ⟨g0, g1, g2⟩ := rowT_get (fun i => asT (E i)) V len (j / 3) (by omega)
    have hm : j % 3 = 0 ∨ j % 3 = 1 ∨ j % 3 = 2 := by omega
    rcases hm with hm | hm | hm
    · rw [show j / 3 * 3 = j by omega] at c0 g0
      rw [c0, ← hu, g0]; rfl
    · rw [show j / 3 * 3 + 1 = j by omega] at g1
      rw [show off + j / 3 * 3 + 1 = off + j by omega] at c1
      rw [c1, ← hu, g1]; rfl
    · rw [show j / 3 * 3 + 2 = j by omega] at g2
      rw [show off + j / 3 * 3 + 2 = off + j by omega] at c2
      rw [c2, ← hu, g2]
  · obtain rfl : len = 0 := by omega
    exact ⟨fun _ => .slice none 0 0, fun j hj => absurd hj (Nat.not_lt_zero _), fun j u hu => by cases hu⟩

set_option maxRecDepth 100000 in
set_option maxHeartbeats 8000000 in
theorem sizes_main (a : Option Addr) (len cap : Nat) (E : Nat → Ev) (a' : Option Addr) (len' cap' : Nat) (E' : Nat → Ev) (w : World) (hs : EvS w a len E) (hs' : EvS w a' len' E') (hnil' : a' = none → len' = 0 ∧ cap' = 0) :
    Calls Try.prog 6 #[.slice a len cap, .slice a' len' cap'] w fun e w' => e = .returned (.bool true) ∧ Below w.heap.size w w' := by
  obtain ⟨i1, hi1, hz0, hz1, hz2⟩ := info_parts info43
  have HS := Lib.hid hs
  have HS' := Lib.hid hs'
  have HNIL := Lib.hid hnil'
  clear hs hs' hnil'
  go_enter Try.func6, Try.ntmps6
  go_wp2_with fail
  refine (head_any _).mono ?_
  rintro e w1 ⟨rfl, hb1⟩
  have HB1 := Lib.hid hb1
  clear hb1
  go_wp2_with fail
  refine (big_any a len cap E w1 (HS.out.below HB1.out)).mono ?_
  rintro e w2 ⟨bb, rfl, hiff, hb2⟩
  have HB2 := Lib.hid (HB1.out.trans (hb2.mono HB1.out.size))
  have HIF := Lib.hid hiff
  clear hb2 hiff HB1
  cases bb
  · go_wp2_with fail
    refine (big_any a' len' cap' E' w2 (HS'.out.below HB2.out)).mono ?_
    rintro e w3 ⟨bb, rfl, hiff, hb3⟩
    have HB3 := Lib.hid (HB2.out.trans (hb3.mono HB2.out.size))
    clear hb3 hiff
    cases bb
    · go_wp2_with fail
      refine (encode_any a len cap E w3 (HS.out.below HB3.out)).mono ?_
      rintro e w4 ⟨hb4, hres⟩
      have HB4 := Lib.hid (HB3.out.trans (hb4.mono HB3.out.size))
      clear hb4
      rcases hres with ⟨_, rfl⟩ | ⟨hl4, ⟨_, rfl⟩ | ⟨hfit, g, n, F, rfl, hE⟩⟩
      · go_wp2_with fail
        refine (encode_any a' len' cap' E' w4 (HS'.out.below HB4.out)).mono ?_
        rintro e w5 ⟨hb5, hres⟩
        have HB5 := Lib.hid (HB4.out.trans (hb5.mono HB4.out.size))
        clear hb5
        rcases hres with ⟨_, rfl⟩ | ⟨_, ⟨_, rfl⟩ | ⟨_, g', n', F', rfl, _⟩⟩
        all_goals
          go_wp2
          go_ret
          exact ⟨rfl, HB5.out⟩
      · go_wp2_with fail
        refine (encode_any a' len' cap' E' w4 (HS'.out.below HB4.out)).mono ?_
        rintro e w5 ⟨hb5, hres⟩
        have HB5 := Lib.hid (HB4.out.trans (hb5.mono HB4.out.size))
        clear hb5
        rcases hres with ⟨_, rfl⟩ | ⟨_, ⟨_, rfl⟩ | ⟨_, g', n', F', rfl, _⟩⟩
        all_goals
          go_wp2
          go_ret
          exact ⟨rfl, HB5.out⟩
      · have HF4 := Lib.hid hfit
        have HE4 := Lib.hid hE
        clear hfit hE
        go_wp2_with fail
        refine (encode_any a' len' cap' E' w4 (HS'.out.below HB4.out)).mono ?_
        rintro e w5 ⟨hb5, hres⟩
        have HB5 := Lib.hid (HB4.out.trans (hb5.mono HB4.out.size))
        have HW5 := Lib.hid hb5
        clear hb5
        rcases hres with ⟨_, rfl⟩ | ⟨hl4', ⟨_, rfl⟩ | ⟨hfit', g', n', F', rfl, hE'⟩⟩
        · go_wp2
          go_ret
          exact ⟨rfl, HB5.out⟩
        · go_wp2
          go_ret
          exact ⟨rfl, HB5.out⟩
        · have HF5 := Lib.hid hfit'
          have HE5 := Lib.hid hE'
          have HBS := Lib.hid (bytes_same HE4.out.2.2.2.2 hE'.2.2.2.2 HE4.out.2.2.2.1 hE'.2.2.2.1 HE4.out.2.2.1 hE'.2.2.1 HF4.out hfit')
          obtain ⟨b, hb⟩ : ∃ b : Bool, b = true ↔ SameEv len len' E E' := by
            by_cases h : SameEv len len' E E'
            · exact ⟨true, fun _ => h, fun _ => rfl⟩
            · exact ⟨false, fun h' => (by cases h'), fun h' => absurd h' h⟩
          have HBB := Lib.hid hb
          have HNE : Hid (∀ i, i < len → (E i).n ≤ 1000) := Lib.hid fun i hi => by have := (HF4.out i hi).2.2.2.2.1; omega
          have HNE' : Hid (∀ i, i < len' → (E' i).n ≤ 1000) := Lib.hid fun i hi => by have := (HF5.out i hi).2.2.2.2.1; omega
          have hbb : (b != b) = false := by simp
          clear hfit' hE' hb
          go_wp2_with fail
          refine (sameB_any w5 _ _ n n' _ _ F F' b HE4.out.2.2.2.1.1 HE5.out.2.2.2.1.1 ((enc_src HE4.out).below HW5.out) (enc_src HE5.out) (HBB.out.trans HBS.out.symm)).mono ?_
          rintro e w6 ⟨rfl, rfl⟩
          go_wp2_with fail
          refine (sameE_any a len cap E a' len' cap' E' b w5 (by omega) (fun j hj => by have := HNE.out j hj; omega) (HS.out.below HB5.out) (HS'.out.below HB5.out) HBB.out).mono ?_
          rintro e w6 ⟨rfl, q6, hq6⟩
          have HB6 : Hid (Below w.heap.size w w6) := Lib.hid (by rw [hq6]; exact bel_drewN HB5.out _)
          clear hq6
          go_wp2_with fail
          refine (copy_any a len cap E w6 (by omega) HNE.out (HS.out.below HB6.out)).mono ?_
          rintro e w7 ⟨v7, V7, rfl, hO7, hb7⟩
          have HB7 := Lib.hid (HB6.out.trans (hb7.mono HB6.out.size))
          have HW7 := Lib.hid hb7.size
          have HO7 := Lib.hid hO7
          obtain ⟨s7, c7, rfl⟩ := own_form' hO7.row
          have HSZ : Hid (∀ n'', n'' = ((BL (app E len E') (len + len')).length + 7) / 8 → n ≤ n'' ∧ n' ≤ n'') := Lib.hid fun n'' h => by
            have h1 := bl_app E E' len len'
            have h2 := HE4.out.2.2.1
            have h3 := HE5.out.2.2.1
            omega
          have HAF := Lib.hid (app_fit HF4.out HF5.out)
          clear hO7 hb7 HBS HBB hbb
          rcases a' with _ | ad
          · obtain ⟨rfl, rfl⟩ := HNIL.out rfl
            have HES : Hid (EvS w7 s7 len (app E len E')) := Lib.hid (by
              have h := HO7.out.evs
              intro hl
              obtain ⟨b, off, e, h1, h2⟩ := h hl
              exact ⟨b, off, e, h1, fun j hj => by rw [show app E len E' j = E j from if_pos hj]; exact h2 j hj⟩)
            have HRW := Lib.hid HO7.out.row
            go_wp2_with (at_builtin; refine wpList_append_none rfl _ _ rfl w6.heap.size len _ _ rfl HRW.out rfl ?_)
            refine (encode_any s7 len c7 (app E len E') w7 HES.out).mono ?_
            rintro e w9 ⟨hb9, hres⟩
            have HB9 := Lib.hid (HB7.out.trans (hb9.mono HB7.out.size))
            clear hb9
            rcases hres with ⟨h400, rfl⟩ | ⟨_, ⟨⟨i, hi, hno⟩, _⟩ | ⟨_, g'', n'', F'', rfl, hE''⟩⟩
            · omega
            · exact absurd (HAF.out i (by omega)) hno
            · obtain ⟨h1, h2⟩ := HSZ.out n'' hE''.2.2.1
              have h1' : (n : Int) ≤ (n'' : Int) := by omega
              have h2' : (n' : Int) ≤ (n'' : Int) := by omega
              clear hE''
              go_wp2
              go_ret
              exact ⟨rfl, HB9.out⟩
          · obtain ⟨V', hV', hcell⟩ := ev_row HS'.out
            have HV' := Lib.hid hV'
            have HCL : Hid (∀ j u, (rowT (fun i => asT (E' i)) V' len')[j]? = some u → w7.cell? (ad.add j) = some u) := Lib.hid fun j u hu => (HB7.out.cell (p := ad.add j) (cell_lt (hcell j u hu))).trans (hcell j u hu)
            have HON : Hid (∀ u ∈ rowT (fun i => asT (E' i)) V' len', u.oneCell' = true) := Lib.hid (rowT_one _ _ _ fun i hi => by obtain ⟨sp, cap, e, _⟩ := hV' i hi; exact ⟨sp, _, cap, e⟩)
            have h66 : w.heap.size ≤ w6.heap.size := HB6.out.size
            clear hV' hcell
            go_wp2_with (at_builtin; refine wpList_append_own _ rfl _ _ 22 rfl w6.heap.size 43 i1 (.agg #[.int .i64 0, .int .i64 0, .slice none 0 0]) 3 40 Try.underlying22 hi1 hz0 hz1 hz2 rfl (by decide) _ len _ rfl HO7.out.row ad len' cap' (rowT (fun i => asT (E' i)) V' len') rfl (by rw [rowT_length]) HCL.out HON.out (by unfold maxLen; omega) (by omega) HW7.out ?_; intro v8 w8 ho8 hg8 hne8; obtain ⟨s8, c8, rfl⟩ := own_form' ho8)
            have HB8 := Lib.hid (HB7.out.grown hg8 HB7.out.size (fun q hq => Nat.le_trans h66 (HO7.out.row.lt q hq).1))
            have HES : Hid (EvS w8 s8 (len + len') (app E len E')) := Lib.hid (HO7.out.behinds ho8 hg8 fun j hj => by
              obtain ⟨sp, cap, e, ho, hp, hn⟩ := HV'.out j hj
              exact ⟨sp, cap, e, ho.below HB8.out, hp, hn⟩)
            clear ho8 hg8 hne8
            refine (encode_any s8 (len + len') c8 (app E len E') w8 HES.out).mono ?_
            rintro e w9 ⟨hb9, hres⟩
            have HB9 := Lib.hid (HB8.out.trans (hb9.mono HB8.out.size))
            clear hb9
            rcases hres with ⟨h400, rfl⟩ | ⟨_, ⟨⟨i, hi, hno⟩, _⟩ | ⟨_, g'', n'', F'', rfl, hE''⟩⟩
            · have hsum : (400 : Int) < (len : Int) + (len' : Int) := by omega
              have hsum2 : 400 < len + len' := h400
              go_wp2
              go_ret
              exact ⟨rfl, HB9.out⟩
            · exact absurd (HAF.out i (by omega)) hno
            · obtain ⟨h1, h2⟩ := HSZ.out n'' hE''.2.2.1
              have h1' : (n : Int) ≤ (n'' : Int) := by omega
              have h2' : (n' : Int) ≤ (n'' : Int) := by omega
              clear hE''
              go_wp2
              go_ret
              exact ⟨rfl, HB9.out⟩
    · go_wp2
      go_ret
      exact ⟨rfl, HB3.out⟩
  · go_wp2
    go_ret
    exact ⟨rfl, HB2.out⟩
end Go.Proofs.Ytaddmegghikhpaa
