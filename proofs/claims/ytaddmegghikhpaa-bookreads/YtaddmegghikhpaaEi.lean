/-
  takeOp.
-/
import Derived.Test.YtaddmegghikhpaaEh
import Derived.IntWalk
namespace Go.Proofs.Ytaddmegghikhpaa
open Go.ChangeShapes Go.WideShapes Go.ChangeAt Go.RowKit

theorem sp_al_num {f : Nat → Nat} {n a x y : Nat} (h : Sp f a (numL x)) (hl : a + (numL x).length ≤ 8 * n) (h' : Al f n a (numL y)) : x = y := by
  rw [numL_length] at hl
  have hat : ∀ i, i < 2 * nz y + 1 → a + i < 8 * n → bitAt f (a + i) = numBits y i := fun i hi hn => by
    rw [h' i (by rw [numL_length]; exact hi) hn, numL_get y i hi]
  have e : nz y = nz x := by
    rcases Nat.lt_trichotomy (nz y) (nz x) with h1 | h1 | h1
    · have g1 := hat (nz y) (by omega) (by omega)
      rw [numBits_lead, num_at h (by omega), numBits_low x (nz y) h1] at g1
      cases g1
    · exact h1
    · have g1 := hat (nz x) (by omega) (by omega)
      rw [numBits_low y (nz x) h1, num_at h (by omega), numBits_lead] at g1
      cases g1
  exact num_inj h (h'.sp (by rw [numL_length, e]; exact hl))

def GetQ (w : World) (g rb n : Nat) (f : Nat → Nat) (a m : Nat) (e : Ending) (w' : World) : Prop :=
  w.grownBy w' (some rb) ∧ ((a + m ≤ 8 * n ∧ e = .returned (.int .u64 ((gv f a m : Nat) : Int)) ∧ RD w' g rb n f (a + m)) ∨ (8 * n < a + m ∧ e = .returned (.int .u64 0) ∧ RS w' rb 10))
theorem get_q (w : World) (g rb n a : Nat) (f : Nat → Nat) (z : Int) (m : Nat) (hm : wn z = m) (h : RD w g rb n f a) : Calls Try.prog 42 #[.pointer (some ⟨rb, 0, none⟩), .int .i64 z] w (GetQ w g rb n f a m) := by
  rcases Nat.lt_or_ge (8 * n) (a + m) with hl | hl
  · refine (get_short w g rb n a f z m hm h hl).mono ?_
    rintro e w' ⟨rfl, hr, hg⟩
    exact ⟨hg, .inr ⟨hl, rfl, hr⟩⟩
  · refine (get_ok w g rb n a f z m hm h hl).mono ?_
    rintro e w' ⟨rfl, hr, hg⟩
    exact ⟨hg, .inl ⟨hl, rfl, hr⟩⟩

/-- why no operation stands there -/
def ErrO (f : Nat → Nat) (n a : Nat) (er : Int) : Prop := (8 * n < a + 5 ∧ er = 10) ∨ (a + 5 ≤ 8 * n ∧ (ErrN f n (a + 5) er ∨ (er = 11 ∧ ∃ x, 1099511627776 ≤ x ∧ x < 18446744073709551616 ∧ Sp f (a + 5) (numL x) ∧ a + 5 + (numL x).length ≤ 8 * n)))
/-- no operation stands there; one that would is cut off -/
def NoOp (f : Nat → Nat) (n a : Nat) (er : Int) : Prop := ErrO f n a er ∧ ∀ t, FitO t → Al f n a (opL t) → er = 10 ∧ 8 * n < a + (opL t).length
def OpQ (w : World) (g rb n : Nat) (f : Nat → Nat) (a : Nat) (e : Ending) (w' : World) : Prop :=
  w.grownBy w' (some rb) ∧ ∃ t : O3, e = .returned (.agg #[.int .i64 t.k, .int .i64 t.key, .int .i64 t.v]) ∧
    ((FitO t ∧ Sp f a (opL t) ∧ a + (opL t).length ≤ 8 * n ∧ RD w' g rb n f (a + (opL t).length)) ∨ (∃ er : Int, (er = 10 ∨ er = 11) ∧ RS w' rb er ∧ NoOp f n a er))
theorem opL_len (t : O3) : (opL t).length = 5 + (numL t.v.toNat).length := by
  unfold opL; rw [List.length_append, List.length_append, bitsL_length, bitsL_length]; omega
theorem opL_al {f : Nat → Nat} {n a : Nat} {t : O3} (h : Al f n a (opL t)) : Al f n (a + 5) (numL t.v.toNat) := by
  unfold opL at h
  have h1 := h.app.2
  rw [bitsL_length] at h1
  have h2 := h1.app.2
  rw [bitsL_length] at h2
  exact h2
theorem set3 {w : World} {Q t : Nat} {x y z A B C : Value} (h : w.heap[Q]? = some (.cells #[x, y, z] t (0, 0))) :
    (((w.setCell ⟨Q, 0, none⟩ A).setCell ⟨Q, 1, none⟩ B).setCell ⟨Q, 2, none⟩ C).heap[Q]? = some (.cells #[A, B, C] t (0, 0)) ∧ w.grownBy (((w.setCell ⟨Q, 0, none⟩ A).setCell ⟨Q, 1, none⟩ B).setCell ⟨Q, 2, none⟩ C) (some Q) := by
  have h1 := heap_setCell_same w Q 0 _ t A h
  have h2 := heap_setCell_same (w.setCell ⟨Q, 0, none⟩ A) Q 1 _ t B h1
  have h3 := heap_setCell_same ((w.setCell ⟨Q, 0, none⟩ A).setCell ⟨Q, 1, none⟩ B) Q 2 _ t C h2
  exact ⟨h3, grown_setCell (grown_setCell (grown_setCell (grown_refl _ _) 0 A) 1 B) 2 C⟩
theorem grown_new {w w1 w2 : World} {rb Q : Nat} (h : w.grownBy w1 (some rb)) (k : w1.grownBy w2 (some Q)) (hQ : w.heap.size ≤ Q) : w.grownBy w2 (some rb) :=
  ⟨k.os.trans h.os, k.tape.trans h.tape, k.output.trans h.output, Nat.le_trans h.size k.size, fun q hq hne => (k.block q (Nat.lt_of_lt_of_le hq h.size) (fun e => by injection e with e; omega)).trans (h.block q hq hne)⟩
theorem RS.kept {w w' : World} {rb q : Nat} {e : Int} (h : RS w rb e) (k : w.grownBy w' (some q)) (h1 : rb ≠ q) : RS w' rb e := by
  have hw : w'.heap[rb]? = w.heap[rb]? := k.block rb h.lt (fun e => by injection e with e; exact h1 e)
  exact ⟨(World.cell?_of_block hw).trans h.c0, (World.cell?_of_block hw).trans h.c1, (World.cell?_of_block hw).trans h.c2, (World.cell?_of_block hw).trans h.c3, fun j => (World.frozen?_of_block (a := ⟨rb, j, none⟩) hw).trans (h.fz j), Nat.lt_of_lt_of_le h.lt k.size⟩

set_option maxRecDepth 100000 in
set_option maxHeartbeats 4000000 in
theorem takeOp_any (w : World) (g rb n a : Nat) (f : Nat → Nat) (h : RD w g rb n f a) : Calls Try.prog 43 #[.pointer (some ⟨rb, 0, none⟩)] w (OpQ w g rb n f a) := by
  have hrl := h.lt
  have hgl := h.glt
  obtain ⟨wi, ewi⟩ : ∃ wi, wi = w.alloc (.cells #[.int .i64 0, .int .i64 0, .int .i64 0] 53) := ⟨_, rfl⟩
  have hib : Below w.heap.size w wi := by rw [ewi]; exact (Below.refl _ _).alloc (Nat.le_refl _) _
  have hiq : wi.heap[w.heap.size]? = some (.cells #[.int .i64 0, .int .i64 0, .int .i64 0] 53 (0, 0)) := by rw [ewi]; exact heap_alloc_new w _
  have HG0 : Hid (w.grownBy wi (some rb)) := Lib.hid (by rw [ewi]; exact World.grownBy_alloc w _ _)
  have HR0 := Lib.hid (h.below hib)
  obtain ⟨Q, eQ⟩ : ∃ Q, Q = w.heap.size := ⟨_, rfl⟩
  rw [← eQ] at hiq
  have hQ : Q ≠ rb := by omega
  have hQg : g ≠ Q := by omega
  have hQw : w.heap.size ≤ Q := by omega
  have HQ0 := Lib.hid hiq
  have hn1 : wn 1 = 1 := by decide
  have hn4 : wn 4 = 4 := by decide
  have HN1 := Lib.hid hn1
  have HN4 := Lib.hid hn4
  have HKP : Hid (∀ (W W' : World) (cs : Array Value) (t : Nat), W.heap[Q]? = some (.cells cs t (0, 0)) → W.grownBy W' (some rb) → W'.heap[Q]? = some (.cells cs t (0, 0))) := Lib.hid fun W W' cs t h hg => (hg.block Q (by
    rcases Nat.lt_or_ge Q W.heap.size with h' | h'
    · exact h'
    · rw [Array.getElem?_eq_none h'] at h; cases h) (fun e => by injection e with e; exact hQ e)).trans h
  clear hib hiq h hn1 hn4
  go_enter Try.func43, Try.ntmps43
  go_wp2_with fail
  rw [← ewi, ← eQ]
  clear ewi eQ
  refine (get_q wi g rb n a f 1 1 HN1.out HR0.out).mono ?_
  rintro e w1 ⟨hg1, hres1⟩
  have HG1 := Lib.hid (grown_trans HG0.out hg1)
  have HQ1 := Lib.hid (HKP.out _ _ _ _ HQ0.out hg1)
  clear hg1
  rcases hres1 with ⟨hl1, rfl, hr1⟩ | ⟨hl1, rfl, hr1⟩
  · have HR1 := Lib.hid hr1
    clear hr1
    go_wp2_with fail
    refine (get_q w1 g rb n (a + 1) f 4 4 HN4.out HR1.out).mono ?_
    rintro e w2 ⟨hg2, hres2⟩
    have HG2 := Lib.hid (grown_trans HG1.out hg2)
    have HQ2 := Lib.hid (HKP.out _ _ _ _ HQ1.out hg2)
    clear hg2
    rcases hres2 with ⟨hl2, rfl, hr2⟩ | ⟨hl2, rfl, hr2⟩
    · have HR2 := Lib.hid hr2
      clear hr2
      go_wp2_with fail
      refine (num_q w2 g rb n (a + 1 + 4) f HR2.out).mono ?_
      rintro e w3 ⟨hg3, hres3⟩
      have HG3 := Lib.hid (grown_trans HG2.out hg3)
      have HQ3 := Lib.hid (HKP.out _ _ _ _ HQ2.out hg3)
      clear hg3
      have hk2 := gv_lt f a 1
      have hk16 := gv_lt f (a + 1) 4
      have HS1 := Lib.hid (gv_sp f a 1)
      have HS2 := Lib.hid (gv_sp f (a + 1) 4)
      generalize gv f a 1 = kb at *
      generalize gv f (a + 1) 4 = kv at *
      rcases hres3 with ⟨x, hx, hsp, hl3, rfl, hr3⟩ | ⟨er, her, rfl, hr3, hno⟩
      · have HR3 := Lib.hid hr3
        have HSP := Lib.hid hsp
        have HL3 := Lib.hid hl3
        clear hr3 hsp hl3
        by_cases hx4 : 1099511627776 ≤ x
        · have hx4' : (1099511627776 : Int) ≤ (x : Int) := by omega
          go_wp2_with fail
          refine (fail_any w3 g rb n _ f 11 HR3.out).mono ?_
          rintro e w4 ⟨rfl, hr4, hg4⟩
          have HG4 := Lib.hid (grown_trans HG3.out hg4)
          have HQ4 := Lib.hid (HKP.out _ _ _ _ HQ3.out hg4)
          have HR4 := Lib.hid hr4
          have HNO : Hid (NoOp f n a 11) := Lib.hid ⟨.inr ⟨by omega, .inr ⟨rfl, x, hx4, hx, HSP.out, HL3.out⟩⟩, fun t ht hal => by
            have h1 := sp_al_num HSP.out HL3.out (opL_al hal)
            have h2 := ht.2.2.2.1
            have h3 := ht.2.2.2.2
            omega⟩
          obtain ⟨⟨q0, q1, q2⟩, hqf⟩ := cells3 HQ4.out
          have hqf0 := hqf 0
          clear hr4 hg4
          go_wp2
          obtain ⟨W5, eW5⟩ : ∃ W5, W5 = ((w4.setCell ⟨Q, 0, none⟩ (.int .i64 ((kb : Int) + 1))).setCell ⟨Q, 1, none⟩ (.int .i64 (kv : Int))).setCell ⟨Q, 2, none⟩ (.int .i64 (wrap64 (x : Int))) := ⟨_, rfl⟩
          obtain ⟨h5, hg5⟩ := set3 (A := (.int .i64 ((kb : Int) + 1))) (B := (.int .i64 (kv : Int))) (C := (.int .i64 (wrap64 (x : Int)))) HQ4.out
          rw [← eW5] at h5 hg5 ⊢
          obtain ⟨⟨p0, p1, p2⟩, _⟩ := cells3 h5
          refine bodyPost_ret (v := .agg #[(.int .i64 ((kb : Int) + 1)), (.int .i64 (kv : Int)), (.int .i64 (wrap64 (x : Int)))]) (by simp [results, Try.results43, go_sem, p0, p1, p2]) rfl ⟨grown_new HG4.out hg5 hQw, ⟨_, _, _⟩, rfl, ?_⟩
          exact .inr ⟨11, .inr rfl, HR4.out.kept hg5 (fun e => hQ e.symm), HNO.out⟩
        · have hx4' : ¬ (1099511627776 : Int) ≤ (x : Int) := by omega
          obtain ⟨X, eX⟩ : ∃ X : Int, X = (x : Int) := ⟨_, rfl⟩
          rw [← eX] at hx4' ⊢
          have hx5 : X < 1099511627776 := by omega
          have hx0 : 0 ≤ X := by omega
          have HX := Lib.hid eX
          have HX4 := Lib.hid hx4
          clear hx hx4 eX
          obtain ⟨⟨q0, q1, q2⟩, hqf⟩ := cells3 HQ3.out
          have hqf0 := hqf 0
          go_wp2
          obtain ⟨W5, eW5⟩ : ∃ W5, W5 = ((w3.setCell ⟨Q, 0, none⟩ (.int .i64 ((kb : Int) + 1))).setCell ⟨Q, 1, none⟩ (.int .i64 (kv : Int))).setCell ⟨Q, 2, none⟩ (.int .i64 X) := ⟨_, rfl⟩
          obtain ⟨h5, hg5⟩ := set3 (A := (.int .i64 ((kb : Int) + 1))) (B := (.int .i64 (kv : Int))) (C := (.int .i64 X)) HQ3.out
          rw [← eW5] at h5 hg5 ⊢
          obtain ⟨⟨p0, p1, p2⟩, _⟩ := cells3 h5
          refine bodyPost_ret (v := .agg #[(.int .i64 ((kb : Int) + 1)), (.int .i64 (kv : Int)), (.int .i64 X)]) (by simp [results, Try.results43, go_sem, p0, p1, p2]) rfl ⟨grown_new HG3.out hg5 hQw, ⟨(kb : Int) + 1, (kv : Int), X⟩, rfl, ?_⟩
          have ex := HX.out
          have hx4 := HX4.out
          subst ex
          refine .inl ⟨⟨by dsimp only; omega, by dsimp only; omega, by dsimp only; omega, by dsimp only; omega, by dsimp only; omega⟩, ?_, ?_, ?_⟩
          · unfold opL
            dsimp only
            rw [show ((kb : Int) + 1 - 1).toNat = kb by omega, Int.toNat_natCast, Int.toNat_natCast]
            exact Sp.app.2 ⟨HS1.out, Sp.app.2 ⟨by rw [bitsL_length]; exact HS2.out, by rw [bitsL_length, bitsL_length]; exact HSP.out⟩⟩
          · rw [opL_len]; dsimp only; rw [Int.toNat_natCast]; have := HL3.out; omega
          · rw [opL_len]; dsimp only; rw [Int.toNat_natCast, ← Nat.add_assoc]; exact HR3.out.kept hg5 (fun e => hQ e.symm) hQg
      · have HR3 := Lib.hid hr3
        have HNO : Hid (NoOp f n a er) := Lib.hid ⟨.inr ⟨by omega, .inl hno.1⟩, fun t ht hal => by
          obtain ⟨h1, h2⟩ := hno.2 t.v.toNat (fit_v ht).1 (opL_al hal)
          exact ⟨h1, by rw [opL_len]; omega⟩⟩
        have HER := Lib.hid her
        obtain ⟨⟨q0, q1, q2⟩, hqf⟩ := cells3 HQ3.out
        have hqf0 := hqf 0
        clear hr3 hno her
        go_wp2
        obtain ⟨W5, eW5⟩ : ∃ W5, W5 = ((w3.setCell ⟨Q, 0, none⟩ (.int .i64 ((kb : Int) + 1))).setCell ⟨Q, 1, none⟩ (.int .i64 (kv : Int))).setCell ⟨Q, 2, none⟩ (.int .i64 0) := ⟨_, rfl⟩
        obtain ⟨h5, hg5⟩ := set3 (A := (.int .i64 ((kb : Int) + 1))) (B := (.int .i64 (kv : Int))) (C := (.int .i64 0)) HQ3.out
        rw [← eW5] at h5 hg5 ⊢
        obtain ⟨⟨p0, p1, p2⟩, _⟩ := cells3 h5
        refine bodyPost_ret (v := .agg #[(.int .i64 ((kb : Int) + 1)), (.int .i64 (kv : Int)), (.int .i64 0)]) (by simp [results, Try.results43, go_sem, p0, p1, p2]) rfl ⟨grown_new HG3.out hg5 hQw, ⟨_, _, _⟩, rfl, ?_⟩
        exact .inr ⟨er, HER.out, HR3.out.kept hg5 (fun e => hQ e.symm), HNO.out⟩
    · have HR2 := Lib.hid hr2
      have HNO : Hid (NoOp f n a 10) := Lib.hid ⟨.inl ⟨by omega, rfl⟩, fun t ht hal => ⟨rfl, by rw [opL_len]; omega⟩⟩
      have hk2 := gv_lt f a 1
      generalize gv f a 1 = kb at *
      clear hr2
      go_wp2_with fail
      refine (num_stop w2 rb 10 HR2.out).mono ?_
      rintro e w3 ⟨rfl, hr3, hg3⟩
      have HG3 := Lib.hid (grown_trans HG2.out hg3)
      have HQ3 := Lib.hid (HKP.out _ _ _ _ HQ2.out hg3)
      have HR3 := Lib.hid hr3
      obtain ⟨⟨q0, q1, q2⟩, hqf⟩ := cells3 HQ3.out
      have hqf0 := hqf 0
      clear hr3 hg3
      go_wp2
      obtain ⟨W5, eW5⟩ : ∃ W5, W5 = ((w3.setCell ⟨Q, 0, none⟩ (.int .i64 ((kb : Int) + 1))).setCell ⟨Q, 1, none⟩ (.int .i64 0)).setCell ⟨Q, 2, none⟩ (.int .i64 0) := ⟨_, rfl⟩
      obtain ⟨h5, hg5⟩ := set3 (A := (.int .i64 ((kb : Int) + 1))) (B := (.int .i64 0)) (C := (.int .i64 0)) HQ3.out
      rw [← eW5] at h5 hg5 ⊢
      obtain ⟨⟨p0, p1, p2⟩, _⟩ := cells3 h5
      refine bodyPost_ret (v := .agg #[(.int .i64 ((kb : Int) + 1)), (.int .i64 0), (.int .i64 0)]) (by simp [results, Try.results43, go_sem, p0, p1, p2]) rfl ⟨grown_new HG3.out hg5 hQw, ⟨_, _, _⟩, rfl, ?_⟩
      exact .inr ⟨10, .inl rfl, HR3.out.kept hg5 (fun e => hQ e.symm), HNO.out⟩
  · have HR1 := Lib.hid hr1
    have HNO : Hid (NoOp f n a 10) := Lib.hid ⟨.inl ⟨by omega, rfl⟩, fun t ht hal => ⟨rfl, by rw [opL_len]; omega⟩⟩
    clear hr1
    go_wp2_with fail
    refine (get_stop w1 rb 10 4 HR1.out).mono ?_
    rintro e w2 ⟨rfl, hr2, hg2⟩
    have HG2 := Lib.hid (grown_trans HG1.out hg2)
    have HQ2 := Lib.hid (HKP.out _ _ _ _ HQ1.out hg2)
    have HR2 := Lib.hid hr2
    clear hr2 hg2
    go_wp2_with fail
    refine (num_stop w2 rb 10 HR2.out).mono ?_
    rintro e w3 ⟨rfl, hr3, hg3⟩
    have HG3 := Lib.hid (grown_trans HG2.out hg3)
    have HQ3 := Lib.hid (HKP.out _ _ _ _ HQ2.out hg3)
    have HR3 := Lib.hid hr3
    obtain ⟨⟨q0, q1, q2⟩, hqf⟩ := cells3 HQ3.out
    have hqf0 := hqf 0
    clear hr3 hg3
    go_wp2
    obtain ⟨W5, eW5⟩ : ∃ W5, W5 = ((w3.setCell ⟨Q, 0, none⟩ (.int .i64 1)).setCell ⟨Q, 1, none⟩ (.int .i64 0)).setCell ⟨Q, 2, none⟩ (.int .i64 0) := ⟨_, rfl⟩
    obtain ⟨h5, hg5⟩ := set3 (A := (.int .i64 1)) (B := (.int .i64 0)) (C := (.int .i64 0)) HQ3.out
    rw [← eW5] at h5 hg5 ⊢
    obtain ⟨⟨p0, p1, p2⟩, _⟩ := cells3 h5
    refine bodyPost_ret (v := .agg #[(.int .i64 1), (.int .i64 0), (.int .i64 0)]) (by simp [results, Try.results43, go_sem, p0, p1, p2]) rfl ⟨grown_new HG3.out hg5 hQw, ⟨_, _, _⟩, rfl, ?_⟩
    exact .inr ⟨10, .inl rfl, HR3.out.kept hg5 (fun e => hQ e.symm), HNO.out⟩
end Go.Proofs.Ytaddmegghikhpaa
