/-
  What stands there is read (mathematics); a message that is cut off, or has a byte turned.
  A message that came in, opened.
  WireCuts' walk.
-/
import Derived.Test.YtccpfoimedjdgaaJ09
import Derived.Test.YtccpfoimedjdgaaJ05
import Derived.Test.YtccpfoimedjdgaaJ04
import Derived.Deep.Slices
import Derived.Deep.Fields
import Derived.ChangeSame
import Derived.ChangeSlices

namespace Go.Proofs.Ytccpfoimedjdgaa
open Go.ChangeShapes Go.WideShapes Go.ChangeAt Go.RowKit

theorem uS_at {f : Nat → Nat} {n most a x : Nat} {er : Int} (h : AtN f n a x) (hx : x ≤ most) : uV f n most ⟨0, a⟩ = x ∧ uS f n most er ⟨0, a⟩ = ⟨0, a + (numL x).length⟩ := by
  obtain ⟨e1, e2⟩ := nV_at (s := ⟨0, a⟩) rfl h
  refine ⟨?_, ?_⟩
  · unfold uV; rw [e1, if_neg (by omega)]
  · unfold uS; rw [e1, if_neg (by omega), e2]
theorem gsS_at {n a : Nat} : ∀ j, a + 8 * j ≤ 8 * n → gsS n ⟨0, a⟩ j = ⟨0, a + 8 * j⟩ := by
  intro j
  induction j with
  | zero => intro _; rfl
  | succ j ih =>
    intro h
    show gS n 8 (gsS n ⟨0, a⟩ j) = _
    rw [ih (by omega)]
    unfold gS
    rw [if_pos rfl, if_pos (by dsimp only; omega)]
    show (⟨0, a + 8 * j + 8⟩ : PS) = _
    rw [PS.mk.injEq]
    exact ⟨rfl, by omega⟩
theorem bytL_get {f g : Nat → Nat} {a : Nat} (hg : ∀ j, g j < 256) : ∀ n, Sp f a (bytL g n) → ∀ i, i < n → gv f (a + 8 * i) 8 = g i := by
  intro n
  induction n with
  | zero => intro _ i hi; exact absurd hi (Nat.not_lt_zero _)
  | succ n ih =>
    intro h i hi
    obtain ⟨h1, h2⟩ := Sp.app.1 (show Sp f a (bytL g n ++ bitsL (g n) 8) from h)
    by_cases hin : i < n
    · exact ih h1 i hin
    · obtain rfl : i = n := by omega
      rw [bytL_length] at h2
      exact bits_gv h2 (hg i)
theorem tS_at {f : Nat → Nat} {n a : Nat} {b : Bs} (h : Sp f a (bsL b)) (hl : a + (bsL b).length ≤ 8 * n) (hn : b.n ≤ 4000) (hb : ∀ j, b.f j < 256) : SameB (tB f n ⟨0, a⟩) b ∧ tS f n ⟨0, a⟩ = ⟨0, a + (bsL b).length⟩ := by
  obtain ⟨h1, h2⟩ := Sp.app.1 (show Sp f a (numL b.n ++ bytL b.f b.n) from h)
  rw [bsL_length] at hl ⊢
  obtain ⟨e1, e2⟩ := uS_at (er := 3) (⟨by omega, h1, by omega⟩ : AtN f n a b.n) hn
  refine ⟨⟨e1, fun j hj => ?_⟩, ?_⟩
  · have hj' : j < b.n := by have : (tB f n ⟨0, a⟩).n = uV f n 4000 ⟨0, a⟩ := rfl; omega
    show gV f n 8 (gsS n (uS f n 4000 3 ⟨0, a⟩) j) = _
    rw [e2, gsS_at j (by omega)]
    unfold gV
    rw [if_pos ⟨rfl, by dsimp only; omega⟩]
    exact bytL_get hb _ h2 j hj'
  · show gsS n (uS f n 4000 3 ⟨0, a⟩) (uV f n 4000 ⟨0, a⟩) = _
    rw [e1, e2, gsS_at _ (by omega), PS.mk.injEq]
    exact ⟨rfl, by omega⟩
theorem nmS_at {f : Nat → Nat} {n a : Nat} {N : Nat → Int} : ∀ t, (∀ j, j < t → NOk (N j)) → Sp f a (numsL N t) → a + (numsL N t).length ≤ 8 * n → nmS f n ⟨0, a⟩ t = ⟨0, a + (numsL N t).length⟩ ∧ ∀ j, j < t → tN f n ⟨0, a⟩ j = N j := by
  intro t
  induction t with
  | zero => intro _ _ _; exact ⟨rfl, fun j hj => absurd hj (Nat.not_lt_zero _)⟩
  | succ t ih =>
    intro hN h hl
    obtain ⟨h1, h2⟩ := Sp.app.1 (show Sp f a (numsL N t ++ numL (N t).toNat) from h)
    have hlen : (numsL N (t + 1)).length = (numsL N t).length + (numL (N t).toNat).length := by show (numsL N t ++ numL (N t).toNat).length = _; rw [List.length_append]
    obtain ⟨i1, i2⟩ := ih (fun j hj => hN j (by omega)) h1 (by omega)
    have hk := hN t (by omega)
    unfold NOk at hk
    obtain ⟨e1, e2⟩ := uS_at (er := 1) (⟨by omega, h2, by omega⟩ : AtN f n (a + (numsL N t).length) (N t).toNat) (show (N t).toNat ≤ 1099511627776 by omega)
    refine ⟨?_, fun j hj => ?_⟩
    · show uS f n 1099511627776 1 (nmS f n ⟨0, a⟩ t) = _
      rw [i1, e2, hlen, Nat.add_assoc]
    · by_cases hjt : j < t
      · exact i2 j hjt
      · obtain rfl : j = t := by omega
        show ((uV f n 1099511627776 (nmS f n ⟨0, a⟩ j) : Nat) : Int) = _
        rw [i1, e1]
        omega
theorem itS_at {f : Nat → Nat} {n a : Nat} {P : Nat → Bs} : ∀ t, (∀ j, j < t → (P j).n ≤ 4000 ∧ ∀ i, (P j).f i < 256) → Sp f a (prtL P t) → a + (prtL P t).length ≤ 8 * n → itS f n ⟨0, a⟩ t = ⟨0, a + (prtL P t).length⟩ ∧ ∀ j, j < t → SameB (tB f n (itS f n ⟨0, a⟩ j)) (P j) := by
  intro t
  induction t with
  | zero => intro _ _ _; exact ⟨rfl, fun j hj => absurd hj (Nat.not_lt_zero _)⟩
  | succ t ih =>
    intro hP h hl
    obtain ⟨h1, h2⟩ := Sp.app.1 (show Sp f a (prtL P t ++ bsL (P t)) from h)
    have hlen : (prtL P (t + 1)).length = (prtL P t).length + (bsL (P t)).length := by show (prtL P t ++ bsL (P t)).length = _; rw [List.length_append]
    obtain ⟨i1, i2⟩ := ih (fun j hj => hP j (by omega)) h1 (by omega)
    obtain ⟨e1, e2⟩ := tS_at h2 (n := n) (by omega) (hP t (by omega)).1 (hP t (by omega)).2
    refine ⟨?_, fun j hj => ?_⟩
    · show tS f n (itS f n ⟨0, a⟩ t) = _
      rw [i1, e2, hlen, Nat.add_assoc]
    · by_cases hjt : j < t
      · exact i2 j hjt
      · obtain rfl : j = t := by omega
        rw [i1]; exact e1
/-- a message that stands there is read -/
theorem tF_at {f : Nat → Nat} {n m : Nat} {N : Nat → Int} {P : Nat → Bs} {D : Bs} (hN : ∀ j, j < 9 → NOk (N j)) (hm : m ≤ 2000) (hP : ∀ i, i < m → (P i).n ≤ 4000 ∧ ∀ j, (P i).f j < 256) (hD : D.n ≤ 4000 ∧ ∀ j, D.f j < 256) (h : Sp f 0 (msgL N m P D)) (hl : (msgL N m P D).length ≤ 8 * n) :
    (∀ j, j < 9 → tN f n s00 j = N j) ∧ tM f n s00 = m ∧ (∀ i, i < m → SameB (tP f n s00 i) (P i)) ∧ SameB (tD f n s00) D ∧ tF f n s00 = ⟨0, (msgL N m P D).length⟩ := by
  have eP : prtL (prt m P D) (m + 1) = prtL P m ++ bsL D := by
    show prtL (prt m P D) m ++ bsL (prt m P D m) = _
    rw [prtL_congr (prt m P D) P _ fun i hi => by unfold prt; rw [if_pos hi]; exact SameB.refl _]
    unfold prt
    rw [if_neg (Nat.lt_irrefl _)]
  have eL := msgL_length N m P D
  rw [eP, List.length_append] at eL
  unfold msgL at h
  rw [eP] at h
  obtain ⟨h1, h⟩ := Sp.app.1 h
  obtain ⟨h2, h⟩ := Sp.app.1 h
  obtain ⟨h3, h4⟩ := Sp.app.1 h
  rw [Nat.zero_add] at h2 h3 h4
  obtain ⟨a1, a2⟩ := nmS_at (n := n) 9 hN h1 (by omega)
  rw [Nat.zero_add] at a1
  obtain ⟨b1, b2⟩ := uS_at (er := 4) (⟨by omega, h2, by omega⟩ : AtN f n (numsL N 9).length m) hm
  have eM : tM f n s00 = m := by
    show uV f n 2000 (nmS f n ⟨0, 0⟩ 9) = _
    rw [a1, b1]
  have eI : tI f n s00 = ⟨0, (numsL N 9).length + (numL m).length⟩ := by
    show uS f n 2000 4 (nmS f n ⟨0, 0⟩ 9) = _
    rw [a1, b2]
  obtain ⟨c1, c2⟩ := itS_at (n := n) m hP h3 (by omega)
  obtain ⟨d1, d2⟩ := tS_at (n := n) h4 (by omega) hD.1 hD.2
  have eD : tD f n s00 = tB f n (itS f n (tI f n s00) (tM f n s00)) := rfl
  have eF : tF f n s00 = tS f n (itS f n (tI f n s00) (tM f n s00)) := rfl
  rw [eM, eI, c1] at eD eF
  refine ⟨a2, eM, fun i hi => ?_, by rw [eD]; exact d1, ?_⟩
  · have : tP f n s00 i = tB f n (itS f n (tI f n s00) i) := rfl
    rw [this, eI]
    exact c2 i hi
  · rw [eF, d2, PS.mk.injEq]
    exact ⟨rfl, by omega⟩
theorem eE_at {f : Nat → Nat} {n L : Nat} (hE : Ends f L) (hl : L ≤ 8 * n) (hl2 : 8 * n < L + 8) : eE f n ⟨0, L⟩ = 0 := by
  unfold eE
  rw [if_pos rfl]
  rcases end_cases f L (8 * n - L) with h | h
  · rw [show endOf f (PS.mk 0 L).a (8 * n - (PS.mk 0 L).a) = endOf f L (8 * n - L) from rfl, h]; rfl
  · exact absurd ⟨hl2, hE⟩ (end_bad (by omega) h)
/-- a frame of a message is decoded -/
theorem frame_back {k nb m : Nat} {N : Nat → Int} {P : Nat → Bs} {D : Bs} {F : Nat → Nat} (hk : 1 ≤ k ∧ k ≤ 7) (hN : ∀ j, j < 9 → NOk (N j)) (hm : m ≤ 2000) (hP : ∀ i, i < m → (P i).n ≤ 4000 ∧ ∀ j, (P i).f j < 256) (hD : D.n ≤ 4000 ∧ ∀ j, D.f j < 256)
    (hnb : nb = ((msgL N m P D).length + 7) / 8) (h65 : nb ≤ 65536) (hE : Ends F (msgL N m P D).length) (hS : Sp F 0 (msgL N m P D)) {G : Nat → Nat} (hG : ∀ j, j < 12 + nb → G j = Fr.frm k nb F j) (hG2 : ctn G = F) :
    dErr G (12 + nb) = 0 ∧ Fr.kindOf G = k ∧ Fr.sizeOf' G = nb := by
  obtain ⟨g1, g2, g3, _⟩ := Fr.frm_read k nb F G (12 + nb) (by omega) h65 (Nat.le_refl _) hG
  refine ⟨?_, g2, g3⟩
  obtain ⟨_, _, _, _, e5⟩ := tF_at hN hm hP hD hS (n := nb) (by omega)
  unfold dErr
  rw [if_neg (fun h => h g1), g3, if_neg (Nat.lt_irrefl _), g2, if_neg (fun h => h ⟨by omega, by omega⟩), hG2, e5]
  exact eE_at hE (by omega) (by omega)
theorem ctn_frm (k nb : Nat) (F : Nat → Nat) : ctn (Fr.frm k nb F) = F := by
  funext j
  exact cat_hi 12 j
/-- cut off -/
theorem cut_short {k nb at_ : Nat} {F : Nat → Nat} (hk : k < 256) (h65 : nb ≤ 65536) (ha : at_ < 12 + nb) : dErr (Fr.frm k nb F) at_ = 10 := by
  obtain ⟨g1, _, g3, _⟩ := Fr.frm_read k nb F (Fr.frm k nb F) (12 + nb) hk h65 (Nat.le_refl _) (fun _ _ => rfl)
  obtain ⟨q1, _⟩ := Fr.derr_goods g1
  have e : Fr.derr (Fr.frm k nb F) at_ = 10 := by
    unfold Fr.derr
    by_cases h8 : at_ < 8
    · rw [if_pos h8]
    · rw [if_neg h8, if_neg (fun h => h q1), g3, if_neg (by omega), if_pos ha]
  unfold dErr
  rw [if_pos (by rw [e]; decide), e]
  rfl
/-- a byte turned -/
theorem turn_none {k nb at_ : Nat} {F G : Nat → Nat} (hk : k < 256) (h65 : nb ≤ 65536) (hF : ∀ j, F j < 256) (hG : ∀ j, G j < 256) (ha : at_ < 12 + nb) (hw : ∀ j, j < 12 + nb → ¬ j = at_ → G j = Fr.frm k nb F j) (hne : ¬ G at_ = Fr.frm k nb F at_) : ¬ dErr G (12 + nb) = 0 := by
  intro h
  obtain ⟨h1, _⟩ := dErr_parts h
  refine hne (Fr.turned_none k nb F G (12 + nb) at_ hk h65 hF hG ?_ h1 at_ ha)
  by_cases h12 : at_ < 12
  · exact .inl ⟨h12, hw⟩
  · exact .inr ⟨by omega, fun j hj hor => hw j hj (by omega)⟩
end Go.Proofs.Ytccpfoimedjdgaa

namespace Go.Proofs.Ytccpfoimedjdgaa
open Go.ChangeShapes Go.WideShapes Go.ChangeAt Go.RowKit Go.Deep

theorem cells25 : Try.prog.cellsOf 25 = 12 := by kernel_rfl
theorem cellsI : Try.prog.cellsOf 3 = 1 := by kernel_rfl
theorem cells22 : Try.prog.cellsOf 22 = 1 := by kernel_rfl
theorem cells23 : Try.prog.cellsOf 23 = 1 := by kernel_rfl

/-- bytes that a slice leads to, though its spare room was not read -/
theorem src_of' {w : World} {x : Addr} {len : Nat} {zs : List Int} (hl : len ≤ zs.length) (hc : ∀ i, i < zs.length → w.cell? (x.add i) = some (.int .u8 (zs.getD i 0))) (hwf : ∀ n ∈ zs, (Lit.int .u8 n).wf = true) :
    ∃ f : Nat → Nat, (∀ j, f j < 256) ∧ Src w (some x) len f := by
  refine ⟨fun j => (zs.getD j 0).toNat, fun j => ?_, fun hn => ?_⟩
  · show (zs.getD j 0).toNat < 256
    by_cases hj : j < zs.length
    · have hmem : zs.getD j 0 ∈ zs := by rw [List.getD_eq_getElem?_getD, List.getElem?_eq_getElem hj]; exact List.getElem_mem _
      have := u8_bounds (hwf _ hmem); omega
    · rw [List.getD_eq_getElem?_getD, List.getElem?_eq_none (by omega)]; decide
  · refine ⟨x, rfl, ?_, fun j hj => ?_⟩
    · have := cell_lt (hc 0 (by omega)); rwa [block_add] at this
    · have hmem : zs.getD j 0 ∈ zs := by rw [List.getD_eq_getElem?_getD, List.getElem?_eq_getElem (by omega)]; exact List.getElem_mem _
      have hb := u8_bounds (hwf _ hmem)
      rw [hc j (by omega)]
      show some (Value.int .u8 (zs.getD j 0)) = some (Value.int .u8 (((zs.getD j 0).toNat : Nat) : Int))
      rw [Int.toNat_of_nonneg hb.1]

section
variable {H : Type} {enc : TypeId × Value → H} {w : World} {base : Nat} {spare : Nat → Bool} {held : Bool}

theorem bs_of {n : Nat} {cs : List Value} {y : DataW H × List MemPlace} (h : DataW.trod enc Try.prog w base spare held n 23 cs = some y) : ∃ v b, cs = [v] ∧ BsS w v b := by
  rcases open_ints Try.underlying23 Try.underlying5 (by kernel_rfl) h with ⟨hcs, _⟩ | ⟨x, l, c, zs, hcs, _, hl, hm, hz, _, hcell, hwz⟩
  · exact ⟨_, ⟨0, fun _ => 0⟩, hcs, none, 0, rfl, fun h => absurd h (Nat.lt_irrefl 0), fun _ => ⟨rfl, rfl⟩, Nat.zero_le _, fun _ => (by decide : 0 < 256)⟩
  · obtain ⟨f, hf256, hsrc⟩ := src_of' (len := l) (by rw [hz]; split <;> omega) hcell hwz
    exact ⟨_, ⟨l, f⟩, hcs, some x, c, rfl, hsrc, fun h => (by cases h), by unfold maxLen at hm; show l ≤ _; omega, hf256⟩
theorem list_of {fuel : Nat} {a : Option Addr} {len cap : Nat} {x : DataW H × List MemPlace} (h : DataW.trod enc Try.prog w base spare held fuel 22 [.slice a len cap] = some x) :
    ∃ P, LsS w a len P ∧ (a = none → len = 0 ∧ cap = 0) ∧ len ≤ cap ∧ len ≤ 9223372036854775807 := by
  rcases open_slice Try.underlying22 h with ⟨e, _⟩ | ⟨ad, len', cap', m, n, D, Pl, e, _, hl, hm, hmm, _, hi⟩
  · simp at e; obtain ⟨rfl, rfl, rfl⟩ := e
    exact ⟨fun _ => ⟨0, fun _ => 0⟩, fun h => absurd h (Nat.lt_irrefl 0), fun _ => ⟨rfl, rfl⟩, Nat.le_refl _, Nat.zero_le _⟩
  · simp at e; obtain ⟨rfl, rfl, rfl⟩ := e
    rw [cells23] at hi
    have hlm : len ≤ m := by rw [hmm]; split <;> omega
    have hex : ∀ j, ∃ t : Bs, j < len → ∃ v, w.cell? (ad.add j) = some v ∧ BsS w v t := fun j => by
      by_cases hj : j < len
      · obtain ⟨cs, h1, h2⟩ := hi j (by omega)
        obtain ⟨v, b, hcs, hb⟩ := bs_of h2
        subst hcs
        obtain ⟨_, _, hat⟩ := World.cells?_some h1
        have h0 := hat 0 (by decide)
        rw [Nat.mul_one] at h0
        have e0 : (ad.add j).add 0 = ad.add j := by unfold Addr.add; split <;> simp_all
        rw [e0] at h0
        exact ⟨b, fun _ => ⟨v, h0, hb⟩⟩
      · exact ⟨⟨0, fun _ => 0⟩, fun h => absurd h hj⟩
    obtain ⟨T, hT⟩ := Classical.skolem.mp hex
    refine ⟨T, fun hpos => ?_, fun h => (by cases h), hl, by unfold maxLen at hm; omega⟩
    obtain ⟨b, off, spot⟩ := ad
    obtain ⟨v0, h0, _⟩ := hT 0 hpos
    have hspot : spot = none := by simpa [Addr.add] using World.cell?_spot h0
    subst hspot
    refine ⟨b, off, rfl, ?_, fun j hj => ?_⟩
    · have := cell_lt h0; simpa [block_add] using this
    · have := hT j hj
      rw [Go.WideShapes.add_plain] at this
      exact this
/-- a message that came in by value -/
theorem msg_of {n : Nat} {cs : List Value} {y : DataW H × List MemPlace} (h : DataW.trod enc Try.prog w base spare held n 25 cs = some y) :
    ∃ (k : Int) (N : Nat → Int) (la : Option Addr) (len lc : Nat) (P : Nat → Bs) (da : Value) (D : Bs), cs = msL k N (.slice la len lc) da ∧ LsS w la len P ∧ (la = none → len = 0 ∧ lc = 0) ∧ len ≤ lc ∧ len ≤ 9223372036854775807 ∧ BsS w da D := by
  obtain ⟨xs, n', _, _, hlen, hxl, hf⟩ := DataW.trod_struct Try.underlying25 h
  rw [cells25] at hlen
  match cs, hlen with
  | [c0, c1, c2, c3, c4, c5, c6, c7, c8, c9, c10, c11], _ =>
    match xs, hxl with
    | [y0, y1, y2, y3, y4, y5, y6, y7, y8, y9, y10, y11], _ =>
      have g0 := hf 0 _ rfl
      have g1 := hf 1 _ rfl
      have g2 := hf 2 _ rfl
      have g3 := hf 3 _ rfl
      have g4 := hf 4 _ rfl
      have g5 := hf 5 _ rfl
      have g6 := hf 6 _ rfl
      have g7 := hf 7 _ rfl
      have g8 := hf 8 _ rfl
      have g9 := hf 9 _ rfl
      have g10 := hf 10 _ rfl
      have g11 := hf 11 _ rfl
      simp [cellsI, cells22, cells23] at g0 g1 g2 g3 g4 g5 g6 g7 g8 g9 g10 g11
      obtain ⟨k0, e0, _, _⟩ := DataW.trod_int Try.underlying3 g0
      obtain ⟨k1, e1, _, _⟩ := DataW.trod_int Try.underlying3 g1
      obtain ⟨k2, e2, _, _⟩ := DataW.trod_int Try.underlying3 g2
      obtain ⟨k3, e3, _, _⟩ := DataW.trod_int Try.underlying3 g3
      obtain ⟨k4, e4, _, _⟩ := DataW.trod_int Try.underlying3 g4
      obtain ⟨k5, e5, _, _⟩ := DataW.trod_int Try.underlying3 g5
      obtain ⟨k6, e6, _, _⟩ := DataW.trod_int Try.underlying3 g6
      obtain ⟨k7, e7, _, _⟩ := DataW.trod_int Try.underlying3 g7
      obtain ⟨k8, e8, _, _⟩ := DataW.trod_int Try.underlying3 g8
      obtain ⟨k9, e9, _, _⟩ := DataW.trod_int Try.underlying3 g9
      simp at e0 e1 e2 e3 e4 e5 e6 e7 e8 e9
      subst e0 e1 e2 e3 e4 e5 e6 e7 e8 e9
      obtain ⟨v11, b11, e11, hb11⟩ := bs_of g11
      simp at e11
      subst e11
      obtain ⟨sp, l, cp, e10⟩ : ∃ sp l cp, c10 = .slice sp l cp := by
        rcases open_slice Try.underlying22 g10 with ⟨e, _⟩ | ⟨ad, len', cap', m, n, D, Pl, e, _⟩
        · simp at e; exact ⟨_, _, _, e⟩
        · simp at e; exact ⟨_, _, _, e⟩
      subst e10
      obtain ⟨P, h1, h2, h3, h4⟩ := list_of g10
      exact ⟨k0, fun j => if j = 0 then k1 else if j = 1 then k2 else if j = 2 then k3 else if j = 3 then k4 else if j = 4 then k5 else if j = 5 then k6 else if j = 6 then k7 else if j = 7 then k8 else k9, sp, l, cp, P, c11, b11, rfl, h1, h2, h3, h4, hb11⟩
end
end Go.Proofs.Ytccpfoimedjdgaa

namespace Go.Proofs.Ytccpfoimedjdgaa
open Go.ChangeShapes Go.WideShapes Go.ChangeAt Go.RowKit

theorem prtL_bound (P : Nat → Bs) : ∀ t, (∀ i, i < t → (P i).n ≤ 500) → (prtL P t).length ≤ 4129 * t := by
  intro t
  induction t with
  | zero => intro _; exact Nat.le_refl _
  | succ t ih =>
    intro h
    have h1 := ih fun i hi => h i (by omega)
    have h2 := h t (by omega)
    have h3 := numL_le (P t).n (by omega)
    show (prtL P t ++ bsL (P t)).length ≤ _
    rw [List.length_append, bsL_length]
    omega
theorem small_len {N : Nat → Int} {n : Nat} {P : Nat → Bs} {D : Bs} (hb : ¬ Big n P D) (hN : ∀ j, j < 9 → NOk (N j)) : (msgL N n P D).length ≤ 500000 := by
  have h1 : n ≤ 30 := by rcases Nat.lt_or_ge 30 n with h | h; exact absurd (.inl h) hb; exact h
  have h2 : D.n ≤ 4100 := by rcases Nat.lt_or_ge 4100 D.n with h | h; exact absurd (.inr (.inl h)) hb; exact h
  have h3 : ∀ i, i < n → (P i).n ≤ 500 := fun i hi => by rcases Nat.lt_or_ge 500 (P i).n with h | h; exact absurd (.inr (.inr ⟨i, hi, h⟩)) hb; exact h
  have eP : prtL (prt n P D) (n + 1) = prtL P n ++ bsL D := by
    show prtL (prt n P D) n ++ bsL (prt n P D n) = _
    rw [prtL_congr (prt n P D) P _ fun i hi => by unfold prt; rw [if_pos hi]; exact SameB.refl _]
    unfold prt
    rw [if_neg (Nat.lt_irrefl _)]
  rw [msgL_length, eP, List.length_append, bsL_length]
  have h4 := numsL_le N hN 9 (by omega)
  have h5 := numL_le n (by omega)
  have h6 := numL_le D.n (by omega)
  have h7 := prtL_bound P n h3
  omega
theorem LsS.entry {w : World} {la : Option Addr} {n : Nat} {P : Nat → Bs} (h : LsS w la n P) (i : Nat) (hi : i < n) : ∀ j, (P i).f j < 256 := by
  obtain ⟨b, off, _, _, hc⟩ := h (by omega)
  obtain ⟨v, _, _, _, _, _, _, _, hf⟩ := hc i hi
  exact hf
/-- a byte of a slice is written -/
theorem src_set {w : World} {g n j y : Nat} {f : Nat → Nat} {cs : Array Value} (hb : w.heap[g]? = some (.cells cs 5 (0, 0))) (h : Src w (some ⟨g, 0, none⟩) n f) (hj : j < n) : Src (w.setCell ⟨g, j, none⟩ (.int .u8 ((y : Nat) : Int))) (some ⟨g, 0, none⟩) n (updB f j y) := by
  intro hn
  obtain ⟨ad, e, hl, hc⟩ := h hn
  injection e with e
  subst e
  refine ⟨_, rfl, by simpa [World.setCell] using hl, fun i hi => ?_⟩
  have hci := hc i hi
  have hcj := hc j hj
  rw [Go.WideShapes.add_plain, Nat.zero_add] at hci hcj ⊢
  rw [cell_of_row w g i _ 5 (0, 0) hb] at hci
  rw [cell_of_row w g j _ 5 (0, 0) hb] at hcj
  rw [cell_of_row _ g i _ 5 (0, 0) (heap_setCell_same w g j cs 5 _ hb)]
  have hjs : j < cs.size := by
    rcases Nat.lt_or_ge j cs.size with h' | h'
    · exact h'
    · rw [Array.getElem?_eq_none h'] at hcj; cases hcj
  by_cases hij : i = j
  · subst hij
    rw [updB_same]
    simp [hjs]
  · rw [updB_other _ _ _ _ hij, ← hci]
    exact Array.getElem?_setIfInBounds_ne (by omega)
theorem xor_zero_iff (x y : Nat) : x ^^^ y = x ↔ y = 0 := by
  constructor
  · intro h
    have : x ^^^ (x ^^^ y) = x ^^^ x := by rw [h]
    rw [← Nat.xor_assoc, Nat.xor_self, Nat.zero_xor] at this
    exact this
  · rintro rfl; exact Nat.xor_zero x

set_option maxRecDepth 100000 in
set_option maxHeartbeats 8000000 in
theorem cuts_main (k : Int) (N : Nat → Int) (la : Option Addr) (n lc : Nat) (P : Nat → Bs) (da : Value) (D : Bs) (A : Int) (z : Nat) (w : World) (hn : n ≤ 9223372036854775807) (hc : n ≤ lc) (hl : LsS w la n P) (hla : la = none → n = 0 ∧ lc = 0) (hd : BsS w da D) (hz : z < 256) :
    Calls Try.prog 6 #[.agg (msL k N (.slice la n lc) da).toArray, .int .i64 A, .int .u8 (z : Int)] w fun e w' => e = .returned (.bool true) ∧ Below w.heap.size w w' := by
  have HL := Lib.hid hl
  have HA := Lib.hid hla
  have HD := Lib.hid hd
  have HZ := Lib.hid hz
  obtain ⟨dsp, dcap, eda, _⟩ := hd
  have hdF : Hid (∀ j, D.f j < 256) := Lib.hid (by obtain ⟨_, _, _, _, _, _, h⟩ := HD.out; exact h)
  obtain ⟨dn, edn⟩ : ∃ dn, dn = D.n := ⟨_, rfl⟩
  rw [← edn] at eda
  subst eda
  have HDN := Lib.hid edn
  clear hl hla hz edn
  obtain ⟨wb, ewb⟩ : ∃ wb, wb = w.alloc (.cells (msL k N (.slice la n lc) (.slice dsp dn dcap)).toArray 25) := ⟨_, rfl⟩
  have HB0 : Hid (Below w.heap.size w wb) := Lib.hid (by rw [ewb]; exact (Below.refl _ _).alloc (Nat.le_refl _) _)
  have HM : Hid (MsC wb w.heap.size k N (.slice la n lc) (.slice dsp dn dcap)) := Lib.hid (by rw [ewb]; exact heap_alloc_new w _)
  go_enter Try.func6, Try.ntmps6
  go_wp2_with fail
  rw [← ewb]
  clear ewb
  refine (head_any wb).mono ?_
  rintro e w1 ⟨rfl, hb1⟩
  have HM1 := Lib.hid (HM.out.below hb1 HM.out.lt)
  have HB1 := Lib.hid (HB0.out.trans (hb1.mono HB0.out.size))
  clear hb1 HM HB0
  obtain ⟨m0, m1, m2, m3, m4, m5, m6, m7, m8, m9, m10, m11⟩ := HM1.out.all
  go_wp2_with fail
  refine (big_any k N la n lc P (.slice dsp dn dcap) D w1 hn (HL.out.below HB1.out) (HD.out.below HB1.out)).mono ?_
  rintro e w2 ⟨bb, rfl, hiff, hb2⟩
  have HM2 := Lib.hid (HM1.out.below hb2 HM1.out.lt)
  have HB2 := Lib.hid (HB1.out.trans (hb2.mono HB1.out.size))
  have HI := Lib.hid hiff
  clear hb2 HM1 HB1 hiff m0 m1 m2 m3 m4 m5 m6 m7 m8 m9 m10 m11
  rcases Bool.eq_false_or_eq_true bb with hbb | hbb
  · subst hbb
    go_wp2
    go_ret
    exact ⟨rfl, HB2.out⟩
  · subst hbb
    have hnb : ¬ Big n P D := fun h => by have := HI.out.2 h; cases this
    have hn30 : n ≤ 30 := by rcases Nat.lt_or_ge 30 n with h | h; exact absurd (.inl h) hnb; exact h
    have HNB := Lib.hid hnb
    clear hnb
    obtain ⟨m0, m1, m2, m3, m4, m5, m6, m7, m8, m9, m10, m11⟩ := HM2.out.all
    go_wp2_with fail
    refine (encode_any k N la n lc P (.slice dsp dn dcap) D w2 (by omega) hc (HL.out.below HB2.out) HA.out (HD.out.below HB2.out) (fun hN => small_len HNB.out hN)).mono ?_
    rintro e w3 ⟨hb3, hres⟩
    have HB3 := Lib.hid (HB2.out.trans (hb3.mono HB2.out.size))
    clear hb3 HM2 HB2 m0 m1 m2 m3 m4 m5 m6 m7 m8 m9 m10 m11
    rcases hres with ⟨hne, rfl⟩ | ⟨h0, g, cp, nb, F, rfl, hs, hcp, hnbb, hE, hS⟩
    · generalize mErr k N n P D = er at *
      have her1 : (er != 0) = true := by rw [bne_iff_ne]; exact hne
      go_wp2
      go_ret
      exact ⟨rfl, HB3.out⟩
    · obtain ⟨hk, hN, hm2, hP⟩ := mErr_zero h0
      have hlen := small_len HNB.out hN
      obtain ⟨kn, rfl⟩ : ∃ kn : Nat, k = (kn : Int) := ⟨k.toNat, by unfold KOk at hk; omega⟩
      have hkn : 1 ≤ kn ∧ kn ≤ 7 := by unfold KOk at hk; omega
      rw [show Int.toNat (kn : Int) = kn from rfl] at hs
      have h65 : nb ≤ 65536 := by omega
      have hPP : ∀ i, i < n → (P i).n ≤ 4000 ∧ ∀ j, (P i).f j < 256 := fun i hi => ⟨by have := hP i (by omega); unfold prt at this; rwa [if_pos hi] at this, HL.out.entry i hi⟩
      have hDD : D.n ≤ 4000 ∧ ∀ j, D.f j < 256 := ⟨by have := hP n (by omega); unfold prt at this; rwa [if_neg (Nat.lt_irrefl _)] at this, hdF.out⟩
      have HBK : Hid (dErr (Fr.frm kn nb F) (12 + nb) = 0) := Lib.hid (frame_back hkn hN hm2 hPP hDD hnbb h65 hE hS (fun _ _ => rfl) (ctn_frm kn nb F)).1
      have HCT : Hid (∀ a, a < 12 + nb → dErr (Fr.frm kn nb F) a = 10) := Lib.hid fun a ha => cut_short (by omega) h65 ha
      have HGL : Hid (∀ j, Fr.frm kn nb F j < 256) := Lib.hid (Fr.frm_lt kn nb F hE.1)
      have HTU : Hid (∀ a (G : Nat → Nat), a < 12 + nb → (∀ j, G j < 256) → (∀ j, j < 12 + nb → ¬ j = a → G j = Fr.frm kn nb F j) → ¬ G a = Fr.frm kn nb F a → ¬ dErr G (12 + nb) = 0) := Lib.hid fun a G ha hG hw hne => turn_none (by omega) h65 hE.1 hG ha hw hne
      have HS := Lib.hid hs
      generalize Fr.frm kn nb F = G at *
      clear hs hE hS hPP hDD hP hN hlen h0 HNB hk hkn hnbb
      obtain ⟨l, el⟩ : ∃ l, l = 12 + nb := ⟨_, rfl⟩
      rw [← el] at HS HBK HCT HTU hcp ⊢
      have hl6 : l ≤ 65548 ∧ 0 < l := by omega
      obtain ⟨hl6, hl0⟩ := hl6
      clear el h65
      by_cases hA0 : A < 0
      · go_wp2
        go_ret
        exact ⟨rfl, HB3.out⟩
      · by_cases hAn : (l : Int) ≤ A
        · go_wp2
          go_ret
          exact ⟨rfl, HB3.out⟩
        · obtain ⟨a, rfl⟩ : ∃ a : Nat, A = (a : Int) := ⟨A.toNat, by omega⟩
          have hal : a < l := by omega
          have hacp : (a : Int) ≤ (cp : Int) := by omega
          go_wp2_with fail
          refine (decode_any (some ⟨g, 0, none⟩) a cp G w3 HGL.out (by omega) (Fr.Src.front HS.out a (by omega))).mono ?_
          rintro e w4 ⟨hb4, hres4⟩
          have HB4 := Lib.hid (HB3.out.trans (hb4.mono HB3.out.size))
          have HS4 := Lib.hid (HS.out.below hb4)
          clear hb4
          have h10 := HCT.out a hal
          rcases hres4.symm with ⟨h0, _⟩ | ⟨_, rfl⟩
          · rw [h10] at h0; exact absurd h0 (by decide)
          · rw [h10]
            clear h10
            have hb5 : Below w4.heap.size w4 (w4.alloc (.cells (msL 0 zN nilV nilV).toArray 25)) := (Below.refl _ _).alloc (Nat.le_refl _) _
            have HB5 := Lib.hid (HB4.out.trans (hb5.mono HB4.out.size))
            have HS5 := Lib.hid (HS4.out.below hb5)
            clear hb5
            go_wp2_with fail
            refine (rcopy_own (some ⟨g, 0, none⟩) l cp G _ (by omega) HS5.out (fun h => by cases h)).mono ?_
            rintro e w6 ⟨s6, c6, rfl, ho6, hb6⟩
            have HB6 := Lib.hid (HB5.out.trans (hb6.mono HB5.out.size))
            obtain ⟨g6, cp6, e6, _, hg6⟩ := ho6.form hl0
            injection e6 with e6 _ e6'
            subst e6
            subst e6'
            obtain ⟨cs6, hcs6⟩ := own_cells ho6 rfl
            have hs6 := own_src ho6
            have hc6 := own_cap' ho6
            have hgw : w.heap.size ≤ g6 := Nat.le_trans HB5.out.size (ho6.lt g6 rfl).1
            obtain ⟨ad, ead, _, hcell⟩ := hs6 hl0
            injection ead with ead
            subst ead
            have x0 := hcell a hal
            rw [Go.WideShapes.add_plain, Nat.zero_add] at x0
            have f0 : w6.frozen? ⟨g6, a, none⟩ = false := frozen_of_row w6 _ a _ 5 hcs6
            have hval : bits .xor .u8 ((G a : Nat) : Int) (z : Int) = ((G a ^^^ z : Nat) : Int) := u8_xor_nat (G a) z (HGL.out a) HZ.out
            have HS7 := Lib.hid (src_set (y := G a ^^^ z) hcs6 hs6 hal)
            have HB7 : Hid (Below w.heap.size w (w6.setCell ⟨g6, a, none⟩ (.int .u8 ((G a ^^^ z : Nat) : Int)))) := Lib.hid (HB6.out.setCell hgw _)
            have HU : Hid (∀ j, updB G a (G a ^^^ z) j < 256) := Lib.hid fun j => by
              unfold updB; split
              · exact Nat.xor_lt_two_pow (n := 8) (HGL.out a) HZ.out
              · exact HGL.out j
            have HR0 : Hid (z = 0 → dErr (updB G a (G a ^^^ z)) l = 0) := Lib.hid fun h => by
              have e : updB G a (G a ^^^ z) = G := by
                funext j
                unfold updB
                split
                · rename_i hj; rw [hj, h, Nat.xor_zero]
                · rfl
              rw [e]; exact HBK.out
            have HR1 : Hid (¬ z = 0 → ¬ dErr (updB G a (G a ^^^ z)) l = 0) := Lib.hid fun h => HTU.out a _ hal HU.out (fun j _ hja => updB_other _ _ _ _ hja) (by rw [updB_same]; exact fun h' => h ((xor_zero_iff _ _).1 h'))
            clear hs6 hcell ho6 hb6 hcs6 HS5 HS4 HS HCT HTU HBK
            generalize updB G a (G a ^^^ z) = G7 at *
            generalize G a ^^^ z = y at *
            generalize G a = x at *
            go_wp2_with fail
            refine (decode_any (some ⟨g6, 0, none⟩) l _ G7 _ HU.out hc6 HS7.out).mono ?_
            rintro e w8 ⟨hb8, hres8⟩
            have HB8 := Lib.hid (HB7.out.trans (hb8.mono HB7.out.size))
            clear hb8 x0 f0 hval
            rcases hres8 with ⟨h1, rfl⟩ | ⟨h1, sp8, cp8, dv8, rfl, hG8⟩
            · have hz1 : ¬ z = 0 := fun h => h1 (HR0.out h)
              obtain ⟨er, eer⟩ : ∃ er, er = dErr G7 l := ⟨_, rfl⟩
              rw [← eer] at h1 ⊢
              clear eer
              have h2 : (er == 0) = false := by rw [beq_eq_false_iff_ne]; exact h1
              have h3 : ((z : Int) == 0) = false := by rw [beq_eq_false_iff_ne]; omega
              have hM9 : MsC (w8.alloc (.cells (msL 0 zN nilV nilV).toArray 25)) w8.heap.size 0 zN nilV nilV := heap_alloc_new w8 _
              have m0 := hM9.cell 0 rfl
              have HB9 : Hid (Below w.heap.size w (w8.alloc (.cells (msL 0 zN nilV nilV).toArray 25))) := Lib.hid (HB8.out.alloc HB8.out.size _)
              clear hM9
              go_wp2
              go_ret
              exact ⟨rfl, HB9.out⟩
            · have hz1 : z = 0 := Classical.byContradiction fun h => HR1.out h h1
              subst hz1
              obtain ⟨_, _, _, d8, c8, e8, _⟩ := hG8
              subst e8
              have HB9 : Hid (∀ ob, Below w.heap.size w (w8.alloc ob)) := Lib.hid fun ob => HB8.out.alloc HB8.out.size ob
              go_wp2
              go_ret
              exact ⟨rfl, HB9.out _⟩
end Go.Proofs.Ytccpfoimedjdgaa

