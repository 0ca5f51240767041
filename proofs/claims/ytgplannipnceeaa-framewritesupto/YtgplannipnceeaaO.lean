/-
  FrameScans: the frames are just one row, and laid again they are the bytes.
-/
import Derived.Test.YtgplannipnceeaaN
import Derived.Test.YtgplannipnceeaaK
namespace Go.Proofs.Ytgplannipnceeaa
open Go.ChangeShapes Go.WideShapes Go.ChangeAt Go.RowKit

/-- where a scan ends -/
def Ends (f : Nat → Nat) (n c er : Nat) : Prop := (scanP f c = n ∧ er = 0) ∨ (scanP f c < n ∧ er = derr (sh f (scanP f c)) (n - scanP f c) ∧ ¬ er = 0)
theorem scan_one {f : Nat → Nat} {n c er i q : Nat} (hc : Wholes f n c) (he : Ends f n c er) (hi : Wholes f n i) (hq : Ends f n i q) : i = c ∧ q = er := by
  have key : ∀ {a b x y : Nat}, Wholes f n b → Ends f n a x → Ends f n b y → ¬ a < b := by
    intro a b x y hb ha _ hlt
    obtain ⟨h1, h2⟩ := hb a hlt
    rcases ha with ⟨h3, _⟩ | ⟨_, h4, h5⟩
    · omega
    · exact h5 (h4.trans h2)
  have h1 := key hi he hq
  have h2 := key hc hq he
  obtain rfl : i = c := by omega
  refine ⟨rfl, ?_⟩
  rcases he with ⟨h3, h4⟩ | ⟨h3, h4, _⟩ <;> rcases hq with ⟨h5, h6⟩ | ⟨h5, h6, _⟩ <;> omega

theorem derr_goods {f : Nat → Nat} {n : Nat} (h : derr f n = 0) : good1 f ∧ good2 f := by
  unfold derr at h
  split at h
  · cases h
  · split at h
    · cases h
    · rename_i h1
      split at h
      · cases h
      · split at h
        · cases h
        · split at h
          · cases h
          · rename_i h2
            exact ⟨Classical.not_not.mp h1, Classical.not_not.mp h2⟩

theorem scan_tot (f : Nat → Nat) (c : Nat) : tot (fun i => sizeOf' (sh f (scanP f i))) c = scanP f c := by
  induction c with
  | zero => rfl
  | succ c ih => show tot _ c + _ = scanP f c + _; rw [ih]

/-- the frames that were read, laid again, are the bytes -/
theorem scan_again (f : Nat → Nat) (n c : Nat) (hf : ∀ j, f j < 256) (h : Wholes f n c) : ∀ j, j < scanP f c → allF (fun i => kindOf (sh f (scanP f i))) (fun i => sizeOf' (sh f (scanP f i))) (fun i j => sh f (scanP f i) (12 + j)) c j = f j := by
  induction c with
  | zero => intro j hj; exact absurd hj (Nat.not_lt_zero _)
  | succ c ih =>
    intro j hj
    show cat (allF _ _ _ c) (frm _ _ _) (tot _ c) j = f j
    rw [scan_tot]
    by_cases hlt : j < scanP f c
    · rw [cat_lo hlt]; exact ih (fun i hi => h i (by omega)) j hlt
    · obtain ⟨i, rfl⟩ : ∃ i, j = scanP f c + i := ⟨j - scanP f c, by omega⟩
      rw [cat_hi]
      have hg := derr_goods (h c (by omega)).2
      have hsf : ∀ j, sh f (scanP f c) j < 256 := fun j => hf _
      have ht := (text_is (sh f (scanP f c)) hsf hg.1 _ rfl).2 hg.2
      have e := kind_eq (sh f (scanP f c)) hsf
      show frm (kindOf (sh f (scanP f c))) (sizeOf' (sh f (scanP f c))) (fun j => sh f (scanP f c) (12 + j)) i = f (scanP f c + i)
      rw [e]
      refine ht i ?_
      have hj' : scanP f c + i < scanP f c + (12 + sizeOf' (sh f (scanP f c))) := hj
      omega

/-- our own frames are frames in a slice -/
theorem Frames.fs {w : World} {base c cp : Nat} {sp : Option Addr} {k z : Nat → Nat} {d : Nat → Nat → Nat} (h : Frames w base (.slice sp c cp) c k z d) : FS w sp c k z d := by
  intro hc
  obtain ⟨V, ho, hV⟩ := h.row
  obtain ⟨g, cap', e, _, hlt⟩ := ho.form hc
  injection e with e1 e2 e3
  subst e1
  refine ⟨g, 0, rfl, hlt, fun i hi => ?_⟩
  obtain ⟨spi, capi, ev, hown, hsp⟩ := hV i hi
  have hlen : ∀ (m : Nat), ((List.range m).flatMap fun i => [Value.int .i64 ((k i : Nat) : Int), V i]).length = m * 2 := by
    intro m
    induction m with
    | zero => rfl
    | succ m ih => rw [← rowF_succ, List.length_append, ih]; simp; omega
  have hget : ∀ (m : Nat), i < m → ((List.range m).flatMap fun i => [Value.int .i64 ((k i : Nat) : Int), V i])[i * 2]? = some (.int .i64 ((k i : Nat) : Int)) ∧ ((List.range m).flatMap fun i => [Value.int .i64 ((k i : Nat) : Int), V i])[i * 2 + 1]? = some (V i) := by
    intro m
    induction m with
    | zero => intro h; omega
    | succ m ih =>
      intro him
      rw [← rowF_succ]
      by_cases h : i < m
      · rw [List.getElem?_append_left (by rw [hlen]; omega), List.getElem?_append_left (by rw [hlen]; omega)]
        exact ih h
      · obtain rfl : i = m := by omega
        rw [List.getElem?_append_right (by rw [hlen]; omega), List.getElem?_append_right (by rw [hlen]; omega), hlen]
        exact ⟨by rw [Nat.sub_self]; rfl, by rw [Nat.add_sub_cancel_left]; rfl⟩
  have h1 := (ho.cellAt (i * 2) (by omega)).trans (hget c hi).1
  have h2 := (ho.cellAt (i * 2 + 1) (by omega)).trans (hget c hi).2
  rw [ev] at h2
  exact ⟨spi, capi, by rw [Nat.zero_add]; exact h1, by rw [Nat.zero_add]; exact h2, own_src hown, hsp⟩
end Go.Proofs.Ytgplannipnceeaa
