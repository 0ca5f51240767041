/-
  What memory holds while the reference's function all works, and the sums that it makes.
-/
import Derived.Test.YtbdpinfiicpmhaaD
namespace Go.Proofs.Ytbdpinfiicpmhaa
open Go.ChangeShapes Go.WideShapes Go.ChangeAt Go.RowKit RefMath

abbrev U (n : Nat) : Value := .int .u64 (n : Int)

def upd (f : Nat → Nat) (i v : Nat) : Nat → Nat := fun j => if j = i then v else f j

structure Arr (w wr : World) (a b f : Nat → Nat) : Prop where
  ca : ∀ j, j < 4 → wr.cell? ⟨w.heap.size, j, none⟩ = some (U (a j))
  cb : ∀ j, j < 4 → wr.cell? ⟨w.heap.size + 1, j, none⟩ = some (U (b j))
  cr : ∀ j, j < 8 → wr.cell? ⟨w.heap.size + 1 + 1, j, none⟩ = some (.int .u64 0)
  co : ∀ j, j < 8 → wr.cell? ⟨w.heap.size + 1 + 1 + 1, j, none⟩ = some (U (f j))
  fr : ∀ j, wr.frozen? ⟨w.heap.size + 1 + 1, j, none⟩ = false
  fo : ∀ j, wr.frozen? ⟨w.heap.size + 1 + 1 + 1, j, none⟩ = false
  bel : Below w.heap.size w wr

theorem lt4 (j : Nat) (h : j < 4) : j = 0 ∨ j = 1 ∨ j = 2 ∨ j = 3 := by omega
theorem lt8 (j : Nat) (h : j < 8) : j = 0 ∨ j = 1 ∨ j = 2 ∨ j = 3 ∨ j = 4 ∨ j = 5 ∨ j = 6 ∨ j = 7 := by omega

theorem Arr.start (w : World) (a b : Nat → Nat) :
    Arr w ((((w.alloc (.cells #[U (a 0), U (a 1), U (a 2), U (a 3)] 74)).alloc (.cells #[U (b 0), U (b 1), U (b 2), U (b 3)] 74)).alloc (.cells #[.int .u64 0, .int .u64 0, .int .u64 0, .int .u64 0, .int .u64 0, .int .u64 0, .int .u64 0, .int .u64 0] 78)).alloc
      (.cells #[.int .u64 0, .int .u64 0, .int .u64 0, .int .u64 0, .int .u64 0, .int .u64 0, .int .u64 0, .int .u64 0] 78)) a b (fun _ => 0) where
  ca := fun j hj => by rcases lt4 j hj with rfl | rfl | rfl | rfl <;> go_simp
  cb := fun j hj => by rcases lt4 j hj with rfl | rfl | rfl | rfl <;> go_simp
  cr := fun j hj => by rcases lt8 j hj with rfl | rfl | rfl | rfl | rfl | rfl | rfl | rfl <;> go_simp
  co := fun j hj => by rcases lt8 j hj with rfl | rfl | rfl | rfl | rfl | rfl | rfl | rfl <;> go_simp
  fr := fun j => by go_simp
  fo := fun j => by go_simp
  bel := ((((Below.refl _ _).alloc (Nat.le_refl _) _).alloc (by simp) _).alloc (by simp; omega) _).alloc (by simp; omega) _

theorem Arr.drew {w wr : World} {a b f : Nat → Nat} (h : Arr w wr a b f) : Arr w wr.drew a b f := ⟨h.ca, h.cb, h.cr, h.co, h.fr, h.fo, h.bel.drew⟩

theorem Arr.store {w wr : World} {a b f : Nat → Nat} (h : Arr w wr a b f) (i v : Nat) (hi : i < 8) : Arr w (wr.setCell ⟨w.heap.size + 1 + 1 + 1, i, none⟩ (U v)) a b (upd f i v) where
  ca := fun j hj => by rw [World.cell?_setCell_other _ _ _ _ (by simp)]; exact h.ca j hj
  cb := fun j hj => by rw [World.cell?_setCell_other _ _ _ _ (by simp)]; exact h.cb j hj
  cr := fun j hj => by rw [World.cell?_setCell_other _ _ _ _ (by simp)]; exact h.cr j hj
  co := fun j hj => by
    unfold upd
    by_cases e : j = i
    · subst e
      rw [if_pos rfl]
      exact World.cell?_setCell_same _ _ _ (h.co j hj)
    · rw [if_neg e, World.cell?_setCell_other _ _ _ _ (by simp)]; exact h.co j hj
  fr := fun j => by have := h.fr j; go_simp
  fo := fun j => by have := h.fo j; go_simp
  bel := h.bel.setCell (by simp; omega) _

/-- the number of eight parts -/
def val8 (f : Nat → Nat) : Nat := f 0 + 65536 * (f 1 + 65536 * (f 2 + 65536 * (f 3 + 65536 * (f 4 + 65536 * (f 5 + 65536 * (f 6 + 65536 * f 7))))))

theorem val8_upd (f : Nat → Nat) (j d : Nat) (hj : j < 8) : val8 (upd f j (f j + d)) = val8 f + d * 65536 ^ j := by
  rcases lt8 j hj with rfl | rfl | rfl | rfl | rfl | rfl | rfl | rfl <;> simp [val8, upd] <;> omega

/-- the products that were added behind t steps -/
def ps (a b : Nat → Nat) : Nat → Nat
  | 0 => 0
  | t + 1 => ps a b t + a (t / 4) * b (t % 4) * 65536 ^ (t / 4 + t % 4)

theorem ps_end (a b : Nat → Nat) : ps a b 16 = val4 (a 0) (a 1) (a 2) (a 3) * val4 (b 0) (b 1) (b 2) (b 3) := by
  simp [ps, val4]; grind

theorem prod_lt (x y : Nat) (hx : x < 65536) (hy : y < 65536) : x * y ≤ 4294836225 := Nat.mul_le_mul (show x ≤ 65535 by omega) (show y ≤ 65535 by omega)

theorem low_step (p x y t : Nat) (hx : x < 65536) (hy : y < 65536) (hp : p ≤ 131070 * t) (ht : t ≤ 100) :
    IntKind.u64.wrap ((p : Int) + (IntKind.u64.wrap ((x : Int) * (y : Int))).tmod 65536) = ((p + x * y % 65536 : Nat) : Int) := by
  have hm := prod_lt x y hx hy
  rw [show ((x : Int) * (y : Int)) = ((x * y : Nat) : Int) from (Int.natCast_mul x y).symm]
  generalize x * y = m at *
  rw [show IntKind.u64.wrap (m : Int) = (m : Int) from by rw [IntKind.wrap_u64]; omega, tmodN, IntKind.wrap_u64]
  omega

theorem high_step (p x y t : Nat) (hx : x < 65536) (hy : y < 65536) (hp : p ≤ 131070 * t + 65535) (ht : t ≤ 100) :
    IntKind.u64.wrap ((p : Int) + IntKind.u64.wrap ((IntKind.u64.wrap ((x : Int) * (y : Int))).tdiv 65536)) = ((p + x * y / 65536 : Nat) : Int) := by
  have hm := prod_lt x y hx hy
  rw [show ((x : Int) * (y : Int)) = ((x * y : Nat) : Int) from (Int.natCast_mul x y).symm]
  generalize x * y = m at *
  rw [show IntKind.u64.wrap (m : Int) = (m : Int) from by rw [IntKind.wrap_u64]; omega, tdivN m (by omega), IntKind.wrap_u64]
  omega

theorem upd_same (f : Nat → Nat) (i v : Nat) : upd f i v i = v := by simp [upd]
theorem upd_le (f : Nat → Nat) (i v B : Nat) (hf : ∀ j, f j ≤ B) (hv : v ≤ B) (j : Nat) : upd f i v j ≤ B := by
  unfold upd; split
  · exact hv
  · exact hf j

theorem val8_step (f : Nat → Nat) (i k m : Nat) (h : i + k < 7) :
    val8 (upd (upd f (i + k) (f (i + k) + m % 65536)) (i + k + 1) (upd f (i + k) (f (i + k) + m % 65536) (i + k + 1) + m / 65536)) = val8 f + m * 65536 ^ (i + k) := by
  rw [val8_upd _ _ _ (by omega), val8_upd _ _ _ (by omega), Nat.add_assoc, Nat.pow_succ, Nat.mul_comm (65536 ^ (i + k)) 65536, ← Nat.mul_assoc, ← Nat.add_mul]
  congr 2; omega

theorem ps_step (a b : Nat → Nat) (i k : Nat) (hk : k < 4) : ps a b (4 * i + (k + 1)) = ps a b (4 * i + k) + a i * b k * 65536 ^ (i + k) := by
  rw [show 4 * i + (k + 1) = (4 * i + k) + 1 from rfl, ps, show (4 * i + k) / 4 = i from by omega, show (4 * i + k) % 4 = k from by omega]

theorem carry_step (p q : Nat) (hp : p ≤ 3000000) (hq : q ≤ 3000000) :
    IntKind.u64.wrap ((p : Int) + IntKind.u64.wrap ((q : Int) / 65536)) = ((p + q / 65536 : Nat) : Int) := by
  rw [edivN q (by omega), IntKind.wrap_u64]; omega

theorem carry_val (f : Nat → Nat) (t : Nat) (ht : t < 7) : val8 (upd (upd f (t + 1) (f (t + 1) + f t / 65536)) t (f t % 65536)) = val8 f := by
  rcases lt8 t (by omega) with rfl | rfl | rfl | rfl | rfl | rfl | rfl | rfl <;> simp [val8, upd] <;> omega

theorem carry_bound (f : Nat → Nat) (t : Nat) (h : (∀ j, f j ≤ 3000000) ∧ (∀ j, t < j → f j ≤ 2097120) ∧ (∀ j, j < t → f j < 65536)) :
    (∀ j, upd (upd f (t + 1) (f (t + 1) + f t / 65536)) t (f t % 65536) j ≤ 3000000) ∧ (∀ j, t + 1 < j → upd (upd f (t + 1) (f (t + 1) + f t / 65536)) t (f t % 65536) j ≤ 2097120) ∧
    (∀ j, j < t + 1 → upd (upd f (t + 1) (f (t + 1) + f t / 65536)) t (f t % 65536) j < 65536) := by
  obtain ⟨h1, h2, h3⟩ := h
  have g1 := h1 t
  have g2 := h2 (t + 1) (by omega)
  refine ⟨fun j => ?_, fun j hj => ?_, fun j hj => ?_⟩
  · unfold upd
    have := h1 j
    by_cases e : j = t
    · rw [if_pos e]; omega
    · rw [if_neg e]
      by_cases e' : j = t + 1
      · rw [if_pos e']; omega
      · rw [if_neg e']; omega
  · unfold upd
    have := h2 j (by omega)
    rw [if_neg (by omega), if_neg (by omega)]; omega
  · unfold upd
    by_cases e : j = t
    · rw [if_pos e]; omega
    · have := h3 j (by omega)
      rw [if_neg e, if_neg (by omega)]; omega

theorem upd_other (f : Nat → Nat) (i j v : Nat) (h : ¬ j = i) : upd f i v j = f j := by unfold upd; rw [if_neg h]

theorem val4_lt (a b c d : Nat) (ha : a < 65536) (hb : b < 65536) (hc : c < 65536) (hd : d < 65536) : val4 a b c d < 18446744073709551616 := by unfold val4; omega

theorem top_lt (a b f : Nat → Nat) (ha : ∀ j, a j < 65536) (hb : ∀ j, b j < 65536) (hv : val8 f = ps a b 16) : f 7 < 65536 := by
  rw [ps_end] at hv
  have h1 := val4_lt _ _ _ _ (ha 0) (ha 1) (ha 2) (ha 3)
  have h2 := val4_lt _ _ _ _ (hb 0) (hb 1) (hb 2) (hb 3)
  have h3 : val8 f < 340282366920938463463374607431768211456 := by
    rw [hv]
    exact Nat.lt_of_lt_of_le (Nat.mul_lt_mul'' h1 h2) (by decide)
  unfold val8 at h3
  omega

/-- what all answers: the whole product in eight parts of 16 bits -/
def AllPost (a b : Nat → Nat) (w : World) (e : Ending) (w' : World) : Prop :=
  ∃ f : Nat → Nat, e = .returned (.agg #[U (f 0), U (f 1), U (f 2), U (f 3), U (f 4), U (f 5), U (f 6), U (f 7)]) ∧ (∀ j, j < 8 → f j < 65536) ∧
    val8 f = val4 (a 0) (a 1) (a 2) (a 3) * val4 (b 0) (b 1) (b 2) (b 3) ∧ Below w.heap.size w w'

end Go.Proofs.Ytbdpinfiicpmhaa
