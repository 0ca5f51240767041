/-
  What netOf builds: mathematics; made rows.
-/
import Derived.Test.YtcolcgkfppjflaaB
import Derived.Deep.OwnRows
namespace Go.Proofs.Ytcolcgkfppjflaa
open Go.ChangeShapes Go.WideShapes Go.ChangeAt Go.RowKit

/-- is there an arc, of the first n? -/
def adj (p : Nat → Int × Int) (n i j : Nat) : Prop := ∃ k, k < n ∧ p k = ((i : Int), (j : Int))
theorem adj_succ (p : Nat → Int × Int) (n i j : Nat) : adj p (n + 1) i j ↔ adj p n i j ∨ p n = ((i : Int), (j : Int)) := by
  constructor
  · rintro ⟨k, hk, e⟩
    by_cases h : k < n
    · exact .inl ⟨k, h, e⟩
    · obtain rfl : k = n := by omega
      exact .inr e
  · rintro (⟨k, hk, e⟩ | e)
    · exact ⟨k, by omega, e⟩
    · exact ⟨n, by omega, e⟩
structure Spec (p : Nat → Int × Int) (n N : Nat) (L : Bool → Nat → List Nat) : Prop where
  tt : ∀ i, i < N → ∀ j, j ∈ L true i ↔ j < N ∧ adj p n i j
  fr : ∀ i, i < N → ∀ j, j ∈ L false i ↔ j < N ∧ adj p n j i
  nd : ∀ s i, i < N → (L s i).Nodup
  le : ∀ s i, (L s i).length ≤ n
theorem Spec.init (p : Nat → Int × Int) (N : Nat) : Spec p 0 N (fun _ _ => []) :=
  ⟨fun i _ j => ⟨fun h => (by cases h), fun ⟨_, k, hk, _⟩ => absurd hk (Nat.not_lt_zero _)⟩, fun i _ j => ⟨fun h => (by cases h), fun ⟨_, k, hk, _⟩ => absurd hk (Nat.not_lt_zero _)⟩, fun _ _ _ => List.nodup_nil, fun _ _ => Nat.le_refl _⟩
theorem Spec.same {p : Nat → Int × Int} {n N : Nat} {L : Bool → Nat → List Nat} (h : Spec p n N L) (hno : ∀ i j, i < N → j < N → p n = ((i : Int), (j : Int)) → j ∈ L true i) : Spec p (n + 1) N L := by
  refine ⟨fun i hi j => ?_, fun i hi j => ?_, h.nd, fun s i => Nat.le_succ_of_le (h.le s i)⟩
  · rw [adj_succ, h.tt i hi j]
    constructor
    · rintro ⟨a, b⟩; exact ⟨a, .inl b⟩
    · rintro ⟨a, b | b⟩
      · exact ⟨a, b⟩
      · exact (h.tt i hi j).1 (hno i j hi a b)
  · rw [adj_succ, h.fr i hi j]
    constructor
    · rintro ⟨a, b⟩; exact ⟨a, .inl b⟩
    · rintro ⟨a, b | b⟩
      · exact ⟨a, b⟩
      · exact ⟨a, ((h.tt j a i).1 (hno j i a hi b)).2⟩
theorem Spec.more {p : Nat → Int × Int} {n N u v : Nat} {L : Bool → Nat → List Nat} (h : Spec p n N L) (hu : u < N) (hv : v < N) (e : p n = ((u : Int), (v : Int))) (hno : v ∉ L true u) :
    Spec p (n + 1) N (fun s i => if s = false ∧ i = v then (if false = true ∧ v = u then L true u ++ [v] else L false v) ++ [u] else if s = true ∧ i = u then L true u ++ [v] else L s i) := by
  have huno : u ∉ L false v := fun hm => hno ((h.tt u hu v).2 ⟨hv, ((h.fr v hv u).1 hm).2⟩)
  refine ⟨fun i hi j => ?_, fun i hi j => ?_, fun s i hi => ?_, fun s i => ?_⟩
  · rw [if_neg (fun e => by cases e.1), adj_succ, e]
    by_cases hiu : i = u
    · subst hiu
      rw [if_pos ⟨rfl, rfl⟩, List.mem_append, List.mem_singleton, h.tt i hi j]
      constructor
      · rintro (⟨a, b⟩ | rfl)
        · exact ⟨a, .inl b⟩
        · exact ⟨hv, .inr rfl⟩
      · rintro ⟨a, b | b⟩
        · exact .inl ⟨a, b⟩
        · right; injection b with _ b; omega
    · rw [if_neg (fun e => hiu e.2), h.tt i hi j]
      constructor
      · rintro ⟨a, b⟩; exact ⟨a, .inl b⟩
      · rintro ⟨a, b | b⟩
        · exact ⟨a, b⟩
        · injection b with b _; omega
  · rw [adj_succ, e]
    by_cases hiv : i = v
    · subst hiv
      rw [if_pos ⟨rfl, rfl⟩, if_neg (fun e => by cases e.1), List.mem_append, List.mem_singleton, h.fr i hi j]
      constructor
      · rintro (⟨a, b⟩ | rfl)
        · exact ⟨a, .inl b⟩
        · exact ⟨hu, .inr rfl⟩
      · rintro ⟨a, b | b⟩
        · exact .inl ⟨a, b⟩
        · right; injection b with b _; omega
    · rw [if_neg (fun e => hiv e.2), if_neg (fun e => by cases e.1), h.fr i hi j]
      constructor
      · rintro ⟨a, b⟩; exact ⟨a, .inl b⟩
      · rintro ⟨a, b | b⟩
        · exact ⟨a, b⟩
        · injection b with _ b; omega
  · skip
    split
    · rename_i hc
      rw [if_neg (fun e => by cases e.1)]
      exact List.nodup_append.2 ⟨h.nd _ _ hv, by simp, by intro a ha b hb; simp at hb; subst hb; intro e; subst e; exact huno ha⟩
    · split
      · exact List.nodup_append.2 ⟨h.nd _ _ hu, by simp, by intro a ha b hb; simp at hb; subst hb; intro e; subst e; exact hno ha⟩
      · exact h.nd s i hi
  · split
    · rw [if_neg (fun e => by cases e.1), List.length_append, List.length_singleton]; exact Nat.succ_le_succ (h.le _ _)
    · split
      · rw [List.length_append, List.length_singleton]; exact Nat.succ_le_succ (h.le _ _)
      · exact Nat.le_succ_of_le (h.le _ _)

theorem info33 : (Try.prog.info? 33).map (fun i => (i.zero, i.size, i.bytes)) = some (some (.slice none 0 0), 1, 24) := by kernel_rfl
theorem info4 : (Try.prog.info? 4).map (fun i => (i.zero, i.size, i.bytes)) = some (some (.bool false), 1, 1) := by kernel_rfl
theorem makeL (M : Nat) (hM : M ≤ 1000) (mc : Array Value) (hmc : mc = madeCells #[.slice none 0 0] M) (w : World) :
    (Instr.makeSlice 45 (.int .i64 (M : Int)) (.int .i64 (M : Int))).run Try.prog w = .ok (.slice (some ⟨w.heap.size, 0, none⟩) M M) (w.alloc (.cells mc 33)) := by
  subst hmc
  exact run_make_row' (P := Try.prog) 45 33 (.slice none 0 0) 24 Try.underlying45 info33 rfl .i64 .i64 M (by omega) (by omega) w
theorem makeB (M : Nat) (hM : M ≤ 1000000) (mc : Array Value) (hmc : mc = madeCells #[.bool false] M) (w : World) :
    (Instr.makeSlice 28 (.int .i64 (M : Int)) (.int .i64 (M : Int))).run Try.prog w = .ok (.slice (some ⟨w.heap.size, 0, none⟩) M M) (w.alloc (.cells mc 4)) := by
  subst hmc
  exact run_make_row' (P := Try.prog) 28 4 (.bool false) 1 Try.underlying28 info4 rfl .i64 .i64 M (by omega) (by omega) w

/-- ahead of the first arc -/
structure PreM (w : World) (B g : Nat) (gb : Bool → Nat) (N : Nat) : Prop where
  box : w.heap[B]? = some (.cells #[.int .i64 (N : Int)] 3 (0, 0))
  net : w.heap[g]? = some (.cells #[.slice (some ⟨gb true, 0, none⟩) N N, .slice (some ⟨gb false, 0, none⟩) N N] 47 (0, 0))
  low : B < g
  row : ∀ s, w.heap[gb s]? = some (.cells (madeCells #[.slice none 0 0] N) 33 (0, 0)) ∧ B < gb s
  two : gb true ≠ gb false

end Go.Proofs.Ytcolcgkfppjflaa
