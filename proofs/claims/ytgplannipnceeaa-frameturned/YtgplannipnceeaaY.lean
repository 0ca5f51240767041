/-
  FrameTurned: what a turned byte makes of a scan; rows of numbers of our own.
-/
import Derived.Test.YtgplannipnceeaaX
import Derived.Deep.AppendLies
namespace Go.Proofs.Ytgplannipnceeaa
open Go.ChangeShapes Go.WideShapes Go.ChangeAt Go.RowKit

theorem info3 : (Try.prog.info? 3).map (fun i => (i.zero, i.size, i.bytes)) = some (some (.int .i64 0), 1, 8) := by kernel_rfl
def rowN (f : Nat → Nat) (n : Nat) : List Value := (List.range n).map fun j => .int .i64 ((f j : Nat) : Int)
theorem rowN_get (f : Nat → Nat) (n j : Nat) (h : j < n) : (rowN f n)[j]? = some (.int .i64 ((f j : Nat) : Int)) := by simp [rowN, h]
theorem rowN_succ (f : Nat → Nat) (n : Nat) : rowN f (n + 1) = rowN f n ++ [.int .i64 ((f n : Nat) : Int)] := by
  unfold rowN; rw [List.range_succ, List.map_append]; rfl
theorem rowB_set' (F : Nat → Nat) (n j y : Nat) : (rowB F n).set j (.int .u8 (y : Int)) = rowB (fun i => if i = j then y else F i) n := by
  apply List.ext_getElem?
  intro i
  by_cases hi : i < n
  · rw [rowB_get _ _ _ hi, List.getElem?_set, rowB_length, rowB_get _ _ _ hi]
    by_cases h : j = i
    · subst h; simp [hi]
    · rw [if_neg h]
      show some (Value.int .u8 ((F i : Nat) : Int)) = some (Value.int .u8 (((if i = j then y else F i : Nat)) : Int))
      rw [if_neg (fun e => h e.symm)]
  · rw [List.getElem?_eq_none (by rw [List.length_set, rowB_length]; omega), List.getElem?_eq_none (by rw [rowB_length]; omega)]

theorem allF_pre (k z : Nat → Nat) (d : Nat → Nat → Nat) (x : Nat) : ∀ c, x ≤ c → ∀ j, j < tot z x → allF k z d c j = allF k z d x j := by
  intro c
  induction c with
  | zero => intro hx j hj; rw [show x = 0 by omega]
  | succ c ih =>
    intro hx j hj
    by_cases h : x = c + 1
    · rw [h]
    · have h1 : tot z x ≤ tot z c := tot_mono z x c (by omega)
      show cat (allF k z d c) _ (tot z c) j = _
      rw [cat_lo (by omega)]
      exact ih (by omega) j hj

/-- what is turned is told -/
theorem turned_math (la x a : Nat) (k z : Nat → Nat) (d : Nat → Nat → Nat) (F G : Nat → Nat) (hx : x < la) (hk : ∀ i, i < la → k i < 256) (hz : ∀ i, i < la → z i ≤ 300) (hd : ∀ i, i < la → ∀ j, d i j < 256)
    (hF : F = allF k z d la) (hG : ∀ j, G j < 256) (ha : tot z x ≤ a) (ha' : a < tot z (x + 1))
    (hw : (∀ j, j < tot z la → ¬ j = a → G j = F j) ∨ (tot z x + 12 ≤ a ∧ ∀ j, j < tot z la → (j < a ∨ a + 4 ≤ j ∨ tot z (x + 1) ≤ j) → G j = F j))
    (hne : ¬ ∀ j, j < tot z la → F j = G j) (c er : Nat) (hwh : Wholes G (tot z la) c) (he : Ends G (tot z la) c er) :
    c = x ∧ scanP G c = tot z x ∧ ¬ er = 0 ∧ ∀ i, i < x → kindOf (sh G (scanP G i)) = k i ∧ sizeOf' (sh G (scanP G i)) = z i ∧ ∀ j, j < z i → sh G (scanP G i) (12 + j) = d i j := by
  have hn1 : tot z (x + 1) ≤ tot z la := tot_mono z (x + 1) la hx
  have hs1 : tot z (x + 1) = tot z x + (12 + z x) := rfl
  have lo : ∀ j, j < tot z x → G j = F j := fun j hj => by
    rcases hw with h | ⟨_, h⟩
    · exact h j (by omega) (by omega)
    · exact h j (by omega) (.inl (by omega))
  obtain ⟨h1, h2, h3⟩ := scan_all G (tot z la) x k z d (fun i hi => hk i (by omega)) (fun i hi => by have := hz i (by omega); omega) (by omega) (fun j hj => by
    rw [lo j hj, hF]; exact allF_pre k z d x la (by omega) j hj)
  have h4 := h1 x (Nat.le_refl _)
  have hpart : ∀ j, j < 12 + z x → F (tot z x + j) = frm (k x) (z x) (d x) j := fun j hj => by rw [hF]; exact allF_part k z d x la hx j hj
  have hbad : ¬ derr (sh G (tot z x)) (tot z la - tot z x) = 0 := by
    intro h0
    have hx6 := hz x hx
    have key := turned_none (k x) (z x) (d x) (sh G (tot z x)) (tot z la - tot z x) (a - tot z x) (hk x hx) (by omega) (hd x hx) (fun j => hG _) (by
      by_cases h12 : a - tot z x < 12
      · refine .inl ⟨h12, fun j hj hja => ?_⟩
        rcases hw with h | ⟨h', _⟩
        · rw [← hpart j hj]; exact h _ (by omega) (by omega)
        · omega
      · refine .inr ⟨by omega, fun j hj hor => ?_⟩
        rw [← hpart j hj]
        rcases hw with h | ⟨_, h⟩
        · exact h _ (by omega) (by omega)
        · exact h _ (by omega) (by omega)) h0
    refine hne fun j hj => ?_
    by_cases hin : tot z x ≤ j ∧ j < tot z (x + 1)
    · obtain ⟨i, rfl⟩ : ∃ i, j = tot z x + i := ⟨j - tot z x, by omega⟩
      rw [hpart i (by omega)]
      exact (key i (by omega)).symm
    · rcases hw with h | ⟨_, h⟩
      · exact (h j hj (by omega)).symm
      · exact (h j hj (by omega)).symm
  have hend : Ends G (tot z la) x (derr (sh G (tot z x)) (tot z la - tot z x)) := by
    refine .inr ⟨by rw [h4]; omega, by rw [h4], hbad⟩
  obtain ⟨e1, e2⟩ := scan_one h2 hend hwh he
  subst e1
  exact ⟨rfl, h4, by rw [e2]; exact hbad, h3⟩

theorem wrap8 (e : Int) : ∃ y : Nat, y < 256 ∧ IntKind.u8.wrap e = (y : Int) := by
  have h : IntKind.u8.wrap e = e % 256 := by rw [IntKind.wrap_u8]
  rw [h]
  exact ⟨(e % 256).toNat, by omega, by omega⟩
/-- a number appended to numbers of our own: where it lies, and the old cells stay -/
theorem run_append_keeps (w : World) (ty : TypeId) (base g n cap : Nat) (xs : List Value) (hown : w.ownsRow base 3 1 (.slice (some ⟨g, 0, none⟩) n cap) n xs) (ad : Addr) (u : Value) (h1 : ∀ x ∈ [u], x.oneCell' = true) (hnews : ∀ j x, [u][j]? = some x → w.cell? (ad.add j) = some x) (hn : n ≤ 1000) (hbase : base ≤ w.heap.size) :
    ∃ g' cap' w', (Builtin.append_ #[44, 44] ty #[.slice (some ⟨g, 0, none⟩) n cap, .slice (some ad) 1 1]).run Try.prog w = .ok (.slice (some ⟨g', 0, none⟩) (n + 1) cap') w' ∧
      w'.ownsRow base 3 1 (.slice (some ⟨g', 0, none⟩) (n + 1) cap') (n + 1) (xs ++ [u]) ∧ w.grownBy w' (some g) ∧ g' < w'.heap.size ∧ ∀ j, j < n → w'.cell? ⟨g, j, none⟩ = w.cell? ⟨g, j, none⟩ := by
  obtain ⟨i0, hi, hz0, hz1, hz2⟩ := info_parts info3
  obtain ⟨g', cap', w', hr, ho, hgr, _, hlt⟩ := run_append_lies (P := Try.prog) w 44 ty base 3 i0 (.int .i64 0) 1 8 Try.underlying44 hi hz0 hz1 hz2 rfl (by decide) _ n xs hown ad 1 1 [u] rfl hnews h1 (by decide) (by unfold maxLen; omega) (by omega) hbase _ rfl
  refine ⟨g', cap', w', hr, ho, hgr, hlt, fun j hj => ?_⟩
  have hxl : xs.length = n * 1 := hown.1
  by_cases hroom : n + 1 ≤ cap
  · rcases hown.2 with ⟨h', _⟩ | ⟨g0, cap0, cur, hv, _, hg, _, _, hcs, _⟩
    · simp at h'
    · injection hv with e1 e2 e3
      injection e1 with e1
      injection e1 with e1
      subst e1 e3
      have hr2 := run_append_room (P := Try.prog) w 44 ty 3 i0 Try.underlying44 hi g n cap cur hg ad 1 1 [u] (by rw [hz1]; rfl) hnews h1 hroom (by rw [hz1]; simp only [List.length_singleton, Nat.mul_one, hcs]; omega)
      rw [hr2] at hr
      injection hr with e1 e2
      injection e1 with e1
      injection e1 with e1
      injection e1 with e1
      subst e1
      rw [ho.cellAt j (by omega), hown.cellAt j (by omega), List.getElem?_append_left (by omega)]
  · have holds : ∀ j u, xs[j]? = some u → w.cell? ((⟨g, 0, none⟩ : Addr).add j) = some u := hown.cells (g := g) rfl
    have hr2 := run_append_grow (P := Try.prog) w 44 ty 3 i0 (.int .i64 0) Try.underlying44 hi hz0 ⟨g, 0, none⟩ n cap xs (by rw [hz1]; exact hown.1) holds ad 1 1 [u] (by rw [hz1]; rfl) hnews (by omega) (by omega) (growslice_fits (by omega) (by rw [hz2]; omega))
    rw [hr2] at hr
    injection hr with e1 e2
    subst e2
    exact World.cell?_of_block (heap_alloc_old w.drew _ (show g < w.drew.heap.size from (hown.lt g rfl).2))
theorem step_append_keeps {w : World} {ops : Array Oper} {o : Oper} {a : Act} {K : Act → World → Prop} {Q : Exit → Act → World → Prop} {E : Prop} (hgd : o.guard = none) (s x : Operand)
    (ho : o.op = .call { callee := .builtin .append, args := #[s, x], argTypes := #[44, 44] })
    (base g n cap : Nat) (xs : List Value) (hs : a.eval s = .slice (some ⟨g, 0, none⟩) n cap) (hown : w.ownsRow base 3 1 (.slice (some ⟨g, 0, none⟩) n cap) n xs)
    (ad : Addr) (u : Value) (hx : a.eval x = .slice (some ad) 1 1) (h1 : ∀ x ∈ [u], x.oneCell' = true) (hnews : ∀ j x, [u][j]? = some x → w.cell? (ad.add j) = some x) (hn : n ≤ 1000) (hbase : base ≤ w.heap.size)
    (h : ∀ g' cap' w', w'.ownsRow base 3 1 (.slice (some ⟨g', 0, none⟩) (n + 1) cap') (n + 1) (xs ++ [u]) → w.grownBy w' (some g) → g' < w'.heap.size → (∀ j, j < n → w'.cell? ⟨g, j, none⟩ = w.cell? ⟨g, j, none⟩) → K (a.put o.dst (.slice (some ⟨g', 0, none⟩) (n + 1) cap')) w') :
    if Region.wanted o (yielded ops a.tmps) = true then Oper.wp Try.prog o a w K Q else E := by
  have hw : Region.wanted o (yielded ops a.tmps) = true := by simp [Region.wanted, hgd]
  rw [if_pos hw]
  obtain ⟨g', cap', w', hr, h2, h3, h4, h5⟩ := run_append_keeps w o.type base g n cap xs hown ad u h1 hnews hn hbase
  unfold Oper.wp execOp
  simp only [ho, resolve, invoke, builtin, Sem.run_bind, Sem.run_pure, Result.andThen_ok, List.map_toArray, List.map_cons, List.map_nil, hs, hx, hr]
  exact h g' cap' w' h2 h3 h4 h5
end Go.Proofs.Ytgplannipnceeaa
