/-
  Ways round and orders: mathematics; contract of Cycle.
-/
import Derived.Test.YtcolcgkfppjflaaCe
import Derived.Test.YtcolcgkfppjflaaW
namespace Go.Proofs.Ytcolcgkfppjflaa
open Go.ChangeShapes Go.WideShapes Go.ChangeAt Go.RowKit
set_option linter.unusedVariables false

/-- an order goes along each arc -/
theorem Bld.arc {A : Nat → Nat → Prop} {N : Nat} {O : List Nat} (h : Bld A N O) : ∀ j, j < O.length → ∀ u, u < N → A u (O.getD j 0) → ∃ i, i < j ∧ O.getD i 0 = u := by
  induction h with
  | nil => intro j hj; simp at hj
  | @snoc O v h1 h2 ih =>
    intro j hj u hu ha
    rw [List.length_append, List.length_singleton] at hj
    by_cases hjl : j < O.length
    · rw [getD_snoc O v j hjl] at ha
      obtain ⟨i, hi, e⟩ := ih j hjl u hu ha
      exact ⟨i, hi, by rw [getD_snoc O v i (by omega)]; exact e⟩
    · have ej : j = O.length := by omega
      rw [ej, getD_last] at ha
      have hm := h2.1.2.2 u hu ha
      obtain ⟨i, hi, e⟩ := List.getElem_of_mem hm
      exact ⟨i, by omega, by rw [getD_snoc O v i hi, List.getD_eq_getElem?_getD, List.getElem?_eq_getElem hi]; exact e⟩
theorem full_mem {N : Nat} {O : List Nat} (hn : O.Nodup) (hl : ∀ x ∈ O, x < N) (hlen : O.length = N) (x : Nat) (hx : x < N) : x ∈ O := by
  rcases Classical.em (x ∈ O) with h | h
  · exact h
  · have := pigeon N (x :: O) (List.nodup_cons.2 ⟨h, hn⟩) (fun y hy => by
      rcases List.mem_cons.1 hy with rfl | h1
      · exact hx
      · exact hl y h1)
    rw [List.length_cons] at this
    omega
theorem no_round {A : Nat → Nat → Prop} {N : Nat} {O : List Nat} (h : Bld A N O) (hlen : O.length = N) (st l : Nat) (hst : st < N) : ¬ Cl A N st l := by
  have hf := h.facts
  have hpos : ∀ x, x < N → ∃ i, i < O.length ∧ O.getD i 0 = x := fun x hx => by
    obtain ⟨i, hi, e⟩ := List.getElem_of_mem (full_mem hf.1 hf.2 hlen x hx)
    exact ⟨i, hi, by rw [List.getD_eq_getElem?_getD, List.getElem?_eq_getElem hi]; exact e⟩
  have hone : ∀ i j, i < O.length → j < O.length → O.getD i 0 = O.getD j 0 → i = j := fun i j hi hj e => by
    rw [List.getD_eq_getElem?_getD, List.getD_eq_getElem?_getD, List.getElem?_eq_getElem hi, List.getElem?_eq_getElem hj] at e
    have hp := List.pairwise_iff_getElem.1 (List.nodup_iff_pairwise_ne.1 hf.1)
    have e2 : O[i] = O[j] := e
    rcases Nat.lt_trichotomy i j with h1 | h1 | h1
    · exact absurd e2 (hp i j hi hj h1)
    · exact h1
    · exact absurd e2.symm (hp j i hj hi h1)
  obtain ⟨s, hs, es⟩ := hpos st hst
  have hbk : ∀ y d, Bk A N st y d → ∀ i, i < O.length → O.getD i 0 = y → i ≤ s := by
    intro y d hb
    induction hb with
    | zero => intro i hi e; rw [hone i s hi hs (by rw [e, es])]; exact Nat.le_refl _
    | @step x y d hx hy ha hb ih =>
      intro i hi e
      obtain ⟨j, hj, ej⟩ := hpos y hy
      obtain ⟨i', hi', e'⟩ := h.arc j hj x hx (by rw [ej]; exact ha)
      have h1 := hone i i' hi (by omega) (by rw [e, e'])
      have h2 := ih j hj ej
      omega
  rintro ⟨y, d, rfl, hy, ha, hb⟩
  obtain ⟨j, hj, ej⟩ := hpos y hy
  obtain ⟨i, hi, e⟩ := h.arc j hj st hst (by rw [ej]; exact ha)
  have h1 := hbk y d hb j hj ej
  have h2 := hone i s (by omega) hs (by rw [e, es])
  omega
/-- a shortest way round is no longer than there are nodes -/
theorem Ds.all {A : Nat → Nat → Prop} {N st : Nat} (hst : st < N) : ∀ d y, y < N → Ds A N st y d → ∀ e, e ≤ d → ∃ x, x < N ∧ Ds A N st x e := by
  intro d
  induction d with
  | zero => intro y hy h e he; exact ⟨y, hy, by rw [show e = 0 by omega]; exact h⟩
  | succ d ih =>
    intro y hy h e he
    by_cases h1 : e = d + 1
    · exact ⟨y, hy, by rw [h1]; exact h⟩
    · obtain ⟨z, _, hz, _, hd⟩ := h.step
      exact ih z hz hd e (by omega)
theorem Cl.short {A : Nat → Nat → Prop} {N st l : Nat} (hst : st < N) (h : Cl A N st l) : ∃ k, k ≤ N ∧ k ≤ l ∧ Cl A N st k := by
  obtain ⟨m, hm, hc, hmin⟩ := least (p := fun l => Cl A N st l) l h
  refine ⟨m, ?_, hm, hc⟩
  obtain ⟨y, d, rfl, hy, ha, hb⟩ := hc
  have hds : Ds A N st y d := ⟨hb, fun d' hd' hb' => hmin (d' + 1) (by omega) ⟨y, d', rfl, hy, ha, hb'⟩⟩
  have hex : ∀ e, ∃ x, e ≤ d → x < N ∧ Ds A N st x e := fun e => by
    by_cases he : e ≤ d
    · obtain ⟨x, h1, h2⟩ := hds.all hst d y hy e he
      exact ⟨x, fun _ => ⟨h1, h2⟩⟩
    · exact ⟨0, fun h => absurd h he⟩
  obtain ⟨f, hf⟩ := Classical.skolem.mp hex
  have := pigeon N ((List.range (d + 1)).map f) (by
    rw [List.nodup_iff_pairwise_ne, List.pairwise_map]
    refine List.Pairwise.imp_of_mem ?_ List.pairwise_lt_range
    intro a b ha hb hab e
    have ha' := List.mem_range.1 ha
    have hb' := List.mem_range.1 hb
    have h1 := (hf a (by omega)).2
    have h2 := (hf b (by omega)).2
    rw [e] at h1
    have := h1.one h2
    omega) (by
    intro x hx
    simp at hx
    obtain ⟨i, hi, rfl⟩ := hx
    exact (hf i (by omega)).1)
  simpa using this
/-- what Cycle answers -/
def CyR (A : Nat → Nat → Prop) (N : Nat) (C : List Nat) : Prop :=
  (C = [] ∧ ∀ st l, st < N → ¬ Cl A N st l) ∨ ∃ st, st < N ∧ 0 < C.length ∧ Cl A N st C.length ∧ (∀ s k, s < N → k < C.length → ¬ Cl A N s k) ∧ (∀ s, s < st → ¬ Cl A N s C.length) ∧ Gr A N st C.length C
/-- .. of the first t nodes -/
def CyT (A : Nat → Nat → Prop) (N t : Nat) (C : List Nat) (bound : Nat) : Prop :=
  (C = [] ∧ bound = N + 1 ∧ ∀ st l, st < t → l ≤ N → ¬ Cl A N st l) ∨ ∃ st, st < t ∧ 0 < C.length ∧ bound = C.length ∧ Cl A N st C.length ∧ (∀ s k, s < t → k < C.length → ¬ Cl A N s k) ∧ (∀ s, s < st → ¬ Cl A N s C.length) ∧ Gr A N st C.length C
theorem CyT.miss {A : Nat → Nat → Prop} {N t bound : Nat} {C : List Nat} (h : CyT A N t C bound) (hno : ∀ l : Nat, (l : Int) < (bound : Int) → ¬ Cl A N t l) : CyT A N (t + 1) C bound := by
  rcases h with ⟨h1, h2, h3⟩ | ⟨st, h1, h2, h3, h4, h5, h6⟩
  · refine .inl ⟨h1, h2, fun s l hs hl => ?_⟩
    by_cases hst : s < t
    · exact h3 s l hst hl
    · have : s = t := by omega
      rw [this]; exact hno l (by omega)
  · refine .inr ⟨st, by omega, h2, h3, h4, fun s k hs hk => ?_, h6⟩
    by_cases hst : s < t
    · exact h5 s k hst hk
    · have : s = t := by omega
      rw [this]; exact hno k (by omega)
theorem CyT.hit {A : Nat → Nat → Prop} {N t bound : Nat} {C D : List Nat} (h : CyT A N t C bound) (h0 : 0 < D.length) (hb : (D.length : Int) < (bound : Int)) (hc : Cl A N t D.length) (hm : ∀ k, k < D.length → ¬ Cl A N t k) (hg : Gr A N t D.length D) (hDN : D.length ≤ N) : CyT A N (t + 1) D D.length := by
  refine .inr ⟨t, by omega, h0, rfl, hc, fun s k hs hk => ?_, fun s hs => ?_, hg⟩
  · by_cases hst : s < t
    · rcases h with ⟨h1, h2, h3⟩ | ⟨st, h1, h2, h3, h4, h5, h6⟩
      · exact h3 s k hst (by omega)
      · exact h5 s k hst (by omega)
    · have : s = t := by omega
      rw [this]; exact hm k hk
  · rcases h with ⟨h1, h2, h3⟩ | ⟨st, h1, h2, h3, h4, h5, h6⟩
    · exact h3 s D.length hs hDN
    · exact h5 s D.length hs (by omega)
theorem CyT.le {A : Nat → Nat → Prop} {N t bound : Nat} {C : List Nat} (h : CyT A N t C bound) (hN : C.length ≤ N) : bound ≤ N + 1 := by
  rcases h with ⟨_, h2, _⟩ | ⟨st, _, _, h3, _⟩ <;> omega
theorem CyT.fin {A : Nat → Nat → Prop} {N bound : Nat} {C : List Nat} (h : CyT A N N C bound) : CyR A N C := by
  rcases h with ⟨h1, h2, h3⟩ | ⟨st, h1, h2, h3, h4, h5, h6⟩
  · refine .inl ⟨h1, fun st l hst hc => ?_⟩
    obtain ⟨k, hk, _, hc2⟩ := hc.short hst
    exact h3 st k hst hk hc2
  · exact .inr ⟨st, h1, h2, h4, h5, h6⟩
def CycP (A : Nat → Nat → Prop) (N : Nat) (w : World) (e : Ending) (w' : World) : Prop :=
  ∃ C sp cp, e = .returned (.slice sp C.length cp) ∧ CyR A N C ∧ C.length ≤ N ∧ LsS w' (.slice sp C.length cp) C ∧ Below w.heap.size w w'

set_option maxRecDepth 100000 in
set_option maxHeartbeats 4000000 in
theorem Cycle_any (z : Int) (N : Nat) (a : Option Addr) (n cap : Nat) (p : Nat → Int × Int) (w : World) (hN : min (max z 0) 400 = (N : Int)) (hn : n ≤ 1000) (hs : PsS w a n p) :
    Calls Try.prog 16 #[.int .i64 z, .slice a n cap] w (CycP (adj p n) N w) := by
  have HNET := Lib.hid (net_any z N a n cap p w hN hn hs)
  have hN4 : N ≤ 400 := by omega
  clear hN hs
  go_enter Try.func16, Try.ntmps16
  go_upto_region 2 with (go_at_call 24; refine HNET.out.mono ?_; rintro e w1 ⟨gb, L, rfl, hR, hG, hbel⟩; have HBL := Lib.hid hbel; have HR := Lib.hid hR; have HG := Lib.hid hG; clear hR hG hbel)
  have HBX := Lib.hid (HBL.out.alloc HBL.out.size (.cells #[.slice (some ⟨gb true, 0, none⟩) N N, .slice (some ⟨gb false, 0, none⟩) N N] 47))
  have HRX := Lib.hid (HR.out.below ((Below.refl w1.heap.size w1).alloc (Nat.le_refl _) (.cells #[.slice (some ⟨gb true, 0, none⟩) N N, .slice (some ⟨gb false, 0, none⟩) N N] 47)))
  have hgx := heap_alloc_new w1 (.cells #[.slice (some ⟨gb true, 0, none⟩) N N, .slice (some ⟨gb false, 0, none⟩) N N] 47)
  obtain ⟨wx, ewx⟩ : ∃ wx, wx = w1.alloc (.cells #[.slice (some ⟨gb true, 0, none⟩) N N, .slice (some ⟨gb false, 0, none⟩) N N] 47) := ⟨_, rfl⟩
  obtain ⟨g, eg⟩ : ∃ g, g = w1.heap.size := ⟨_, rfl⟩
  rw [← ewx] at HBX HRX
  rw [← ewx, ← eg] at hgx
  rw [← ewx, ← eg]
  clear ewx eg HBL HR HNET
  have HGX := Lib.hid hgx
  have HLE : Hid (∀ s i, i < N → (L s i).length ≤ 100000) := Lib.hid fun s i hi => Nat.le_trans (HG.out.le s i hi) (by omega)
  have HCA := Lib.hid (order_any g N gb L (adj p n) wx hN4 (by rw [cell_of_row _ _ _ _ _ _ hgx]; rfl) (by rw [cell_of_row _ _ _ _ _ _ hgx]; rfl) HRX.out HG.out.tt HG.out.fr HG.out.nd HLE.out)
  clear hgx
  go_wp2_with fail
  refine HCA.out.mono ?_
  rintro e w5 ⟨O, b, spo, cpo, rfl, ho, _, hb⟩
  have HB5 := Lib.hid (HBX.out.trans (hb.mono HBX.out.size))
  have HX5 := Lib.hid hb
  clear hb HCA
  cases b with
  | true =>
    have HF : Hid (CycP (adj p n) N w (.returned (.slice none 0 0)) w5) := Lib.hid ⟨[], none, 0, rfl, .inl ⟨rfl, fun st l hst => by
      rcases ho with ⟨_, h1, h2⟩ | ⟨h, _⟩
      · exact no_round h1 h2 st l hst
      · cases h⟩, Nat.zero_le _, ⟨none, 0, rfl, fun h => absurd h (Nat.lt_irrefl _)⟩, HB5.out⟩
    clear ho
    go_wp2
    go_ret
    exact HF.out
  | false =>
    clear ho
    have c5 : w5.cell? ⟨g, 0, none⟩ = some (.slice (some ⟨gb true, 0, none⟩) N N) := by
      rw [cell_of_row _ _ _ _ _ _ ((HX5.out.block g (blk_lt HGX.out)).trans HGX.out)]; rfl
    go_wp2
    clear c5
    go_loopg [8, 9, 10, 11, 27] N (fun gk cyc bd _ _ i wr => ∃ (t bound cp : Nat) (sp : Option Addr) (C : List Nat), t ≤ N ∧ gk = N - t ∧ i = .int .i64 (t : Int) ∧ bd = .int .i64 (bound : Int) ∧ cyc = .slice sp C.length cp ∧ Hid (CyT (adj p n) N t C bound ∧ C.length ≤ N ∧ LsS wr (.slice sp C.length cp) C ∧ Below wx.heap.size wx wr))
    case atStart => exact ⟨0, N + 1, 0, none, [], Nat.zero_le _, rfl, rfl, by go_num, rfl, Lib.hid ⟨.inl ⟨rfl, rfl, fun st l h => absurd h (Nat.not_lt_zero _)⟩, Nat.zero_le _, ⟨none, 0, rfl, fun h => absurd h (Nat.lt_irrefl _)⟩, HX5.out⟩⟩
    case round =>
      obtain ⟨t, bound, cp, sp, C, ht, rfl, rfl, rfl, rfl, HT⟩ := hrel
      by_cases htN : t < N
      · have htN' : (t : Int) < (N : Int) := by omega
        have hbd := HT.out.1.le HT.out.2.1
        have hgr := (HT.out.2.2.2.block g (blk_lt HGX.out)).trans HGX.out
        have HCT := Lib.hid (through_any g N t (bound : Int) gb L (adj p n) wr hN4 htN (by omega) (by rw [cell_of_row _ _ _ _ _ _ hgr]; rfl) (by rw [cell_of_row _ _ _ _ _ _ hgr]; rfl) (HRX.out.below HT.out.2.2.2) HG.out.tt HG.out.up HG.out.fr HLE.out)
        clear hgr
        go_wp2_with fail
        refine HCT.out.mono ?_
        rintro e w6 ⟨D, sp6, cp6, rfl, hls, hD, hb⟩
        have HB6 := Lib.hid (HT.out.2.2.2.trans (hb.mono HT.out.2.2.2.size))
        rcases hD with ⟨rfl, hno⟩ | ⟨h0, hlt, hc, hm, hg⟩
        · have HN : Hid (CyT (adj p n) N (t + 1) C bound ∧ C.length ≤ N ∧ LsS w6 (.slice sp C.length cp) C ∧ Below wx.heap.size wx w6) := Lib.hid ⟨HT.out.1.miss hno, HT.out.2.1, HT.out.2.2.1.below hb, HB6.out⟩
          clear hno hls hb HCT
          go_wp2
          go_roundg (N - (t + 1))
          case measure => omega
          case rel => exact ⟨t + 1, bound, cp, sp, C, by omega, rfl, by go_num, rfl, rfl, HN⟩
        · have hDN : D.length ≤ N := by omega
          have h0' : (0 : Int) < (D.length : Int) := by omega
          have HN : Hid (CyT (adj p n) N (t + 1) D D.length ∧ D.length ≤ N ∧ LsS w6 (.slice sp6 D.length cp6) D ∧ Below wx.heap.size wx w6) := Lib.hid ⟨HT.out.1.hit h0 hlt hc hm hg hDN, hDN, hls, HB6.out⟩
          clear hc hm hg hls hb HCT
          go_wp2
          go_roundg (N - (t + 1))
          case measure => omega
          case rel => exact ⟨t + 1, D.length, cp6, sp6, D, by omega, rfl, by go_num, rfl, rfl, HN⟩
      · obtain rfl : t = N := by omega
        have HF : Hid (CycP (adj p n) t w (.returned (.slice sp C.length cp)) wr) := Lib.hid ⟨C, sp, cp, rfl, HT.out.1.fin, HT.out.2.1, HT.out.2.2.1, HBX.out.trans (HT.out.2.2.2.mono HBX.out.size)⟩
        go_wp2
        go_ret
        exact HF.out
end Go.Proofs.Ytcolcgkfppjflaa
