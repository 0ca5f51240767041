/-
  Contract of Reach.
-/
import Derived.Test.YtcolcgkfppjflaaM
import Derived.Test.YtcolcgkfppjflaaE
namespace Go.Proofs.Ytcolcgkfppjflaa
open Go.ChangeShapes Go.WideShapes Go.ChangeAt Go.RowKit
set_option linter.unusedVariables false

theorem TabM.put {w0 w w' : World} {g N t gm : Nat} {rb : Nat → Nat} {T : Nat → Nat → Bool} {M : Nat → Bool} (h : TabM w0 w g N t rb T) (ht : t < N) (hb : Below w.heap.size w w') (hm : MetS w' w.heap.size gm N M) :
    TabM w0 (w'.setCell ⟨g, t, none⟩ (.slice (some ⟨gm, 0, none⟩) N N)) g N (t + 1) (fun i => if i = t then gm else rb i) (fun i => if i = t then M else T i) := by
  have h1 := h.below hb
  obtain ⟨k1, k2⟩ := h1.top.stored t (.slice (some ⟨gm, 0, none⟩) N N)
  have hg := h.topAt.1
  have hgm := hm.lt
  have hst : ∀ q, q ≠ g → (w'.setCell ⟨g, t, none⟩ (.slice (some ⟨gm, 0, none⟩) N N)).heap[q]? = w'.heap[q]? := fun q hq => Below.heap_setCell _ _ _ _ hq
  refine ⟨?_, fun i hi => ?_, fun i j hi hj e => ?_, h1.bel.setCell (by exact h.topAt.2.1) _⟩
  · rw [rowV_set] at k1
    have e : (fun x => if x = t then Value.slice (some ⟨gm, 0, none⟩) N N else if x < t then .slice (some ⟨rb x, 0, none⟩) N N else .slice none 0 0) = fun i => if i < t + 1 then Value.slice (some ⟨if i = t then gm else rb i, 0, none⟩) N N else .slice none 0 0 := by
      funext x
      by_cases hx : x = t
      · rw [if_pos hx, if_pos (by omega), if_pos hx]
      · rw [if_neg hx, if_neg hx]
        by_cases hx2 : x < t
        · rw [if_pos hx2, if_pos (by omega)]
        · rw [if_neg hx2, if_neg (by omega)]
    rw [e] at k1
    exact k1
  · by_cases hit : i = t
    · rw [if_pos hit, if_pos hit]
      have h3 : MetS w' w0.heap.size gm N M := by
        refine ⟨hm.1, ?_⟩
        rcases hm.2 with h0 | ⟨g', cap, cur, hv, hg', hrest⟩
        · exact .inl h0
        · exact .inr ⟨g', cap, cur, hv, Nat.le_trans h.bel.size hg', hrest⟩
      exact h3.keep (hst _ (by omega))
    · rw [if_neg hit, if_neg hit]
      have h2 := h1.met i (by omega)
      refine h2.keep (hst _ (fun e => ?_))
      obtain ⟨cur, e2⟩ := h1.topAt.2.2
      obtain ⟨cur', e3⟩ := own_cells h2 (g := rb i) rfl
      rw [e, e2] at e3
      injection e3 with e3
      injection e3 with _ e3 _
      cases e3
  · by_cases hit : i = t
    · by_cases hjt : j = t
      · rw [hit, hjt]
      · rw [if_pos hit, if_neg hjt] at e
        have := (h.met j (by omega)).lt.2
        omega
    · by_cases hjt : j = t
      · rw [if_neg hit, if_pos hjt] at e
        have := (h.met i (by omega)).lt.2
        omega
      · rw [if_neg hit, if_neg hjt] at e
        exact h.dj i j (by omega) (by omega) e
theorem TabM.mono {w0 w1 w : World} {g N t : Nat} {rb : Nat → Nat} {T : Nat → Nat → Bool} (h : TabM w1 w g N t rb T) (hb : Below w0.heap.size w0 w1) : Below w0.heap.size w0 w := hb.trans (h.bel.mono hb.size)
def ReachP (p : Nat → Int × Int) (n N : Nat) (w : World) (e : Ending) (w' : World) : Prop :=
  ∃ g rb T, e = .returned (.slice (some ⟨g, 0, none⟩) N N) ∧ TabR w' g N rb T ∧ (∀ i j, i < N → j < N → (T i j = true ↔ Way (adj p n) N i j)) ∧ Below w.heap.size w w'

set_option maxRecDepth 100000 in
set_option maxHeartbeats 4000000 in
theorem reach_any (z : Int) (N : Nat) (a : Option Addr) (n cap : Nat) (p : Nat → Int × Int) (w : World) (hN : min (max z 0) 400 = (N : Int)) (hn : n ≤ 1000) (hs : PsS w a n p) :
    Calls Try.prog 11 #[.int .i64 z, .slice a n cap] w (ReachP p n N w) := by
  have HNET := Lib.hid (net_any z N a n cap p w hN hn hs)
  have hN4 : N ≤ 400 := by omega
  obtain ⟨mc, hmc⟩ : ∃ mc, mc = madeCells #[.slice none 0 0] N := ⟨_, rfl⟩
  have hmk := makeT N (by omega) mc hmc
  have HMC := Lib.hid hmc
  clear hN hs hmc
  go_enter Try.func11, Try.ntmps11
  go_upto_region 2 with (go_at_call 24; refine HNET.out.mono ?_; rintro e w1 ⟨gb, L, rfl, hR, hG, hbel⟩; have HBL := Lib.hid hbel; have HR := Lib.hid hR; have HG := Lib.hid hG; clear hR hG hbel)
  have HBX := Lib.hid (HBL.out.alloc HBL.out.size (.cells #[.slice (some ⟨gb true, 0, none⟩) N N, .slice (some ⟨gb false, 0, none⟩) N N] 47))
  have HRX := Lib.hid (HR.out.below ((Below.refl w1.heap.size w1).alloc (Nat.le_refl _) (.cells #[.slice (some ⟨gb true, 0, none⟩) N N, .slice (some ⟨gb false, 0, none⟩) N N] 47)))
  have hgx := heap_alloc_new w1 (.cells #[.slice (some ⟨gb true, 0, none⟩) N N, .slice (some ⟨gb false, 0, none⟩) N N] 47)
  obtain ⟨wx, ewx⟩ : ∃ wx, wx = w1.alloc (.cells #[.slice (some ⟨gb true, 0, none⟩) N N, .slice (some ⟨gb false, 0, none⟩) N N] 47) := ⟨_, rfl⟩
  obtain ⟨g, eg⟩ : ∃ g, g = w1.heap.size := ⟨_, rfl⟩
  rw [← ewx] at HBX HRX
  rw [← ewx, ← eg] at hgx
  rw [← ewx, ← eg]
  clear ewx eg HBL HR HNET
  have g0 : wx.cell? ⟨g, 0, none⟩ = some (.slice (some ⟨gb true, 0, none⟩) N N) := by rw [cell_of_row _ _ _ _ _ _ hgx]; rfl
  have HGX := Lib.hid hgx
  have HT0 : Hid (TabM wx (wx.alloc (.cells mc 28)) wx.heap.size N 0 (fun _ => 0) (fun _ _ => false)) := Lib.hid (TabM.start hN4 (Below.refl _ _) HMC.out)
  clear hgx
  go_wp2
  clear hmk g0
  obtain ⟨wc, ewc⟩ : ∃ wc, wc = wx.alloc (.cells mc 28) := ⟨_, rfl⟩
  obtain ⟨gt, egt⟩ : ∃ gt, gt = wx.heap.size := ⟨_, rfl⟩
  rw [← ewc] at HT0 ⊢
  have HT1 : Hid (TabM wx wc gt N 0 (fun _ => 0) (fun _ _ => false)) := Lib.hid (by rw [egt]; exact HT0.out)
  rw [← egt]
  clear ewc egt HT0
  go_loopw [7, 17] (fun _ i wr => ∃ (t : Nat) (rb : Nat → Nat) (T : Nat → Nat → Bool), t ≤ N ∧ i = .int .i64 (t : Int) ∧ Hid (TabM wx wr gt N t rb T ∧ ∀ i j, i < t → j < N → (T i j = true ↔ Way (fun i j => j ∈ L true i) N i j))) (fun _ i _ => N - (intOf i).toNat)
  case atStart => exact ⟨0, _, _, Nat.zero_le _, rfl, Lib.hid ⟨HT1.out, fun i _ hi => absurd hi (Nat.not_lt_zero _)⟩⟩
  case round =>
    obtain ⟨t, rb, T, ht, rfl, HT⟩ := hrel
    clear HT1
    by_cases hlt : t < N
    · have hlt' : (t : Int) < (N : Int) := by omega
      have cg : wr.cell? ⟨g, 0, none⟩ = some (.slice (some ⟨gb true, 0, none⟩) N N) := by
        rw [cell_of_row _ _ _ _ _ _ ((HT.out.1.bel.block g (blk_lt HGX.out)).trans HGX.out)]; rfl
      have HCA := Lib.hid (reached_any g N t gb L wr hN4 hlt cg (HRX.out.below HT.out.1.bel) (fun i hi j hj => ((HG.out.tt i hi j).1 hj).1) (fun i hi => Nat.le_trans (HG.out.le true i hi) (by omega)))
      clear cg
      go_wp2_with fail
      refine HCA.out.mono ?_
      rintro e w5 ⟨gm, M, rfl, hm, hw, hb⟩
      have HPU := Lib.hid (HT.out.1.put hlt hb hm)
      have HSP : Hid (∀ i j, i < t + 1 → j < N → ((if i = t then M else T i) j = true ↔ Way (fun i j => j ∈ L true i) N i j)) := Lib.hid fun i j hi hj => by
        by_cases h : i = t
        · rw [if_pos h, h]; exact hw j hj
        · rw [if_neg h]; exact HT.out.2 i j (by omega) hj
      have h1 := HT.out.1.below hb
      obtain ⟨c0, f0⟩ : (∃ v, w5.cell? ⟨gt, t, none⟩ = some v) ∧ w5.frozen? ⟨gt, t, none⟩ = false := ⟨⟨_, (h1.top.cellAt t (by omega)).trans (rowV_get _ _ _ hlt)⟩, h1.top.frozenAt t⟩
      obtain ⟨v0, c0⟩ := c0
      clear h1 hm hw hb HCA
      go_wp2
      go_roundw
      case rel => exact ⟨t + 1, _, _, by omega, by go_num, Lib.hid ⟨HPU.out, HSP.out⟩⟩
      case measure => simp [intOf]; omega
    · obtain rfl : t = N := by omega
      go_wp2
      go_ret
      refine ⟨gt, rb, T, rfl, HT.out.1.read, fun i j hi hj => ?_, HT.out.1.mono HBX.out⟩
      rw [HT.out.2 i j hi hj]
      exact ⟨Way.mono (fun i j hi hj h => ((HG.out.tt i hi j).1 h).2), Way.mono (fun i j hi hj h => (HG.out.tt i hi j).2 ⟨hj, h⟩)⟩
end Go.Proofs.Ytcolcgkfppjflaa
