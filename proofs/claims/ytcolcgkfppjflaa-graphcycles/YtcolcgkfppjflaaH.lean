/-
  Contract of Is.
-/
import Derived.Test.YtcolcgkfppjflaaE
import Derived.Test.YtcolcgkfppjflaaG
namespace Go.Proofs.Ytcolcgkfppjflaa
open Go.ChangeShapes Go.WideShapes Go.ChangeAt Go.RowKit

def prevI (f : Nat → Int) (k t : Nat) : Int := f (if t = 0 then k - 1 else t - 1)
/-- so far so good -/
structure IsR (w0 w : World) (gm N k t : Nat) (A : Nat → Nat → Prop) (f : Nat → Int) (M : Nat → Bool) : Prop where
  met : MetS w w0.heap.size gm N M
  bel : Below w0.heap.size w0 w
  ok : ∀ i, i < t → 0 ≤ f i ∧ f i < N
  ne : ∀ i j, i < j → j < t → f i ≠ f j
  arc : ∀ i, i < t → A (prevI f k i).toNat (f i).toNat
  mt : ∀ x, x < N → (M x = true ↔ ∃ j, j < t ∧ f j = (x : Int))
theorem IsR.next {w0 w : World} {gm N k t y : Nat} {A : Nat → Nat → Prop} {f : Nat → Int} {M : Nat → Bool} (h : IsR w0 w gm N k t A f M) (hy : y < N) (e : f t = (y : Int)) (ha : A (prevI f k t).toNat y) (hm : M y = false) :
    IsR w0 (w.setCell ⟨gm, y, none⟩ (.bool true)) gm N k (t + 1) A f (fun x => if x = y then true else M x) := by
  refine ⟨h.met.set y true, h.bel.setCell (by exact h.met.lt.1) _, fun i hi => ?_, fun i j hij hj => ?_, fun i hi => ?_, fun x hx => ?_⟩
  · by_cases hit : i < t
    · exact h.ok i hit
    · obtain rfl : i = t := by omega
      omega
  · by_cases hjt : j < t
    · exact h.ne i j hij hjt
    · obtain rfl : j = t := by omega
      intro e2
      have := (h.mt y hy).2 ⟨i, hij, by rw [e2, e]⟩
      rw [hm] at this
      cases this
  · by_cases hit : i < t
    · exact h.arc i hit
    · obtain rfl : i = t := by omega
      rw [e]; simpa using ha
  · by_cases hxy : x = y
    · rw [if_pos hxy]
      exact ⟨fun _ => ⟨t, by omega, by rw [hxy]; exact e⟩, fun _ => rfl⟩
    · rw [if_neg hxy, h.mt x hx]
      constructor
      · rintro ⟨j, hj, e2⟩; exact ⟨j, by omega, e2⟩
      · rintro ⟨j, hj, e2⟩
        by_cases hjt : j < t
        · exact ⟨j, hjt, e2⟩
        · obtain rfl : j = t := by omega
          rw [e] at e2; omega

set_option maxRecDepth 100000 in
set_option maxHeartbeats 4000000 in
theorem is_any (z : Int) (N : Nat) (a : Option Addr) (n cap : Nat) (p : Nat → Int × Int) (c : Option Addr) (k kc : Nat) (f : Nat → Int) (b : Bool) (w : World) (hN : min (max z 0) 400 = (N : Int)) (hn : n ≤ 1000) (hs : PsS w a n p) (hc : IsS w c k f) (hk : k ≤ 100000) (hb : b = true ↔ Cyc N k (adj p n) f) :
    Calls Try.prog 22 #[.int .i64 z, .slice a n cap, .slice c k kc] w (fun e w' => e = .returned (.bool b) ∧ Below w.heap.size w w') := by
  have HNET := Lib.hid (net_any z N a n cap p w hN hn hs)
  have HB := Lib.hid hb
  have HC := Lib.hid hc
  have hN4 : N ≤ 400 := by omega
  clear hN hs hb hc
  by_cases hk0 : k = 0
  · subst hk0
    obtain rfl : b = false := by
      cases b with
      | false => rfl
      | true => exact absurd (HB.out.1 rfl).1 (Nat.lt_irrefl _)
    go_enter Try.func22, Try.ntmps22
    go_wp2_with (go_at_call 24; refine HNET.out.mono ?_; rintro e w1 ⟨gb, L, rfl, hR, hG, hbel⟩; have HBL := Lib.hid hbel; clear hR hG hbel)
    go_ret
    exact ⟨rfl, HBL.out.alloc HBL.out.size _⟩
  · have hk0' : ((k : Int) == 0) = false := by simp; omega
    by_cases hkN : N < k
    · obtain rfl : b = false := by
        cases b with
        | false => rfl
        | true => exact absurd (HB.out.1 rfl).le (by omega)
      have hkN' : (N : Int) < (k : Int) := by omega
      go_enter Try.func22, Try.ntmps22
      go_wp2_with (go_at_call 24; refine HNET.out.mono ?_; rintro e w1 ⟨gb, L, rfl, hR, hG, hbel⟩; have HBL := Lib.hid hbel; clear hR hG hbel)
      go_ret
      exact ⟨rfl, HBL.out.alloc HBL.out.size _⟩
    · have hkN' : ¬ (N : Int) < (k : Int) := by omega
      have hkd : decide ((N : Int) < (k : Int)) = false := by simp; omega
      obtain ⟨cb, co, rfl, hcl, hci⟩ := HC.out (by omega)
      obtain ⟨md, hmd⟩ : ∃ md, md = madeCells #[.bool false] N := ⟨_, rfl⟩
      have hmb := makeB N (by omega) md hmd
      have HMD := Lib.hid hmd
      have HCI := Lib.hid hci
      clear hmd hci HC
      have hk1 : (1 : Int) ≤ (k : Int) := by omega
      go_enter Try.func22, Try.ntmps22
      go_upto_region 4 with (go_at_call 24; refine HNET.out.mono ?_; rintro e w1 ⟨gb, L, rfl, hR, hG, hbel⟩; have HBL := Lib.hid hbel; have HR := Lib.hid hR; have HG := Lib.hid hG; clear hR hG hbel)
      have HBX := Lib.hid (HBL.out.alloc HBL.out.size (.cells #[.slice (some ⟨gb true, 0, none⟩) N N, .slice (some ⟨gb false, 0, none⟩) N N] 47))
      have HRX := Lib.hid (HR.out.below ((Below.refl w1.heap.size w1).alloc (Nat.le_refl _) (.cells #[.slice (some ⟨gb true, 0, none⟩) N N, .slice (some ⟨gb false, 0, none⟩) N N] 47)))
      have hgx := heap_alloc_new w1 (.cells #[.slice (some ⟨gb true, 0, none⟩) N N, .slice (some ⟨gb false, 0, none⟩) N N] 47)
      obtain ⟨wx, ewx⟩ : ∃ wx, wx = w1.alloc (.cells #[.slice (some ⟨gb true, 0, none⟩) N N, .slice (some ⟨gb false, 0, none⟩) N N] 47) := ⟨_, rfl⟩
      obtain ⟨g, eg⟩ : ∃ g, g = w1.heap.size := ⟨_, rfl⟩
      rw [← ewx] at HBX HRX
      rw [← ewx, ← eg] at hgx
      rw [← ewx, ← eg]
      have hgw : w.heap.size ≤ g := by rw [eg]; exact HBL.out.size
      clear ewx eg HBL HR HNET
      have g0 : wx.cell? ⟨g, 0, none⟩ = some (.slice (some ⟨gb true, 0, none⟩) N N) := by rw [cell_of_row _ _ _ _ _ _ hgx]; rfl
      have HGX := Lib.hid hgx
      clear hgx
      have hx : Below wx.heap.size wx (wx.alloc (.cells md 4)) := (Below.refl _ _).alloc (Nat.le_refl _) _
      have cl : (wx.alloc (.cells md 4)).cell? ⟨cb, co + (k - 1), none⟩ = some (.int .i64 (f (k - 1))) := ((HBX.out.trans (hx.mono HBX.out.size)).cell (p := ⟨cb, co + (k - 1), none⟩) hcl).trans (HCI.out (k - 1) (by omega))
      have hk2 : ((k : Int) - 1).toNat = k - 1 := by omega
      have HX := Lib.hid hx
      clear hx
      have hxg : (wx.alloc (.cells md 4)).cell? ⟨g, 0, none⟩ = some (.slice (some ⟨gb true, 0, none⟩) N N) := (HX.out.cell (p := ⟨g, 0, none⟩) (by exact blk_lt HGX.out)).trans g0
      obtain ⟨la, hla⟩ : ∃ la, la = f (k - 1) := ⟨_, rfl⟩
      rw [← hla] at cl
      have HLA := Lib.hid hla
      clear hla
      by_cases hlo : la < 0
      · obtain rfl : b = false := by
          cases b with
          | false => rfl
          | true => have := (HB.out.1 rfl).2.1 (k - 1) (by omega); rw [← HLA.out] at this; omega
        go_wp2
        go_ret
        exact ⟨rfl, HBX.out.trans (HX.out.mono HBX.out.size)⟩
      · have hlo' : decide (la < 0) = false := by simp; omega
        by_cases hhi : (N : Int) ≤ la
        · obtain rfl : b = false := by
            cases b with
            | false => rfl
            | true => have := (HB.out.1 rfl).2.1 (k - 1) (by omega); rw [← HLA.out] at this; omega
          go_wp2
          go_ret
          exact ⟨rfl, HBX.out.trans (HX.out.mono HBX.out.size)⟩
        · have hhi' : decide ((N : Int) ≤ la) = false := by simp; omega
          have HIR : Hid (IsR w (wx.alloc (.cells md 4)) wx.heap.size N k 0 (adj p n) f (fun _ => false) ∧ Below wx.heap.size wx (wx.alloc (.cells md 4))) := Lib.hid ⟨⟨by rw [HMD.out]; exact MetS.made hN4 HBX.out.size, HBX.out.trans (HX.out.mono HBX.out.size), fun i hi => absurd hi (Nat.not_lt_zero _), fun i j _ hj => absurd hj (Nat.not_lt_zero _), fun i hi => absurd hi (Nat.not_lt_zero _), fun x _ => ⟨fun e => (by cases e), fun ⟨j, hj, _⟩ => absurd hj (Nat.not_lt_zero _)⟩⟩, HX.out⟩
          have HLR : Hid (0 ≤ la ∧ la < N) := Lib.hid ⟨by omega, by omega⟩
          go_wp2
          clear cl hxg g0 hlo hlo' hhi hhi'
          go_loopw [6, 9, 11, 47] (fun _ l _ i wr => ∃ (t : Nat) (M : Nat → Bool), t ≤ k ∧ i = .int .i64 (t : Int) ∧ l = .int .i64 (prevI f k t) ∧ Hid (IsR w wr wx.heap.size N k t (adj p n) f M ∧ Below wx.heap.size wx wr)) (fun _ _ _ i _ => k - (intOf i).toNat)
          case atStart => exact ⟨0, _, Nat.zero_le _, rfl, by rw [HLA.out]; rfl, HIR⟩
          case round =>
            obtain ⟨t, M, ht, rfl, rfl, HT⟩ := hrel
            clear HIR HX hmb
            by_cases htk : t < k
            · have htk' : (t : Int) < (k : Int) := by omega
              have hpr : 0 ≤ prevI f k t ∧ prevI f k t < N := by
                unfold prevI
                by_cases h0 : t = 0
                · rw [if_pos h0, ← HLA.out]; exact HLR.out
                · rw [if_neg h0]; exact HT.out.1.ok (t - 1) (by omega)
              obtain ⟨l, hl⟩ : ∃ l : Nat, prevI f k t = (l : Int) := ⟨(prevI f k t).toNat, by omega⟩
              have hlN : l < N := by omega
              have hlN' : (l : Int) < (N : Int) := by omega
              rw [hl]
              have HPL := Lib.hid hl
              clear hl hpr
              have cx : wr.cell? ⟨cb, co + t, none⟩ = some (.int .i64 (f t)) := (HT.out.1.bel.cell (p := ⟨cb, co + t, none⟩) hcl).trans (HCI.out t htk)
              have hgl := blk_lt HGX.out
              have cg : wr.cell? ⟨g, 0, none⟩ = some (.slice (some ⟨gb true, 0, none⟩) N N) := by
                rw [cell_of_row _ _ _ _ _ _ ((HT.out.2.block g hgl).trans HGX.out)]; rfl
              obtain ⟨v, hv, hLs⟩ := (HRX.out.below HT.out.2).row true l hlN
              have HLS := Lib.hid hLs
              have hle : (L true l).length ≤ 100000 := Nat.le_trans (HG.out.le true l hlN) (by omega)
              clear hLs hgl
              obtain ⟨x, hx⟩ : ∃ x, x = f t := ⟨_, rfl⟩
              rw [← hx] at cx
              have HXF := Lib.hid hx
              clear hx
              by_cases hin : ∃ y ∈ L true l, (y : Int) = x
              · obtain ⟨y, hy, rfl⟩ := hin
                have hyN := ((HG.out.tt l hlN y).1 hy).1
                have hyA := ((HG.out.tt l hlN y).1 hy).2
                have HCO := Lib.hid (contains_any wr v (L true l) (y : Int) true HLS.out hle ⟨fun _ => ⟨y, hy, rfl⟩, fun _ => rfl⟩)
                have hyN' : (y : Int) < (N : Int) := by omega
                have HYA := Lib.hid hyA
                clear hy hyA
                have cm := HT.out.1.met.cell hyN
                have fm := HT.out.1.met.fz y
                cases hM : M y with
                | true =>
                  rw [hM] at cm
                  obtain rfl : b = false := by
                    cases b with
                    | false => rfl
                    | true =>
                      obtain ⟨j, hj, e⟩ := (HT.out.1.mt y hyN).1 hM
                      exact absurd (e.trans HXF.out) ((HB.out.1 rfl).2.2.1 j t hj htk)
                  clear hM
                  go_wp2_with (go_at_call 29; refine HCO.out.mono ?_; rintro e w' ⟨rfl, rfl⟩)
                  go_ret
                  exact ⟨rfl, HT.out.1.bel⟩
                | false =>
                  rw [hM] at cm
                  have HN := Lib.hid (HT.out.1.next hyN HXF.out.symm (by rw [HPL.out]; exact HYA.out) hM)
                  have HN2 := Lib.hid (HT.out.2.setCell (p := ⟨wx.heap.size, y, none⟩) (Nat.le_refl _) (.bool true))
                  have HPE : Hid (prevI f k (t + 1) = (y : Int)) := Lib.hid (by unfold prevI; rw [if_neg (by omega)]; exact HXF.out.symm)
                  clear hM
                  go_wp2_with (go_at_call 29; refine HCO.out.mono ?_; rintro e w' ⟨rfl, rfl⟩)
                  go_roundw
                  case rel => exact ⟨t + 1, _, by omega, by go_num, by rw [HPE.out], Lib.hid ⟨HN.out, HN2.out⟩⟩
                  case measure => simp [intOf]; omega
              · obtain rfl : b = false := by
                  cases b with
                  | false => rfl
                  | true =>
                    have hcy := HB.out.1 rfl
                    have h1 := hcy.2.1 t htk
                    have h2 := hcy.2.2.2 t htk
                    rw [← HXF.out] at h1 h2
                    have h3 : (f (if t = 0 then k - 1 else t - 1)).toNat = l := by have := HPL.out; unfold prevI at this; rw [this]; rfl
                    rw [h3] at h2
                    exact absurd ⟨x.toNat, (HG.out.tt l hlN x.toNat).2 ⟨by omega, h2⟩, by omega⟩ hin
                have HCO := Lib.hid (contains_any wr v (L true l) x false HLS.out hle ⟨fun e => (by cases e), fun e => absurd e hin⟩)
                clear hin
                go_wp2_with (go_at_call 29; refine HCO.out.mono ?_; rintro e w' ⟨rfl, rfl⟩)
                go_ret
                exact ⟨rfl, HT.out.1.bel⟩
            · obtain rfl : t = k := by omega
              obtain rfl : b = true := HB.out.2 ⟨by omega, HT.out.1.ok, HT.out.1.ne, HT.out.1.arc⟩
              go_wp2
              go_ret
              exact ⟨rfl, HT.out.1.bel⟩
end Go.Proofs.Ytcolcgkfppjflaa
