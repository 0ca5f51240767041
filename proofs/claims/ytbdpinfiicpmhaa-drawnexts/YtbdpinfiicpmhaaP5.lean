/-
  Contract of some: what is made at once.
-/
import Derived.Test.YtbdpinfiicpmhaaP4
import Derived.Laws.Cover1
import Derived.Laws.BitsLemmas
namespace Go.Proofs.Ytbdpinfiicpmhaa
open Go.ChangeShapes Go.WideShapes Go.ChangeAt Go.RowKit RefMath

theorem own_mono {w : World} {base base' e size n : Nat} {v : Value} {xs : List Value} (h : w.ownsRow base e size v n xs) (hb : base' ≤ base) : w.ownsRow base' e size v n xs := by
  refine ⟨h.1, ?_⟩
  rcases h.2 with h0 | ⟨g, cap, cur, hv, hg, hrest⟩
  · exact .inl h0
  · exact .inr ⟨g, cap, cur, hv, Nat.le_trans hb hg, hrest⟩
theorem wrapI (n : Int) (h : -9223372036854775808 ≤ n) (h' : n ≤ 9223372036854775807) : IntKind.i64.wrap n = n := by rw [IntKind.wrap_i64]; omega
theorem wt_ok {z : Int} (h : wOk z) : ((wt z : Nat) : Int) = z := wt_mid z h.1 (by have := h.2; omega)
theorem cum_psum {p : Pl} (hp : p.right) : ∀ k, k ≤ 4 → ((cum (wts p) k : Nat) : Int) = psum p k := by
  intro k
  induction k with
  | zero => intro _; rfl
  | succ k ih =>
    intro hk
    have h1 := ih (by omega)
    have h2 := wt_ok (wts_right hp k (by omega))
    show ((cum (wts p) k + wt (wts p k) : Nat) : Int) = psum p k + wts p k
    omega
theorem psums (p : Pl) : psum p 0 = 0 ∧ psum p 1 = p.r ∧ psum p 2 = p.r + p.w ∧ psum p 3 = p.r + p.w + p.b ∧ psum p 4 = p.sum := by
  refine ⟨rfl, ?_, ?_, ?_, psum4 p⟩
  · show 0 + wts p 0 = _; simp [wts]
  · show 0 + wts p 0 + wts p 1 = _; simp [wts]
  · show 0 + wts p 0 + wts p 1 + wts p 2 = _; simp [wts]
/-- which kind a draw says -/
theorem kinds {p : Pl} (hp : p.right) {x : Nat} (hx : (x : Int) < p.sum) :
    ((x : Int) < p.r ∧ ((place (wts p) x 4 : Nat) : Int) = 0) ∨ (¬ (x : Int) < p.r ∧ (x : Int) < p.r + p.w ∧ ((place (wts p) x 4 : Nat) : Int) = 1) ∨
    (¬ (x : Int) < p.r ∧ ¬ (x : Int) < p.r + p.w ∧ (x : Int) < p.r + p.w + p.b ∧ ((place (wts p) x 4 : Nat) : Int) = 2) ∨
    (¬ (x : Int) < p.r ∧ ¬ (x : Int) < p.r + p.w ∧ ¬ (x : Int) < p.r + p.w + p.b ∧ ((place (wts p) x 4 : Nat) : Int) = 3) := by
  obtain ⟨e0, e1, e2, e3, e4⟩ := psums p
  have c0 := cum_psum hp 0 (by omega)
  have c1 := cum_psum hp 1 (by omega)
  have c2 := cum_psum hp 2 (by omega)
  have c3 := cum_psum hp 3 (by omega)
  have c4 := cum_psum hp 4 (by omega)
  have := hp.r.1; have := hp.w.1; have := hp.b.1
  by_cases h1 : (x : Int) < p.r
  · exact .inl ⟨h1, by rw [place_here (wts p) x 0 4 (by omega) (show x < cum (wts p) 1 by omega) (by omega)]; rfl⟩
  · by_cases h2 : (x : Int) < p.r + p.w
    · exact .inr (.inl ⟨h1, h2, by rw [place_here (wts p) x 1 4 (by omega) (show x < cum (wts p) 2 by omega) (by omega)]; rfl⟩)
    · by_cases h3 : (x : Int) < p.r + p.w + p.b
      · exact .inr (.inr (.inl ⟨h1, h2, h3, by rw [place_here (wts p) x 2 4 (by omega) (show x < cum (wts p) 3 by omega) (by omega)]; rfl⟩))
      · exact .inr (.inr (.inr ⟨h1, h2, h3, by rw [place_here (wts p) x 3 4 (by omega) (show x < cum (wts p) 4 by omega) (by omega)]; rfl⟩))

/-- who makes operations of a generator's -/
def SmP (g : Nat) (p : Pl) (c : Int) (r : List O3 × Nat × Nat) (w : World) (e : Ending) (w' : World) : Prop :=
  ∃ sp cp, e = .returned (.slice sp r.1.length cp) ∧ w'.ownsRow w.heap.size 45 3 (.slice sp r.1.length cp) r.1.length (rowL r.1) ∧ GenS w' g p c r.2.1 r.2.2 ∧ Chg w g w'
theorem sm_lit {g : Nat} {p : Pl} {c : Int} {l : List O3} {st n : Nat} {w w1 : World} (hl : l.length ≤ 1000) (hs : GenS w1 g p c st n) (hc : Chg w g w1) :
    SmP g p c (l, st, n) w (.returned (.slice (some ⟨w1.heap.size, 0, none⟩) l.length l.length)) (w1.alloc (.cells (rowL l).toArray 45)) :=
  ⟨_, _, rfl, own_lit w1 l w.heap.size hc.size hl, hs.below ((Below.refl _ _).alloc (Nat.le_refl _) _), hc.trans (Chg.of_below ((Below.refl _ _).alloc (Nat.le_refl _) _))⟩

set_option maxRecDepth 100000 in
set_option maxHeartbeats 2000000 in
theorem some_any (g : Nat) (p : Pl) (c : Int) (st n : Nat) (room : Int) (w : World) (hp : p.right) (hc1 : 1 ≤ c) (hc2 : c ≤ 16) (hn : n ≤ 100000) (hr1 : 1 ≤ room) (hr2 : room ≤ 12) (hg : GenS w g p c st n) :
    Calls Try.prog 21 #[.pointer (some ⟨g, 0, none⟩), .int .i64 room] w (SmP g p c (smO p c st n room) w) := by
  have HG := Lib.hid hg
  have HP := Lib.hid hp
  have hgl := heap_lt hg
  have hkk := drawn_in hp st
  have hk2 := hp.k2
  obtain ⟨⟨c0, c1, c2, c3, c4, c5, c6, c7, c8⟩, hf⟩ := cells9 hg
  have hf7 := hf 7
  have hf8 := hf 8
  clear hf hg hp
  obtain ⟨x, hx⟩ : ∃ x : Nat, drawn (MixMath.nxt st) p.sum = (x : Int) := ⟨(drawn (MixMath.nxt st) p.sum).toNat, by have := drawn_nonneg (MixMath.nxt st) p.sum; omega⟩
  have hxs : (x : Int) < p.sum := by have := drawn_lt (MixMath.nxt st) p.sum HP.out.pos; omega
  have HKI := Lib.hid (kinds HP.out hxs)
  have HX := Lib.hid hx
  have HXC : Hid (drawn (MixMath.nxt st) ((cum (wts p) 4 : Nat) : Int) = (x : Int)) := Lib.hid (by rw [cum_psum HP.out 4 (by omega), psum4]; exact HX.out)
  have hkey := drawn_in HP.out st
  obtain ⟨s1, hs1⟩ : ∃ s1, s1 = MixMath.nxt st := ⟨_, rfl⟩
  obtain ⟨s2, hs2⟩ : ∃ s2, s2 = MixMath.nxt s1 := ⟨_, rfl⟩
  obtain ⟨key, hky⟩ : ∃ key, key = drawn st p.keys := ⟨_, rfl⟩
  have HR0 : Hid ((x : Int) < p.r → smO p c st n room = ([rdO key], s2, n)) := Lib.hid fun h => by unfold smO; dsimp only; rw [HX.out, if_pos h, hs2, hs1, hky]
  have HR1 : Hid (¬ (x : Int) < p.r → (x : Int) < p.r + p.w → smO p c st n room = ([wrO c key (n + 1)], s2, n + 1)) := Lib.hid fun h h1 => by unfold smO; dsimp only; rw [HX.out, if_neg h, if_pos h1, hs2, hs1, hky]
  have HR2 : Hid (¬ (x : Int) < p.r → ¬ (x : Int) < p.r + p.w → (x : Int) < p.r + p.w + p.b → 1 < room → smO p c st n room = ([rdO key, wrO c key (n + 1)], s2, n + 1)) := Lib.hid fun h h1 h2 h3 => by unfold smO; dsimp only; rw [HX.out, if_neg h, if_neg h1, if_pos h2, if_pos h3, hs2, hs1, hky]
  have HR3 : Hid (¬ (x : Int) < p.r → ¬ (x : Int) < p.r + p.w → (x : Int) < p.r + p.w + p.b → ¬ 1 < room → smO p c st n room = ([rdO key], s2, n)) := Lib.hid fun h h1 h2 h3 => by unfold smO; dsimp only; rw [HX.out, if_neg h, if_neg h1, if_pos h2, if_neg h3, hs2, hs1, hky]
  obtain ⟨m, hmm⟩ : ∃ m, m = (min (min (1 + drawn s2 3) room) (p.keys - key)).toNat := ⟨_, rfl⟩
  obtain ⟨s3, hs3⟩ : ∃ s3, s3 = MixMath.nxt s2 := ⟨_, rfl⟩
  have HR4 : Hid (¬ (x : Int) < p.r → ¬ (x : Int) < p.r + p.w → ¬ (x : Int) < p.r + p.w + p.b → smO p c st n room = (scanL key m, s3, n)) := Lib.hid fun h h1 h2 => by unfold smO; dsimp only; rw [HX.out, if_neg h, if_neg h1, if_neg h2, hmm, hs3, hs2, hs1, hky]
  have HMM := Lib.hid hmm
  have HE3 := Lib.hid hs3
  clear hmm hs3
  rw [← hky] at hkk
  rw [← hs1] at HXC
  have HS1 : Hid (s1 < 18446744073709551616) := Lib.hid (by rw [hs1]; exact MixMath.nxt_lt' _)
  have HS2 : Hid (s2 < 18446744073709551616) := Lib.hid (by rw [hs2]; exact MixMath.nxt_lt' _)
  have HE1 := Lib.hid hs1
  have HE2 := Lib.hid hs2
  have HKY := Lib.hid hky
  clear hs1 hs2 hky hx hxs HX hkey
  generalize smO p c st n room = r at *
  go_enter Try.func21, Try.ntmps21
  go_wp2
  go_region_with (go_at_call 20; refine (below_all g 7 st _ (by omega) _ (by simpa using c7) (by simpa using hf7)).mono ?_; rw [← HKY.out, ← HE1.out]; rintro e w' ⟨rfl, rfl⟩)
  have HGA : Hid (GenS (w.setCell ⟨g, 7, none⟩ (.int .u64 (s1 : Int))).drew g p c s1 n) := Lib.hid (HG.out.drawn s1)
  have HCA : Hid (Chg w g (w.setCell ⟨g, 7, none⟩ (.int .u64 (s1 : Int))).drew) := Lib.hid ((Chg.set g 7 _).trans (Chg.of_below (Below.refl _ _).drew))
  generalize (w.setCell ⟨g, 7, none⟩ (.int .u64 (s1 : Int))).drew = wA at *
  clear c0 c1 c2 c3 c4 c5 c6 c7 c8 hf7 hf8
  obtain ⟨⟨c0, c1, c2, c3, c4, c5, c6, c7, c8⟩, hf⟩ := cells9 HGA.out
  have hgA := heap_lt HGA.out
  clear hf
  go_wp2
  go_region_with (first
    | (go_at_call 19; refine (weights_any p _).mono ?_; rintro e wB ⟨q, rfl, hq, hql, hqc, hb⟩; have HQC := Lib.hid hqc; have HB := Lib.hid ((Below.refl wA.heap.size wA).drew.trans hb); have HGB := Lib.hid (HGA.out.below HB.out); have hgB := heap_lt HGB.out; clear hqc hb)
    | (go_at_call 27; refine (weigh_any g 7 s1 q 0 4 4 (wts p) _ (by omega) (cells9 HGB.out).1.2.2.2.2.2.2.2.1 ((cells9 HGB.out).2 7) HQC.out (by have hq' : wA.heap.size ≤ q := hq; omega) x HXC.out).mono ?_; rw [← HE2.out]; rintro e w' ⟨rfl, rfl⟩))
  have HGC : Hid (GenS (wB.setCell ⟨g, 7, none⟩ (.int .u64 (s2 : Int))) g p c s2 n) := Lib.hid (HGB.out.drawn s2)
  have HCC : Hid (Chg w g (wB.setCell ⟨g, 7, none⟩ (.int .u64 (s2 : Int)))) := Lib.hid ((HCA.out.trans (Chg.of_below HB.out)).trans (Chg.set g 7 _))
  generalize (wB.setCell ⟨g, 7, none⟩ (.int .u64 (s2 : Int))) = wC at *
  clear c0 c1 c2 c3 c4 c5 c6 c7 c8 hq hql HQC HB HGB hgB hgA HGA HCA
  have hnn : n ≤ 1000000 := by omega
  have hcl := heap_lt HGC.out
  rcases HKI.out with ⟨k0, ek⟩ | ⟨k0, k1, ek⟩ | ⟨k0, k1, k2, ek⟩ | ⟨k0, k1, k2, ek⟩
  · have er := HR0.out k0
    rw [ek]
    subst er
    have HF := Lib.hid fun (wD : World) (hD : Below wC.heap.size wC wD) => sm_lit (g := g) (p := p) (c := c) (l := [rdO key]) (st := s2) (n := n) (w := w) (w1 := wD) (by simp) (HGC.out.below hD) (HCC.out.trans (Chg.of_below hD))
    clear ek HR0 HR1 HR2 HR3 HR4 HKI HGC HCC k0
    go_wp2_with fail
    refine (read_any _ _).mono ?_
    rintro e wD ⟨rfl, hb⟩
    have hF := HF.out wD hb
    clear hb
    go_wp2
    go_ret
    exact hF
  · have er := HR1.out (by omega) k1
    rw [ek]
    subst er
    have HF := Lib.hid fun (wD : World) (hS : GenS wD g p c s2 (n + 1)) (hD : Chg wC g wD) => sm_lit (g := g) (p := p) (c := c) (l := [wrO c key (n + 1)]) (st := s2) (n := n + 1) (w := w) (w1 := wD) (by simp) hS (HCC.out.trans hD)
    clear ek HR0 HR1 HR2 HR3 HR4 HKI HCC k0 k1
    go_wp2_with fail
    refine (write_any g p c key s2 n _ hnn hc1 hc2 HGC.out).mono ?_
    rintro e wD ⟨rfl, hS, hb⟩
    have hF := HF.out wD hS hb
    clear hb hS
    go_wp2
    go_ret
    exact hF
  · by_cases hr : 1 < room
    · have er := HR2.out (by omega) (by omega) k2 hr
      rw [ek]
      subst er
      have HF := Lib.hid fun (wD : World) (hS : GenS wD g p c s2 (n + 1)) (hD : Chg wC g wD) => sm_lit (g := g) (p := p) (c := c) (l := [rdO key, wrO c key (n + 1)]) (st := s2) (n := n + 1) (w := w) (w1 := wD) (by simp) hS (HCC.out.trans hD)
      clear ek HR0 HR1 HR2 HR3 HR4 HKI HCC k0 k1 k2
      go_wp2_with fail
      refine (read_any _ _).mono ?_
      rintro e wD ⟨rfl, hb⟩
      have HD := Lib.hid hb
      clear hb
      go_wp2_with fail
      refine (write_any g p c key s2 n _ hnn hc1 hc2 (HGC.out.below HD.out)).mono ?_
      rintro e wE ⟨rfl, hS, hb⟩
      have hF := HF.out wE hS ((Chg.of_below HD.out).trans hb)
      clear hb hS
      go_wp2
      go_ret
      exact hF
    · have er := HR3.out (by omega) (by omega) k2 (by omega)
      rw [ek]
      subst er
      have HF := Lib.hid fun (wD : World) (hD : Below wC.heap.size wC wD) => sm_lit (g := g) (p := p) (c := c) (l := [rdO key]) (st := s2) (n := n) (w := w) (w1 := wD) (by simp) (HGC.out.below hD) (HCC.out.trans (Chg.of_below hD))
      clear ek HR0 HR1 HR2 HR3 HR4 HKI HGC HCC k0 k1 k2
      go_wp2_with fail
      refine (read_any _ _).mono ?_
      rintro e wD ⟨rfl, hb⟩
      have hF := HF.out wD hb
      clear hb
      go_wp2
      go_ret
      exact hF
  · have er := HR4.out (by omega) (by omega) (by omega)
    rw [ek]
    subst er
    have h3 := drawn_nonneg s2 3
    have h3' := drawn_lt s2 3 (by omega)
    have hm : min (min (1 + drawn s2 3) room) (p.keys - key) = (m : Int) := by have := HMM.out; omega
    have hm12 : m ≤ 12 := by omega
    have HF : Hid (∀ (wD : World) (sp : Option Addr) (cp : Nat), wD.ownsRow (wC.setCell ⟨g, 7, none⟩ (.int .u64 (s3 : Int))).drew.heap.size 45 3 (.slice sp (scanL key m).length cp) (scanL key m).length (rowL (scanL key m)) → Below (wC.setCell ⟨g, 7, none⟩ (.int .u64 (s3 : Int))).drew.heap.size (wC.setCell ⟨g, 7, none⟩ (.int .u64 (s3 : Int))).drew wD →
        SmP g p c (scanL key m, s3, n) w (.returned (.slice sp (scanL key m).length cp)) wD) := Lib.hid fun wD sp cp ho hb => by
      have hg1 : GenS (wC.setCell ⟨g, 7, none⟩ (.int .u64 (s3 : Int))).drew g p c s3 n := HGC.out.drawn _
      have hc1 : Chg w g (wC.setCell ⟨g, 7, none⟩ (.int .u64 (s3 : Int))).drew := HCC.out.trans ((Chg.set g 7 _).trans (Chg.of_below (Below.refl _ _).drew))
      exact ⟨sp, cp, rfl, own_mono ho hc1.size, hg1.below hb, hc1.trans (Chg.of_below hb)⟩
    have HMW : Hid ((if IntKind.i64.wrap (p.keys - key) < if room < IntKind.i64.wrap (1 + drawn s2 3) then room else IntKind.i64.wrap (1 + drawn s2 3) then IntKind.i64.wrap (p.keys - key) else if room < IntKind.i64.wrap (1 + drawn s2 3) then room else IntKind.i64.wrap (1 + drawn s2 3)) = (m : Int)) := Lib.hid (by
      rw [← hm, wrapI (p.keys - key) (by omega) (by omega), wrapI (1 + drawn s2 3) (by omega) (by omega)]
      split <;> split <;> omega)
    clear hm
    obtain ⟨⟨c0, c1, c2, c3, c4, c5, c6, c7, c8⟩, hf⟩ := cells9 HGC.out
    have hf7 := hf 7
    clear hf ek HR0 HR1 HR2 HR3 HR4 HKI k0 k1 k2
    go_wp2
    go_region_with (first
      | (go_at_call 20; refine (below_all g 7 s2 3 (by omega) _ (by simpa using c7) (by simpa using hf7)).mono ?_; rw [← HE3.out]; rintro e w' ⟨rfl, rfl⟩)
      | (go_at_call 30; rw [HMW.out]; refine (scan_any key m _ (by omega) (by omega) (by omega)).mono ?_; rintro e wD ⟨sp, cp, rfl, ho, hb⟩))
    all_goals
      have hF := HF.out _ _ _ ho hb
      clear ho hb
      go_wp2
      go_ret
      exact hF
end Go.Proofs.Ytbdpinfiicpmhaa
