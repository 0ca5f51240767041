/-
  chains: choices, an iterator over both.
  chains: all choices are the reference's: mathematics.
  chains: Collect, Choices.
  chains: Bound.
  The head of the laws of chains: the document's example.
  chains: the head; ChainsChoices' walk.
-/
import Derived.Test.YteobndfkkpfnlaaJ14
import Derived.Test.YteobndfkkpfnlaaJ09
import Derived.Test.YteobndfkkpfnlaaJ13
import Derived.Deep.RegionHeld3
import Derived.RangeFuncBox
import Derived.Maps.OwnIn
import Derived.BigQuiet

namespace Go.Proofs.Yteobndfkkpfnlaa
open Go.RowKit Go.Shelf
set_option linter.unusedVariables false
variable {n0 : Nat}

attribute [local go_sem] Oper.semAt_some

set_option maxRecDepth 100000 in
theorem commits_any (s1 s2 : Option Addr) (m1 c1 m2 c2 : Nat) (w : World) :
    Calls Try.prog 58 #[.slice s1 m1 c1, .slice s2 m2 c2] w fun e w' => e = .returned (.func (.func 73) #[] #[.pointer (some ⟨w.heap.size, 0, none⟩), .pointer (some ⟨w.heap.size + 1, 0, none⟩)]) ∧ w' = (w.alloc (.cells #[.slice s1 m1 c1] 25)).alloc (.cells #[.slice s2 m2 c2] 35) := by
  go_enter Try.func58, Try.ntmps58
  go_wp2
  go_ret
  exact ⟨rfl, rfl⟩
set_option maxRecDepth 100000 in
theorem befores_any (mb : Option Nat) (w : World) :
    Calls Try.prog 59 #[.map mb] w fun e w' => e = .returned (.func (.func 74) #[] #[.pointer (some ⟨w.heap.size, 0, none⟩)]) ∧ w' = w.alloc (.cells #[.map mb] 82) := by
  go_enter Try.func59, Try.ntmps59
  go_wp2
  go_ret
  exact ⟨rfl, rfl⟩
set_option maxRecDepth 100000 in
theorem choicesF_any (s1 : Option Addr) (m1 c1 : Nat) (w : World) :
    Calls Try.prog 51 #[.slice s1 m1 c1] w fun e w' => e = .returned (.func (.func 69) #[] #[.pointer (some ⟨w.heap.size, 0, none⟩)]) ∧ w' = w.alloc (.cells #[.slice s1 m1 c1] 25) := by
  go_enter Try.func51, Try.ntmps51
  go_wp2
  go_ret
  exact ⟨rfl, rfl⟩

/-- may it be done -/
def ngT (T : Nat → Tx) : Nat → Bool := fun i => decide ((T i).st ≠ 2)
/-- the map of who may write -/
noncomputable def wmT (T : Nat → Tx) (m : Nat) : Int → List Int := wlF T (ngT T) m

set_option maxRecDepth 100000 in
set_option maxHeartbeats 8000000 in
theorem choices_stops (X : Nat → Prop) (Bt : Nat) (a : Option Addr) (m cap : Nat) (T : Nat → Tx) (wt w : World) (hb : BoxX X w Bt 25 (.slice a m cap))
    (hs : TxS wt a m T) (ok : TOk m T) (hwt : Below wt.heap.size wt w) (hn0 : wt.heap.size ≤ n0) (hxt : ∀ k, k < wt.heap.size → X k)
    (hM16 : ∀ x, wmT T m x ≠ [] → 0 ≤ x ∧ x ≤ 15) : SeqL n0 69 #[.pointer (some ⟨Bt, 0, none⟩)] X (chC T m m ++ bfL (wmT T m) (kyF (wmT T m)).length) w := fun lo J Jx W hW hX hJ hJx hY h0 => by
  have HBT := Lib.hid (hb.keep hW)
  have HTB : Hid (∀ Wx, KeptX n0 X W Wx → Below wt.heap.size wt Wx) := Lib.hid fun Wx hk => (hW.trans hk).below hwt hn0 hxt
  have HTS := Lib.hid hs
  have HOK := Lib.hid ok
  have hal : Below W.heap.size W (W.alloc (.cells #[.func (.yield lo) #[] #[]] 127)) := (Below.refl _ _).alloc (Nat.le_refl _) _
  have hcs : (W.alloc (.cells #[.func (.yield lo) #[] #[]] 127)).cell? ⟨Bt, 0, none⟩ = some (.slice a m cap) := (HBT.out.keep (KeptX.all (n0 := n0) hal)).cell
  refine (callsIn_wide (n := 5)).1 ?_
  refine callsIn_of_wp_marks Try.func69 rfl trivial ?_ rfl
  simp only [Try.ntmps69, List.size_toArray, List.length_cons, List.length_nil, Nat.reduceAdd, Nat.reduceSub, Array.replicate_succ, Array.replicate_zero, List.push_toArray, List.append_toArray, List.nil_append, List.cons_append]
  have HSU : Hid (∀ Wx, KeptX n0 X W Wx → Calls Try.prog 18 #[.slice a m cap] Wx (SuP T m Wx)) := Lib.hid fun Wx hk => sure_any a m cap T Wx (HTS.out.below (HTB.out Wx hk)) HOK.out
  gi_wp2
  obtain ⟨wy, ewy⟩ : ∃ wy, wy = W.alloc (.cells #[.func (.yield lo) #[] #[]] 127) := ⟨_, rfl⟩
  have hyb : BoxX X wy W.heap.size 127 (.func (.yield lo) #[] #[]) := ⟨hX _ (Nat.le_refl _), by decide, (0, 0), by rw [ewy]; exact World.alloc_heap_new W _⟩
  have hBD : Below W.heap.size W wy.drew := by rw [ewy]; exact hal.drew
  have hcd : wy.drew.cell? ⟨Bt, 0, none⟩ = some (.slice a m cap) := by rw [ewy]; exact hcs
  rw [← ewy] at hcs hal ⊢
  obtain ⟨Y0, eY⟩ : ∃ Y0, Y0 = W.heap.size := ⟨_, rfl⟩
  rw [← eY] at hyb ⊢
  have HYB := Lib.hid hyb
  have HSD := Lib.hid (HSU.out wy.drew (KeptX.all hBD))
  clear ewy hyb
  refine wpIn_wide.2 ?_
  go_region_held3 (fun W1 => W1.cell? ⟨Bt, 0, none⟩ = some (.slice a m cap)) (first | exact hcs | exact hcd | exact hc3 | exact hc4)
    (first
      | (go_at_call 18; refine HSD.out.mono ?_; rintro e w3 ⟨gs, rfl, hM, hb3⟩; have hB3 : Below W.heap.size W w3 := hBD.trans (hb3.mono hBD.size); have hc3 := (HBT.out.keep (KeptX.all (n0 := n0) hB3)).cell)
      | (go_at_call 58; refine (commits_any _ _ _ _ _ _ _).mono ?_; rintro e w4 ⟨rfl, rfl⟩; have hc4 := (HBT.out.keep (KeptX.all (n0 := n0) ((hB3.alloc hB3.size (.cells #[.slice a m cap] 25)).alloc (Nat.le_trans hB3.size (by simp)) (.cells #[.slice (some ⟨gs, 0, none⟩) m m] 35)))).cell))
  have HB3 := Lib.hid hB3
  have HYK : Below wy.heap.size wy w3 := ((Below.refl wy.heap.size wy).drew).trans hb3
  have HM := Lib.hid hM
  clear hcs hcd hc3 hc4 hb3 hM hBD HSD
  obtain ⟨P1, eP⟩ : ∃ P1, P1 = w3.heap.size := ⟨_, rfl⟩
  obtain ⟨W0, eW0⟩ : ∃ W0, W0 = (w3.alloc (.cells #[.slice a m cap] 25)).alloc (.cells #[.slice (some ⟨gs, 0, none⟩) m m] 35) := ⟨_, rfl⟩
  rw [← eW0, ← eP]
  gi_wp2
  have hz0 : W0.heap.size = P1 + 2 := by rw [eW0, eP]; simp
  have hw3 : Below w3.heap.size w3 W0 := by rw [eW0]; exact ((Below.refl _ _).alloc (Nat.le_refl _) _).alloc (by simp) _
  have hwP : W.heap.size ≤ P1 := by rw [eP]; exact HB3.out.size
  have HB0 : Hid (Below W.heap.size W W0) := Lib.hid (HB3.out.trans (hw3.mono HB3.out.size))
  have hb1 : BoxX X W0 P1 25 (.slice a m cap) := ⟨hX _ (by omega), by decide, (0, 0), by rw [eW0, eP]; exact (Below.heap_alloc _ _ _ (by simp)).trans (World.alloc_heap_new w3 _)⟩
  have hb2 : BoxX X W0 (P1 + 1) 35 (.slice (some ⟨gs, 0, none⟩) m m) := ⟨hX _ (by omega), by decide, (0, 0), by rw [eW0, eP]; have := World.alloc_heap_new (w3.alloc (.cells #[.slice a m cap] 25)) (.cells #[.slice (some ⟨gs, 0, none⟩) m m] 35); rw [World.size_alloc] at this; exact this⟩
  have hgl := HM.out.lt
  have hbo : BolS X W0 gs m (suL T m) := by
    obtain ⟨cur, ho⟩ := own_cells HM.out (g := gs) rfl
    exact ⟨hX _ (Nat.le_trans (by simpa using hal.size) hgl.1), cur, (0, 0), (hw3.block gs hgl.2).trans ho, fun i hi => (hw3.cell (p := ⟨gs, i, none⟩) hgl.2).trans (HM.out.cell hi)⟩
  have hsb : ∀ k, k < W0.heap.size → X k → (X k ∧ k ≠ W0.heap.size ∧ k ≠ W0.heap.size + 1) := fun k h1 h2 => ⟨h2, by omega, by omega⟩
  have hwt0 : Below wt.heap.size wt W0 := HTB.out W0 (KeptX.all HB0.out)
  have HPS := Lib.hid (commits_stops (n0 := n0) (fun k => X k ∧ k ≠ W0.heap.size ∧ k ≠ W0.heap.size + 1) P1 (P1 + 1) gs a m cap T wt W0 (hb1.sub hsb) (hb2.sub hsb) (hbo.sub hsb) hs ok hwt0 hn0 (fun k hk => hsb k (Nat.lt_of_lt_of_le hk hwt0.size) (hxt k hk)))
  have HJ0 := Lib.hid (ownCalm hJ h0 HB0.out)
  have HYY := Lib.hid hY
  have HX := Lib.hid hX
  have HYB0 : Hid (BoxX X W0 W.heap.size 127 (.func (.yield lo) #[] #[])) := Lib.hid (by
    have := HYB.out
    rw [eY] at this
    exact this.keep (KeptX.all (n0 := n0) (HYK.trans (hw3.mono HYK.size))))
  have HBT0 := Lib.hid (HBT.out.keep (KeptX.all (n0 := n0) HB0.out))
  have HFM := Lib.hid hM16
  clear eW0 eP hb1 hb2 hbo hsb hY hX hal hw3 hs ok hwt hxt hwt0 hgl HM HSU HYB HB3 HYK hb h0
  obtain ⟨l1, el1⟩ : ∃ l1, l1 = chC T m m := ⟨_, rfl⟩
  obtain ⟨l2, el2⟩ : ∃ l2, l2 = bfL (wmT T m) (kyF (wmT T m)).length := ⟨_, rfl⟩
  rw [← el1] at HPS
  rw [← el1, ← el2] at HYY
  have HE1 := Lib.hid el1
  have HE2 := Lib.hid el2
  clear el1 el2
  refine range_o (gf := 73) (lb := #[.pointer (some ⟨P1, 0, none⟩), .pointer (some ⟨P1 + 1, 0, none⟩)]) rfl (enters_of Try.func73 (by kernel_rfl) rfl) X HPS.out (KeptX.refl _ _) (fun k hk => HX.out k (by omega)) (fun _ => rfl)
    (fun pre Wx => J pre Wx ∧ KeptX n0 X W0 Wx) (fun c pre Wx => c = .ret ∧ Jx pre Wx ∧ KeptX n0 X W0 Wx)
    (fun s A C row hs hg hr => ⟨ownMono hJ (by omega) _ A C row hs.1 hg hr, ownFrom_kept (β := Unit) (Nat.le_refl _) () A C row hs.2 hg hr⟩)
    (fun c s A C row hs hg hr => ⟨hs.1, ownMono hJx (by omega) _ A C row hs.2.1 hg hr, ownFrom_kept (β := Unit) (Nat.le_refl _) () A C row hs.2.2 hg hr⟩)
    ⟨HJ0.out, KeptX.refl _ _⟩
    (fun x a' Wx => ∃ Bx, W0.heap.size ≤ Bx ∧ Wx.heap[Bx]? = some (.cells #[.int .i64 x.k, .int .i64 x.y, .int .i64 x.a, .int .i64 x.b] 58 (0, 0)) ∧
      a' = { tmps := #[.func (.yield lo) #[] #[], .pointer (some ⟨Bt, 0, none⟩), .pointer (some ⟨W.heap.size, 0, none⟩), .pointer (some ⟨Bx, 0, none⟩), undef, .slice a m cap, .slice a m cap, .slice (some ⟨gs, 0, none⟩) m m, .func (.func 73) #[] #[.pointer (some ⟨P1, 0, none⟩), .pointer (some ⟨P1 + 1, 0, none⟩)], .agg #[.int .i64 x.k, .int .i64 x.y, .int .i64 x.a, .int .i64 x.b], undef, undef, undef, undef, undef, undef, undef, undef, undef, undef, undef, undef, undef, undef], defers := [] })
    (fun x a' => own_box _ _ _ _) ?assign ?body ?done ?stop
  case assign =>
    rintro l pre x Wx K hI hK
    have hal : Below Wx.heap.size Wx (Wx.alloc (.cells #[.int .i64 x.k, .int .i64 x.y, .int .i64 x.a, .int .i64 x.b] 58)) := (Below.refl _ _).alloc (Nat.le_refl _) _
    unfold encC
    gi_wp2
    exact hK _ _ (KeptX.all hal) ⟨ownCalm hJ hI.1 hal, hI.2.trans (KeptX.all hal)⟩ ⟨Wx.heap.size, hI.2.size, World.alloc_heap_new Wx _, rfl⟩
  case body =>
    rintro l pre x a' Wx hl ⟨r, hr⟩ hI ⟨Bx, hBx, hXX, rfl⟩ hlen
    obtain ⟨z0, z1, z2, z3⟩ := cells4' hXX
    have hyb := (HYB0.out.keep hI.2).cell
    obtain ⟨fn, tmps, assign, body, hy, hR⟩ := HYY.out (5 - 1 - 1 - 1) _ x Wx hI.1 (List.IsPrefix.trans hlen (List.prefix_append _ _))
    unfold encC at hy
    have HR := Lib.hid hR
    have HKX := Lib.hid hI.2
    clear hR hI hr hXX
    gi_wp2
    refine HR.out.mono ?_
    rintro e W3 ⟨hk3, ⟨rfl, hJ3⟩ | ⟨rfl, hJx3⟩⟩
    · gi_wp2
      exact ⟨hk3, hJ3, HKX.out.trans hk3⟩
    · gi_wp2
      exact ⟨hk3, rfl, hJx3, HKX.out.trans hk3⟩
  case stop =>
    rintro D c pre Wx hD hSp ⟨rfl, hjx, hk⟩ hopen
    have HFIN : Hid (OpenD W.heap.size Wx [D]) := Lib.hid ⟨by simp, fun k hk => by obtain rfl := List.mem_singleton.1 hk; exact ⟨by omega, hopen⟩⟩
    have HSP : Hid (pre <+: l1 ++ l2) := Lib.hid (List.IsPrefix.trans hSp (List.prefix_append _ _))
    have HJX := Lib.hid hjx
    clear hopen hk hjx hSp
    gi_wp2
    refine leaves_all (B := W.heap.size) (fun W' => Jx pre W') (fun W' D hq hB hD => hJx.putObj _ hq hB hD rfl) (fun W' hq => ?_) [D] Wx HFIN.out HJX.out
    exact ⟨_, results_none rfl _ _ _, ⟨_, rfl⟩, .inr ⟨_, by rw [← HE1.out, ← HE2.out]; exact HSP.out, hq⟩⟩
  case done =>
    rintro D1 xs Wx hD1 hxs hI hopen
    rw [show xs = l1 from hxs] at hI
    have HOP1 := Lib.hid hopen
    have HI := Lib.hid hI
    have hcs := (HBT0.out.keep hI.2).cell
    have hW0x : W0.heap.size ≤ Wx.heap.size := hI.2.size
    have hDl : D1 < Wx.heap.size := (Array.getElem?_eq_some_iff.1 hopen).1
    clear hI hopen
    gi_wp2
    have hBD : Below Wx.heap.size Wx Wx.drew := (Below.refl _ _).drew
    have hcd : Wx.drew.cell? ⟨Bt, 0, none⟩ = some (.slice a m cap) := hcs
    have hW0k : KeptX n0 X W W0 := KeptX.all HB0.out
    have HTX : Hid (∀ W', Below Wx.heap.size Wx W' → TxS W' a m T) := Lib.hid fun W' hb => HTS.out.below (HTB.out W' ((hW0k.trans HI.out.2).trans (KeptX.all hb)))
    have HNG := Lib.hid (notGone_any a m cap T Wx.drew (HTX.out _ hBD) HOK.out.cnt)
    have HCC : Hid (∀ W', Below Wx.heap.size Wx W' → W'.cell? ⟨Bt, 0, none⟩ = some (.slice a m cap)) := Lib.hid fun W' hb => ((HBT0.out.keep HI.out.2).keep (KeptX.all (n0 := n0) hb)).cell
    refine wpIn_wide.2 ?_
    go_region_held3 (fun W1 => W1.cell? ⟨Bt, 0, none⟩ = some (.slice a m cap)) (first | exact hcs | exact hcd | exact hc5 | exact hc6 | exact hc7)
      (first
        | (go_at_call 70; refine HNG.out.mono ?_; rintro e w5 ⟨g5, rfl, hM5, hb5⟩; have hB5 : Below Wx.heap.size Wx w5 := hBD.trans hb5; have hc5 := HCC.out w5 hB5)
        | (go_at_call 60; refine (writersOf_any a m cap T g5 (ngT T) w5 (HTX.out _ hB5) HOK.out (hM5.bools.congr fun i hi => upT_all hi)).mono ?_; rintro e w6 ⟨rfl, q6, hq6, hm6, hb6⟩; have hB6 : Below Wx.heap.size Wx w6 := hB5.trans (hb6.mono hB5.size); have hc6 := HCC.out w6 hB6)
        | (go_at_call 59; refine (befores_any _ _).mono ?_; rintro e w7 ⟨rfl, rfl⟩; have hc7 := HCC.out _ (hB6.alloc hB6.size (.cells #[.map (some w5.heap.size)] 82))))
    have hm4 := HOK.out.cnt
    have h56 : w5.heap.size ≤ w6.heap.size := hb6.size
    have hx5 : Wx.heap.size ≤ w5.heap.size := hB5.size
    obtain ⟨P2, eP2⟩ : ∃ P2, P2 = w6.heap.size := ⟨_, rfl⟩
    obtain ⟨W2, eW2⟩ : ∃ W2, W2 = w6.alloc (.cells #[.map (some w5.heap.size)] 82) := ⟨_, rfl⟩
    have hz2 : W2.heap.size = P2 + 1 := by rw [eW2, eP2]; simp
    have hB2 : Below Wx.heap.size Wx W2 := by rw [eW2]; exact hB6.alloc hB6.size _
    have hbw : BoxX X W2 P2 82 (.map (some w5.heap.size)) := ⟨HX.out _ (by omega), by decide, (0, 0), by rw [eW2, eP2]; exact World.alloc_heap_new w6 _⟩
    have hmg : MapG W2 w5.heap.size q6 (wmT T m) := by rw [eW2]; exact hm6.below ((Below.refl _ _).alloc (Nat.le_refl _) _)
    have hsb : ∀ k, k < W2.heap.size → X k → (X k ∧ k ≠ W2.heap.size ∧ k ≠ W2.heap.size + 1) := fun k h1 h2 => ⟨h2, by omega, by omega⟩
    have HPS2 := Lib.hid (befores_stops (n0 := n0) (fun k => X k ∧ k ≠ W2.heap.size ∧ k ≠ W2.heap.size + 1) P2 w5.heap.size q6 (wmT T m) W2 hM16 (fun y => Nat.le_trans (wlF_le y) (by omega)) (hbw.sub hsb) hmg (fun k h1 h2 => hsb k h2 (HX.out k (by omega))))
    rw [← HE2.out] at HPS2
    have HJ2 := Lib.hid (ownCalm hJ HI.out.1 hB2)
    have HYB2 := Lib.hid ((HYB0.out.keep HI.out.2).keep (KeptX.all (n0 := n0) hB2))
    have HOP2 : Hid (W2.heap[D1]? = some (.deferred (some []))) := Lib.hid ((hB2.block D1 hDl).trans HOP1.out)
    rw [← eW2, ← eP2]
    have hx2 : Wx.heap.size ≤ W2.heap.size := hB2.size
    clear hcs hcd hc5 hc6 hc7 hBD HTX HNG HCC hM5 hb5 hB5 hm6 hb6 hB6 eW2 eP2 hB2 hbw hmg hsb HI HOP1
    gi_wp2
    refine range_o (gf := 74) (lb := #[.pointer (some ⟨P2, 0, none⟩)]) rfl (enters_of Try.func74 (by kernel_rfl) rfl) X HPS2.out (KeptX.refl _ _) (fun k hk => HX.out k (by omega)) (fun _ => rfl)
      (fun pre Wx => J (l1 ++ pre) Wx ∧ KeptX n0 X W2 Wx) (fun c pre Wx => c = .ret ∧ Jx (l1 ++ pre) Wx ∧ KeptX n0 X W2 Wx)
      (fun s A C row hs hg hr => ⟨ownMono hJ (by omega) _ A C row hs.1 hg hr, ownFrom_kept (β := Unit) (Nat.le_refl _) () A C row hs.2 hg hr⟩)
      (fun c s A C row hs hg hr => ⟨hs.1, ownMono hJx (by omega) _ A C row hs.2.1 hg hr, ownFrom_kept (β := Unit) (Nat.le_refl _) () A C row hs.2.2 hg hr⟩)
      ⟨by rw [List.append_nil]; exact HJ2.out, KeptX.refl _ _⟩
      (fun x a' Wx => ∃ Bx, W2.heap.size ≤ Bx ∧ Wx.heap[Bx]? = some (.cells #[.int .i64 x.k, .int .i64 x.y, .int .i64 x.a, .int .i64 x.b] 58 (0, 0)) ∧
        a' = { tmps := #[.func (.yield lo) #[] #[], .pointer (some ⟨Bt, 0, none⟩), .pointer (some ⟨W.heap.size, 0, none⟩), undef, .pointer (some ⟨Bx, 0, none⟩), .slice a m cap, .slice a m cap, .slice (some ⟨gs, 0, none⟩) m m, .func (.func 73) #[] #[.pointer (some ⟨P1, 0, none⟩), .pointer (some ⟨P1 + 1, 0, none⟩)], undef, undef, undef, undef, undef, .slice a m cap, .slice a m cap, .slice (some ⟨g5, 0, none⟩) m m, .map (some w5.heap.size), .func (.func 74) #[] #[.pointer (some ⟨P2, 0, none⟩)], .agg #[.int .i64 x.k, .int .i64 x.y, .int .i64 x.a, .int .i64 x.b], undef, undef, undef, undef], defers := [] })
      (fun x a' => own_box _ _ _ _) ?assign2 ?body2 ?done2 ?stop2
    case assign2 =>
      rintro l pre x Wz K hI hK
      have hal : Below Wz.heap.size Wz (Wz.alloc (.cells #[.int .i64 x.k, .int .i64 x.y, .int .i64 x.a, .int .i64 x.b] 58)) := (Below.refl _ _).alloc (Nat.le_refl _) _
      unfold encC
      gi_wp2
      exact hK _ _ (KeptX.all hal) ⟨ownCalm hJ hI.1 hal, hI.2.trans (KeptX.all hal)⟩ ⟨Wz.heap.size, hI.2.size, World.alloc_heap_new Wz _, rfl⟩
    case body2 =>
      rintro l pre x a' Wz hl ⟨r, hr⟩ hI ⟨Bx, hBx, hXX, rfl⟩ hlen
      obtain ⟨z0, z1, z2, z3⟩ := cells4' hXX
      have hyb := (HYB2.out.keep hI.2).cell
      obtain ⟨fn, tmps, assign, body, hy, hR⟩ := HYY.out (5 - 1 - 1 - 1) _ x Wz hI.1 (by rw [List.append_assoc, List.prefix_append_right_inj]; exact hlen)
      unfold encC at hy
      have HR := Lib.hid hR
      have HKX := Lib.hid hI.2
      clear hR hI hr hXX
      gi_wp2
      refine HR.out.mono ?_
      rintro e W3 ⟨hk3, ⟨rfl, hJ3⟩ | ⟨rfl, hJx3⟩⟩
      · gi_wp2
        exact ⟨hk3, by rw [← List.append_assoc]; exact hJ3, HKX.out.trans hk3⟩
      · gi_wp2
        exact ⟨hk3, rfl, by rw [← List.append_assoc]; exact hJx3, HKX.out.trans hk3⟩
    case stop2 =>
      rintro D c pre Wz hD hSp ⟨rfl, hjx, hk⟩ hopen
      have HFIN : Hid (OpenD W.heap.size Wz [D, D1]) := Lib.hid ⟨by simp; omega, fun k hk2 => by
        rcases List.mem_cons.1 hk2 with rfl | hk2
        · exact ⟨by omega, hopen⟩
        · obtain rfl := List.mem_singleton.1 hk2
          exact ⟨by omega, hk.same _ _ (HX.out _ (by omega)) HOP2.out rfl⟩⟩
      have HSP : Hid (l1 ++ pre <+: l1 ++ l2) := Lib.hid (by rw [List.prefix_append_right_inj]; exact hSp)
      have HJX := Lib.hid hjx
      clear hopen hk hjx hSp
      gi_wp2
      refine leaves_all (B := W.heap.size) (fun W' => Jx (l1 ++ pre) W') (fun W' D hq hB hD => hJx.putObj _ hq hB hD rfl) (fun W' hq => ?_) [D, D1] Wz HFIN.out HJX.out
      exact ⟨_, results_none rfl _ _ _, ⟨_, rfl⟩, .inr ⟨_, by rw [← HE1.out, ← HE2.out]; exact HSP.out, hq⟩⟩
    case done2 =>
      rintro D xs Wz hD hxs hI hopen
      rw [show xs = l2 from hxs] at hI
      have HFIN : Hid (OpenD W.heap.size Wz [D, D1]) := Lib.hid ⟨by simp; omega, fun k hk2 => by
        rcases List.mem_cons.1 hk2 with rfl | hk2
        · exact ⟨by omega, hopen⟩
        · obtain rfl := List.mem_singleton.1 hk2
          exact ⟨by omega, hI.2.same _ _ (HX.out _ (by omega)) HOP2.out rfl⟩⟩
      have HJX := Lib.hid hI.1
      clear hopen hI
      gi_wp2
      refine leaves_all (B := W.heap.size) (fun W' => J (l1 ++ l2) W') (fun W' D hq hB hD => hJ.putObj _ hq hB hD rfl) (fun W' hq => ?_) [D, D1] Wz HFIN.out HJX.out
      exact ⟨_, results_none rfl _ _ _, ⟨_, rfl⟩, .inl ⟨_, by rw [← HE1.out, ← HE2.out], hq⟩⟩
end Go.Proofs.Yteobndfkkpfnlaa

namespace Go.Proofs.Yteobndfkkpfnlaa
set_option linter.unusedVariables false

theorem fm_congr {α : Type} {f g : Nat → List α} : ∀ l : List Nat, (∀ x, x ∈ l → f x = g x) → l.flatMap f = l.flatMap g
  | [], _ => rfl
  | y :: l, h => by rw [List.flatMap_cons, List.flatMap_cons, h y (List.mem_cons_self ..), fm_congr l (fun x hx => h x (List.mem_cons_of_mem _ hx))]
theorem prP_same {y : Int} {l : List Int} {b : Int} {n : Nat} (h : n ≤ l.length) : prP y (l ++ [b]) n = prP y l n := by
  unfold prP
  refine fm_congr _ fun i hi => ?_
  have hi' := List.mem_range.1 hi
  rw [List.take_append_of_le_length (by omega)]
  congr 1
  rw [List.getD_eq_getElem?_getD, List.getD_eq_getElem?_getD, List.getElem?_append_left (by omega)]
theorem prP_snoc {y : Int} {l : List Int} {b : Int} : prP y (l ++ [b]) (l ++ [b]).length = prP y l l.length ++ rwP y l b := by
  rw [List.length_append, List.length_singleton, prP_succ, prP_same (Nat.le_refl _), List.take_append_of_le_length (Nat.le_refl _), List.take_length]
  congr 2
  rw [List.getD_eq_getElem?_getD, List.getElem?_append_right (Nat.le_refl _)]
  simp
theorem prK_row {T : Nat → Tx} {y m t : Nat} (hc : cand T y m) : prK (cand T) y m t = rwP (y : Int) (wlF T (ngT T) t (y : Int)) (m : Int) := by
  induction t with
  | zero => rw [prK_zero, wlF_zero]; rfl
  | succ t ih =>
    obtain ⟨h1, h2⟩ := prK_succ (c := cand T) y m t
    obtain ⟨h3, h4⟩ := wlF_succ (T := T) (c := ngT T) (t := t) (y : Int)
    by_cases hh : cand T y t
    · rw [h1 ⟨hh, hc⟩, h3 ⟨by simp [ngT, hh.1], hh.2⟩, ih]
      unfold rwP
      rw [List.map_append]; rfl
    · rw [h2 (fun h => hh h.1), h4 (fun h => hh ⟨by simpa [ngT] using h.1, h.2⟩), ih]
theorem prK_none {T : Nat → Tx} {y m t : Nat} (hc : ¬ cand T y m) : prK (cand T) y m t = [] := by
  induction t with
  | zero => exact prK_zero _ _
  | succ t ih => rw [(prK_succ (c := cand T) y m t).2 (fun h => hc h.2), ih]
theorem prs_row {T : Nat → Tx} {y m : Nat} : prs (cand T) y m = prP (y : Int) (wlF T (ngT T) m (y : Int)) (wlF T (ngT T) m (y : Int)).length := by
  induction m with
  | zero => rw [wlF_zero]; rfl
  | succ m ih =>
    obtain ⟨h3, h4⟩ := wlF_succ (T := T) (c := ngT T) (t := m) (y : Int)
    rw [prs_succ, ih]
    by_cases hh : cand T y m
    · rw [h3 ⟨by simp [ngT, hh.1], hh.2⟩, prP_snoc, prK_row hh]
    · rw [h4 (fun h => hh ⟨by simpa [ngT] using h.1, h.2⟩), prK_none hh, List.append_nil]
theorem flat_filter {α : Type} {p : Nat → Bool} {f : Nat → List α} (h : ∀ y, p y = false → f y = []) : ∀ l : List Nat, (l.filter p).flatMap f = l.flatMap f
  | [] => rfl
  | y :: l => by
    cases hp : p y with
    | true => rw [List.filter_cons_of_pos hp, List.flatMap_cons, List.flatMap_cons, flat_filter h l]
    | false => rw [List.filter_cons_of_neg (by rw [hp]; decide), List.flatMap_cons, h y hp, List.nil_append, flat_filter h l]
theorem bfL_all (T : Nat → Tx) (m : Nat) : bfL (wmT T m) (kyF (wmT T m)).length = prA (cand T) m 16 := by
  unfold bfL prA
  rw [List.take_length]
  unfold kyF kyN
  rw [List.flatMap_map, flat_filter]
  · exact fm_congr _ fun y _ => prs_row.symm
  · intro y h
    have h0 : wmT T m (y : Int) = [] := by
      cases hh : wmT T m (y : Int) with
      | nil => rfl
      | cons a l => rw [hh] at h; cases h
    unfold prM
    rw [h0]
    rfl
theorem wm16 {T : Nat → Tx} {m : Nat} (ok : TOk m T) (x : Int) (h : wmT T m x ≠ []) : 0 ≤ x ∧ x ≤ 15 := by
  obtain ⟨z, hz⟩ := List.exists_mem_of_ne_nil _ h
  obtain ⟨i, _, hi, _, j, hj, _, rfl⟩ := wlF_lt hz
  exact ok.key i hi j hj
end Go.Proofs.Yteobndfkkpfnlaa

namespace Go.Proofs.Yteobndfkkpfnlaa
open Go.RowKit Go.Shelf
set_option linter.unusedVariables false
variable {n0 : Nat}

attribute [local go_sem] Oper.semAt_some

set_option maxRecDepth 100000 in
theorem info58 : (Try.prog.info? 58).map (fun i => (i.zero, i.size, i.bytes)) = some (some (.agg #[.int .i64 0, .int .i64 0, .int .i64 0, .int .i64 0]), 4, 32) := by kernel_rfl

def ChP (l : List C4) (w : World) (e : Ending) (w' : World) : Prop :=
  ∃ sp cp, e = .returned (.slice sp l.length cp) ∧ w'.ownsRow w.heap.size 58 4 (.slice sp l.length cp) l.length (rowK l) ∧ Below w.heap.size w w'

/-- between two rounds -/
structure CoI (w : World) (B : Nat) (pre : List C4) (W : World) : Prop where
  box : ∃ v, Boxed W B 53 v ∧ W.ownsRow w.heap.size 58 4 v pre.length (rowK pre)
  bel : Below w.heap.size w W
theorem CoI.own (w : World) (B B' : Nat) (hB : B < B') (hw : w.heap.size ≤ B') : OwnFrom B' (CoI w B) := by
  intro pre W W' row h hg hr
  have ne : ∀ b, b < B' → some b ≠ row := fun b hb e => by have := (hr b e.symm).1; omega
  obtain ⟨v, hv, hrow⟩ := h.box
  refine ⟨⟨v, hv.kept hg (ne _ (by omega)), own_keep hrow fun g hg' => ?_⟩, h.bel.grown hg h.bel.size (fun k e => by have := (hr k e).1; omega)⟩
  obtain ⟨cur, e⟩ := own_cells hrow hg'
  refine hg.block g (hrow.lt g hg').2 (fun e' => ?_)
  obtain ⟨_, ob, h1, h2⟩ := hr g e'.symm
  rw [e] at h1
  injection h1 with h1
  rw [← h1] at h2
  cases h2
theorem CoI.calm {w : World} {B : Nat} {pre : List C4} {W W' : World} (h : CoI w B pre W) (hb : Below W.heap.size W W') : CoI w B pre W' := by
  obtain ⟨v, hv, hrow⟩ := h.box
  exact ⟨⟨v, hv.kept (grown_below hb none) (by simp), own_keep hrow fun g hg => hb.block g (hrow.lt g hg).2⟩, h.bel.trans (hb.mono h.bel.size)⟩

set_option maxRecDepth 100000 in
set_option maxHeartbeats 8000000 in
theorem appendSeq_any (lb : Array Value) (tot : List C4) (w : World) (hl : tot.length ≤ 200000)
    (hseq : ∀ (X : Nat → Prop) (W : World), (∀ k, k < w.heap.size → X k) → Below w.heap.size w W → SeqL w.heap.size 69 lb X tot W) :
    Calls Try.prog 68 #[.slice none 0 0, .func (.func 69) #[] lb] w (ChP tot w) := by
  obtain ⟨i8, hi8, hx0, hx1, hx2⟩ := info_parts info58
  refine (callsIn_wide (n := 5)).1 ?_
  refine callsIn_of_wp_marks Try.func68 rfl trivial ?_ rfl
  simp only [Try.ntmps68, List.size_toArray, List.length_cons, List.length_nil, Nat.reduceAdd, Nat.reduceSub, Array.replicate_succ, Array.replicate_zero, List.push_toArray, List.append_toArray, List.nil_append, List.cons_append]
  gi_wp2
  obtain ⟨W0, eW0⟩ : ∃ W0, W0 = w.alloc (.cells #[.slice none 0 0] 53) := ⟨_, rfl⟩
  have hz0 : W0.heap.size = w.heap.size + 1 := by rw [eW0]; simp
  have hB0 : Below w.heap.size w W0 := by rw [eW0]; exact (Below.refl _ _).alloc (Nat.le_refl _) _
  have hb1 : Boxed W0 w.heap.size 53 (.slice none 0 0) := by rw [eW0]; exact Boxed.new _ _ _
  rw [← eW0]
  have HSQ := Lib.hid (hseq (fun k => (k ≠ w.heap.size) ∧ k ≠ W0.heap.size ∧ k ≠ W0.heap.size + 1) W0 (fun k hk => ⟨by omega, by omega, by omega⟩) hB0)
  have HI0 : Hid (CoI w w.heap.size [] W0) := Lib.hid ⟨⟨_, hb1, World.ownsRow_nil _ _ _ _⟩, hB0⟩
  clear eW0 hb1 hB0 hseq
  refine range_o (n0 := w.heap.size) (gf := 69) (lb := lb) rfl (enters_of Try.func69 (by kernel_rfl) rfl) (fun k => k ≠ w.heap.size) HSQ.out (KeptX.refl _ _) (fun k hk => by show k ≠ w.heap.size; omega) (fun _ => rfl)
    (CoI w w.heap.size) (fun _ _ _ => False) (CoI.own w w.heap.size _ (by omega) (by omega)) (fun _ _ _ _ _ hs _ _ => hs) HI0.out
    (fun x a' Wx => ∃ Bx, W0.heap.size ≤ Bx ∧ Wx.heap[Bx]? = some (.cells #[.int .i64 x.k, .int .i64 x.y, .int .i64 x.a, .int .i64 x.b] 58 (0, 0)) ∧
      a' = { tmps := #[.slice none 0 0, .func (.func 69) #[] lb, .pointer (some ⟨w.heap.size, 0, none⟩), undef, .slice none 0 0, .pointer (some ⟨Bx, 0, none⟩), .func (.func 69) #[] lb, .agg #[.int .i64 x.k, .int .i64 x.y, .int .i64 x.a, .int .i64 x.b], undef, undef, undef, undef, undef], defers := [] })
    (fun x a' => own_box _ _ _ _) ?assign ?body ?done ?stop
  case assign =>
    rintro l pre x Wx K hI hK
    have hal : Below Wx.heap.size Wx (Wx.alloc (.cells #[.int .i64 x.k, .int .i64 x.y, .int .i64 x.a, .int .i64 x.b] 58)) := (Below.refl _ _).alloc (Nat.le_refl _) _
    have hsz : w.heap.size < Wx.heap.size := by obtain ⟨v, hv, _⟩ := hI.box; exact hv.lt
    unfold encC
    gi_wp2
    exact hK _ _ (KeptX.all hal) (hI.calm hal) ⟨Wx.heap.size, by omega, World.alloc_heap_new Wx _, rfl⟩
  case body =>
    rintro l pre x a' Wx hl ⟨r, hr⟩ hI ⟨Bx, hBx, hXX, rfl⟩ hlen
    obtain ⟨z0, z1, z2, z3⟩ := cells4' hXX
    obtain ⟨v, hv, hrow⟩ := hI.box
    obtain ⟨sv, cv, rfl⟩ := own_form' hrow
    have hvc := hv.cell
    have HV := Lib.hid hv
    have HROW := Lib.hid hrow
    have HI := Lib.hid hI
    have hR := hI.bel.size
    have hle : pre.length ≤ 200000 := by have := pre_lt hlen; omega
    have HNW : Hid (∀ (j : Nat) (u : Value), [Value.int .i64 x.k, .int .i64 x.y, .int .i64 x.a, .int .i64 x.b][j]? = some u → (Wx.alloc (.cells #[.int .i64 x.k, .int .i64 x.y, .int .i64 x.a, .int .i64 x.b] 58)).cell? ((⟨Wx.heap.size, 0, none⟩ : Addr).add j) = some u) := Lib.hid fun j u hj => by
      rw [Go.WideShapes.add_plain, cell_of_row _ _ _ _ 58 (0, 0) (World.alloc_heap_new Wx _), Nat.zero_add]
      simpa using hj
    clear hr hXX hI hrow hv
    generalize hLL : pre.length = LL at *
    have HLL := Lib.hid hLL
    clear hLL
    gi_wp2_with (gi_at_builtin; refine wpListIn_append_own _ rfl _ _ 53 rfl w.heap.size 58 i8 (.agg #[.int .i64 0, .int .i64 0, .int .i64 0, .int .i64 0]) 4 32 Try.underlying53 hi8 hx0 hx1 hx2 rfl (by decide) _ _ _ rfl (HROW.out.alloc _) ⟨Wx.heap.size, 0, none⟩ 1 1 [.int .i64 x.k, .int .i64 x.y, .int .i64 x.a, .int .i64 x.b] rfl rfl HNW.out (by intro u hu; simp at hu; rcases hu with rfl | rfl | rfl | rfl <;> rfl) (by unfold maxLen; omega) (by omega) (by simp; omega) ?_; intro v' w2 hown' hgrow hnn; obtain ⟨g', cap', rfl⟩ := ownsRow_succ hown'; obtain ⟨hv1, hv2, hr2, hk2, hb2⟩ := HV.out.appended (by decide) HROW.out hR (by omega) hown' hgrow; have hc1 := hv1.cell; have hf1 := hv1.frozen)
    refine ⟨((KeptX.alloc _ _).trans (KeptX.grown hgrow fun k e _ => ⟨(HROW.out.lt k e).1, fun o ho hn => ?_⟩)).trans (KeptX.setCell (fun h => h rfl)), ⟨_, hv2, ?_⟩, HI.out.bel.trans hb2⟩
    · obtain ⟨cur, e1⟩ := own_cells (HROW.out.alloc _) e
      rw [e1] at ho
      injection ho with ho
      rw [← ho] at hn
      cases hn
    · rw [List.length_append, List.length_singleton, HLL.out, rowK_snoc]
      exact hr2
  case done =>
    rintro D xs Wx hD hxs hI hopen
    rw [show xs = tot from hxs] at hI
    obtain ⟨v, hv, hrow⟩ := hI.box
    obtain ⟨sv, cv, rfl⟩ := own_form' hrow
    have hvc := hv.cell
    have HROW := Lib.hid hrow
    have HI := Lib.hid hI
    have HO := Lib.hid hopen
    clear hv hrow hI hopen
    gi_wp2
    refine ⟨by simp, .inl ⟨_, _, rfl, run_takeDeferred HO.out, ?_⟩⟩
    exact ⟨_, results_tmp rfl _ _ _, sv, cv, rfl, ownsRow_putObj HROW.out _ HO.out rfl, HI.out.bel.trans (belowK_b (w := w) (Nat.le_refl _) Wx D _ _ (by omega) HO.out rfl rfl)⟩
  case stop =>
    rintro D c pre Wx hD hSp h hopen
    exact h.elim

set_option maxRecDepth 100000 in
set_option maxHeartbeats 4000000 in
theorem collect_any (lb : Array Value) (tot : List C4) (w : World) (hl : tot.length ≤ 200000)
    (hseq : ∀ (X : Nat → Prop) (W : World), (∀ k, k < w.heap.size → X k) → Below w.heap.size w W → SeqL w.heap.size 69 lb X tot W) :
    Calls Try.prog 50 #[.func (.func 69) #[] lb] w (ChP tot w) := by
  have HC := Lib.hid (appendSeq_any lb tot w hl hseq)
  clear hseq
  go_enter Try.func50, Try.ntmps50
  go_wp2_with fail
  refine HC.out.mono ?_
  rintro e w2 ⟨sp, cp, rfl, ho, hb⟩
  have HO := Lib.hid ho
  have HB := Lib.hid hb
  clear ho hb
  go_wp2
  go_ret
  exact ⟨sp, cp, rfl, HO.out, HB.out⟩

set_option maxRecDepth 100000 in
set_option maxHeartbeats 4000000 in
theorem choices_any (a : Option Addr) (m cap : Nat) (T : Nat → Tx) (w : World) (hs : TxS w a m T) (ok : TOk m T) (hm : m ≤ 100) :
    Calls Try.prog 24 #[.slice a m cap] w (ChP (chA T m) w) := by
  have hB : Below w.heap.size w (w.alloc (.cells #[.slice a m cap] 25)) := (Below.refl _ _).alloc (Nat.le_refl _) _
  have hlen : (chA T m).length ≤ 200000 := by
    unfold chA
    rw [List.length_append]
    have h1 := chC_le T m m
    have h2 := prA_le (c := cand T) m 16 hm
    omega
  have HC := Lib.hid (collect_any #[.pointer (some ⟨w.heap.size, 0, none⟩)] (chA T m) (w.alloc (.cells #[.slice a m cap] 25)) hlen (fun X W hX hW => by
    have h := choices_stops (n0 := (w.alloc (.cells #[.slice a m cap] 25)).heap.size) X w.heap.size a m cap T w W ⟨hX _ (by simp), by decide, (0, 0), (hW.block _ (by simp)).trans (World.alloc_heap_new w _)⟩ hs ok (hB.trans (hW.mono (by simp))) (by simp) (fun k hk => hX k (by simp; omega)) (wm16 ok)
    rw [bfL_all] at h
    exact h))
  have HB := Lib.hid hB
  clear hs hB
  go_enter Try.func24, Try.ntmps24
  go_wp2_with fail
  refine (choicesF_any a m cap w).mono ?_
  rintro e w1 ⟨rfl, rfl⟩
  go_wp2_with fail
  refine HC.out.mono ?_
  rintro e w2 ⟨sp, cp, rfl, ho, hb⟩
  have HO := Lib.hid ho
  have HB2 := Lib.hid hb
  clear ho hb
  go_wp2
  go_ret
  exact ⟨sp, cp, rfl, ownsRow_base_a HO.out (by simp), HB.out.trans (HB2.out.mono (by simp))⟩
end Go.Proofs.Yteobndfkkpfnlaa

namespace Go.Proofs.Yteobndfkkpfnlaa
open Go.RowKit Go.Shelf
set_option linter.unusedVariables false
variable {n0 : Nat}

attribute [local go_sem] Oper.semAt_some

theorem pow_cast (n : Nat) : (2 : Int) ^ n = ((2 ^ n : Nat) : Int) := by simp
theorem pow_le (n : Nat) (h : n ≤ 41) : (2 : Int) ^ n ≤ 2199023255552 := by
  rw [pow_cast]
  have := Nat.pow_le_pow_right (n := 2) (by omega) h
  have h2 : (2 : Nat) ^ 41 = 2199023255552 := by decide
  omega
theorem pow_pos' (n : Nat) : (0 : Int) < (2 : Int) ^ n := by
  rw [pow_cast]
  have := Nat.pow_pos (a := 2) (n := n) (by omega)
  omega
set_option maxRecDepth 100000 in
set_option maxHeartbeats 8000000 in
theorem bound_any (a : Option Addr) (m cap : Nat) (T : Nat → Tx) (w : World) (hs : TxS w a m T) (ok : TOk m T) :
    Calls Try.prog 26 #[.slice a m cap] w fun e w' => e = .returned (.int .i64 (2 * 2 ^ (min (chA T m).length 40) - 1)) ∧ Below w.heap.size w w' := by
  refine (callsIn_wide (n := 5)).1 ?_
  refine callsIn_of_wp_marks Try.func26 rfl trivial ?_ rfl
  simp only [Try.ntmps26, List.size_toArray, List.length_cons, List.length_nil, Nat.reduceAdd, Nat.reduceSub, Array.replicate_succ, Array.replicate_zero, List.push_toArray, List.append_toArray, List.nil_append, List.cons_append]
  gi_wp2_with (refine ⟨trivial, ?_⟩; gi_at_call 51; refine (callsIn_wide.2 (choicesF_any a m cap _)).mono ?_; rintro e w1 ⟨rfl, rfl⟩)
  obtain ⟨W0, eW0⟩ : ∃ W0, W0 = (w.alloc (.cells #[.int .i64 0] 3)).alloc (.cells #[.slice a m cap] 25) := ⟨_, rfl⟩
  have hz0 : W0.heap.size = w.heap.size + 2 := by rw [eW0]; simp
  have hB0 : Below w.heap.size w W0 := by rw [eW0]; exact ((Below.refl _ _).alloc (Nat.le_refl _) _).alloc (by simp) _
  have hb1 : Boxed W0 w.heap.size 3 (.int .i64 0) := by rw [eW0]; exact (Boxed.new _ _ _).alloc _
  have hb2 : W0.heap[w.heap.size + 1]? = some (.cells #[.slice a m cap] 25 (0, 0)) := by
    rw [eW0]
    have := World.alloc_heap_new (w.alloc (.cells #[.int .i64 0] 3)) (.cells #[.slice a m cap] 25)
    rw [World.size_alloc] at this
    exact this
  rw [← eW0]
  have hseq := choices_stops (n0 := w.heap.size) (fun k => (k ≠ w.heap.size) ∧ k ≠ W0.heap.size ∧ k ≠ W0.heap.size + 1) (w.heap.size + 1) a m cap T w W0 ⟨⟨by omega, by omega, by omega⟩, by decide, (0, 0), hb2⟩ hs ok hB0 (Nat.le_refl _) (fun k hk => ⟨by omega, by omega, by omega⟩) (wm16 ok)
  rw [bfL_all, show chC T m m ++ prA (cand T) m 16 = chA T m from rfl] at hseq
  have HSQ := Lib.hid hseq
  have HI0 : Hid (Boxed W0 w.heap.size 3 (.int .i64 ((0 : Nat) : Int)) ∧ Below w.heap.size w W0) := Lib.hid ⟨hb1, hB0⟩
  clear eW0 hb1 hb2 hB0 hseq hs ok
  obtain ⟨tot, etot⟩ : ∃ tot, tot = chA T m := ⟨_, rfl⟩
  rw [← etot] at HSQ
  have HET := Lib.hid etot
  clear etot
  have HFIN : Hid (∀ n : Nat, n ≤ 40 → IntKind.i64.wrap ((n : Int) + 1) = (n : Int) + 1) := Lib.hid fun n hn => IntWalk.i64_in _ (by omega)
  refine range_o (n0 := w.heap.size) (gf := 69) (lb := #[.pointer (some ⟨w.heap.size + 1, 0, none⟩)]) rfl (enters_of Try.func69 (by kernel_rfl) rfl) (fun k => k ≠ w.heap.size) HSQ.out (KeptX.refl _ _) (fun k hk => by show k ≠ w.heap.size; omega) (fun _ => rfl)
    (fun pre Wx => pre.length ≤ 40 ∧ Boxed Wx w.heap.size 3 (.int .i64 (pre.length : Int)) ∧ Below w.heap.size w Wx) (fun c pre Wx => c = .exit 0 ∧ pre.length = 41 ∧ Boxed Wx w.heap.size 3 (.int .i64 (40 : Int)) ∧ Below w.heap.size w Wx)
    (fun s A C row hs hg hr => ⟨hs.1, hs.2.1.kept hg (fun e => by have := (hr _ e.symm).1; omega), hs.2.2.grown hg hs.2.2.size (fun k e => by have := (hr k e).1; omega)⟩)
    (fun c s A C row hs hg hr => ⟨hs.1, hs.2.1, hs.2.2.1.kept hg (fun e => by have := (hr _ e.symm).1; omega), hs.2.2.2.grown hg hs.2.2.2.size (fun k e => by have := (hr k e).1; omega)⟩)
    ⟨by simp, HI0.out.1, HI0.out.2⟩
    (fun x a' Wx => a' = { tmps := #[.slice a m cap, undef, .int .i64 0, .pointer (some ⟨w.heap.size, 0, none⟩), .slice a m cap, .func (.func 69) #[] #[.pointer (some ⟨w.heap.size + 1, 0, none⟩)], .agg #[.int .i64 x.k, .int .i64 x.y, .int .i64 x.a, .int .i64 x.b], undef, undef, undef, undef, undef, undef, undef, undef], defers := [] })
    (fun x a' => ownFrom_pure _ _) ?assign ?body ?done ?stop
  case assign =>
    rintro l pre x Wx K hI hK
    unfold encC
    gi_wp2
    exact hK _ _ (KeptX.refl _ _) hI (by simp)
  case body =>
    rintro l pre x a' Wx hl ⟨r, hr⟩ hI rfl hlen
    have hc := hI.2.1.cell
    have hfz := hI.2.1.frozen
    have hwr := HFIN.out pre.length hI.1
    have HI := Lib.hid hI
    clear hI hr
    by_cases h40 : pre.length = 40
    · rw [h40] at hc
      clear hwr
      gi_wp2
      exact ⟨KeptX.refl _ _, rfl, by rw [List.length_append, h40]; rfl, by have := HI.out.2.1; rw [h40] at this; exact this, HI.out.2.2⟩
    · have hne : ((pre.length : Int) == 40) = false := by rw [beq_eq_false_iff_ne]; omega
      gi_wp2
      refine ⟨KeptX.setCell (fun h => h rfl), ?_, ?_, ?_⟩
      · rw [List.length_append, List.length_singleton]; have := HI.out.1; omega
      · rw [List.length_append, List.length_singleton]
        exact HI.out.2.1.set _
      · exact HI.out.2.2.setCell (p := ⟨w.heap.size, 0, none⟩) (Nat.le_refl _) _
  case done =>
    rintro D xs Wx hD hxs hI hopen
    rw [show xs = tot from hxs] at hI
    have hc := hI.2.1.cell
    have hwr := HFIN.out tot.length hI.1
    have HI := Lib.hid hI
    have HO := Lib.hid hopen
    have hp1 := pow_le (tot.length + 1) (by have := hI.1; omega)
    have hp2 := pow_pos' (tot.length + 1)
    have hw1 : Hid (wrap64 (2 ^ (tot.length + 1)) = 2 * 2 ^ tot.length) := Lib.hid (by
      have e : wrap64 (2 ^ (tot.length + 1)) = 2 ^ (tot.length + 1) := IntWalk.wrap64_in _ (by omega)
      rw [e, Int.pow_succ]
      omega)
    have hw2 : Hid (wrap64 (2 * 2 ^ tot.length - 1) = 2 * 2 ^ tot.length - 1) := Lib.hid (IntWalk.wrap64_in _ (by rw [Int.pow_succ] at hp1 hp2; omega))
    have h41 : min tot.length 40 = tot.length := Nat.min_eq_left hI.1
    clear hI hopen hp1 hp2
    gi_wp2
    refine ⟨by simp, .inl ⟨_, _, rfl, run_takeDeferred HO.out, ?_⟩⟩
    exact ⟨_, results_tmp rfl _ _ _, by rw [← HET.out, h41, ← hw2.out, ← hw1.out]; rfl, HI.out.2.2.trans (belowK_b (w := w) (Nat.le_refl _) Wx D _ _ (by omega) HO.out rfl rfl)⟩
  case stop =>
    rintro D c pre Wx hD hSp ⟨rfl, hlen, hI⟩ hopen
    have hc := hI.1.cell
    have HI := Lib.hid hI
    have HO := Lib.hid hopen
    have hpl := hSp.length_le
    have h41 : min tot.length 40 = 40 := by omega
    clear hI hopen hSp
    gi_wp2
    refine ⟨by simp, .inl ⟨_, _, rfl, run_takeDeferred HO.out, ?_⟩⟩
    exact ⟨_, results_tmp rfl _ _ _, by rw [← HET.out, h41]; rfl, HI.out.2.trans (belowK_b (w := w) (Nat.le_refl _) Wx D _ _ (by omega) HO.out rfl rfl)⟩
end Go.Proofs.Yteobndfkkpfnlaa

namespace Go.Proofs.Yteobndfkkpfnlaa
open Go.ChangeShapes Go.WideShapes Go.ChangeAt Go.RowKit Go.Maps
set_option linter.unusedVariables false

set_option maxRecDepth 100000 in
theorem str58 : Try.prog.underlying 58 = some (.struct (Try.prog.fieldsOf 58)) := by kernel_rfl
set_option maxRecDepth 100000 in
theorem held58 : Try.prog.stoodInHeld 58 = false := by kernel_rfl
def eqC (c d : C4) : Bool := c.k == d.k && (c.y == d.y && (c.a == d.a && c.b == d.b))
theorem eqC_iff (c d : C4) : eqC c d = true ↔ c = d := by
  cases c; cases d
  simp [eqC]
set_option maxRecDepth 100000 in
theorem eqK (k y a b k' y' a' b' : Int) (w : World) : (Op.equalIn 10000 58 (.agg #[.int .i64 k, .int .i64 y, .int .i64 a, .int .i64 b]) (.agg #[.int .i64 k', .int .i64 y', .int .i64 a', .int .i64 b'])).run Try.prog w = .ok (k == k' && (y == y' && (a == a' && b == b'))) w := by
  refine (run_equalIn_struct (P := Try.prog) w 9999 58 _ _ str58 held58).trans ?_
  have hfs := TypeDesc.struct.inj (Option.some.inj (str58.symm.trans Try.underlying58))
  rw [hfs]
  have e : ∀ (a b : Int) (w : World), (Op.equalIn 9999 3 (.int .i64 a) (.int .i64 b)).run Try.prog w = .ok (a == b) w := fun a b w => run_equalIn_int w 9998 3 .i64 .i64 _ _ Try.underlying3
  have q0 : ∀ (a b c d : Int) (w : World), (part 3 #[.int .i64 a, .int .i64 b, .int .i64 c, .int .i64 d] 0).run Try.prog w = .ok (.int .i64 a) w := fun a b c d w => by simp [part, go_sem]
  have q1 : ∀ (a b c d : Int) (w : World), (part 3 #[.int .i64 a, .int .i64 b, .int .i64 c, .int .i64 d] 1).run Try.prog w = .ok (.int .i64 b) w := fun a b c d w => by simp [part, go_sem]
  have q2 : ∀ (a b c d : Int) (w : World), (part 3 #[.int .i64 a, .int .i64 b, .int .i64 c, .int .i64 d] 2).run Try.prog w = .ok (.int .i64 c) w := fun a b c d w => by simp [part, go_sem]
  have q3 : ∀ (a b c d : Int) (w : World), (part 3 #[.int .i64 a, .int .i64 b, .int .i64 c, .int .i64 d] 3).run Try.prog w = .ok (.int .i64 d) w := fun a b c d w => by simp [part, go_sem]
  by_cases h0 : k = k' <;> by_cases h1 : y = y' <;> by_cases h2 : a = a' <;> by_cases h3 : b = b' <;> simp [Op.eqFields, q0, q1, q2, q3, e, h0, h1, h2, h3]
set_option maxRecDepth 100000 in
theorem eqlK (k y a b k' y' a' b' : Int) (u : World) : (binOp .eql 58 (.agg #[.int .i64 k, .int .i64 y, .int .i64 a, .int .i64 b]) (.agg #[.int .i64 k', .int .i64 y', .int .i64 a', .int .i64 b'])).run Try.prog u = .ok (.bool (k == k' && (y == y' && (a == a' && b == b')))) u := by
  rw [run_eql_struct, eqK]; rfl
set_option maxRecDepth 100000 in
theorem neqK (k y a b k' y' a' b' : Int) (u : World) : (binOp .neq 58 (.agg #[.int .i64 k, .int .i64 y, .int .i64 a, .int .i64 b]) (.agg #[.int .i64 k', .int .i64 y', .int .i64 a', .int .i64 b'])).run Try.prog u = .ok (.bool (!(k == k' && (y == y' && (a == a' && b == b'))))) u := by
  rw [run_neq_struct, eqK]; rfl
set_option maxRecDepth 100000 in
theorem guardK (u : World) (x y : Operand) (xs ys : Array Value) : (eqGuard .eql 58 x y (.agg xs) (.agg ys)).run Try.prog u = .ok () u := run_eqGuard_agg u .eql 58 x y xs ys (by kernel_rfl)
set_option maxRecDepth 100000 in
theorem guardK' (u : World) (x y : Operand) (xs ys : Array Value) : (eqGuard .neq 58 x y (.agg xs) (.agg ys)).run Try.prog u = .ok () u := run_eqGuard_agg u .neq 58 x y xs ys (by kernel_rfl)

/-- two that write a key -/
def Tq (i : Nat) : Tx := if i = 0 then ⟨1, 0, 1, fun _ => ⟨2, 0, 5⟩⟩ else ⟨2, 1, 1, fun _ => ⟨2, 0, 6⟩⟩
theorem tq_ok : TOk 2 Tq := by
  refine ⟨by omega, fun j hj => ?_, fun j hj x hx => ?_, fun j hj x hx => ?_⟩
  · unfold Tq; split <;> simp
  · unfold Tq; split <;> simp
  · unfold Tq In64; split <;> simp
theorem tq_su : suL Tq 2 0 = false := by rfl
theorem tq_ch : chC Tq 2 2 = [⟨1, 0, 0, 0⟩] := by
  have h0 := (chC_succ Tq 2 0).1 ⟨⟨rfl, 0, by decide, rfl⟩, tq_su⟩
  have h1 := (chC_succ Tq 2 1).2 (fun h => by have := h.1.1; cases this)
  rw [h1, h0, chC_zero]; rfl
theorem tq_c0 : ∀ i, i < 2 → cand Tq 0 i := by
  intro i hi
  rcases (show i = 0 ∨ i = 1 by omega) with rfl | rfl
  · exact ⟨by decide, 0, by decide, rfl, rfl⟩
  · exact ⟨by decide, 0, by decide, rfl, rfl⟩
theorem tq_cn (y i : Nat) (h : 0 < y) : ¬ cand Tq y i := by
  rintro ⟨_, j, hj, _, hk⟩
  unfold Tq at hk
  split at hk <;> · dsimp only at hk; omega
theorem tq_p0 : prs (cand Tq) 0 2 = [⟨2, 0, 0, 1⟩] := by
  have h1 := (prK_succ (c := cand Tq) 0 1 0).1 ⟨tq_c0 0 (by decide), tq_c0 1 (by decide)⟩
  rw [prs_succ, prs_succ, prs_zero, prK_zero, h1, prK_zero]; rfl
theorem tq_pn (y : Nat) (h : 0 < y) : prs (cand Tq) y 2 = [] := by
  rw [prs_succ, prs_succ, prs_zero, prK_none (tq_cn y _ h), prK_none (tq_cn y _ h)]; rfl
theorem tq_pA : ∀ k, prA (cand Tq) 2 (k + 1) = [⟨2, 0, 0, 1⟩] := by
  intro k
  induction k with
  | zero => rw [prA_succ, prA_zero, tq_p0]; rfl
  | succ k ih => rw [prA_succ, ih, tq_pn (k + 1) (by omega), List.append_nil]
theorem tq_all : chA Tq 2 = [⟨1, 0, 0, 0⟩, ⟨2, 0, 0, 1⟩] := by unfold chA; rw [tq_ch, tq_pA 15]; rfl

theorem tq_mem (w : World) : TxS (((w.alloc (.cells #[.int .i64 2, .int .i64 0, .int .i64 5] 44)).alloc (.cells #[.int .i64 2, .int .i64 0, .int .i64 6] 44)).alloc (.cells #[.int .i64 1, .int .i64 0, .slice (some ⟨w.heap.size, 0, none⟩) 1 1, .int .i64 2, .int .i64 1, .slice (some ⟨w.heap.size + 1, 0, none⟩) 1 1] 47)) (some ⟨w.heap.size + 1 + 1, 0, none⟩) 2 Tq ∧ Below w.heap.size w (((w.alloc (.cells #[.int .i64 2, .int .i64 0, .int .i64 5] 44)).alloc (.cells #[.int .i64 2, .int .i64 0, .int .i64 6] 44)).alloc (.cells #[.int .i64 1, .int .i64 0, .slice (some ⟨w.heap.size, 0, none⟩) 1 1, .int .i64 2, .int .i64 1, .slice (some ⟨w.heap.size + 1, 0, none⟩) 1 1] 47)) := by
  obtain ⟨w1, e1⟩ : ∃ w1, w1 = w.alloc (.cells #[.int .i64 2, .int .i64 0, .int .i64 5] 44) := ⟨_, rfl⟩
  obtain ⟨w2, e2⟩ : ∃ w2, w2 = w1.alloc (.cells #[.int .i64 2, .int .i64 0, .int .i64 6] 44) := ⟨_, rfl⟩
  obtain ⟨w3, e3⟩ : ∃ w3, w3 = w2.alloc (.cells #[.int .i64 1, .int .i64 0, .slice (some ⟨w.heap.size, 0, none⟩) 1 1, .int .i64 2, .int .i64 1, .slice (some ⟨w.heap.size + 1, 0, none⟩) 1 1] 47) := ⟨_, rfl⟩
  rw [← e1, ← e2, ← e3]
  have s1 : w1.heap.size = w.heap.size + 1 := by rw [e1]; simp
  have s2 : w2.heap.size = w.heap.size + 1 + 1 := by rw [e2]; simp [s1]
  have s3 : w3.heap.size = w.heap.size + 1 + 1 + 1 := by rw [e3]; simp [s2]
  have h1 : w1.heap[w.heap.size]? = some (.cells #[.int .i64 2, .int .i64 0, .int .i64 5] 44 (0, 0)) := by rw [e1]; exact heap_alloc_new w _
  have h2 : w2.heap[w.heap.size + 1]? = some (.cells #[.int .i64 2, .int .i64 0, .int .i64 6] 44 (0, 0)) := by rw [e2, ← s1]; exact heap_alloc_new w1 _
  have h3 : w3.heap[w.heap.size + 1 + 1]? = some (.cells #[.int .i64 1, .int .i64 0, .slice (some ⟨w.heap.size, 0, none⟩) 1 1, .int .i64 2, .int .i64 1, .slice (some ⟨w.heap.size + 1, 0, none⟩) 1 1] 47 (0, 0)) := by rw [e3, ← s2]; exact heap_alloc_new w2 _
  have b1 : Below w1.heap.size w1 w2 := by rw [e2]; exact (Below.refl _ _).alloc (Nat.le_refl _) _
  have b2 : Below w2.heap.size w2 w3 := by rw [e3]; exact (Below.refl _ _).alloc (Nat.le_refl _) _
  have b0 : Below w.heap.size w w1 := by rw [e1]; exact (Below.refl _ _).alloc (Nat.le_refl _) _
  have k1 := (b2.block _ (by omega : w.heap.size < w2.heap.size)).trans ((b1.block _ (by omega)).trans h1)
  have k2 := (b2.block _ (by omega : w.heap.size + 1 < w2.heap.size)).trans h2
  refine ⟨fun _ => ⟨_, 0, rfl, by omega, fun j hj => ?_⟩, (b0.trans (b1.mono (by omega))).trans (b2.mono (by omega))⟩
  have c3 : ∀ i, w3.cell? ⟨w.heap.size + 1 + 1, i, none⟩ = #[Value.int .i64 1, .int .i64 0, .slice (some ⟨w.heap.size, 0, none⟩) 1 1, .int .i64 2, .int .i64 1, .slice (some ⟨w.heap.size + 1, 0, none⟩) 1 1][i]? := fun i => cell_of_row _ _ _ _ _ _ h3
  rcases (show j = 0 ∨ j = 1 by omega) with rfl | rfl
  · refine ⟨some ⟨w.heap.size, 0, none⟩, 1, by rw [c3]; rfl, by rw [c3]; rfl, by rw [c3]; rfl, fun _ => ⟨_, 0, rfl, by omega, fun i hi => ?_⟩⟩
    obtain rfl : i = 0 := by have : i < 1 := hi; omega
    exact (cells3 k1).1
  · refine ⟨some ⟨w.heap.size + 1, 0, none⟩, 1, by rw [c3]; rfl, by rw [c3]; rfl, by rw [c3]; rfl, fun _ => ⟨_, 0, rfl, by omega, fun i hi => ?_⟩⟩
    obtain rfl : i = 0 := by have : i < 1 := hi; omega
    exact (cells3 k2).1

/-- a row of choices' cells -/
theorem row58 {w : World} {base n cap : Nat} {sp : Option Addr} {l : List C4} {e : TypeId} (h : w.ownsRow base e 4 (.slice sp n cap) n (rowK l)) (hn : n = l.length) {i : Nat} (hi : i < n) :
    ∃ g, sp = some ⟨g, 0, none⟩ ∧ g < w.heap.size ∧ base ≤ g ∧ w.cell? ⟨g, i * 4, none⟩ = some (.int .i64 (l.getD i ⟨0, 0, 0, 0⟩).k) ∧ w.cell? ⟨g, i * 4 + 1, none⟩ = some (.int .i64 (l.getD i ⟨0, 0, 0, 0⟩).y) ∧ w.cell? ⟨g, i * 4 + 2, none⟩ = some (.int .i64 (l.getD i ⟨0, 0, 0, 0⟩).a) ∧ w.cell? ⟨g, i * 4 + 3, none⟩ = some (.int .i64 (l.getD i ⟨0, 0, 0, 0⟩).b) := by
  subst hn
  obtain ⟨g, cap', e1, hb, hl⟩ := h.form (by omega)
  injection e1 with e1 _ _
  have hrow : ∀ (l : List C4) (i j : Nat), i < l.length → j < 4 → (rowK l)[i * 4 + j]? = (cells4 (l.getD i ⟨0, 0, 0, 0⟩))[j]? := by
    intro l
    induction l with
    | nil => intro i j hi; cases hi
    | cons c l ih =>
      intro i j hi hj
      cases i with
      | zero =>
        show (cells4 c ++ rowK l)[0 * 4 + j]? = _
        rw [List.getElem?_append_left (by simp [cells4]; omega)]
        simp
      | succ i =>
        show (cells4 c ++ rowK l)[(i + 1) * 4 + j]? = _
        have h4 : (cells4 c).length = 4 := rfl
        rw [List.getElem?_append_right (by omega), h4, show (i + 1) * 4 + j - 4 = i * 4 + j by omega]
        rw [ih i j (by simpa using hi) hj]
        simp
  have cl : ∀ j, j < 4 → w.cell? ⟨g, i * 4 + j, none⟩ = (cells4 (l.getD i ⟨0, 0, 0, 0⟩))[j]? := fun j hj => by
    subst e1
    rw [h.cellAt (i * 4 + j) (by omega), hrow l i j hi hj]
  exact ⟨g, e1, hl, hb, (cl 0 (by omega)).trans rfl, (cl 1 (by omega)).trans rfl, (cl 2 (by omega)).trans rfl, (cl 3 (by omega)).trans rfl⟩
end Go.Proofs.Yteobndfkkpfnlaa

namespace Go.Proofs.Yteobndfkkpfnlaa
open Go.ChangeShapes Go.WideShapes Go.ChangeAt Go.RowKit Go.Maps
set_option linter.unusedVariables false

set_option maxRecDepth 100000 in
set_option maxHeartbeats 4000000 in
theorem head9_any (w : World) : Calls Try.prog 22 #[] w (fun e w' => e = .returned (.bool true) ∧ Below w.heap.size w w') := by
  obtain ⟨hT, hB⟩ := tq_mem w
  have HC := Lib.hid (choices_any _ 2 2 Tq _ hT tq_ok (by omega))
  have HT := Lib.hid hT
  have HB := Lib.hid hB
  have hgu := @guardK
  have heq := @eqlK
  clear hT hB
  go_enter Try.func22, Try.ntmps22
  go_wp2_with fail
  obtain ⟨w3, e3⟩ : ∃ w3, w3 = (((w.alloc (.cells #[.int .i64 2, .int .i64 0, .int .i64 5] 44)).alloc (.cells #[.int .i64 2, .int .i64 0, .int .i64 6] 44)).alloc (.cells #[.int .i64 1, .int .i64 0, .slice (some ⟨w.heap.size, 0, none⟩) 1 1, .int .i64 2, .int .i64 1, .slice (some ⟨w.heap.size + 1, 0, none⟩) 1 1] 47)) := ⟨_, rfl⟩
  rw [← e3] at HC HT HB ⊢
  clear e3
  refine HC.out.mono ?_
  rintro e w4 ⟨sp, cp, rfl, ho, hb⟩
  obtain ⟨g, rfl, hgl, _, c0, c1, c2, c3⟩ := row58 ho rfl (i := 0) (by rw [tq_all]; decide)
  obtain ⟨g', eg, _, _, d0, d1, d2, d3⟩ := row58 ho rfl (i := 1) (by rw [tq_all]; decide)
  injection eg with eg
  injection eg with eg
  subst eg
  rw [tq_all] at c0 c1 c2 c3 d0 d1 d2 d3 ⊢
  simp only [List.getD_cons_zero, List.getD_cons_succ, Nat.zero_mul, Nat.one_mul, Nat.zero_add] at c0 c1 c2 c3 d0 d1 d2 d3
  have HB4 := Lib.hid (HB.out.trans (hb.mono HB.out.size))
  have hBo := bound_any _ 2 2 Tq w4 (HT.out.below hb) tq_ok
  rw [tq_all, show (2 * 2 ^ min [(⟨1, 0, 0, 0⟩ : C4), ⟨2, 0, 0, 1⟩].length 40 - 1 : Int) = 7 from rfl] at hBo
  have HBO := Lib.hid hBo
  clear ho hb HC hBo
  go_wp2_with fail
  refine HBO.out.mono ?_
  rintro e w5 ⟨rfl, hb5⟩
  have HB5 := Lib.hid (HB4.out.trans (hb5.mono HB4.out.size))
  clear hb5 c0 c1 c2 c3 d0 d1 d2 d3
  go_wp2
  go_ret
  exact ⟨rfl, HB5.out⟩

theorem pow_ok (t : Nat) (h : t ≤ 40) : 1 ≤ (2 : Int) ^ t ∧ (2 : Int) ^ t ≤ 1099511627776 := by
  rw [pow_cast]
  have h1 := Nat.pow_le_pow_right (n := 2) (by omega) h
  have h2 : (2 : Nat) ^ 40 = 1099511627776 := by decide
  have h3 := Nat.pow_pos (a := 2) (n := t) (by omega)
  omega
theorem pow_more (t : Nat) (h : t < 40) : (2 : Int) ^ min (t + 1) 40 = 2 * 2 ^ min t 40 := by
  rw [Nat.min_eq_left (by omega), Nat.min_eq_left (by omega), Int.pow_succ]; omega
theorem pow_stays (t : Nat) (h : ¬ t < 40) : (2 : Int) ^ min (t + 1) 40 = 2 ^ min t 40 := by
  rw [Nat.min_eq_right (by omega), Nat.min_eq_right (by omega)]

set_option maxRecDepth 100000 in
set_option maxHeartbeats 8000000 in
theorem choices_law (a : Option Addr) (len cap : Nat) (E : Nat → Ev) (w : World) (hs : EvS w a len E) :
    Calls Try.prog 8 #[.slice a len cap] w (fun e w' => e = .returned (.bool true) ∧ Below w.heap.size w w') := by
  have HS := Lib.hid hs
  have HH := Lib.hid (head9_any w)
  have hgu := @guardK'
  have heq := @neqK
  clear hs
  go_enter Try.func8, Try.ntmps8
  go_wp2_with fail
  refine HH.out.mono ?_
  rintro e w1 ⟨rfl, hb1⟩
  have HB1 := Lib.hid hb1
  have HM := Lib.hid (made_any a len cap E w1 (HS.out.below hb1))
  clear hb1 HH
  go_wp2_with fail
  refine HM.out.mono ?_
  rintro e w2 ⟨sp, m, cp, ok, rfl, hb2, hok⟩
  have HB2 := Lib.hid (HB1.out.trans (hb2.mono HB1.out.size))
  have HOK := Lib.hid hok
  clear hb2 hok HM HB1
  cases ok with
  | false =>
    go_wp2
    go_ret
    exact ⟨rfl, HB2.out⟩
  | true =>
    obtain ⟨-, -, hm60, hx, hu, ht⟩ := HOK.out rfl
    generalize (stateAt E len).T = T at *
    have HT := Lib.hid ht
    have HX := Lib.hid hx
    have HU := Lib.hid hu
    have HC := Lib.hid (choices_any sp m cp T w2 ht hx.ok (by omega))
    clear ht hx hu HOK
    go_wp2_with fail
    refine HC.out.mono ?_
    rintro e w3 ⟨s3, c3, rfl, ho3, hb3⟩
    have HO3 := Lib.hid ho3
    have HB3 := Lib.hid (HB2.out.trans (hb3.mono HB2.out.size))
    have HT3 := Lib.hid (HT.out.below hb3)
    have HR := Lib.hid (rchoices_any sp m cp T w3 (by omega) HT3.out HX.out HU.out)
    clear ho3 hb3 HC
    go_wp2_with fail
    refine HR.out.mono ?_
    rintro e w4 ⟨s4, c4, rfl, ho4, hb4⟩
    have HO4 := Lib.hid ho4
    have HO34 := Lib.hid (own_keep HO3.out fun g hg => hb4.block g (HO3.out.lt g hg).2)
    have HB4 := Lib.hid (HB3.out.trans (hb4.mono HB3.out.size))
    have HBO := Lib.hid (fun W (hW : Below w4.heap.size w4 W) => bound_any sp m cp T W ((HT3.out.below hb4).below hW) HX.out.ok)
    clear ho4 hb4 HR HO3
    have hlen : (chA T m).length ≤ 200000 := by
      unfold chA
      rw [List.length_append]
      have h1 := chC_le T m m
      have h2 := prA_le (c := cand T) m 16 (by omega)
      omega
    generalize chA T m = L at *
    obtain ⟨n, en⟩ : ∃ n, n = L.length := ⟨_, rfl⟩
    rw [← en] at HO4 HO34 HBO hlen ⊢
    have HEN := Lib.hid en
    clear en
    go_wp2
    go_loopw [7, 8, 29] (fun bv _ x wr => ∃ t : Nat, t ≤ n ∧ x = .int .i64 (t : Int) ∧ bv = .int .i64 (2 ^ min t 40) ∧ Hid (wr.heap = w4.heap ∧ Below w4.heap.size w4 wr)) (fun _ _ x _ => n - (intOf x).toNat)
    case atStart => exact ⟨0, Nat.zero_le _, rfl, rfl, Lib.hid ⟨rfl, Below.refl _ _⟩⟩
    case round =>
      obtain ⟨t, ht, rfl, rfl, HW⟩ := hrel
      by_cases hlt : t < n
      · have hlt' : (t : Int) < (n : Int) := by omega
        obtain ⟨g3, rfl, hg3, _, x0, x1, x2, x3⟩ := row58 HO34.out HEN.out hlt
        obtain ⟨g4, rfl, hg4, _, y0, y1, y2, y3⟩ := row58 HO4.out HEN.out hlt
        have e0 := (HW.out.2.cell (p := ⟨g3, t * 4, none⟩) hg3).trans x0
        have e1 := (HW.out.2.cell (p := ⟨g3, t * 4 + 1, none⟩) hg3).trans x1
        have e2 := (HW.out.2.cell (p := ⟨g3, t * 4 + 2, none⟩) hg3).trans x2
        have e3 := (HW.out.2.cell (p := ⟨g3, t * 4 + 3, none⟩) hg3).trans x3
        have f0 := (HW.out.2.cell (p := ⟨g4, t * 4, none⟩) hg4).trans y0
        have f1 := (HW.out.2.cell (p := ⟨g4, t * 4 + 1, none⟩) hg4).trans y1
        have f2 := (HW.out.2.cell (p := ⟨g4, t * 4 + 2, none⟩) hg4).trans y2
        have f3 := (HW.out.2.cell (p := ⟨g4, t * 4 + 3, none⟩) hg4).trans y3
        clear x0 x1 x2 x3 y0 y1 y2 y3
        generalize L.getD t ⟨0, 0, 0, 0⟩ = c at *
        obtain ⟨ck, cy, ca, cb⟩ := c
        dsimp only at e0 e1 e2 e3 f0 f1 f2 f3
        obtain ⟨hp1, hp2⟩ := pow_ok (min t 40) (by omega)
        obtain ⟨p, ep⟩ : ∃ p, p = (2 : Int) ^ min t 40 := ⟨_, rfl⟩
        rw [← ep] at hp1 hp2 ⊢
        have HEP := Lib.hid ep
        clear ep
        have hw1 : IntKind.i64.wrap (2 * p) = 2 * p := IntWalk.i64_in _ (by omega)
        go_wp2
        go_region
        by_cases h40 : t < 40
        · have h40' : (t : Int) < 40 := by omega
          clear e0 e1 e2 e3 f0 f1 f2 f3
          go_wp2
          go_roundw
          case rel => exact ⟨t + 1, by omega, by go_num, by rw [pow_more t h40, ← HEP.out], Lib.hid ⟨HW.out.1, HW.out.2.drew⟩⟩
          case measure => simp [intOf]; omega
        · have h40' : ¬ (t : Int) < 40 := by omega
          clear e0 e1 e2 e3 f0 f1 f2 f3 hw1
          go_wp2
          go_roundw
          case rel => exact ⟨t + 1, by omega, by go_num, by rw [pow_stays t h40, ← HEP.out], Lib.hid ⟨HW.out.1, HW.out.2.drew⟩⟩
          case measure => simp [intOf]; omega
      · obtain rfl : t = n := by omega
        have HBW := Lib.hid (HB4.out.trans (HW.out.2.mono HB4.out.size))
        have HBO2 : Hid (Calls Try.prog 26 #[.slice sp m cp] wr fun e w' => e = .returned (.int .i64 (2 * 2 ^ (min t 40) - 1)) ∧ Below wr.heap.size wr w') := Lib.hid (HBO.out wr HW.out.2)
        obtain ⟨hp1, hp2⟩ := pow_ok (min t 40) (by omega)
        obtain ⟨p, ep⟩ : ∃ p, p = (2 : Int) ^ min t 40 := ⟨_, rfl⟩
        rw [← ep] at hp1 hp2 HBO2 ⊢
        clear ep
        have hw1 : IntKind.i64.wrap (2 * p) = 2 * p := IntWalk.i64_in _ (by omega)
        have hw2 : IntKind.i64.wrap (2 * p - 1) = 2 * p - 1 := IntWalk.i64_in _ (by omega)
        go_wp2_with fail
        refine HBO2.out.mono ?_
        rintro e w6 ⟨rfl, hb6⟩
        have HB6 := Lib.hid (HBW.out.trans (hb6.mono HBW.out.size))
        clear hb6
        go_wp2
        go_ret
        exact ⟨rfl, HB6.out⟩
end Go.Proofs.Yteobndfkkpfnlaa

