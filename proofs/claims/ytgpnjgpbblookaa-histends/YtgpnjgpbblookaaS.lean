/-
  The reference's Copy.
-/
import Derived.Test.YtgpnjgpbblookaaR
import Derived.Deep.RegionHeld3
namespace Go.Proofs.Ytgpnjgpbblookaa
open Go.ChangeShapes Go.WideShapes Go.ChangeAt Go.RowKit

theorem own_nil' {w : World} {base e size n cap : Nat} {sp : Option Addr} {xs : List Value} (h : w.ownsRow base e size (.slice sp n cap) n xs) : sp = none → n = 0 ∧ cap = 0 := by
  intro hs
  rcases h.2 with ⟨e, _⟩ | ⟨g, cp, cur, e, _⟩
  · injection e with e1 e2 e3; exact ⟨e2, e3⟩
  · injection e with e1 e2 e3; rw [hs] at e1; cases e1

set_option maxRecDepth 100000 in
set_option maxHeartbeats 4000000 in
theorem copy_any (a : Option Addr) (len cap : Nat) (E : Nat → Ev) (w : World) (hl : len ≤ 1000) (hn : ∀ i, i < len → (E i).n ≤ 1000) (hs : EvS w a len E) : Calls Try.prog 12 #[.slice a len cap] w (CopyP len E w) := by
  obtain ⟨i1, hi1, hz0, hz1, hz2⟩ := info_parts info43
  have HS := Lib.hid hs
  have HN := Lib.hid hn
  clear hs hn
  have HO0 : Hid (EvO (w.alloc (.cells #[] 43)) w.heap.size (.slice (some ⟨w.heap.size, 0, none⟩) 0 0) 0 E (fun _ => .slice none 0 0)) := Lib.hid ⟨World.ownsRow_lit w #[] 0 (Nat.le_refl _) (Nat.zero_le _) rfl, fun i hi => absurd hi (Nat.not_lt_zero _)⟩
  have HB0 : Hid (Below w.heap.size w (w.alloc (.cells #[] 43))) := Lib.hid ((Below.refl _ _).alloc (Nat.le_refl _) _)
  go_enter Try.func12, Try.ntmps12
  go_wp2
  obtain ⟨wi, ewi⟩ : ∃ wi, wi = w.alloc (.cells #[] 43) := ⟨_, rfl⟩
  rw [← ewi] at HO0 HB0 ⊢
  clear ewi
  go_loopw [3, 5, 9] (fun vo _ x wr => ∃ (t : Nat) (V : Nat → Value), t ≤ len ∧ x = .int .i64 (t : Int) ∧ Hid (Below w.heap.size w wr ∧ EvO wr w.heap.size vo t E V)) (fun _ _ x _ => len - (intOf x).toNat)
  case atStart => exact ⟨0, _, Nat.zero_le _, rfl, Lib.hid ⟨HB0.out, HO0.out⟩⟩
  case round =>
    obtain ⟨t, V, ht, rfl, HR⟩ := hrel
    by_cases hlt : t < len
    · obtain ⟨b, off, rfl, hbl, hci⟩ := HS.out (by omega)
      obtain ⟨sp, cp, c0, c1, c2, ho, hp, hnn⟩ := hci t hlt
      have x0 := (HR.out.1.cell (p := ⟨b, off + t * 3, none⟩) hbl).trans c0
      have x1 := (HR.out.1.cell (p := ⟨b, off + t * 3 + 1, none⟩) hbl).trans c1
      have x2 := (HR.out.1.cell (p := ⟨b, off + t * 3 + 2, none⟩) hbl).trans c2
      have hlt' : (t : Int) < (len : Int) := by omega
      have hn1 := HN.out t hlt
      obtain ⟨spo, cpo, evo⟩ := own_form' HR.out.2.row
      subst evo
      have hogl : ∀ g, (Value.slice spo t cpo).ownBlock = some g → g < wr.heap.size := fun g hg => (HR.out.2.row.lt g hg).2
      have HOG := Lib.hid hogl
      have HEO := Lib.hid HR.out.2
      have HBR := Lib.hid HR.out.1
      have HOP := Lib.hid (ho.below HR.out.1)
      have HPP := Lib.hid hp
      have HAD : Hid (∀ {W W' : World} {v' : Value} {s6 : Option Addr} {c6 : Nat}, EvO W w.heap.size (.slice spo t cpo) t E V → W.ownsRow w.heap.size 38 3 (.slice s6 (E t).n c6) (E t).n (rowO (E t).o (E t).n) → (s6 = none → (E t).n = 0 ∧ c6 = 0) → W'.ownsRow w.heap.size 43 3 v' (t + 1) (rowT (fun i => asT (E i)) V t ++ [.int .i64 (E t).k, .int .i64 (E t).c, .slice s6 (E t).n c6]) → W.grownBy W' (Value.ownBlock (.slice spo t cpo)) → EvO W' w.heap.size v' (t + 1) E (fun i => if i = t then .slice s6 (E t).n c6 else V i)) := Lib.hid fun h1 h2 h3 h4 h5 => h1.added h2 h3 (by omega) h4 h5
      clear c0 c1 c2 ho hp hnn hci HR hogl
      generalize (E t).k = ek at *
      generalize (E t).c = ec at *
      generalize (E t).n = en at *
      generalize (E t).o = eo at *
      obtain ⟨wx, ewx⟩ : ∃ wx, wx = wr.alloc (.cells #[.int .i64 ek, .int .i64 ec, .slice sp en cp] 43) := ⟨_, rfl⟩
      have hbx : Below wr.heap.size wr wx := by rw [ewx]; exact (Below.refl _ _).alloc (Nat.le_refl _) _
      have hxl : wr.heap.size < wx.heap.size := by rw [ewx]; simp
      have hxx : wx.heap[wr.heap.size]? = some (.cells #[.int .i64 ek, .int .i64 ec, .slice sp en cp] 43 (0, 0)) := by rw [ewx]; exact heap_alloc_new wr _
      have HEX := Lib.hid (HEO.out.below hbx)
      have HOX := Lib.hid (HOP.out.below hbx)
      have HBX := Lib.hid (HBR.out.trans (hbx.mono HBR.out.size))
      have HKK : Hid (∀ W, Below wx.heap.size wx W → W.cell? ⟨wr.heap.size, 0, none⟩ = some (.int .i64 ek) ∧ W.cell? ⟨wr.heap.size, 1, none⟩ = some (.int .i64 ec) ∧ W.cell? ⟨wr.heap.size, 2, none⟩ = some (.slice sp en cp)) := Lib.hid fun W hb => (cells3 ((hb.block _ hxl).trans hxx)).1
      have HKG : Hid (∀ W W', Below wx.heap.size wx W → W.grownBy W' (Value.ownBlock (.slice spo t cpo)) → W'.cell? ⟨wr.heap.size, 0, none⟩ = some (.int .i64 ek) ∧ W'.cell? ⟨wr.heap.size, 1, none⟩ = some (.int .i64 ec) ∧ W'.cell? ⟨wr.heap.size, 2, none⟩ = some (.slice sp en cp)) := Lib.hid fun W W' hb hg => (cells3 ((hg.block _ (Nat.lt_of_lt_of_le hxl hb.size) (fun e => by have := HOG.out _ e.symm; omega)).trans ((hb.block _ hxl).trans hxx))).1
      have HO1 : Hid ((wx.drew.alloc (.cells #[] 38)).ownsRow w.heap.size 38 3 (.slice (some ⟨wx.heap.size, 0, none⟩) 0 0) 0 []) := Lib.hid (World.ownsRow_lit wx.drew #[] 0 HBX.out.size (Nat.zero_le _) rfl)
      have HNW : Hid (∀ (W : World) (s6 : Option Addr) (c6 : Nat) (j : Nat) (u : Value), [Value.int .i64 ek, .int .i64 ec, .slice s6 en c6][j]? = some u → (W.alloc (.cells #[.int .i64 ek, .int .i64 ec, .slice s6 en c6] 43)).cell? ((⟨W.heap.size, 0, none⟩ : Addr).add j) = some u) := Lib.hid fun W s6 c6 j u hj => by
        rw [Go.WideShapes.add_plain, cell_of_row _ _ _ _ 43 (0, 0) (heap_alloc_new W _), Nat.zero_add]
        simpa using hj
      have hB0 : Below wx.heap.size wx wx := Below.refl _ _
      have hB1 : Below wx.heap.size wx wx.drew := hB0.drew
      have hB2 : Below wx.heap.size wx (wx.drew.alloc (.cells #[] 38)) := hB1.alloc (Nat.le_refl _) _
      have hB3 : Below wx.heap.size wx (wx.alloc (.cells #[] 38)).drew := (hB0.alloc (Nat.le_refl _) _).drew
      go_wp2
      rw [← ewx]
      clear ewx hbx hxx
      go_region_held3 (fun W => W.cell? ⟨wr.heap.size, 0, none⟩ = some (.int .i64 ek) ∧ W.cell? ⟨wr.heap.size, 1, none⟩ = some (.int .i64 ec) ∧ W.cell? ⟨wr.heap.size, 2, none⟩ = some (.slice sp en cp))
        (first | exact HKK.out _ hB1 | exact HKK.out _ hB0 | exact HKK.out _ hB2 | exact HKK.out _ hB3 | exact HKK.out _ hB6 | exact HKK.out _ (hB6.alloc hB6.size _) | exact HKG.out _ _ (hB6.alloc hB6.size _) hg7)
        (first
          | (refine step_append_lies _ (by rfl) _ _ 22 (by rfl) w.heap.size 43 i1 (.agg #[.int .i64 0, .int .i64 0, .slice none 0 0]) 3 40 Try.underlying22 hi1 hz0 hz1 hz2 rfl (by decide) _ t (rowT (fun i => asT (E i)) V t) (by rfl) (HEX.out.below (hB6.alloc hB6.size _)).row ⟨w6.heap.size, 0, none⟩ 1 1 [.int .i64 ek, .int .i64 ec, .slice s6 en c6] (by rfl) (by rfl) (HNW.out w6 s6 c6) (by intro u hu; simp at hu; rcases hu with rfl | rfl | rfl <;> rfl) (by omega) (by unfold maxLen; omega) (by omega) (Nat.le_trans HBX.out.size (Nat.le_trans hB6.size (by simp))) _ rfl ?_; intro g7 c7 w7 ho7 hg7 hat7 hl7)
          | (refine step_append_ops (by rfl) _ _ (by rfl) w.heap.size _ (by rfl) HO1.out sp en cp eo (by rfl) (HOX.out.below hB2) HPP.out (by omega) (Nat.le_trans HBX.out.size hB2.size) ?_; intro v6 w6 ho6 hg6; obtain ⟨s6, c6, rfl⟩ := own_form' ho6; have hB6 : Below wx.heap.size wx w6 := hB2.grown hg6 hB2.size (fun q hq => by simp [Value.ownBlock] at hq; omega)))
      have HE7 := Lib.hid (HAD.out (HEX.out.below (hB6.alloc hB6.size (.cells #[.int .i64 ek, .int .i64 ec, .slice s6 en c6] 43))) (ho6.alloc _) (own_nil' ho6) ho7 hg7)
      have HB7 := Lib.hid ((HBX.out.trans ((hB6.alloc hB6.size _).mono HBX.out.size)).grown hg7 (Nat.le_trans HBX.out.size (Nat.le_trans hB6.size (by simp))) (fun q hq => (HEO.out.row.lt q hq).1))
      clear ho7 hg7 hat7 ho6 hg6 hB0 hB1 hB2 hB3 hB6 HKK HKG
      go_wp2
      go_roundw
      case rel => exact ⟨t + 1, _, by omega, by go_num, Lib.hid ⟨HB7.out, HE7.out⟩⟩
      case measure => simp [intOf]; omega
    · obtain rfl : len = t := by omega
      go_wp2
      go_ret
      exact ⟨_, V, rfl, HR.out.2, HR.out.1⟩
end Go.Proofs.Ytgpnjgpbblookaa
