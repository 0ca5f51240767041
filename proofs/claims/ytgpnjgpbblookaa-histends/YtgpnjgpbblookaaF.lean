/-
  Contract of begin.
-/
import Derived.Test.YtgpnjgpbblookaaE
import Derived.Deep.RegionHeld3
import Derived.Deep.RegionLaw
namespace Go.Proofs.Ytgpnjgpbblookaa
open Go.ChangeShapes Go.WideShapes Go.ChangeAt Go.RowKit Go.Maps

theorem own_form' {w : World} {base e size n : Nat} {v : Value} {xs : List Value} (h : w.ownsRow base e size v n xs) : ∃ sp cp, v = .slice sp n cp := by
  rcases h.2 with ⟨e, rfl⟩ | ⟨g, cp, cur, e, _⟩
  · exact ⟨_, _, e⟩
  · exact ⟨_, _, e⟩
theorem blk_keep {W W' : World} {B m hb : Nat} {v : Value} {xs : List Value} {C : Array Value} (hrow : W.ownsRow B 36 3 v m xs) (hblk : W.heap[hb]? = some (.cells C 49 (0, 0))) (hg : W.grownBy W' v.ownBlock) : W'.heap[hb]? = some (.cells C 49 (0, 0)) := by
  have hq : hb < W.heap.size := by
    rcases Nat.lt_or_ge hb W.heap.size with h' | h'
    · exact h'
    · rw [Array.getElem?_eq_none h'] at hblk; cases hblk
  refine (hg.block hb hq (fun e => ?_)).trans hblk
  obtain ⟨cur, e3⟩ := own_cells hrow e.symm
  rw [hblk] at e3
  injection e3 with e3
  injection e3 with _ e3 _
  cases e3
theorem step_update_S {w : World} {ops : Array Oper} {o : Oper} {a : Act} {K : Act → World → Prop} {Q : Exit → Act → World → Prop} {E : Prop}
    (hg : o.guard = none) (m x v : Operand) (hop : o.op = Op.mapUpdate 47 m x v) (b n : Nat) (M : Int → Option Int)
    (hm : a.eval m = .map (some b)) (hown : MapS w b n M) (hn : n < 1000000) (key val : Int) (hx : a.eval x = .int .i64 key) (hv : a.eval v = .int .i64 val)
    (hkr : -9223372036854775808 ≤ key ∧ key ≤ 9223372036854775807) (hvr : -9223372036854775808 ≤ val ∧ val ≤ 9223372036854775807)
    (hK : ∀ w', MapS w' b (n + 1) (fun y => if y = key then some val else M y) → w.grownBy w' (some b) → K (a.put o.dst undef) w') :
    if Region.wanted o (yielded ops a.tmps) = true then Oper.wp Try.prog o a w K Q else E := by
  have hw : Region.wanted o (yielded ops a.tmps) = true := by simp [Region.wanted, hg]
  rw [if_pos hw]
  obtain ⟨w', hrun, h1, h2⟩ := hown.update key val hn hkr hvr
  unfold Oper.wp
  simp [execOp, hop, hm, hx, hv, hrun, Result.andThen]
  exact hK w' h1 h2

theorem own_mono' {w : World} {b b' e z n : Nat} {v : Value} {xs : List Value} (h : w.ownsRow b e z v n xs) (hb : b' ≤ b) : w.ownsRow b' e z v n xs := by
  refine ⟨h.1, ?_⟩
  rcases h.2 with h0 | ⟨g, cap, cur, hv, hg, hrest⟩
  · exact .inl h0
  · exact .inr ⟨g, cap, cur, hv, Nat.le_trans hb hg, hrest⟩
theorem beg_fin {w w5 w6 w7 : World} {B hb mb mw m nb nw n cpv c6 g7 c7 : Nat} {spv s6 : Option Addr} {T : Nat → Tx} {V : Nat → Value} {bz wm : Int → Option Int} {c : Int} {o : Nat → O3}
    (hS : HSt w5 B hb mb mw m (.slice spv m cpv) T V nb nw bz wm) (hB5 : Below B w w5) (hBl : B ≤ w5.heap.size) (hb6 : Below w5.drew.heap.size w5.drew w6) (ho6 : w6.ownsRow w5.drew.heap.size 38 3 (.slice s6 n c6) n (rowO o n)) (hp6 : s6 = none → n = 0 ∧ c6 = 0)
    (ho7 : w7.ownsRow B 36 3 (.slice (some ⟨g7, 0, none⟩) (m + 1) c7) (m + 1) (rowT T V m ++ [.int .i64 c, .int .i64 0, .slice s6 n c6]))
    (hg7 : (w6.alloc (.cells #[.int .i64 c, .int .i64 0, .slice s6 n c6] 36)).grownBy w7 (Value.ownBlock (.slice spv m cpv))) :
    Below B w (w7.setCell ⟨hb, 0, none⟩ (.slice (some ⟨g7, 0, none⟩) (m + 1) c7)) ∧ ∃ V', HSt (w7.setCell ⟨hb, 0, none⟩ (.slice (some ⟨g7, 0, none⟩) (m + 1) c7)) B hb mb mw (m + 1) (.slice (some ⟨g7, 0, none⟩) (m + 1) c7) (fun i => if i = m then ⟨c, 0, n, o⟩ else T i) V' nb nw bz wm := by
  have hB6 : Below w5.heap.size w5 w6 := ((Below.refl _ _).drew).trans hb6
  have hBA : Below w5.heap.size w5 (w6.alloc (.cells #[.int .i64 c, .int .i64 0, .slice s6 n c6] 36)) := hB6.alloc hB6.size _
  have hSA := hS.below hBA
  have h7 : Below B w w7 := (hB5.trans (hBA.mono hBl)).grown hg7 (Nat.le_trans hBl hBA.size) (fun q hq => (hSA.row.lt q hq).1)
  have hblk := blk_keep hSA.row hSA.blk hg7
  refine ⟨h7.setCell hSA.low.1 _, _, HSt.added (t := ⟨c, 0, n, o⟩) hSA (own_mono' (ho6.alloc _) hBl) hp6 ho7 hg7 (fun g hg e => ?_) rfl⟩
  obtain ⟨cur, e3⟩ := own_cells ho7 hg
  rw [e, hblk] at e3
  injection e3 with e3
  injection e3 with _ e3 _
  cases e3

def BegP (B hb mb mw m nb nw : Nat) (T : Nat → Tx) (bz wm : Int → Option Int) (c : Int) (n : Nat) (o : Nat → O3) (w : World) (e : Ending) (w' : World) : Prop :=
  Below B w w' ∧ (((∃ i, i < n ∧ Dup o m wm i) ∧ e = .returned (.int .i64 23)) ∨
    ((∀ i, i < n → ¬ Dup o m wm i) ∧ e = .returned (.int .i64 0) ∧ ∃ v' V', HSt w' B hb mb mw (m + 1) v' (fun i => if i = m then ⟨c, 0, n, o⟩ else T i) V' (nb + 1) (nw + n) (fun y => if y = c then some (m : Int) else bz y) (wmI o m wm n)))

set_option maxRecDepth 100000 in
set_option maxHeartbeats 4000000 in
theorem begin_any (w0 : World) (B hb mb mw m : Nat) (v : Value) (T : Nat → Tx) (V : Nat → Value) (nb nw : Nat) (bz wm : Int → Option Int) (k c : Int) (sp : Option Addr) (n cap : Nat) (o : Nat → O3) (w : World)
    (hB : w0.heap.size = B) (hb0 : Below B w0 w) (hs : OpS w0 sp n o) (hsp : sp = none → n = 0 ∧ cap = 0) (hn : n ≤ 12) (hm : m ≤ 400) (hnb : nb ≤ 1000) (hnw : nw ≤ 10000) (hc : 1 ≤ c ∧ c ≤ 16) (hsn : ∀ i, i < n → SOp (o i) 1) (hst : HSt w B hb mb mw m v T V nb nw bz wm) :
    Calls Try.prog 32 #[.pointer (some ⟨hb, 0, none⟩), .agg #[.int .i64 k, .int .i64 c, .slice sp n cap]] w (BegP B hb mb mw m nb nw T bz wm c n o w) := by
  obtain ⟨i0, hi, hz0, hz1, hz2⟩ := info_parts info36
  obtain ⟨spv, cpv, ev⟩ := own_form' hst.row
  have HS := Lib.hid hs
  have HSP := Lib.hid hsp
  have HSN := Lib.hid hsn
  have HB0 := Lib.hid hb0
  have HBS := Lib.hid hB
  have hBw : B ≤ w.heap.size := by have := hb0.size; omega
  have hlow := hst.low
  have HX : Hid (HSt (w.alloc (.cells #[.int .i64 k, .int .i64 c, .slice sp n cap] 43)) B hb mb mw m v T V nb nw bz wm) := Lib.hid (hst.below ((Below.refl _ _).alloc (Nat.le_refl _) _))
  have HBX : Hid (Below B w (w.alloc (.cells #[.int .i64 k, .int .i64 c, .slice sp n cap] 43))) := Lib.hid ((Below.refl _ _).alloc hBw _)
  have HQ : Hid ((w.alloc (.cells #[.int .i64 k, .int .i64 c, .slice sp n cap] 43)).heap[w.heap.size]? = some (.cells #[.int .i64 k, .int .i64 c, .slice sp n cap] 43 (0, 0))) := Lib.hid (heap_alloc_new w _)
  obtain ⟨⟨c0, c1, c2⟩, _⟩ := cells3 HX.out.blk
  subst ev
  have hhq : hb ≠ w.heap.size := fun e => by have := hst.blk; rw [e, Array.getElem?_eq_none (Nat.le_refl _)] at this; cases this
  clear hs hsp hsn hb0 hst hB
  go_enter Try.func32, Try.ntmps32
  go_wp2
  obtain ⟨wx, ewx⟩ : ∃ wx, wx = w.alloc (.cells #[.int .i64 k, .int .i64 c, .slice sp n cap] 43) := ⟨_, rfl⟩
  rw [← ewx] at HX HBX HQ ⊢
  clear ewx c0 c1 c2
  have hBw2 := hBw
  obtain ⟨Q, eQ⟩ : ∃ Q, Q = w.heap.size := ⟨_, rfl⟩
  rw [← eQ] at HQ hhq hBw ⊢
  clear eQ
  go_loopw [7, 8, 9, 18] (fun _ _ _ i wr => ∃ s : Nat, s ≤ n ∧ i = .int .i64 (s : Int) ∧ Hid (Below B w wr ∧ HSt wr B hb mb mw m (.slice spv m cpv) T V nb (nw + s) bz (wmI o m wm s) ∧ wr.heap[Q]? = some (.cells #[.int .i64 k, .int .i64 c, .slice sp n cap] 43 (0, 0)) ∧ ∀ j, j < s → ¬ Dup o m wm j)) (fun _ _ _ i _ => n - (intOf i).toNat)
  case atStart => exact ⟨0, Nat.zero_le _, rfl, Lib.hid ⟨HBX.out, HX.out, HQ.out, fun i hi => absurd hi (Nat.not_lt_zero _)⟩⟩
  case round =>
    obtain ⟨s, hs, rfl, HR⟩ := hrel
    have HB0R := Lib.hid (HB0.out.trans HR.out.1)
    have hQl : Q < wr.heap.size := by
      rcases Nat.lt_or_ge Q wr.heap.size with h' | h'
      · exact h'
      · have := HR.out.2.2.1; rw [Array.getElem?_eq_none h'] at this; cases this
    by_cases hlt : s < n
    · obtain ⟨b, off, rfl, hbl, hci⟩ := HS.out (by omega)
      have hbB : b < B := by have := HBS.out; omega
      obtain ⟨c0, c1, c2⟩ := hci s hlt
      have x0 := (HB0R.out.cell (p := ⟨b, off + s * 3, none⟩) hbB).trans c0
      have x1 := (HB0R.out.cell (p := ⟨b, off + s * 3 + 1, none⟩) hbB).trans c1
      have x2 := (HB0R.out.cell (p := ⟨b, off + s * 3 + 2, none⟩) hbB).trans c2
      have hlt' : (s : Int) < (n : Int) := by omega
      have hsop := HSN.out s hlt
      have hvr : 0 ≤ (o s).v ∧ (o s).v < 1099511627776 := ⟨hsop.2.2.1, hsop.2.2.2.1⟩
      have HDU : Hid (Dup o m wm s ↔ (o s).k = 2 ∧ (wmI o m wm s (o s).v).isSome = true) := Lib.hid Iff.rfl
      have HW1 : Hid (wmI o m wm (s + 1) = if (o s).k = 2 then (fun y => if y = (o s).v then some (m : Int) else wmI o m wm s y) else wmI o m wm s) := Lib.hid rfl
      have HPN : Hid (¬ Dup o m wm s → ∀ j, j < s + 1 → ¬ Dup o m wm j) := Lib.hid fun h j hj => by
        by_cases hh : j < s
        · exact HR.out.2.2.2 j hh
        · obtain rfl : j = s := by omega
          exact h
      have HEX : Hid (Dup o m wm s → ∃ i, i < n ∧ Dup o m wm i) := Lib.hid fun h => ⟨s, hlt, h⟩
      have HST := Lib.hid HR.out.2.1
      have HBR := Lib.hid HR.out.1
      have HQR := Lib.hid HR.out.2.2.1
      generalize hL : wmI o m wm s = L at *
      generalize hos : o s = os_ at *
      obtain ⟨tk, tkey, tv⟩ := os_
      dsimp only [] at x0 x1 x2 HDU HW1 hvr
      have hwx : Below wr.heap.size wr (wr.alloc (.cells #[.int .i64 tk, .int .i64 tkey, .int .i64 tv] 38)) := (Below.refl _ _).alloc (Nat.le_refl _) _
      obtain ⟨⟨e0, e1, e2⟩, _⟩ := cells3 (heap_alloc_new wr (.cells #[.int .i64 tk, .int .i64 tkey, .int .i64 tv] 38))
      have HSY := Lib.hid (HST.out.below hwx)
      have HQY := Lib.hid ((hwx.block _ hQl).trans HQR.out)
      have hBr : B ≤ wr.heap.size := Nat.le_trans hBw2 HBR.out.size
      have HBY := Lib.hid (HBR.out.alloc hBr (.cells #[.int .i64 tk, .int .i64 tkey, .int .i64 tv] 38))
      obtain ⟨⟨f0, f1, f2⟩, _⟩ := cells3 HSY.out.blk
      clear c0 c1 c2 hci hL hos hsop hwx HR
      by_cases h2 : tk = 2
      · have h2b : (tk != 2) = false := by rw [h2]; rfl
        have hlook : ∀ q, (Instr.lookup 47 (.map (some mw)) (.int .i64 tv) true).run Try.prog ((wr.alloc (.cells #[.int .i64 tk, .int .i64 tkey, .int .i64 tv] 38)).drewN q) = .ok (.tuple #[.int .i64 ((L tv).getD 0), .bool (L tv).isSome]) ((wr.alloc (.cells #[.int .i64 tk, .int .i64 tkey, .int .i64 tv] 38)).drewN q) := fun q => (HSY.out.wri.drewN q).look tv (by omega)
        cases hLk : L tv with
        | some lv =>
          rw [hLk] at hlook
          simp only [Option.getD_some, Option.isSome_some] at hlook
          have HD : Hid (∃ i, i < n ∧ Dup o m wm i) := Lib.hid (HEX.out (HDU.out.2 ⟨h2, by rw [hLk]; rfl⟩))
          clear hLk h2
          go_wp2
          go_quiet (fail)
          go_wp2
          go_ret
          exact ⟨below_drewN HBY.out _, .inl ⟨HD.out, rfl⟩⟩
        | none =>
          rw [hLk] at hlook
          simp only [Option.getD_none, Option.isSome_none] at hlook
          have HND : Hid (¬ Dup o m wm s) := Lib.hid (fun h => by have := (HDU.out.1 h).2; rw [hLk] at this; cases this)
          have HWE : Hid (wmI o m wm (s + 1) = fun y => if y = tv then some (m : Int) else L y) := Lib.hid (by rw [HW1.out, if_pos h2])
          clear hLk h2
          go_wp2
          go_quiet (fail)
          go_wp2
          obtain ⟨wz, ewz⟩ : ∃ wz, wz = (wr.alloc (.cells #[.int .i64 tk, .int .i64 tkey, .int .i64 tv] 38)).drewN nq := ⟨_, rfl⟩
          rw [← ewz]
          have HSZ : Hid (HSt wz B hb mb mw m (.slice spv m cpv) T V nb (nw + s) bz L) := Lib.hid (by rw [ewz]; exact HSY.out.keep (fun _ _ => rfl))
          have HQZ : Hid (wz.heap[Q]? = some (.cells #[.int .i64 k, .int .i64 c, .slice (some ⟨b, off, none⟩) n cap] 43 (0, 0))) := Lib.hid (by rw [ewz]; exact HQY.out)
          have HBZ : Hid (Below B w wz) := Lib.hid (by rw [ewz]; exact below_drewN HBY.out _)
          have hPz : wz.heap[wr.heap.size]? = some (.cells #[.int .i64 tk, .int .i64 tkey, .int .i64 tv] 38 (0, 0)) := by rw [ewz]; exact heap_alloc_new wr _
          obtain ⟨es, cl, hmap⟩ := HSZ.out.wri.isMap
          have HKG : Hid (∀ W, wz.drew.grownBy W (some mw) → (W.cell? ⟨hb, 2, none⟩ = some (.map (some mw)) ∧ W.cell? ⟨wr.heap.size, 2, none⟩ = some (.int .i64 tv)) ∧ W.heap[Q]? = wz.heap[Q]?) := Lib.hid fun W hg => by
            have hk : ∀ {q : Nat} {cs : Array Value} {t : Nat}, wz.heap[q]? = some (.cells cs t (0, 0)) → W.heap[q]? = some (.cells cs t (0, 0)) := fun {q cs t} e => by
              have hq : q < wz.heap.size := by
                rcases Nat.lt_or_ge q wz.heap.size with h' | h'
                · exact h'
                · rw [Array.getElem?_eq_none h'] at e; cases e
              exact (hg.block q hq (fun e' => by injection e' with e'; rw [e', hmap] at e; cases e)).trans e
            exact ⟨⟨(cells3 (hk HSZ.out.blk)).1.2.2, (cells3 (hk hPz)).1.2.2⟩, (hk HQZ.out).trans HQZ.out.symm⟩
          have HKK : Hid (∀ W : World, W.heap = wz.heap → W.cell? ⟨hb, 2, none⟩ = some (.map (some mw)) ∧ W.cell? ⟨wr.heap.size, 2, none⟩ = some (.int .i64 tv)) := Lib.hid fun W hW => ⟨(cells3 (by rw [hW]; exact HSZ.out.blk)).1.2.2, (cells3 (by rw [hW]; exact hPz)).1.2.2⟩
          have HMZ : Hid (MapS wz.drew mw (nw + s) L) := Lib.hid (HSZ.out.wri.kept rfl)
          obtain ⟨w5, hrun5, hm5, hg5⟩ := HMZ.out.update tv (m : Int) (by omega) (by omega) (by omega)
          have HM5 := Lib.hid hm5
          have HG5 := Lib.hid hg5
          clear ewz hmap hPz hm5 hg5
          go_region_held3 (fun W => W.cell? ⟨hb, 2, none⟩ = some (.map (some mw)) ∧ W.cell? ⟨wr.heap.size, 2, none⟩ = some (.int .i64 tv))
            (first | exact HKK.out _ rfl | exact (HKG.out _ HG5.out).1)
            (fail)
          have HS5 : Hid (HSt w5 B hb mb mw m (.slice spv m cpv) T V nb (nw + (s + 1)) bz (wmI o m wm (s + 1))) := Lib.hid (by rw [HWE.out]; exact HSt.wrote (w := wz.drew) (HSZ.out.keep (fun _ _ => rfl)) HG5.out HM5.out)
          have HB5 := Lib.hid (HBZ.out.drew.grown HG5.out (Nat.le_trans hBw2 HBZ.out.size) (fun q hq => by injection hq with hq; omega))
          have HQ5 := Lib.hid ((HKG.out _ HG5.out).2.trans HQZ.out)
          clear HM5 HG5 HKK HKG HMZ
          go_wp2
          go_roundw
          case rel => exact ⟨s + 1, by omega, by go_num, Lib.hid ⟨HB5.out, HS5.out, HQ5.out, HPN.out HND.out⟩⟩
          case measure => simp [intOf]; omega
      · have h2b : (tk != 2) = true := by rw [bne_iff_ne]; exact h2
        have HND : Hid (¬ Dup o m wm s) := Lib.hid (fun h => h2 (HDU.out.1 h).1)
        have HWE : Hid (wmI o m wm (s + 1) = L) := Lib.hid (by rw [HW1.out, if_neg h2])
        clear h2
        go_wp2
        go_roundw
        case rel => exact ⟨s + 1, by omega, by go_num, Lib.hid ⟨HBY.out, by rw [HWE.out]; exact { HSY.out with wri := HSY.out.wri.mono (by omega) }, HQY.out, HPN.out HND.out⟩⟩
        case measure => simp [intOf]; omega
    · obtain rfl : n = s := by omega
      have HST := Lib.hid HR.out.2.1
      have HBR := Lib.hid HR.out.1
      have HQR := Lib.hid HR.out.2.2.1
      have HND := Lib.hid HR.out.2.2.2
      obtain ⟨es, cl, hmap⟩ := HST.out.busy.isMap
      have HKG : Hid (∀ W, wr.drew.grownBy W (some mb) → (W.cell? ⟨hb, 1, none⟩ = some (.map (some mb)) ∧ W.cell? ⟨Q, 1, none⟩ = some (.int .i64 c)) ∧ W.heap[Q]? = wr.heap[Q]?) := Lib.hid fun W hg => by
        have hk : ∀ {q : Nat} {cs : Array Value} {t : Nat}, wr.heap[q]? = some (.cells cs t (0, 0)) → W.heap[q]? = some (.cells cs t (0, 0)) := fun {q cs t} e => by
          have hq : q < wr.heap.size := by
            rcases Nat.lt_or_ge q wr.heap.size with h' | h'
            · exact h'
            · rw [Array.getElem?_eq_none h'] at e; cases e
          exact (hg.block q hq (fun e' => by injection e' with e'; rw [e', hmap] at e; cases e)).trans e
        exact ⟨⟨(cells3 (hk HST.out.blk)).1.2.1, (cells3 (hk HQR.out)).1.2.1⟩, (hk HQR.out).trans HQR.out.symm⟩
      have HKK : Hid (∀ W : World, W.heap = wr.heap → W.cell? ⟨hb, 1, none⟩ = some (.map (some mb)) ∧ W.cell? ⟨Q, 1, none⟩ = some (.int .i64 c)) := Lib.hid fun W hW => ⟨(cells3 (by rw [hW]; exact HST.out.blk)).1.2.1, (cells3 (by rw [hW]; exact HQR.out)).1.2.1⟩
      have HMZ : Hid (MapS wr.drew mb nb bz) := Lib.hid (HST.out.busy.kept rfl)
      obtain ⟨w5, hrun5, hm5, hg5⟩ := HMZ.out.update c (m : Int) (by omega) (by omega) (by omega)
      have HM5 := Lib.hid hm5
      have HG5 := Lib.hid hg5
      clear hmap HR hm5 hg5
      go_wp2
      go_region_held3 (fun W => W.cell? ⟨hb, 1, none⟩ = some (.map (some mb)) ∧ W.cell? ⟨Q, 1, none⟩ = some (.int .i64 c))
        (first | exact HKK.out _ rfl | exact (HKG.out _ HG5.out).1)
        (fail)
      have HS5 : Hid (HSt w5 B hb mb mw m (.slice spv m cpv) T V (nb + 1) (nw + n) (fun y => if y = c then some (m : Int) else bz y) (wmI o m wm n)) := Lib.hid (HSt.busied (w := wr.drew) (HST.out.keep (fun _ _ => rfl)) HG5.out HM5.out)
      have HB5 := Lib.hid (HBR.out.drew.grown HG5.out (Nat.le_trans hBw2 HBR.out.size) (fun q hq => by injection hq with hq; omega))
      have HQ5 := Lib.hid ((HKG.out _ HG5.out).2.trans HQR.out)
      clear HM5 HG5 HKK HKG HMZ HST HBR HQR
      obtain ⟨⟨c0, c1, c2⟩, fz⟩ := cells3 HS5.out.blk
      obtain ⟨⟨d0, d1, d2⟩, _⟩ := cells3 HQ5.out
      have fz0 := fz 0
      clear fz c1 c2 d0
      have hBw5 : B ≤ w5.heap.size := Nat.le_trans hBw2 HB5.out.size
      have HCL : Hid (∀ W, Below w5.heap.size w5 W → Calls Try.prog 39 #[.slice sp n cap] W (CloneP n o W)) := Lib.hid fun W hbw => clone_any sp n cap o W (by omega) (HS.out.below (by rw [HBS.out]; exact (HB0.out.trans HB5.out).trans (hbw.mono hBw5))) HSP.out
      have HNW : Hid (∀ (W : World) (s6 : Option Addr) (c6 : Nat) (j : Nat) (u : Value), [Value.int .i64 c, .int .i64 0, .slice s6 n c6][j]? = some u → (W.alloc (.cells #[.int .i64 c, .int .i64 0, .slice s6 n c6] 36)).cell? ((⟨W.heap.size, 0, none⟩ : Addr).add j) = some u) := Lib.hid fun W s6 c6 j u hj => by
        rw [Go.WideShapes.add_plain, cell_of_row _ _ _ _ 36 (0, 0) (heap_alloc_new W _), Nat.zero_add]
        simpa using hj
      have hB0 : Below w5.heap.size w5 w5.drew := (Below.refl _ _).drew
      go_wp2
      have hQ5 : Q < w5.heap.size := by
        rcases Nat.lt_or_ge Q w5.heap.size with h' | h'
        · exact h'
        · have := HQ5.out; rw [Array.getElem?_eq_none h'] at this; cases this
      go_region_law (first
        | (refine step_append_lies _ (by rfl) _ _ 26 (by rfl) B 36 i0 (.agg #[.int .i64 0, .int .i64 0, .slice none 0 0]) 3 40 Try.underlying26 hi hz0 hz1 hz2 rfl (by decide) _ m (rowT T V m) (by rfl) (HS5.out.below ((hB0.trans hb6).alloc hb6.size _)).row ⟨w6.heap.size, 0, none⟩ 1 1 [.int .i64 c, .int .i64 0, .slice s6 n c6] (by rfl) (by rfl) (HNW.out w6 s6 c6) (by intro u hu; simp at hu; rcases hu with rfl | rfl | rfl <;> rfl) (by omega) (by unfold maxLen; omega) (by omega) (Nat.le_trans hBw5 (Nat.le_trans hb6.size (by simp))) _ rfl ?_; intro g7 c7 w7 ho7 hg7 hat7 hl7; obtain ⟨⟨z0, z1, z2⟩, fz7⟩ := cells3 (blk_keep (HS5.out.below ((hB0.trans hb6).alloc hb6.size _)).row (HS5.out.below ((hB0.trans hb6).alloc hb6.size _)).blk hg7); have fz70 := fz7 0)
        | (go_simp; refine (HCL.out _ hB0).mono ?_; rintro e w6 ⟨s6, c6, rfl, ho6, hp6, hb6⟩; obtain ⟨⟨y0, y1, y2⟩, fz6⟩ := cells3 (HS5.out.below (hB0.trans hb6)).blk; obtain ⟨⟨q0, q1, q2⟩, fq6⟩ := cells3 (((hB0.trans hb6).block _ hQ5).trans HQ5.out); obtain ⟨⟨r0, r1, r2⟩, fr6⟩ := cells3 (HS5.out.below ((hB0.trans hb6).alloc hb6.size (.cells #[.int .i64 c, .int .i64 0, .slice s6 n c6] 36))).blk))
      all_goals
        obtain ⟨hbF, V', hsF⟩ := beg_fin HS5.out HB5.out hBw5 hb6 ho6 hp6 ho7 hg7
        have HBF := Lib.hid hbF
        have HSF := Lib.hid hsF
        clear hbF hsF ho7 hg7 hat7 ho6 hb6 z0 z1 z2 y0 y1 y2 q0 q1 q2 r0 r1 r2 fz7 fz6 fq6 fr6 fz70
        go_wp2
        go_ret
        exact ⟨HBF.out, .inr ⟨HND.out, rfl, _, V', HSF.out⟩⟩
end Go.Proofs.Ytgpnjgpbblookaa
