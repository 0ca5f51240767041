/-
  Sure's walk.
-/
import Derived.Test.YteobndfkkpfnlaaFg
namespace Go.Proofs.Yteobndfkkpfnlaa
open Go.ChangeShapes Go.WideShapes Go.ChangeAt Go.RowKit Go.Maps
set_option linter.unusedVariables false

set_option maxRecDepth 100000 in
set_option maxHeartbeats 4000000 in
theorem sure_any (a : Option Addr) (m cap : Nat) (T : Nat → Tx) (w : World) (hs : TxS w a m T) (ok : TOk m T) :
    Calls Try.prog 18 #[.slice a m cap] w (SuP T m w) := by
  have HS := Lib.hid hs
  have HOK := Lib.hid ok
  have hm4 := ok.cnt
  have HCW := Lib.hid (writers_any hwr67 a m cap T w hs ok)
  have HPL := Lib.hid (allV_pl T m)
  obtain ⟨mc, hmc⟩ : ∃ mc, mc = madeCells #[.bool false] m := ⟨_, rfl⟩
  have hmk := makeB m (by omega) mc hmc
  have HMC := Lib.hid hmc
  clear hs ok hmc
  go_enter Try.func18, Try.ntmps18
  go_wp2_with fail
  refine HCW.out.mono ?_
  rintro e w1 ⟨b1, b2, rfl, h1, _, hb⟩
  have HM1 := Lib.hid h1
  have HB1 := Lib.hid hb
  clear h1 hb HCW
  go_wp2
  obtain ⟨wx, ewx⟩ : ∃ wx, wx = w1.alloc (.cells #[.map (some b1), .map (some b2)] 96) := ⟨_, rfl⟩
  obtain ⟨wy, ewy⟩ : ∃ wy, wy = wx.alloc (.cells mc 4) := ⟨_, rfl⟩
  obtain ⟨X, eX⟩ : ∃ X, X = w1.heap.size := ⟨_, rfl⟩
  obtain ⟨g, eg⟩ : ∃ g, g = X + 1 := ⟨_, rfl⟩
  have HA0 : Hid (SuS w w.heap.size X b1 b2 g m wy (100 * m) (allV T m) (suT (allV T m) T 0)) := Lib.hid (by
    have hbx : Below w1.heap.size w1 wx := by rw [ewx]; exact (Below.refl _ _).alloc (Nat.le_refl _) _
    have hby : Below wx.heap.size wx wy := by rw [ewy]; exact (Below.refl _ _).alloc (Nat.le_refl _) _
    have hbw := HB1.out.trans (hbx.mono HB1.out.size)
    have hX : wx.heap[X]? = some (.cells #[.map (some b1), .map (some b2)] 96 (0, 0)) := by rw [ewx, eX]; exact heap_alloc_new w1 _
    refine ⟨Nat.le_trans HB1.out.size (Nat.le_trans hbx.size hby.size), hbw.trans (hby.mono hbw.size), (HM1.out.below hbx).below hby, (hby.block _ (hlt_of hX)).trans hX, ?_⟩
    rw [ewy, show g = wx.heap.size by rw [eg, eX, ewx]; simp, HMC.out]
    exact MetS.made (by omega) hbw.size)
  rw [← ewx, ← ewy, ← eX, ← eg]
  clear ewx ewy eX eg HB1 HM1 hmk HMC
  have HFL : Hid (suL T m = suT (allV T m) T m) := Lib.hid rfl
  generalize allV T m = A at *
  go_loopw [5, 6, 8, 9, 10, 18] (fun _ _ _ _ _ x wr => ∃ t : Nat, t ≤ m ∧ x = .int .i64 (t : Int) ∧ Hid (SuS w w.heap.size X b1 b2 g m wr (100 * m) A (suT A T t))) (fun _ _ _ _ _ x _ => m - (intOf x).toNat)
  case atStart => exact ⟨0, Nat.zero_le _, rfl, HA0⟩
  case round =>
    obtain ⟨t, ht, rfl, HT⟩ := hrel
    clear HA0
    by_cases hlt : t < m
    · obtain ⟨b, off, rfl, hbl, hci⟩ := HS.out (by omega)
      have HCI := Lib.hid hci
      obtain ⟨sp, cp, c0, c1, c2, ho⟩ := hci t hlt
      have x0 := (HT.out.bel.cell (p := ⟨b, off + t * 3, none⟩) hbl).trans c0
      have x1 := (HT.out.bel.cell (p := ⟨b, off + t * 3 + 1, none⟩) hbl).trans c1
      have x2 := (HT.out.bel.cell (p := ⟨b, off + t * 3 + 2, none⟩) hbl).trans c2
      have hlt' : (t : Int) < (m : Int) := by omega
      have hn1 := HOK.out.n t hlt
      have HKR := Lib.hid (HOK.out.key t hlt)
      have HVR := Lib.hid (HOK.out.val t hlt)
      have HOPB := Lib.hid ho
      have HNX : Hid (suT A T (t + 1) = if (T t).st = 1 then suR A T (rdT (T t)) (setB (suT A T t) t) (rdT (T t)).length else suT A T t) := Lib.hid rfl
      have HRD : Hid (rdT (T t) = if (T t).st = 1 then rd (T t).o (T t).n else []) := Lib.hid rfl
      have hrle := rdT_le (T t)
      have HKL := Lib.hid (fun (j : Nat) (hj : j < (rdT (T t)).length) => rdT_in (P := fun o => 0 ≤ o.key ∧ o.key ≤ 15) HKR.out hj)
      have HVL := Lib.hid (fun (j : Nat) (hj : j < (rdT (T t)).length) => rdT_in (P := fun o => In64 o.v) HVR.out hj)
      clear c0 c1 c2 ho hci
      generalize rdT (T t) = rs at *
      generalize (T t).c = tc at *
      generalize (T t).st = tst at *
      generalize (T t).n = tn at *
      generalize (T t).o = to_ at *
      generalize suT A T t = S at *
      by_cases hst : tst = 1
      · subst hst
        rw [if_pos rfl] at HNX HRD
        obtain ⟨wx, ewx⟩ : ∃ wx, wx = (wr.setCell ⟨g, t, none⟩ (.bool true)).alloc (.cells #[.int .i64 tc, .int .i64 1, .slice sp tn cp] 47) := ⟨_, rfl⟩
        have hfz := HT.out.met.fz t
        have hcl := HT.out.met.cell hlt
        have hgl : g < wr.heap.size := HT.out.met.lt.2
        have HWX : Hid (SuS w w.heap.size X b1 b2 g m wx (100 * m) A (setB S t)) := Lib.hid (by
          rw [ewx]
          exact (HT.out.set t).keep ((Below.refl _ _).alloc (Nat.le_refl _) _))
        have HCR := Lib.hid (hreads_any tc 1 sp tn cp to_ wx (by omega) HKR.out HVR.out (HOPB.out.below HWX.out.bel))
        rw [if_pos rfl, ← HRD.out] at HCR
        clear HT
        go_wp2_with fail
        rw [← ewx]
        refine HCR.out.mono ?_
        rintro e w5 ⟨sp2, cp2, rfl, ho2, hb2⟩
        obtain ⟨Q, eQ⟩ : ∃ Q, Q = wr.heap.size := ⟨_, rfl⟩
        obtain ⟨Bq, eBq⟩ : ∃ Bq, Bq = wx.heap.size := ⟨_, rfl⟩
        rw [← eBq] at ho2
        rw [← eQ]
        have HA1 : Hid (SuS w w.heap.size X b1 b2 g m w5 (100 * m) A (suR A T rs (setB S t) 0) ∧ w5.ownsRow Bq 44 3 (.slice sp2 rs.length cp2) rs.length (rowO (lf rs) rs.length)) := Lib.hid ⟨HWX.out.keep hb2, ho2⟩
        clear ewx eQ eBq ho2 hb2 HCR HWX x0 x1 x2 HOPB HKR HVR HRD hfz hcl hgl
        go_wp2
        go_loopw [8, 9, 10, 32] (fun _ _ _ x ws => ∃ j : Nat, j ≤ rs.length ∧ x = .int .i64 (j : Int) ∧ Hid (SuS w w.heap.size X b1 b2 g m ws (100 * m) A (suR A T rs (setB S t) j) ∧ ws.ownsRow Bq 44 3 (.slice sp2 rs.length cp2) rs.length (rowO (lf rs) rs.length))) (fun _ _ _ x _ => rs.length - (intOf x).toNat)
        case atStart => exact ⟨0, Nat.zero_le _, rfl, HA1⟩
        case round =>
          obtain ⟨j, hj, rfl, HJ⟩ := hrel
          clear HA1
          have HAJ := Lib.hid HJ.out.1
          have HRJ := Lib.hid HJ.out.2
          clear HJ
          by_cases hjl : j < rs.length
          · obtain ⟨b3, off3, e3, hb3, hc3⟩ := (own38_ops HRJ.out) (by omega)
            subst e3
            obtain ⟨d0, d1, d2⟩ := hc3 j hjl
            have hjl' : (j : Int) < (rs.length : Int) := by omega
            have hkr := HKL.out j hjl
            have hvr := HVL.out j hjl
            have HFR : Hid (suR A T rs (setB S t) (j + 1) = match A (lf rs j).key (lf rs j).v with
              | none => suR A T rs (setB S t) j
              | some x => if (T x.toNat).st = 0 then setB (suR A T rs (setB S t) j) x.toNat else suR A T rs (setB S t) j) := Lib.hid rfl
            clear hc3
            generalize suR A T rs (setB S t) j = fr at *
            generalize lf rs j = oj at *
            obtain ⟨ok, okey, ov⟩ := oj
            dsimp only at d0 d1 d2 hkr hvr HFR
            obtain ⟨wy, ewy⟩ : ∃ wy, wy = wr.alloc (.cells #[.int .i64 ok, .int .i64 okey, .int .i64 ov] 44) := ⟨_, rfl⟩
            have hwx : Below wr.heap.size wr wy := by rw [ewy]; exact (Below.refl _ _).alloc (Nat.le_refl _) _
            have HAY := Lib.hid (HAJ.out.keep hwx)
            have HRY := Lib.hid (own_keep HRJ.out fun g hg => hwx.block g (HRJ.out.lt g hg).2)
            obtain ⟨P, eP⟩ : ∃ P, P = wr.heap.size := ⟨_, rfl⟩
            have HPP : Hid (wy.heap[P]? = some (.cells #[.int .i64 ok, .int .i64 okey, .int .i64 ov] 44 (0, 0))) := Lib.hid (by rw [ewy, eP]; exact heap_alloc_new wr _)
            have hb00 : Below wy.heap.size wy wy := Below.refl _ _
            have hB0 : Below wy.heap.size wy wy.drew := (Below.refl _ _).drew
            have HKK : Hid (∀ W, Below wy.heap.size wy W → W.cell? ⟨X, 0, none⟩ = some (.map (some b1)) ∧ W.cell? ⟨P, 0, none⟩ = some (.int .i64 ok) ∧ W.cell? ⟨P, 1, none⟩ = some (.int .i64 okey) ∧ W.cell? ⟨P, 2, none⟩ = some (.int .i64 ov)) := Lib.hid fun W hb => ⟨(cells2 ((hb.block _ (hlt_of HAY.out.box)).trans HAY.out.box)).1, (cells3 ((hb.block _ (hlt_of HPP.out)).trans HPP.out)).1⟩
            have hk64 : In64 okey := by unfold In64; omega
            go_wp2
            rw [← ewy, ← eP]
            clear ewy eP hwx HAJ HRJ d0 d1 d2
            cases hA : A okey ov with
            | none =>
              rw [hA] at HFR
              dsimp only at HFR
              go_region_held3 (fun W => W.cell? ⟨X, 0, none⟩ = some (.map (some b1)) ∧ W.cell? ⟨P, 0, none⟩ = some (.int .i64 ok) ∧ W.cell? ⟨P, 1, none⟩ = some (.int .i64 okey) ∧ W.cell? ⟨P, 2, none⟩ = some (.int .i64 ov))
                (first | exact HKK.out _ hb00 | exact HKK.out _ hB0 | exact HKK.out _ hB6)
                (first
                  | (go_at_call 49; refine (version_any _ _ _ _).mono ?_; rintro e w6 ⟨rfl, hb6⟩; have hB6 : Below wy.heap.size wy w6 := hB0.trans hb6; have hlook := (HAY.out.all.below hB6).look okey ov hk64 hvr; rw [hA] at hlook; simp only [Option.getD_none, Option.isSome_none] at hlook))
              have HA6 := Lib.hid (HAY.out.keep hB6)
              have HR6 := Lib.hid (own_keep HRY.out fun g hg => hB6.block g (HRY.out.lt g hg).2)
              clear hlook hB6 hb6 hB0 hb00 HKK
              go_wp2
              go_roundw
              case rel => exact ⟨j + 1, by omega, by go_num, Lib.hid ⟨by rw [HFR.out]; exact HA6.out, HR6.out⟩⟩
              case measure => simp [intOf]; omega
            | some x =>
              rw [hA] at HFR
              dsimp only at HFR
              obtain ⟨i, hi, rfl⟩ := HPL.out _ _ _ hA
              rw [Int.toNat_natCast] at HFR
              go_region_held3 (fun W => W.cell? ⟨X, 0, none⟩ = some (.map (some b1)) ∧ W.cell? ⟨P, 0, none⟩ = some (.int .i64 ok) ∧ W.cell? ⟨P, 1, none⟩ = some (.int .i64 okey) ∧ W.cell? ⟨P, 2, none⟩ = some (.int .i64 ov))
                (first | exact HKK.out _ hb00 | exact HKK.out _ hB0 | exact HKK.out _ hB6)
                (first
                  | (go_at_call 49; refine (version_any _ _ _ _).mono ?_; rintro e w6 ⟨rfl, hb6⟩; have hB6 : Below wy.heap.size wy w6 := hB0.trans hb6; have hlook := (HAY.out.all.below hB6).look okey ov hk64 hvr; rw [hA] at hlook; simp only [Option.getD_some, Option.isSome_some] at hlook))
              have HA6 := Lib.hid (HAY.out.keep hB6)
              have HR6 := Lib.hid (own_keep HRY.out fun g hg => hB6.block g (HRY.out.lt g hg).2)
              clear hlook hB6 hb6 hB0 hb00 HKK
              obtain ⟨sp9, cp9, c0, c1, c2, ho9⟩ := HCI.out i hi
              have x1 := (HA6.out.bel.cell (p := ⟨b, off + i * 3 + 1, none⟩) hbl).trans c1
              have him : (i : Int) < (m : Int) := by omega
              clear c0 c1 c2 ho9
              generalize (T i).st = ist at *
              by_cases h0 : ist = 0
              · subst h0
                rw [if_pos rfl] at HFR
                have hfz := HA6.out.met.fz i
                have hcl := HA6.out.met.cell hi
                have HA7 := Lib.hid (HA6.out.set i)
                have HR7 := Lib.hid (row_setB (i := i) HR6.out HA6.out.met)
                go_wp2
                go_roundw
                case rel => exact ⟨j + 1, by omega, by go_num, Lib.hid ⟨by rw [HFR.out]; exact HA7.out, HR7.out⟩⟩
                case measure => simp [intOf]; omega
              · rw [if_neg h0] at HFR
                have h0b : (ist == 0) = false := beq_eq_false_iff_ne.2 h0
                go_wp2
                go_roundw
                case rel => exact ⟨j + 1, by omega, by go_num, Lib.hid ⟨by rw [HFR.out]; exact HA6.out, HR6.out⟩⟩
                case measure => simp [intOf]; omega
          · obtain rfl : j = rs.length := by omega
            have HAN : Hid (SuS w w.heap.size X b1 b2 g m wr (100 * m) A (suT A T (t + 1))) := Lib.hid (by rw [HNX.out]; exact HAJ.out)
            clear HAJ HRJ HNX
            go_wp2
            go_roundw
            case rel => exact ⟨t + 1, by omega, by go_num, HAN⟩
            case measure => simp [intOf]; omega
      · have hsb : (tst != 1) = true := bne_iff_ne.2 hst
        rw [if_neg hst] at HNX
        have HAN : Hid (SuS w w.heap.size X b1 b2 g m (wr.alloc (.cells #[.int .i64 tc, .int .i64 tst, .slice sp tn cp] 47)) (100 * m) A (suT A T (t + 1))) := Lib.hid (by rw [HNX.out]; exact HT.out.keep ((Below.refl _ _).alloc (Nat.le_refl _) _))
        go_wp2
        go_roundw
        case rel => exact ⟨t + 1, by omega, by go_num, HAN⟩
        case measure => simp [intOf]; omega
    · obtain rfl : t = m := by omega
      go_wp2
      go_ret
      refine ⟨g, rfl, ?_, HT.out.bel⟩
      rw [HFL.out]; exact HT.out.met
end Go.Proofs.Yteobndfkkpfnlaa
