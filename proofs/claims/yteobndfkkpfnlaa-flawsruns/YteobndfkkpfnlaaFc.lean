/-
  writersOf.
-/
import Derived.Test.YteobndfkkpfnlaaFb
import Derived.Deep.RegionHeld3
namespace Go.Proofs.Yteobndfkkpfnlaa
open Go.ChangeShapes Go.WideShapes Go.ChangeAt Go.RowKit Go.Maps
set_option linter.unusedVariables false

/-- what the program's Writes answers -/
def HWr (k : Nat) : Prop := ∀ (c st : Int) (sp : Option Addr) (len cap : Nat) (o : Nat → O3) (w : World) (hlen : len ≤ 1000) (hk : ∀ i, i < len → 0 ≤ (o i).key ∧ (o i).key ≤ 15) (hs : OpS w sp len o),
    Calls Try.prog k #[.agg #[.int .i64 c, .int .i64 st, .slice sp len cap]] w (OpsP (wrl o len 16) w)
def WrP (T : Nat → Tx) (m : Nat) (w : World) (e : Ending) (w' : World) : Prop :=
  ∃ b1 b2, e = .returned (.agg #[.map (some b1), .map (some b2)]) ∧ MapV w' b1 (100 * m) (allV T m) ∧ MapV w' b2 (16 * m) (endV T m) ∧ Below w.heap.size w w'
theorem wrl_16 (o : Nat → O3) (n : Nat) : (wrl o n 16).length ≤ 16 := wrl_le o n 16
theorem wrl_of {o : Nat → O3} {n : Nat} {x : O3} : ∀ K, x ∈ wrl o n K → ∃ i, i < n ∧ x = o i := by
  intro K
  induction K with
  | zero => intro h; cases h
  | succ K ih =>
    intro h
    unfold wrl at h
    cases hl : lastIx o (K : Int) n with
    | none => rw [hl] at h; exact ih h
    | some i =>
      rw [hl] at h
      rcases List.mem_append.1 h with h | h
      · exact ih h
      · simp at h
        exact ⟨i, (lastIx_lt hl).1, h⟩
theorem wrl_in {o : Nat → O3} {n : Nat} {P : O3 → Prop} (h : ∀ i, i < n → P (o i)) {i : Nat} (hi : i < (wrl o n 16).length) : P (lf (wrl o n 16) i) := by
  have hm : lf (wrl o n 16) i ∈ wrl o n 16 := by
    unfold lf
    rw [List.getD_eq_getElem?_getD, List.getElem?_eq_getElem hi]
    exact List.getElem_mem hi
  obtain ⟨j, hj, e⟩ := wrl_of 16 hm
  rw [e]
  exact h j hj

set_option maxRecDepth 100000 in
set_option maxHeartbeats 4000000 in
theorem writers_any (HW67 : HWr 67) (a : Option Addr) (m cap : Nat) (T : Nat → Tx) (w : World) (hs : TxS w a m T) (ok : TOk m T) :
    Calls Try.prog 44 #[.slice a m cap] w (WrP T m w) := by
  have HS := Lib.hid hs
  have HOK := Lib.hid ok
  have hm4 := ok.cnt
  have HHW := Lib.hid HW67
  clear hs ok HW67
  have hmm := @run_makeMap Try.prog
  have hst := WrS.start w
  obtain ⟨M1, eM1⟩ : ∃ M1, M1 = w.heap.size + 1 := ⟨_, rfl⟩
  obtain ⟨M2, eM2⟩ : ∃ M2, M2 = w.heap.size + 1 + 1 := ⟨_, rfl⟩
  obtain ⟨X, eX⟩ : ∃ X, X = w.heap.size + 1 + 1 + 1 := ⟨_, rfl⟩
  obtain ⟨wi, ewi⟩ : ∃ wi, wi = ((((w.alloc (.cells #[.map none, .map none] 96)).alloc (.map #[] 0)).alloc (.map #[] 0)).alloc (.cells #[.map (some (w.heap.size + 1)), .map (some (w.heap.size + 1 + 1))] 96)) := ⟨_, rfl⟩
  rw [← ewi, ← eX, ← eM2, ← eM1] at hst
  have HST := Lib.hid hst
  clear hst
  go_enter Try.func44, Try.ntmps44
  go_wp2
  rw [← ewi, ← eX, ← eM2, ← eM1]
  obtain ⟨R, eR⟩ : ∃ R, R = w.heap.size := ⟨_, rfl⟩
  have HST2 : Hid (WrS w w.heap.size R M1 M2 X wi 0 0 (fun _ _ => none) (fun _ _ => none)) := Lib.hid (by rw [eR]; exact HST.out)
  rw [← eR]
  clear ewi eX eM2 eM1 eR hmm HST
  go_loopw [4, 5, 7, 9, 15] (fun _ _ _ _ x wr => ∃ t : Nat, t ≤ m ∧ x = .int .i64 (t : Int) ∧ Hid (WrS w w.heap.size R M1 M2 X wr (100 * t) (16 * t) (allV T t) (endV T t))) (fun _ _ _ _ x _ => m - (intOf x).toNat)
  case atStart => exact ⟨0, Nat.zero_le _, rfl, HST2⟩
  case round =>
    obtain ⟨t, ht, rfl, HW⟩ := hrel
    clear HST2
    by_cases hlt : t < m
    · obtain ⟨b, off, rfl, hbl, hci⟩ := HS.out (by omega)
      obtain ⟨sp, cp, c0, c1, c2, ho⟩ := hci t hlt
      have x0 := (HW.out.bel.cell (p := ⟨b, off + t * 3, none⟩) hbl).trans c0
      have x1 := (HW.out.bel.cell (p := ⟨b, off + t * 3 + 1, none⟩) hbl).trans c1
      have x2 := (HW.out.bel.cell (p := ⟨b, off + t * 3 + 2, none⟩) hbl).trans c2
      have hlt' : (t : Int) < (m : Int) := by omega
      have hn1 := HOK.out.n t hlt
      have HKR := Lib.hid (HOK.out.key t hlt)
      have HVR := Lib.hid (HOK.out.val t hlt)
      have HOP := Lib.hid (ho.below HW.out.bel)
      have HOPB := Lib.hid ho
      have HAT : Hid (allV T (t + 1) = opsV (T t).o (t : Int) (allV T t) (T t).n) := Lib.hid rfl
      have HET : Hid (endV T (t + 1) = lstV (wrl (T t).o (T t).n 16) (t : Int) (endV T t) (wrl (T t).o (T t).n 16).length) := Lib.hid rfl
      clear c0 c1 c2 ho hci
      generalize allV T t = A at *
      generalize endV T t = E at *
      generalize (T t).c = tc at *
      generalize (T t).st = tst at *
      generalize (T t).n = tn at *
      generalize (T t).o = to_ at *
      obtain ⟨wx, ewx⟩ : ∃ wx, wx = wr.alloc (.cells #[.int .i64 tc, .int .i64 tst, .slice sp tn cp] 47) := ⟨_, rfl⟩
      have hbx : Below wr.heap.size wr wx := by rw [ewx]; exact (Below.refl _ _).alloc (Nat.le_refl _) _
      have hxx : wx.heap[wr.heap.size]? = some (.cells #[.int .i64 tc, .int .i64 tst, .slice sp tn cp] 47 (0, 0)) := by rw [ewx]; exact heap_alloc_new wr _
      obtain ⟨Q, eQ⟩ : ∃ Q, Q = wr.heap.size := ⟨_, rfl⟩
      have HWX := Lib.hid (HW.out.keep hbx)
      have HOX := Lib.hid (HOP.out.below hbx)
      have hQM : Q ≠ M1 ∧ Q ≠ M2 := by have := HW.out.all.lt; have := HW.out.fin.lt; omega
      rw [← eQ] at hxx
      have HXX := Lib.hid hxx
      obtain ⟨⟨q0, q1, q2⟩, _⟩ := cells3 hxx
      go_wp2
      rw [← ewx, ← eQ]
      have hQX : Below w.heap.size w wx := HWX.out.bel
      clear ewx eQ q0 q1 q2 hxx hbx x0 x1 x2 HW HOP
      go_loopw [7, 23] (fun _ x ws => ∃ i : Nat, i ≤ tn ∧ x = .int .i64 (i : Int) ∧ Hid (WrS w w.heap.size R M1 M2 X ws (100 * t + i) (16 * t) (opsV to_ (t : Int) A i) E ∧ ws.heap[Q]? = some (.cells #[.int .i64 tc, .int .i64 tst, .slice sp tn cp] 47 (0, 0)))) (fun _ x _ => tn - (intOf x).toNat)
      case atStart => exact ⟨0, Nat.zero_le _, rfl, Lib.hid ⟨HWX.out, HXX.out⟩⟩
      case round =>
        obtain ⟨i, hi, rfl, HI⟩ := hrel
        have HWI := Lib.hid HI.out.1
        have HQI := Lib.hid HI.out.2
        have hQs := hlt_of HI.out.2
        clear HI
        by_cases hin : i < tn
        · obtain ⟨b2, off2, rfl, hb2, hc2⟩ := HOPB.out (by omega)
          obtain ⟨d0, d1, d2⟩ := hc2 i hin
          have x0 := (HWI.out.bel.cell (p := ⟨b2, off2 + i * 3, none⟩) hb2).trans d0
          have x1 := (HWI.out.bel.cell (p := ⟨b2, off2 + i * 3 + 1, none⟩) hb2).trans d1
          have x2 := (HWI.out.bel.cell (p := ⟨b2, off2 + i * 3 + 2, none⟩) hb2).trans d2
          have hin' : (i : Int) < (tn : Int) := by omega
          have hkr := HKR.out i hin
          have hvr := HVR.out i hin
          have HOI : Hid (opsV to_ (t : Int) A (i + 1) = if (to_ i).k = 2 then updV (opsV to_ (t : Int) A i) (to_ i).key (to_ i).v (t : Int) else opsV to_ (t : Int) A i) := Lib.hid rfl
          clear d0 d1 d2 hc2
          generalize opsV to_ (t : Int) A i = Ai at *
          generalize to_ i = oi at *
          obtain ⟨ok, okey, ov⟩ := oi
          dsimp only at x0 x1 x2 hkr hvr HOI
          have hwx : Below wr.heap.size wr (wr.alloc (.cells #[.int .i64 ok, .int .i64 okey, .int .i64 ov] 44)) := (Below.refl _ _).alloc (Nat.le_refl _) _
          have HWY := Lib.hid (HWI.out.keep hwx)
          have HQY := Lib.hid ((hwx.block _ hQs).trans HQI.out)
          by_cases h2 : ok = 2
          · subst h2
            rw [if_pos rfl] at HOI
            obtain ⟨wy, ewy⟩ : ∃ wy, wy = wr.alloc (.cells #[.int .i64 2, .int .i64 okey, .int .i64 ov] 44) := ⟨_, rfl⟩
            obtain ⟨P, eP⟩ : ∃ P, P = wr.heap.size := ⟨_, rfl⟩
            have hPP : wy.heap[P]? = some (.cells #[.int .i64 2, .int .i64 okey, .int .i64 ov] 44 (0, 0)) := by rw [ewy, eP]; exact heap_alloc_new wr _
            have hpl := hlt_of hPP
            have hPM : P ≠ M1 := by have := HWI.out.all.lt; omega
            have hPM2 : P ≠ M2 := by have := HWI.out.fin.lt; omega
            obtain ⟨⟨p0, p1, p2⟩, _⟩ := cells3 hPP
            rw [← ewy] at HWY HQY hwx
            have HKK : Hid (∀ W, Below wy.heap.size wy W → W.cell? ⟨X, 0, none⟩ = some (.map (some M1)) ∧ W.cell? ⟨P, 0, none⟩ = some (.int .i64 2) ∧ W.cell? ⟨P, 1, none⟩ = some (.int .i64 okey) ∧ W.cell? ⟨P, 2, none⟩ = some (.int .i64 ov)) := Lib.hid fun W hb => ⟨(cells2 ((hb.block _ (hlt_of HWY.out.box)).trans HWY.out.box)).1, (cells3 ((hb.block _ hpl).trans hPP)).1⟩
            have HKG : Hid (∀ W W', Below wy.heap.size wy W → W.grownBy W' (some M1) → W'.cell? ⟨X, 0, none⟩ = some (.map (some M1)) ∧ W'.cell? ⟨P, 0, none⟩ = some (.int .i64 2) ∧ W'.cell? ⟨P, 1, none⟩ = some (.int .i64 okey) ∧ W'.cell? ⟨P, 2, none⟩ = some (.int .i64 ov)) := Lib.hid fun W W' hb hg => ⟨(cells2 ((hg.block _ (Nat.lt_of_lt_of_le (hlt_of HWY.out.box) hb.size) (fun e => by injection e with e; exact HWY.out.ne.2.2.2.1 e)).trans ((hb.block _ (hlt_of HWY.out.box)).trans HWY.out.box))).1, (cells3 ((hg.block _ (Nat.lt_of_lt_of_le hpl hb.size) (fun e => by injection e with e; exact hPM e)).trans ((hb.block _ hpl).trans hPP))).1⟩
            have hB0 : Below wy.heap.size wy wy.drew := (Below.refl _ _).drew
            have hb00 : Below wy.heap.size wy wy := Below.refl _ _
            go_wp2
            rw [← ewy, ← eP]
            clear ewy eP p0 p1 p2 hwx HWI HQI x0 x1 x2
            go_region_held3 (fun W => W.cell? ⟨X, 0, none⟩ = some (.map (some M1)) ∧ W.cell? ⟨P, 0, none⟩ = some (.int .i64 2) ∧ W.cell? ⟨P, 1, none⟩ = some (.int .i64 okey) ∧ W.cell? ⟨P, 2, none⟩ = some (.int .i64 ov))
              (first | exact HKK.out _ hb00 | exact HKK.out _ hB0 | exact HKK.out _ hB6 | exact HKG.out _ _ hB6 hg7)
              (first
                | (go_at_call 49; refine (version_any _ _ _ _).mono ?_; rintro e w6 ⟨rfl, hb6⟩; have hB6 : Below wy.heap.size wy w6 := hB0.trans hb6; obtain ⟨w7, hrun7, hm7, hg7⟩ := (HWY.out.all.below hB6).update okey ov (t : Int) (by omega) (by unfold In64; omega) hvr (by unfold In64; omega)))
            have HW7 : Hid (WrS w w.heap.size R M1 M2 X w7 (100 * t + (i + 1)) (16 * t) (opsV to_ (t : Int) A (i + 1)) E) := Lib.hid (by
              rw [HOI.out]
              exact (HWY.out.keep hB6).wroteA hm7 hg7)
            have HQ7 : Hid (w7.heap[Q]? = some (.cells #[.int .i64 tc, .int .i64 tst, .slice (some ⟨b2, off2, none⟩) tn cp] 47 (0, 0))) := Lib.hid ((hg7.block _ (Nat.lt_of_lt_of_le (hlt_of HQY.out) hB6.size) (fun e => by injection e with e; exact hQM.1 e)).trans ((hB6.block _ (hlt_of HQY.out)).trans HQY.out))
            clear hm7 hg7 hB6 hb6 hB0 hb00 hrun7 HKK HKG hPP
            go_wp2
            go_roundw
            case rel => exact ⟨i + 1, by omega, by go_num, Lib.hid ⟨HW7.out, HQ7.out⟩⟩
            case measure => simp [intOf]; omega
          · have h2b : (ok == 2) = false := by rw [beq_eq_false_iff_ne]; exact h2
            rw [if_neg h2] at HOI
            clear h2
            go_wp2
            go_roundw
            case rel => exact ⟨i + 1, by omega, by go_num, Lib.hid ⟨by rw [HOI.out]; exact HWY.out.mono (by omega) (Nat.le_refl _), HQY.out⟩⟩
            case measure => simp [intOf]; omega
        · obtain rfl : i = tn := by omega
          clear HWX HXX
          obtain ⟨wz, ewz⟩ : ∃ wz, wz = wr := ⟨_, rfl⟩
          rw [← ewz] at HWI HQI hQs ⊢
          clear ewz
          obtain ⟨⟨q0, q1, q2⟩, _⟩ := cells3 HQI.out
          have HCW := Lib.hid (HHW.out tc tst sp i cp to_ wz (by omega) HKR.out (HOPB.out.below HWI.out.bel))
          go_wp2_with fail
          refine HCW.out.mono ?_
          rintro e w8 ⟨sp2, cp2, rfl, ho2, hb2⟩
          have HO2 := Lib.hid (own38_ops ho2)
          have HW8 := Lib.hid (HWI.out.keep hb2)
          have hl16 := wrl_16 to_ i
          have HKL := Lib.hid (fun (j : Nat) (hj : j < (wrl to_ i 16).length) => wrl_in (P := fun o => 0 ≤ o.key ∧ o.key ≤ 15) HKR.out hj)
          have HVL := Lib.hid (fun (j : Nat) (hj : j < (wrl to_ i 16).length) => wrl_in (P := fun o => In64 o.v) HVR.out hj)
          clear ho2 hb2 HCW HWI HQI q0 q1 q2
          generalize wrl to_ i 16 = l at *
          go_wp2
          go_loopw [9, 39] (fun _ x ws => ∃ j : Nat, j ≤ l.length ∧ x = .int .i64 (j : Int) ∧ Hid (WrS w w.heap.size R M1 M2 X ws (100 * t + i) (16 * t + j) (opsV to_ (t : Int) A i) (lstV l (t : Int) E j) ∧ OpS ws sp2 l.length (lf l))) (fun _ x _ => l.length - (intOf x).toNat)
          case atStart => exact ⟨0, Nat.zero_le _, rfl, Lib.hid ⟨HW8.out, HO2.out⟩⟩
          case round =>
            obtain ⟨j, hj, rfl, HJ⟩ := hrel
            have HWJ := Lib.hid HJ.out.1
            have HBJ := Lib.hid HJ.out.2
            clear HJ
            by_cases hjl : j < l.length
            · have HOJ := HBJ
              obtain ⟨b3, off3, rfl, hb3, hc3⟩ := HBJ.out (by omega)
              obtain ⟨d0, d1, d2⟩ := hc3 j hjl
              have x0 := d0
              have x1 := d1
              have x2 := d2
              have hjl' : (j : Int) < (l.length : Int) := by omega
              have hkr := HKL.out j hjl
              have hvr := HVL.out j hjl
              have HOI : Hid (lstV l (t : Int) E (j + 1) = updV (lstV l (t : Int) E j) (lf l j).key (lf l j).v (t : Int)) := Lib.hid rfl
              clear d0 d1 d2 hc3
              generalize lstV l (t : Int) E j = Ej at *
              generalize lf l j = oj at *
              obtain ⟨ok, okey, ov⟩ := oj
              dsimp only at x0 x1 x2 hkr hvr HOI
              obtain ⟨wy, ewy⟩ : ∃ wy, wy = wr.alloc (.cells #[.int .i64 ok, .int .i64 okey, .int .i64 ov] 44) := ⟨_, rfl⟩
              have hwx : Below wr.heap.size wr wy := by rw [ewy]; exact (Below.refl _ _).alloc (Nat.le_refl _) _
              have HWY := Lib.hid (HWJ.out.keep hwx)
              have HBY := Lib.hid (HOJ.out.below hwx)
              obtain ⟨P, eP⟩ : ∃ P, P = wr.heap.size := ⟨_, rfl⟩
              have hPP : wy.heap[P]? = some (.cells #[.int .i64 ok, .int .i64 okey, .int .i64 ov] 44 (0, 0)) := by rw [ewy, eP]; exact heap_alloc_new wr _
              have hpl := hlt_of hPP
              have hPM : P ≠ M2 := by have := HWJ.out.fin.lt; omega
              have HKK : Hid (∀ W, Below wy.heap.size wy W → W.cell? ⟨X, 1, none⟩ = some (.map (some M2)) ∧ W.cell? ⟨P, 0, none⟩ = some (.int .i64 ok) ∧ W.cell? ⟨P, 1, none⟩ = some (.int .i64 okey) ∧ W.cell? ⟨P, 2, none⟩ = some (.int .i64 ov)) := Lib.hid fun W hb => ⟨(cells2 ((hb.block _ (hlt_of HWY.out.box)).trans HWY.out.box)).2, (cells3 ((hb.block _ hpl).trans hPP)).1⟩
              have HKG : Hid (∀ W W', Below wy.heap.size wy W → W.grownBy W' (some M2) → W'.cell? ⟨X, 1, none⟩ = some (.map (some M2)) ∧ W'.cell? ⟨P, 0, none⟩ = some (.int .i64 ok) ∧ W'.cell? ⟨P, 1, none⟩ = some (.int .i64 okey) ∧ W'.cell? ⟨P, 2, none⟩ = some (.int .i64 ov)) := Lib.hid fun W W' hb hg => ⟨(cells2 ((hg.block _ (Nat.lt_of_lt_of_le (hlt_of HWY.out.box) hb.size) (fun e => by injection e with e; exact HWY.out.ne.2.2.2.2.1 e)).trans ((hb.block _ (hlt_of HWY.out.box)).trans HWY.out.box))).2, (cells3 ((hg.block _ (Nat.lt_of_lt_of_le hpl hb.size) (fun e => by injection e with e; exact hPM e)).trans ((hb.block _ hpl).trans hPP))).1⟩
              have hB0 : Below wy.heap.size wy wy.drew := (Below.refl _ _).drew
              have hb00 : Below wy.heap.size wy wy := Below.refl _ _
              go_wp2
              rw [← ewy, ← eP]
              clear ewy eP hwx HWJ HBJ HOJ x0 x1 x2
              go_region_held3 (fun W => W.cell? ⟨X, 1, none⟩ = some (.map (some M2)) ∧ W.cell? ⟨P, 0, none⟩ = some (.int .i64 ok) ∧ W.cell? ⟨P, 1, none⟩ = some (.int .i64 okey) ∧ W.cell? ⟨P, 2, none⟩ = some (.int .i64 ov))
                (first | exact HKK.out _ hb00 | exact HKK.out _ hB0 | exact HKK.out _ hB6 | exact HKG.out _ _ hB6 hg7)
                (first
                  | (go_at_call 49; refine (version_any _ _ _ _).mono ?_; rintro e w6 ⟨rfl, hb6⟩; have hB6 : Below wy.heap.size wy w6 := hB0.trans hb6; obtain ⟨w7, hrun7, hm7, hg7⟩ := (HWY.out.fin.below hB6).update okey ov (t : Int) (by omega) (by unfold In64; omega) hvr (by unfold In64; omega)))
              have HW7 : Hid (WrS w w.heap.size R M1 M2 X w7 (100 * t + i) (16 * t + (j + 1)) (opsV to_ (t : Int) A i) (lstV l (t : Int) E (j + 1))) := Lib.hid (by
                rw [HOI.out]
                exact (HWY.out.keep hB6).wroteE hm7 hg7)
              have HO7 := Lib.hid ((HBY.out.below hB6).mapped (HWY.out.fin.below hB6).isMap hg7)
              clear hm7 hg7 hB6 hb6 hB0 hb00 hrun7 HKK HKG hPP
              go_wp2
              go_roundw
              case rel => exact ⟨j + 1, by omega, by go_num, Lib.hid ⟨HW7.out, HO7.out⟩⟩
              case measure => simp [intOf]; omega
            · obtain rfl : j = l.length := by omega
              have HWN : Hid (WrS w w.heap.size R M1 M2 X wr (100 * (t + 1)) (16 * (t + 1)) (allV T (t + 1)) (endV T (t + 1))) := Lib.hid (by
                rw [HAT.out, HET.out]
                exact HWJ.out.mono (by omega) (by omega))
              clear HWJ HBJ HW8
              go_wp2
              go_roundw
              case rel => exact ⟨t + 1, by omega, by go_num, HWN⟩
              case measure => simp [intOf]; omega
    · obtain rfl : t = m := by omega
      obtain ⟨x0, x1⟩ := cells2 HW.out.box
      obtain ⟨r0, r1⟩ := cells2 HW.out.res
      have f0 : wr.frozen? ⟨R, 0, none⟩ = false := by simp [World.frozen?, HW.out.res]
      have f1 : wr.frozen? ⟨R, 1, none⟩ = false := by simp [World.frozen?, HW.out.res]
      go_wp2
      obtain ⟨p0, p1⟩ := setC2 (A := .map (some M1)) (B := .map (some M2)) HW.out.res
      refine bodyPost_ret (v := .agg #[.map (some M1), .map (some M2)]) (by simp [results, Try.results44, go_sem, p0, p1]) rfl ⟨M1, M2, rfl, ?_, ?_, (HW.out.bel.setCell (p := ⟨R, 0, none⟩) HW.out.rlow _).setCell (p := ⟨R, 1, none⟩) HW.out.rlow _⟩
      · exact HW.out.all.kept ((heap_setCell_other _ _ _ _ (fun e => HW.out.ne.2.2.2.2.2.1 e.symm)).trans (heap_setCell_other _ _ _ _ (fun e => HW.out.ne.2.2.2.2.2.1 e.symm)))
      · exact HW.out.fin.kept ((heap_setCell_other _ _ _ _ (fun e => HW.out.ne.2.2.2.2.2.2 e.symm)).trans (heap_setCell_other _ _ _ _ (fun e => HW.out.ne.2.2.2.2.2.2 e.symm)))
end Go.Proofs.Yteobndfkkpfnlaa
