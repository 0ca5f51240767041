/-
  The reference's Reads.
-/
import Derived.Test.YteobndfkkpfnlaaHWa
namespace Go.Proofs.Yteobndfkkpfnlaa
open Go.ChangeShapes Go.WideShapes Go.ChangeAt Go.RowKit

def rdS (st : Int) (o : Nat → O3) (t : Nat) : List O3 := if st = 1 then rd o t else []

set_option maxRecDepth 100000 in
theorem rdS_one (o : Nat → O3) (t : Nat) : rdS 1 o t = rd o t := if_pos rfl

set_option maxRecDepth 100000 in
theorem rdS_ne {st : Int} (h : ¬ st = 1) (o : Nat → O3) (t : Nat) : rdS st o t = [] := if_neg h

set_option maxRecDepth 100000 in
set_option maxHeartbeats 4000000 in
theorem rreads_any (c st : Int) (sp : Option Addr) (n cap : Nat) (o : Nat → O3) (w : World) (hn : n ≤ 1000) (hk : ∀ i, i < n → (o i).k = 1 ∨ (o i).k = 2) (hs : OpS w sp n o) :
    Calls Try.prog 47 #[.agg #[.int .i64 c, .int .i64 st, .slice sp n cap]] w (OpsP (rdS st o n) w) := by
  obtain ⟨i8, hi8, hx0, hx1, hx2⟩ := info_parts info38
  have HS := Lib.hid hs
  have HK := Lib.hid hk
  clear hs hk
  obtain ⟨wi, ewi⟩ : ∃ wi, wi = (w.alloc (.cells #[.int .i64 c, .int .i64 st, .slice sp n cap] 47)).alloc (.cells #[] 44) := ⟨_, rfl⟩
  have hX : wi.heap[w.heap.size]? = some (.cells #[.int .i64 c, .int .i64 st, .slice sp n cap] 47 (0, 0)) := by
    rw [ewi, heap_alloc_old _ _ (by simp)]; exact heap_alloc_new w _
  have hXl : w.heap.size < wi.heap.size := by rw [ewi]; simp; omega
  have hO : wi.ownsRow w.heap.size 44 3 (.slice (some ⟨w.heap.size + 1, 0, none⟩) 0 0) 0 [] := by
    have h := World.ownsRow_lit (base := w.heap.size) (e := 44) (size := 3) (w.alloc (.cells #[.int .i64 c, .int .i64 st, .slice sp n cap] 47)) #[] 0 (by simp) (Nat.zero_le _) rfl
    rw [show (w.alloc (.cells #[.int .i64 c, .int .i64 st, .slice sp n cap] 47)).heap.size = w.heap.size + 1 by simp] at h
    rw [ewi]; exact h
  have hOg : (w.heap.size : Nat) ≠ w.heap.size + 1 := by omega
  have hB : Below w.heap.size w wi := by rw [ewi]; exact ((Below.refl _ _).alloc (Nat.le_refl _) _).alloc (by simp) _
  obtain ⟨X, eX⟩ : ∃ X, X = w.heap.size := ⟨_, rfl⟩
  rw [← eX] at hX hXl
  have HX := Lib.hid hX
  have HO := Lib.hid hO
  have HB := Lib.hid hB
  have HE0 : Hid (rdS st o 0 = []) := Lib.hid (by unfold rdS; split <;> rfl)
  clear hX hO hB hOg
  go_enter Try.func47, Try.ntmps47
  go_wp2
  rw [← ewi, ← eX]
  have HEX := Lib.hid eX
  clear ewi eX
  go_loopw [3, 4, 5, 6, 7, 12] (fun vo _ _ _ _ x wr => ∃ (t nl : Nat) (spo : Option Addr) (cpo : Nat), t ≤ n ∧ nl ≤ t ∧ x = .int .i64 (t : Int) ∧ vo = .slice spo nl cpo ∧ Hid (nl = (rdS st o t).length ∧ Below w.heap.size w wr ∧ wr.heap[X]? = some (.cells #[.int .i64 c, .int .i64 st, .slice sp n cap] 47 (0, 0)) ∧ wr.ownsRow w.heap.size 44 3 (.slice spo nl cpo) nl (rowO (lf (rdS st o t)) nl))) (fun _ _ _ _ _ x _ => n - (intOf x).toNat)
  case atStart => exact ⟨0, 0, _, _, Nat.zero_le _, Nat.le_refl _, rfl, by rw [HEX.out], Lib.hid ⟨by rw [HE0.out]; rfl, HB.out, HX.out, HO.out⟩⟩
  case round =>
    obtain ⟨t, nl, spo, cpo, ht, hnl, rfl, rfl, HT⟩ := hrel
    by_cases hlt : t < n
    · obtain ⟨b, off, rfl, hbl, hci⟩ := HS.out (by omega)
      obtain ⟨c0, c1, c2⟩ := hci t hlt
      have HCI := Lib.hid hci
      have x0 := (HT.out.2.1.cell (p := ⟨b, off + t * 3, none⟩) hbl).trans c0
      have x1 := (HT.out.2.1.cell (p := ⟨b, off + t * 3 + 1, none⟩) hbl).trans c1
      have x2 := (HT.out.2.1.cell (p := ⟨b, off + t * 3 + 2, none⟩) hbl).trans c2
      have hlt' : (t : Int) < (n : Int) := by omega
      have hkr := HK.out t hlt
      have HRD : Hid (rd o (t + 1) = if (o t).k = 1 ∧ (lastW o t (o t).key).isSome = false then rd o t ++ [o t] else rd o t) := Lib.hid rfl
      have HBR := Lib.hid HT.out.2.1
      have HXR := Lib.hid HT.out.2.2.1
      have HOR := Lib.hid HT.out.2.2.2
      have HNL := Lib.hid HT.out.1
      clear c0 c1 c2 hci HT
      obtain ⟨ok, eok⟩ : ∃ z, z = (o t).k := ⟨_, rfl⟩
      obtain ⟨okey, eokey⟩ : ∃ z, z = (o t).key := ⟨_, rfl⟩
      obtain ⟨ov, eov⟩ : ∃ z, z = (o t).v := ⟨_, rfl⟩
      rw [← eok] at x0 hkr HRD
      rw [← eokey] at x1 HRD
      rw [← eov] at x2
      have HOT : Hid (o t = ⟨ok, okey, ov⟩) := Lib.hid (by rw [eok, eokey, eov])
      clear eok eokey eov
      obtain ⟨wz, ewz⟩ : ∃ wz, wz = wr.alloc (.cells #[.int .i64 ok, .int .i64 okey, .int .i64 ov] 44) := ⟨_, rfl⟩
      have hwx : Below wr.heap.size wr wz := by rw [ewz]; exact (Below.refl _ _).alloc (Nat.le_refl _) _
      have hZ : wz.heap[wr.heap.size]? = some (.cells #[.int .i64 ok, .int .i64 okey, .int .i64 ov] 44 (0, 0)) := by rw [ewz]; exact heap_alloc_new wr _
      have hZl : wr.heap.size < wz.heap.size := by rw [ewz]; simp
      have hXr : X < wr.heap.size := by
        rcases Nat.lt_or_ge X wr.heap.size with h' | h'
        · exact h'
        · have h := HXR.out; rw [Array.getElem?_eq_none h'] at h; cases h
      have HBZ := Lib.hid (HBR.out.trans (hwx.mono HBR.out.size))
      have HXZ := Lib.hid ((hwx.block _ hXr).trans HXR.out)
      have HOZ := Lib.hid (own_keep HOR.out fun g hg => hwx.block g (HOR.out.lt g hg).2)
      have HOG : Hid (∀ g, (Value.slice spo nl cpo).ownBlock = some g → g < wr.heap.size) := Lib.hid fun g hg => (HOR.out.lt g hg).2
      obtain ⟨Z, eZ⟩ : ∃ Z, Z = wr.heap.size := ⟨_, rfl⟩
      rw [← eZ] at hZ hZl HOG
      have hXZ : X < wz.heap.size := by omega
      have HZ := Lib.hid hZ
      clear hZ hwx
      go_wp2
      rw [← ewz, ← eZ]
      clear ewz eZ x0 x1 x2
      go_loopw [6, 7] (fun mv uv ws => ∃ (u : Nat) (mb : Bool), u ≤ t ∧ uv = .int .i64 (u : Int) ∧ mv = .bool mb ∧ Hid (Below wz.heap.size wz ws ∧ mb = (lastW o u okey).isSome)) (fun _ uv _ => t - (intOf uv).toNat)
      case atStart => exact ⟨0, false, Nat.zero_le _, rfl, rfl, Lib.hid ⟨Below.refl _ _, rfl⟩⟩
      case round =>
        obtain ⟨u, mb, hu, rfl, rfl, HU⟩ := hrel
        obtain ⟨⟨q0, q1, q2⟩, _⟩ := cells3 ((HU.out.1.block _ hXZ).trans HXZ.out)
        obtain ⟨⟨z0, z1, z2⟩, _⟩ := cells3 ((HU.out.1.block _ hZl).trans HZ.out)
        by_cases hul : u < t
        · obtain ⟨d0, d1, d2⟩ := HCI.out u (by omega)
          have hBU := HBZ.out.trans (HU.out.1.mono HBZ.out.size)
          have y0 := (hBU.cell (p := ⟨b, off + u * 3, none⟩) hbl).trans d0
          have y1 := (hBU.cell (p := ⟨b, off + u * 3 + 1, none⟩) hbl).trans d1
          have hul' : (u : Int) < (t : Int) := by omega
          have hun : (u : Int) < (n : Int) := by omega
          have HLW : Hid (lastW o (u + 1) okey = if (o u).k = 2 ∧ okey = (o u).key then some (o u).v else lastW o u okey) := Lib.hid rfl
          have HMB := Lib.hid HU.out.2
          clear d0 d1 d2 hBU
          generalize (o u).k = uk at *
          generalize (o u).key = ukey at *
          cases mb
          · by_cases h2 : uk = 2
            · subst h2
              by_cases hy : ukey = okey
              · subst hy
                rw [if_pos ⟨rfl, rfl⟩] at HLW
                have hyb : (ukey == ukey) = true := by simp
                go_wp2
                go_quiet (fail)
                go_wp2
                go_roundw
                case rel => exact ⟨u + 1, true, by omega, by go_num, rfl, Lib.hid ⟨below_drewN HU.out.1 _, by rw [HLW.out]; rfl⟩⟩
                case measure => simp [intOf]; omega
              · rw [if_neg (fun h => hy h.2.symm)] at HLW
                have hyb : (ukey == okey) = false := by rw [beq_eq_false_iff_ne]; exact hy
                clear hy
                go_wp2
                go_quiet (fail)
                go_wp2
                go_roundw
                case rel => exact ⟨u + 1, false, by omega, by go_num, rfl, Lib.hid ⟨below_drewN HU.out.1 _, by rw [HLW.out]; exact HMB.out⟩⟩
                case measure => simp [intOf]; omega
            · rw [if_neg (fun h => h2 h.1)] at HLW
              have h2b : (uk == 2) = false := by rw [beq_eq_false_iff_ne]; exact h2
              clear h2
              go_wp2
              go_quiet (fail)
              go_wp2
              go_roundw
              case rel => exact ⟨u + 1, false, by omega, by go_num, rfl, Lib.hid ⟨below_drewN HU.out.1 _, by rw [HLW.out]; exact HMB.out⟩⟩
              case measure => simp [intOf]; omega
          · go_wp2
            go_quiet (fail)
            go_wp2
            go_roundw
            case rel => exact ⟨u + 1, true, by omega, by go_num, rfl, Lib.hid ⟨below_drewN HU.out.1 _, by rw [HLW.out]; split; rfl; exact HMB.out⟩⟩
            case measure => simp [intOf]; omega
        · obtain rfl : u = t := by omega
          have hBU := HBZ.out.trans (HU.out.1.mono HBZ.out.size)
          have HBU := Lib.hid hBU
          have HMB := Lib.hid HU.out.2
          have HXU := Lib.hid ((HU.out.1.block _ hXZ).trans HXZ.out)
          have HOU := Lib.hid (own_keep HOZ.out fun g hg => HU.out.1.block g (HOZ.out.lt g hg).2)
          have HWU := Lib.hid HU.out.1
          have hXu : X < wr.heap.size := Nat.lt_of_lt_of_le hXZ HU.out.1.size
          clear hBU HU
          by_cases hall : st = 1 ∧ ok = 1 ∧ mb = false
          · obtain ⟨rfl, rfl, rfl⟩ := hall
            rw [if_pos ⟨rfl, HMB.out.symm⟩] at HRD
            have HNW : Hid (∀ (W : World) (j : Nat) (u : Value), [Value.int .i64 1, .int .i64 okey, .int .i64 ov][j]? = some u → (W.alloc (.cells #[.int .i64 1, .int .i64 okey, .int .i64 ov] 44)).cell? ((⟨W.heap.size, 0, none⟩ : Addr).add j) = some u) := Lib.hid fun W j u hj => by
              rw [Go.WideShapes.add_plain, cell_of_row _ _ _ _ 44 (0, 0) (heap_alloc_new W _), Nat.zero_add]
              simpa using hj
            have hwy : Below wr.heap.size wr (wr.alloc (.cells #[.int .i64 1, .int .i64 okey, .int .i64 ov] 44)) := (Below.refl _ _).alloc (Nat.le_refl _) _
            have HWY := Lib.hid hwy
            have HOY := Lib.hid (own_keep HOU.out fun g hg => hwy.block g (HOU.out.lt g hg).2)
            clear hwy
            go_wp2_with (at_builtin; refine wpList_append_lies _ rfl _ _ 45 rfl w.heap.size 44 i8 (.agg #[.int .i64 0, .int .i64 0, .int .i64 0]) 3 24 Try.underlying45 hi8 hx0 hx1 hx2 rfl (by decide) _ nl _ rfl HOY.out ⟨wr.heap.size, 0, none⟩ 1 1 [.int .i64 1, .int .i64 okey, .int .i64 ov] rfl rfl (HNW.out _) (by intro u hu; simp at hu; rcases hu with rfl | rfl | rfl <;> rfl) (by omega) (by unfold maxLen; omega) (by omega) (Nat.le_trans HBU.out.size (by simp)) _ rfl ?_)
            intro g7 c7 w7 ho7 hg7 hat7 hl7
            have HB7 := Lib.hid ((HBU.out.trans (HWY.out.mono HBU.out.size)).grown hg7 (Nat.le_trans HBU.out.size (by simp)) (fun q hq => (HOU.out.lt q hq).1))
            have HX7 : Hid (w7.heap[X]? = some (.cells #[.int .i64 c, .int .i64 1, .slice (some ⟨b, off, none⟩) n cap] 47 (0, 0))) := Lib.hid ((hg7.block _ (Nat.lt_of_lt_of_le hXu (by simp)) (fun e => by
              obtain ⟨cur, e1⟩ := own_cells HOU.out e.symm
              rw [HXU.out] at e1
              injection e1 with e1
              injection e1 with _ e1 _
              cases e1)).trans ((HWY.out.block _ hXu).trans HXU.out))
            have HLN : Hid (nl + 1 = (rdS 1 o (u + 1)).length) := Lib.hid (by rw [rdS_one, HRD.out, List.length_append, List.length_singleton]; have h := HNL.out; rw [rdS_one] at h; omega)
            have HO7 : Hid (w7.ownsRow w.heap.size 44 3 (.slice (some ⟨g7, 0, none⟩) (nl + 1) c7) (nl + 1) (rowO (lf (rdS 1 o (u + 1))) (nl + 1))) := Lib.hid (by
              have e := HNL.out
              rw [rdS_one] at e
              have h := rowO_snoc (rd o u) ⟨1, okey, ov⟩
              rw [List.length_append, List.length_singleton, ← e] at h
              rw [rdS_one, HRD.out, HOT.out, h]
              have h' := ho7
              rw [rdS_one] at h'
              exact h')
            clear ho7 hg7 hat7
            go_wp2
            go_roundw
            case rel => exact ⟨u + 1, nl + 1, some ⟨g7, 0, none⟩, c7, by omega, by omega, by go_num, rfl, Lib.hid ⟨HLN.out, HB7.out, HX7.out, HO7.out⟩⟩
            case measure => simp [intOf]; omega
          · have HSM : Hid (rdS st o (u + 1) = rdS st o u) := Lib.hid (by
              by_cases hst : st = 1
              · rw [hst, rdS_one, rdS_one, HRD.out, if_neg (fun h => hall ⟨hst, h.1, HMB.out.trans h.2⟩)]
              · rw [rdS_ne hst, rdS_ne hst])
            have hcs : (st == 1) = false ∨ ((st == 1) = true ∧ (ok != 2) = false) ∨ ((st == 1) = true ∧ (ok != 2) = true ∧ mb = true) := by
              by_cases hst : st = 1
              · right
                rcases hkr with h | h
                · right
                  refine ⟨by rw [beq_iff_eq]; exact hst, by rw [bne_iff_ne]; omega, ?_⟩
                  cases mb
                  · exact absurd ⟨hst, h, rfl⟩ hall
                  · rfl
                · left
                  exact ⟨by rw [beq_iff_eq]; exact hst, by rw [h]; rfl⟩
              · left; rw [beq_eq_false_iff_ne]; exact hst
            clear hall hkr
            rcases hcs with hc1 | ⟨hc1, hc2⟩ | ⟨hc1, hc2, rfl⟩
            all_goals
              go_wp2
              go_roundw
              case rel => exact ⟨u + 1, nl, spo, cpo, by omega, by omega, by go_num, rfl, Lib.hid ⟨by rw [HSM.out]; exact HNL.out, HBU.out, HXU.out, by rw [HSM.out]; exact HOU.out⟩⟩
              case measure => simp [intOf]; omega
    · obtain rfl : n = t := by omega
      go_wp2
      go_ret
      obtain ⟨e1, e2, _, e3⟩ := HT.out
      subst e1
      exact ⟨spo, cpo, rfl, e3, e2⟩

end Go.Proofs.Yteobndfkkpfnlaa
