/-
  The reference's Writes.
-/
import Derived.Test.YteobndfkkpfnlaaHWb
namespace Go.Proofs.Yteobndfkkpfnlaa
open Go.ChangeShapes Go.WideShapes Go.ChangeAt Go.RowKit

/-- the last write of a key among the first i operations -/
def lastIx (o : Nat → O3) (key : Int) : Nat → Option Nat
  | 0 => none
  | i + 1 => if (o i).k = 2 ∧ (o i).key = key then some i else lastIx o key i

def ixI (o : Nat → O3) (key : Int) (i : Nat) : Int := match lastIx o key i with
  | some j => (j : Int)
  | none => -1

set_option maxRecDepth 100000 in
theorem lastIx_lt {o : Nat → O3} {key : Int} : ∀ {i j : Nat}, lastIx o key i = some j → j < i ∧ (o j).k = 2 ∧ (o j).key = key := by
  intro i
  induction i with
  | zero => intro j h; cases h
  | succ i ih =>
    intro j h
    unfold lastIx at h
    split at h
    · rename_i hc
      injection h with h
      subst h
      exact ⟨Nat.lt_succ_self _, hc⟩
    · have := ih h
      exact ⟨by omega, this.2⟩

/-- the last writes of the first k keys -/
def wrl (o : Nat → O3) (n : Nat) : Nat → List O3
  | 0 => []
  | k + 1 => match lastIx o (k : Int) n with
    | some i => wrl o n k ++ [o i]
    | none => wrl o n k

set_option maxRecDepth 100000 in
theorem wrl_le (o : Nat → O3) (n k : Nat) : (wrl o n k).length ≤ k := by
  induction k with
  | zero => exact Nat.le_refl _
  | succ k ih =>
    unfold wrl
    split
    · rw [List.length_append, List.length_singleton]; omega
    · omega

set_option maxRecDepth 100000 in
set_option maxHeartbeats 4000000 in
theorem rwrites_any (c st : Int) (sp : Option Addr) (n cap : Nat) (o : Nat → O3) (w : World) (hn : n ≤ 1000) (hs : OpS w sp n o) :
    Calls Try.prog 52 #[.agg #[.int .i64 c, .int .i64 st, .slice sp n cap]] w (OpsP (wrl o n 16) w) := by
  obtain ⟨i8, hi8, hx0, hx1, hx2⟩ := info_parts info38
  have HS := Lib.hid hs
  clear hs
  obtain ⟨wi, ewi⟩ : ∃ wi, wi = (w.alloc (.cells #[.int .i64 c, .int .i64 st, .slice sp n cap] 47)).alloc (.cells #[] 44) := ⟨_, rfl⟩
  have hX : wi.heap[w.heap.size]? = some (.cells #[.int .i64 c, .int .i64 st, .slice sp n cap] 47 (0, 0)) := by
    rw [ewi, heap_alloc_old _ _ (by simp)]; exact heap_alloc_new w _
  have hO : wi.ownsRow w.heap.size 44 3 (.slice (some ⟨w.heap.size + 1, 0, none⟩) 0 0) 0 [] := by
    have h := World.ownsRow_lit (base := w.heap.size) (e := 44) (size := 3) (w.alloc (.cells #[.int .i64 c, .int .i64 st, .slice sp n cap] 47)) #[] 0 (by simp) (Nat.zero_le _) rfl
    rw [show (w.alloc (.cells #[.int .i64 c, .int .i64 st, .slice sp n cap] 47)).heap.size = w.heap.size + 1 by simp] at h
    rw [ewi]; exact h
  have hB : Below w.heap.size w wi := by rw [ewi]; exact ((Below.refl _ _).alloc (Nat.le_refl _) _).alloc (by simp) _
  obtain ⟨X, eX⟩ : ∃ X, X = w.heap.size := ⟨_, rfl⟩
  rw [← eX] at hX
  have HX := Lib.hid hX
  have HO := Lib.hid hO
  have HB := Lib.hid hB
  clear hX hO hB
  go_enter Try.func52, Try.ntmps52
  go_wp2
  rw [← ewi, ← eX]
  have HEX := Lib.hid eX
  clear ewi eX
  go_loopw [3, 4, 5, 6, 7] (fun vo kv _ _ _ wr => ∃ (kk nl : Nat) (spo : Option Addr) (cpo : Nat), kk ≤ 16 ∧ nl ≤ kk ∧ kv = .int .i64 (kk : Int) ∧ vo = .slice spo nl cpo ∧ Hid (nl = (wrl o n kk).length ∧ Below w.heap.size w wr ∧ wr.heap[X]? = some (.cells #[.int .i64 c, .int .i64 st, .slice sp n cap] 47 (0, 0)) ∧ wr.ownsRow w.heap.size 44 3 (.slice spo nl cpo) nl (rowO (lf (wrl o n kk)) nl))) (fun _ kv _ _ _ _ => 16 - (intOf kv).toNat)
  case atStart => exact ⟨0, 0, _, _, by omega, Nat.le_refl _, rfl, by rw [HEX.out], Lib.hid ⟨rfl, HB.out, HX.out, HO.out⟩⟩
  case round =>
    obtain ⟨kk, nl, spo, cpo, hkk, hnl, rfl, rfl, HT⟩ := hrel
    by_cases hlt : kk < 16
    · have hlt' : (kk : Int) < 16 := by omega
      have HBR := Lib.hid HT.out.2.1
      have HXR := Lib.hid HT.out.2.2.1
      have HOR := Lib.hid HT.out.2.2.2
      have HNL := Lib.hid HT.out.1
      have HWL : Hid (wrl o n (kk + 1) = match lastIx o (kk : Int) n with | some i => wrl o n kk ++ [o i] | none => wrl o n kk) := Lib.hid rfl
      have hXr : X < wr.heap.size := by
        rcases Nat.lt_or_ge X wr.heap.size with h' | h'
        · exact h'
        · have h := HXR.out; rw [Array.getElem?_eq_none h'] at h; cases h
      obtain ⟨⟨q0, q1, q2⟩, _⟩ := cells3 HXR.out
      obtain ⟨wz, ewz⟩ : ∃ wz, wz = wr := ⟨_, rfl⟩
      subst ewz
      clear HT
      go_wp2
      clear q0 q1 q2
      go_loopw [5, 6, 7, 16] (fun av _ _ uv ws => ∃ u : Nat, u ≤ n ∧ uv = .int .i64 (u : Int) ∧ av = .int .i64 (ixI o (kk : Int) u) ∧ Hid (Below wz.heap.size wz ws)) (fun _ _ _ uv _ => n - (intOf uv).toNat)
      case atStart => exact ⟨0, Nat.zero_le _, rfl, rfl, Lib.hid (Below.refl _ _)⟩
      case round =>
        obtain ⟨u, hu, rfl, rfl, HU⟩ := hrel
        by_cases hul : u < n
        · obtain ⟨b, off, rfl, hbl, hci⟩ := HS.out (by omega)
          obtain ⟨d0, d1, d2⟩ := hci u hul
          have hBU := HBR.out.trans (HU.out.mono HBR.out.size)
          have y0 := (hBU.cell (p := ⟨b, off + u * 3, none⟩) hbl).trans d0
          have y1 := (hBU.cell (p := ⟨b, off + u * 3 + 1, none⟩) hbl).trans d1
          have y2 := (hBU.cell (p := ⟨b, off + u * 3 + 2, none⟩) hbl).trans d2
          have hul' : (u : Int) < (n : Int) := by omega
          have HIX : Hid (ixI o (kk : Int) (u + 1) = if (o u).k = 2 ∧ (o u).key = (kk : Int) then (u : Int) else ixI o (kk : Int) u) := Lib.hid (by
            by_cases h : (o u).k = 2 ∧ (o u).key = (kk : Int)
            · rw [if_pos h]; unfold ixI lastIx; rw [if_pos h]
            · rw [if_neg h]; unfold ixI; rw [show lastIx o (kk : Int) (u + 1) = lastIx o (kk : Int) u from if_neg h])
          have HAL : Hid (∀ ob, Below wz.heap.size wz (wr.alloc ob)) := Lib.hid fun ob => HU.out.alloc HU.out.size _
          clear d0 d1 d2 hci hBU
          generalize ixI o (kk : Int) u = ix at *
          generalize (o u).k = uk at *
          generalize (o u).key = ukey at *
          generalize (o u).v = uv at *
          by_cases h2 : uk = 2
          · subst h2
            by_cases hy : ukey = (kk : Int)
            · rw [if_pos ⟨rfl, hy⟩] at HIX
              have hyb : (ukey == (kk : Int)) = true := by rw [beq_iff_eq]; exact hy
              subst hy
              go_wp2
              go_roundw
              case rel => exact ⟨u + 1, by omega, by go_num, val_int HIX.out.symm, Lib.hid (HAL.out _)⟩
              case measure => simp [intOf]; omega
            · rw [if_neg (fun h => hy h.2)] at HIX
              have hyb : (ukey == (kk : Int)) = false := by rw [beq_eq_false_iff_ne]; exact hy
              clear hy
              go_wp2
              go_roundw
              case rel => exact ⟨u + 1, by omega, by go_num, val_int HIX.out.symm, Lib.hid (HAL.out _)⟩
              case measure => simp [intOf]; omega
          · rw [if_neg (fun h => h2 h.1)] at HIX
            have h2b : (uk == 2) = false := by rw [beq_eq_false_iff_ne]; exact h2
            clear h2
            go_wp2
            go_roundw
            case rel => exact ⟨u + 1, by omega, by go_num, val_int HIX.out.symm, Lib.hid (HAL.out _)⟩
            case measure => simp [intOf]; omega
        · obtain rfl : u = n := by omega
          have HBU := Lib.hid (HBR.out.trans (HU.out.mono HBR.out.size))
          have HXU := Lib.hid ((HU.out.block _ hXr).trans HXR.out)
          have HOU := Lib.hid (own_keep HOR.out fun g hg => HU.out.block g (HOR.out.lt g hg).2)
          have hXu : X < wr.heap.size := Nat.lt_of_lt_of_le hXr HU.out.size
          obtain ⟨⟨q0, q1, q2⟩, _⟩ := cells3 HXU.out
          clear HU
          cases hli : lastIx o (kk : Int) u with
          | none =>
            rw [hli] at HWL
            have hix : ixI o (kk : Int) u = -1 := by unfold ixI; rw [hli]
            rw [hix]
            clear hix hli
            go_wp2
            go_roundw
            case rel => exact ⟨kk + 1, nl, spo, cpo, by omega, by omega, by go_num, rfl, Lib.hid ⟨by rw [HWL.out]; exact HNL.out, HBU.out, HXU.out, by rw [HWL.out]; exact HOU.out⟩⟩
            case measure => simp [intOf]; omega
          | some i =>
            rw [hli] at HWL
            dsimp only at HWL
            have hix : ixI o (kk : Int) u = (i : Int) := by unfold ixI; rw [hli]
            rw [hix]
            have hiu := (lastIx_lt hli).1
            obtain ⟨b, off, rfl, hbl, hci⟩ := HS.out (by omega)
            obtain ⟨d0, d1, d2⟩ := hci i hiu
            have y0 := (HBU.out.cell (p := ⟨b, off + i * 3, none⟩) hbl).trans d0
            have y1 := (HBU.out.cell (p := ⟨b, off + i * 3 + 1, none⟩) hbl).trans d1
            have y2 := (HBU.out.cell (p := ⟨b, off + i * 3 + 2, none⟩) hbl).trans d2
            have hiu' : (i : Int) < (u : Int) := by omega
            clear hix hli d0 d1 d2 hci
            generalize o i = oi at *
            obtain ⟨ok, okey, ov⟩ := oi
            dsimp only at y0 y1 y2 HWL
            have HNW : Hid (∀ (W : World) (j : Nat) (u : Value), [Value.int .i64 ok, .int .i64 okey, .int .i64 ov][j]? = some u → (W.alloc (.cells #[.int .i64 ok, .int .i64 okey, .int .i64 ov] 44)).cell? ((⟨W.heap.size, 0, none⟩ : Addr).add j) = some u) := Lib.hid fun W j u hj => by
              rw [Go.WideShapes.add_plain, cell_of_row _ _ _ _ 44 (0, 0) (heap_alloc_new W _), Nat.zero_add]
              simpa using hj
            have hwy : Below wr.heap.size wr (wr.alloc (.cells #[.int .i64 ok, .int .i64 okey, .int .i64 ov] 44)) := (Below.refl _ _).alloc (Nat.le_refl _) _
            have HWY := Lib.hid hwy
            have HOY := Lib.hid (own_keep HOU.out fun g hg => hwy.block g (HOU.out.lt g hg).2)
            clear hwy
            go_wp2_with (at_builtin; refine wpList_append_lies _ rfl _ _ 45 rfl w.heap.size 44 i8 (.agg #[.int .i64 0, .int .i64 0, .int .i64 0]) 3 24 Try.underlying45 hi8 hx0 hx1 hx2 rfl (by decide) _ nl _ rfl HOY.out ⟨wr.heap.size, 0, none⟩ 1 1 [.int .i64 ok, .int .i64 okey, .int .i64 ov] rfl rfl (HNW.out _) (by intro u hu; simp at hu; rcases hu with rfl | rfl | rfl <;> rfl) (by omega) (by unfold maxLen; omega) (by omega) (Nat.le_trans HBU.out.size (by simp)) _ rfl ?_)
            intro g7 c7 w7 ho7 hg7 hat7 hl7
            have HB7 := Lib.hid ((HBU.out.trans (HWY.out.mono HBU.out.size)).grown hg7 (Nat.le_trans HBU.out.size (by simp)) (fun q hq => (HOU.out.lt q hq).1))
            have HX7 : Hid (w7.heap[X]? = some (.cells #[.int .i64 c, .int .i64 st, .slice (some ⟨b, off, none⟩) u cap] 47 (0, 0))) := Lib.hid ((hg7.block _ (Nat.lt_of_lt_of_le hXu (by simp)) (fun e => by
              obtain ⟨cur, e1⟩ := own_cells HOU.out e.symm
              rw [HXU.out] at e1
              injection e1 with e1
              injection e1 with _ e1 _
              cases e1)).trans ((HWY.out.block _ hXu).trans HXU.out))
            have HLN : Hid (nl + 1 = (wrl o u (kk + 1)).length) := Lib.hid (by rw [HWL.out, List.length_append, List.length_singleton, ← HNL.out])
            have HO7 : Hid (w7.ownsRow w.heap.size 44 3 (.slice (some ⟨g7, 0, none⟩) (nl + 1) c7) (nl + 1) (rowO (lf (wrl o u (kk + 1))) (nl + 1))) := Lib.hid (by
              have h := rowO_snoc (wrl o u kk) ⟨ok, okey, ov⟩
              rw [List.length_append, List.length_singleton, ← HNL.out] at h
              rw [HWL.out, h]
              exact ho7)
            clear ho7 hg7 hat7
            go_wp2
            go_roundw
            case rel => exact ⟨kk + 1, nl + 1, some ⟨g7, 0, none⟩, c7, by omega, by omega, by go_num, rfl, Lib.hid ⟨HLN.out, HB7.out, HX7.out, HO7.out⟩⟩
            case measure => simp [intOf]; omega
    · obtain rfl : kk = 16 := by omega
      go_wp2
      go_ret
      obtain ⟨e1, e2, _, e3⟩ := HT.out
      subst e1
      exact ⟨spo, cpo, rfl, e3, e2⟩

end Go.Proofs.Yteobndfkkpfnlaa
