/-
  The reference's answer.
-/
import Derived.Test.YteobndfkkpfnlaaJ02
import Derived.IntWalk

namespace Go.Proofs.Yteobndfkkpfnlaa
open Go.ChangeShapes Go.WideShapes Go.ChangeAt Go.RowKit

set_option maxRecDepth 100000 in
theorem lastW_skip (t : Nat → O3) (key : Int) (u : Nat) : ∀ i, u ≤ i → (∀ j, u ≤ j → j < i → ¬ ((t j).k = 2 ∧ (t j).key = key)) → lastW t i key = lastW t u key := by
  intro i
  induction i with
  | zero => intro h _; rw [show u = 0 by omega]
  | succ i ih =>
    intro h hj
    by_cases hu : u = i + 1
    · rw [hu]
    · show (if (t i).k = 2 ∧ key = (t i).key then some (t i).v else lastW t i key) = _
      rw [if_neg (fun h' => hj i (by omega) (by omega) ⟨h'.1, h'.2.symm⟩), ih (by omega) fun j h1 h2 => hj j h1 (by omega)]

set_option maxRecDepth 100000 in
theorem lastW_hit (t : Nat → O3) (key : Int) (u : Nat) (i : Nat) (h : u + 1 ≤ i) (hj : ∀ j, u + 1 ≤ j → j < i → ¬ ((t j).k = 2 ∧ (t j).key = key)) (hk : (t u).k = 2) (hy : (t u).key = key) : lastW t i key = some (t u).v := by
  rw [lastW_skip t key (u + 1) i h hj]
  show (if (t u).k = 2 ∧ key = (t u).key then some (t u).v else lastW t u key) = _
  rw [if_pos ⟨hk, hy.symm⟩]

set_option maxRecDepth 100000 in
set_option maxHeartbeats 4000000 in
theorem answer_any (sp : Option Addr) (na c : Nat) (a : Nat → O3) (sp' : Option Addr) (nt c' : Nat) (t : Nat → O3) (w : World) (hn : nt ≤ 1000000) (h : OpS w sp na a) (h' : OpS w sp' nt t) :
    Calls Try.prog 43 #[.slice sp na c, .slice sp' nt c'] w (AnsPost na nt a t w) := by
  have H1 := Lib.hid h
  have H2 := Lib.hid h'
  clear h h'
  by_cases hne : nt = na
  · subst hne
    have HE : Hid (∀ x er, x < nt → er = errAt a t x → ¬ er = 0 → (∀ j, j < x → errAt a t j = 0) → AnsP nt nt a t er) := Lib.hid fun x er h1 h2 h3 h4 => .inr ⟨rfl, .inr ⟨x, h1, h2, h3, h4⟩⟩
    have hnn : ((nt : Int) != (nt : Int)) = false := by simp
    go_enter Try.func43, Try.ntmps43
    go_wp2
    go_loopw [5, 6, 14] (fun _ _ y wr => ∃ x : Nat, x ≤ nt ∧ y = .int .i64 (x : Int) ∧ Hid (Below w.heap.size w wr ∧ ∀ j, j < x → errAt a t j = 0)) (fun _ _ y _ => nt - (intOf y).toNat)
    case atStart => exact ⟨0, Nat.zero_le _, rfl, Lib.hid ⟨Below.refl _ _, fun i hi => absurd hi (Nat.not_lt_zero _)⟩⟩
    case round =>
      obtain ⟨x, hx, rfl, HT⟩ := hrel
      by_cases hlt : x < nt
      · obtain ⟨b, off, rfl, hbl, hci⟩ := H1.out (by omega)
        obtain ⟨b', off', rfl, hbl', hci'⟩ := H2.out (by omega)
        obtain ⟨c0, c1, c2⟩ := hci x hlt
        obtain ⟨d0, d1, d2⟩ := hci' x hlt
        have x0 := (HT.out.1.cell (p := ⟨b, off + x * 3, none⟩) hbl).trans c0
        have x1 := (HT.out.1.cell (p := ⟨b, off + x * 3 + 1, none⟩) hbl).trans c1
        have x2 := (HT.out.1.cell (p := ⟨b, off + x * 3 + 2, none⟩) hbl).trans c2
        have y0 := (HT.out.1.cell (p := ⟨b', off' + x * 3, none⟩) hbl').trans d0
        have y1 := (HT.out.1.cell (p := ⟨b', off' + x * 3 + 1, none⟩) hbl').trans d1
        have y2 := (HT.out.1.cell (p := ⟨b', off' + x * 3 + 2, none⟩) hbl').trans d2
        have hlt' : (x : Int) < (nt : Int) := by omega
        have HPN : Hid (errAt a t x = 0 → ∀ j, j < x + 1 → errAt a t j = 0) := Lib.hid fun h j hj => by
          by_cases hh : j < x
          · exact HT.out.2 j hh
          · obtain rfl : j = x := by omega
            exact h
        have HER : Hid (∀ er, er = errAt a t x → ¬ er = 0 → AnsP nt nt a t er) := Lib.hid fun er h1 h2 => HE.out x er hlt h1 h2 HT.out.2
        have HDF : Hid (errAt a t x = if ¬ (t x).k = (a x).k ∨ ¬ (t x).key = (a x).key then 22 else if (t x).k = 2 then (if (t x).v = (a x).v then 0 else 22) else match lastW t x (t x).key with | some v => if (t x).v = v then 0 else 24 | none => 0) := Lib.hid rfl
        have HCT := Lib.hid hci'
        clear c0 c1 c2 d0 d1 d2 hci hci'
        obtain ⟨tk, etk⟩ : ∃ z, z = (t x).k := ⟨_, rfl⟩
        obtain ⟨tkey, etkey⟩ : ∃ z, z = (t x).key := ⟨_, rfl⟩
        obtain ⟨tv, etv⟩ : ∃ z, z = (t x).v := ⟨_, rfl⟩
        obtain ⟨ak, eak⟩ : ∃ z, z = (a x).k := ⟨_, rfl⟩
        obtain ⟨akey, eakey⟩ : ∃ z, z = (a x).key := ⟨_, rfl⟩
        obtain ⟨av, eav⟩ : ∃ z, z = (a x).v := ⟨_, rfl⟩
        rw [← eak] at x0
        rw [← eakey] at x1
        rw [← eav] at x2
        rw [← etk] at y0
        rw [← etkey] at y1
        rw [← etv] at y2
        rw [← etk, ← etkey, ← etv, ← eak, ← eakey, ← eav] at HDF
        clear eak eakey eav etk etkey etv
        by_cases hk : tk = ak
        · subst hk
          have hkb : (tk != tk) = false := by simp
          by_cases hy : tkey = akey
          · subst hy
            have hyb : (tkey != tkey) = false := by simp
            rw [if_neg (by simp)] at HDF
            by_cases h2 : tk = 2
            · subst h2
              rw [if_pos rfl] at HDF
              by_cases hv : tv = av
              · subst hv
                rw [if_pos rfl] at HDF
                have HR := Lib.hid (HPN.out HDF.out)
                have hvb : (tv != tv) = false := by simp
                go_wp2
                go_quiet (fail)
                go_wp2
                go_roundw
                case rel => exact ⟨x + 1, by omega, by go_num, Lib.hid ⟨below_drewN HT.out.1 _, HR.out⟩⟩
                case measure => simp [intOf]; omega
              · rw [if_neg hv] at HDF
                have HR := Lib.hid (HER.out 22 HDF.out.symm (by decide))
                have hvb : (tv != av) = true := by rw [bne_iff_ne]; exact hv
                clear hv
                go_wp2
                go_quiet (fail)
                go_wp2
                go_ret
                exact ⟨22, rfl, HR.out, below_drewN HT.out.1 _⟩
            · rw [if_neg h2] at HDF
              have h2b : (tk == 2) = false := by rw [beq_eq_false_iff_ne]; exact h2
              have hw1 : IntKind.i64.wrap ((x : Int) - 1) = (x : Int) - 1 := IntWalk.i64_in _ (by omega)
              go_wp2
              go_quiet (fail)
              have HB0 : Hid (Below w.heap.size w (wr.drewN nq)) := Lib.hid (below_drewN HT.out.1 _)
              obtain ⟨wv, ewv⟩ : ∃ wv, wv = wr.drewN nq := ⟨_, rfl⟩
              have z0 : wv.cell? ⟨b', off' + x * 3, none⟩ = some (.int .i64 tk) := by rw [ewv]; exact y0
              have z1 : wv.cell? ⟨b', off' + x * 3 + 1, none⟩ = some (.int .i64 tkey) := by rw [ewv]; exact y1
              have z2 : wv.cell? ⟨b', off' + x * 3 + 2, none⟩ = some (.int .i64 tv) := by rw [ewv]; exact y2
              rw [← ewv] at HB0 ⊢
              clear ewv x0 x1 x2 y0 y1 y2
              have hcl' : b' < wv.heap.size := Nat.lt_of_lt_of_le hbl' HB0.out.size
              go_wp2
              go_loopw [6] (fun y ws => ∃ u : Nat, u ≤ x ∧ y = .int .i64 ((u : Int) - 1) ∧ Hid (Below wv.heap.size wv ws ∧ ∀ j, u ≤ j → j < x → ¬ ((t j).k = 2 ∧ (t j).key = tkey))) (fun y _ => (intOf y + 1).toNat)
              case atStart => exact ⟨x, Nat.le_refl _, rfl, Lib.hid ⟨Below.refl _ _, fun j h1 h2 => by omega⟩⟩
              case round =>
                obtain ⟨u, hu, rfl, HU⟩ := hrel
                have HBU := Lib.hid (HB0.out.trans (HU.out.1.mono HB0.out.size))
                by_cases h0 : u = 0
                · subst h0
                  rw [lastW_skip t tkey 0 x (Nat.zero_le _) HU.out.2] at HDF
                  have HR := Lib.hid (HPN.out HDF.out)
                  go_wp2
                  go_roundw
                  case rel => exact ⟨x + 1, by omega, by go_num, Lib.hid ⟨HBU.out, HR.out⟩⟩
                  case measure => simp [intOf]; omega
                · obtain ⟨v, rfl⟩ : ∃ v, u = v + 1 := ⟨u - 1, by omega⟩
                  rw [show (((v + 1 : Nat) : Int) - 1) = (v : Int) by omega]
                  obtain ⟨c0, c1, c2⟩ := HCT.out v (by omega)
                  have y0 := (HBU.out.cell (p := ⟨b', off' + v * 3, none⟩) hbl').trans c0
                  have y1 := (HBU.out.cell (p := ⟨b', off' + v * 3 + 1, none⟩) hbl').trans c1
                  have y2 := (HBU.out.cell (p := ⟨b', off' + v * 3 + 2, none⟩) hbl').trans c2
                  have q0 := (HU.out.1.cell (p := ⟨b', off' + x * 3, none⟩) hcl').trans z0
                  have q1 := (HU.out.1.cell (p := ⟨b', off' + x * 3 + 1, none⟩) hcl').trans z1
                  have q2 := (HU.out.1.cell (p := ⟨b', off' + x * 3 + 2, none⟩) hcl').trans z2
                  have hv0 : (v : Int) < (nt : Int) := by omega
                  have HHT : Hid ((t v).k = 2 → (t v).key = tkey → lastW t x tkey = some (t v).v) := Lib.hid fun h1 h2 => lastW_hit t tkey v x (by omega) HU.out.2 h1 h2
                  have HNO : Hid (¬ ((t v).k = 2 ∧ (t v).key = tkey) → ∀ j, v ≤ j → j < x → ¬ ((t j).k = 2 ∧ (t j).key = tkey)) := Lib.hid fun h j h1 h3 => by
                    by_cases hj : j = v
                    · subst hj; exact h
                    · exact HU.out.2 j (by omega) h3
                  clear c0 c1 c2
                  generalize (t v).k = vk at *
                  generalize (t v).key = vkey at *
                  generalize (t v).v = vv at *
                  by_cases hvk : vk = 2
                  · subst hvk
                    by_cases hvy : vkey = tkey
                    · subst hvy
                      rw [HHT.out rfl rfl] at HDF
                      have hyb : (vkey == vkey) = true := by simp
                      by_cases hvv : tv = vv
                      · subst hvv
                        dsimp only at HDF
                        rw [if_pos rfl] at HDF
                        have HR := Lib.hid (HPN.out HDF.out)
                        have hvb : (tv != tv) = false := by simp
                        clear HHT HNO
                        go_wp2
                        go_quiet (fail)
                        go_wp2
                        go_quiet (fail)
                        go_wp2
                        go_roundw
                        case rel => exact ⟨x + 1, by omega, by go_num, Lib.hid ⟨by first | exact below_drewN (below_drewN HBU.out _) _ | exact below_drewN HBU.out _, HR.out⟩⟩
                        case measure => simp [intOf]; omega
                      · dsimp only at HDF
                        rw [if_neg hvv] at HDF
                        have HR := Lib.hid (HER.out 24 HDF.out.symm (by decide))
                        have hvb : (vv != tv) = true := by rw [bne_iff_ne]; exact fun h => hvv h.symm
                        clear hvv HHT HNO
                        go_wp2
                        go_quiet (fail)
                        go_wp2
                        go_quiet (fail)
                        go_wp2
                        go_ret
                        exact ⟨24, rfl, HR.out, by first | exact below_drewN (below_drewN HBU.out _) _ | exact below_drewN HBU.out _⟩
                    · have HR := Lib.hid (HNO.out fun h => hvy h.2)
                      have hyb : (vkey == tkey) = false := by rw [beq_eq_false_iff_ne]; exact hvy
                      clear hvy HHT HNO
                      go_wp2
                      go_quiet (fail)
                      go_wp2
                      go_roundw
                      case rel => exact ⟨v, by omega, by go_num, Lib.hid ⟨below_drewN HU.out.1 _, HR.out⟩⟩
                      case measure => simp [intOf]
                  · have HR := Lib.hid (HNO.out fun h => hvk h.1)
                    have hkb2 : (vk == 2) = false := by rw [beq_eq_false_iff_ne]; exact hvk
                    clear hvk HHT HNO
                    go_wp2
                    go_quiet (fail)
                    go_wp2
                    go_roundw
                    case rel => exact ⟨v, by omega, by go_num, Lib.hid ⟨below_drewN HU.out.1 _, HR.out⟩⟩
                    case measure => simp [intOf]
          · rw [if_pos (.inr hy)] at HDF
            have HR := Lib.hid (HER.out 22 HDF.out.symm (by decide))
            have hyb : (tkey != akey) = true := by rw [bne_iff_ne]; exact hy
            clear hy
            go_wp2
            go_quiet (fail)
            go_wp2
            go_ret
            exact ⟨22, rfl, HR.out, below_drewN HT.out.1 _⟩
        · rw [if_pos (.inl hk)] at HDF
          have HR := Lib.hid (HER.out 22 HDF.out.symm (by decide))
          have hkb : (tk != ak) = true := by rw [bne_iff_ne]; exact hk
          clear hk
          go_wp2
          go_quiet (fail)
          go_wp2
          go_ret
          exact ⟨22, rfl, HR.out, below_drewN HT.out.1 _⟩
      · obtain rfl : nt = x := by omega
        go_wp2
        go_ret
        exact ⟨0, rfl, .inr ⟨rfl, .inl ⟨rfl, HT.out.2⟩⟩, HT.out.1⟩
  · have hb : ((na : Int) != (nt : Int)) = true := by rw [bne_iff_ne]; omega
    have HN := Lib.hid hne
    clear hne
    go_enter Try.func43, Try.ntmps43
    go_wp2
    go_ret
    exact ⟨22, rfl, .inl ⟨HN.out, rfl⟩, Below.refl _ _⟩

end Go.Proofs.Yteobndfkkpfnlaa

