/-
  ChainsOrders' walk.
-/
import Derived.Test.YteobndfkkpfnlaaMd
namespace Go.Proofs.Yteobndfkkpfnlaa
open Go.ChangeShapes Go.WideShapes Go.ChangeAt Go.RowKit Go.Maps Go.Shelf Go.MapKept Go.ChangeMaps
set_option linter.unusedVariables false

theorem wlF_congr {T : Nat → Tx} {c c' : Nat → Bool} {m : Nat} {y : Int} (h : ∀ t, t < m → c t = c' t) : wlF T c m y = wlF T c' m y := by
  unfold wlF
  congr 1
  refine List.filter_congr fun i hi => ?_
  rw [h i (List.mem_range.1 hi)]
theorem wlF_pos {T : Nat → Tx} {c : Nat → Bool} {m : Nat} {y : Int} : ∀ x ∈ wlF T c m y, 0 ≤ x := by
  intro x hx
  unfold wlF at hx
  obtain ⟨i, _, rfl⟩ := List.mem_map.1 hx
  omega
theorem wlF_len {T : Nat → Tx} {c : Nat → Bool} {m : Nat} {y : Int} : (wlF T c m y).length ≤ m := by
  unfold wlF
  rw [List.length_map]
  exact Nat.le_trans (List.length_filter_le _ _) (by simp)
theorem ag_of {F : CM} {f : Nat → C4 × Bool} {k : Nat} {y : Int} (h : ∀ c : C4, F c.k c.y c.a c.b = gtS f c k) : AgP F y (ahG f k y) := fun a b hab => by
  unfold ahG aF
  rw [decide_eq_true hab, Bool.true_and]
  split
  · rw [← h ⟨2, y, a, b⟩]
  · rw [← h ⟨2, y, b, a⟩]

set_option maxRecDepth 100000 in
set_option maxHeartbeats 8000000 in
theorem orders_law (a : Option Addr) (len cap : Nat) (E : Nat → Ev) (ap : Option Addr) (np capp : Nat) (P : Nat → Int) (y : Int) (w : World) (hs : EvS w a len E) (hp : PkS w ap np P) (hy : In64 y) :
    Calls Try.prog 10 #[.slice a len cap, .slice ap np capp, .int .i64 y] w (fun e w' => e = .returned (.bool true) ∧ Below w.heap.size w w') := by
  have HS := Lib.hid hs
  have HP := Lib.hid hp
  have HY := Lib.hid hy
  have HH := Lib.hid (head9_any w)
  clear hs hp hy
  go_enter Try.func10, Try.ntmps10
  go_wp2_with fail
  refine HH.out.mono ?_
  rintro e w1 ⟨rfl, hb1⟩
  have HB1 := Lib.hid hb1
  have HM := Lib.hid (made_any a len cap E w1 (HS.out.below hb1))
  clear hb1 HH
  go_wp2_with fail
  refine HM.out.mono ?_
  rintro e w2 ⟨sp, m, cp, ok, rfl, hb2, hok⟩
  have HB2 := Lib.hid (HB1.out.trans (hb2.mono HB1.out.size))
  have HOK := Lib.hid hok
  clear hb2 hok HM HB1
  cases ok with
  | false =>
    go_wp2
    go_ret
    exact ⟨rfl, HB2.out⟩
  | true =>
    obtain ⟨-, hme, hm60, hx, hu, ht⟩ := HOK.out rfl
    have hst : ∀ i, i < m → ((stateAt E len).T i).st = 0 ∨ ((stateAt E len).T i).st = 1 ∨ ((stateAt E len).T i).st = 2 := fun i hi => st_at E len i (by rw [← hme]; exact hi)
    clear hme
    generalize (stateAt E len).T = T at *
    have HT := Lib.hid ht
    have HX := Lib.hid hx
    have HU := Lib.hid hu
    have HST := Lib.hid hst
    have HSO := Lib.hid (some_any sp m cp T ap np capp P w2 (by omega) ht hx hu (HP.out.below HB2.out))
    clear ht hx hu HOK hst
    go_wp2_with fail
    refine HSO.out.mono ?_
    rintro e w3 ⟨bm, n, sg, cg, rfl, ⟨D, ho3, hv3⟩, hrow3, hb3, hn3⟩
    have HO3 : Hid (OwC w3 bm n D (smF (chA T m) (pkN P np) (chA T m).length)) := Lib.hid ⟨ho3, hv3⟩
    have HSA := Lib.hid (own_said hrow3 rfl)
    have HB3 := Lib.hid (HB2.out.trans (hb3.mono HB2.out.size))
    have HT3 := Lib.hid (HT.out.below hb3)
    have HLE := Lib.hid (chA_le T m (by omega))
    have hsl := smL_le (chA T m) (pkN P np) (chA T m).length
    have hnb : (smL (chA T m) (pkN P np) (chA T m).length).length ≤ 1000000 := by have := HLE.out; omega
    have HEQ := Lib.hid (fun c => sm_eq (p := pkN P np) (chA_nodup T m) c (chA T m).length (Nat.le_refl _))
    clear ho3 hv3 hrow3 hb3 hsl hn3 HSO
    generalize smF (chA T m) (pkN P np) (chA T m).length = F at *
    generalize lfG (smL (chA T m) (pkN P np) (chA T m).length) = f at *
    generalize (smL (chA T m) (pkN P np) (chA T m).length).length = k at *
    have HLG : Hid (wlF T (dnB T m F) m y = wlF T (cG T m k f) m y) := Lib.hid (wlF_congr fun t ht => by
      have h1 := isG_one (n := k) (f := f) HU.out ht (HST.out t ht) (HEQ.out ⟨1, 0, (t : Int), 0⟩)
      rw [Bool.eq_iff_iff, dnB_iff, ← h1]
      unfold cG
      exact beq_iff_eq.symm)
    have HAG := Lib.hid (ag_of (y := y) HEQ.out)
    have HINC := Lib.hid (wlF_inc T (cG T m k f) m y)
    have HPOS : Hid (∀ x ∈ wlF T (cG T m k f) m y, 0 ≤ x) := Lib.hid wlF_pos
    have hlm : (wlF T (cG T m k f) m y).length ≤ m := wlF_len
    have HCH := Lib.hid (chain_any sp m cp T (.map (some bm)) F y w3 HT3.out HX.out.ok HO3.out.facs HY.out)
    rw [HLG.out] at HCH
    have HRI : Hid (∀ (so : Option Addr) (N co : Nat) (o : List Int) (W : World), o.length = N → N ≤ 1000000 → Below w3.heap.size w3 W → IsL W so N o → Calls Try.prog 34 #[.slice sp m cp, .slice sg k cg, .int .i64 y, .slice so N co] W (RgC (wlF T (cG T m k f) m y) (ahG f k y) o W)) := Lib.hid fun so N co o W h1 h2 h3 h4 => rright_any sp m cp T sg k cg f y so N co o W (by omega) hnb h1 h2 (HT3.out.below h3) HX.out HU.out (HSA.out.below h3) h4
    have HWR : Hid (∀ (W : World), Below w3.heap.size w3 W → Calls Try.prog 35 #[.slice sp m cp, .slice sg k cg, .int .i64 y] W (IntP (wlF T (cG T m k f) m y) W)) := Lib.hid fun W h3 => rwriters_any sp m cp T sg k cg f y W (by omega) hnb (HT3.out.below h3) HX.out HU.out (HSA.out.below h3)
    clear HLG HEQ HLE HST HO3
    generalize wlF T (cG T m k f) m y = l at *
    generalize ahG f k y = G at *
    go_wp2_with fail
    refine HCH.out.mono ?_
    rintro e w4 ⟨o, so, co, ok, rfl, hpo, hb4, hyes, hno⟩
    have HB4 := Lib.hid hb4
    have HB4' := Lib.hid (HB3.out.trans (hb4.mono HB3.out.size))
    cases ok with
    | true =>
      have hfil := (hyes rfl).2
      have HRG := Lib.hid (fil_right HAG.out HINC.out HPOS.out hfil)
      have hol : o.length ≤ 1000000 := by rw [hfil.len]; omega
      have HRC := Lib.hid (HRI.out so o.length co o w4 rfl hol hb4 hpo)
      clear hfil hyes hno hb4 hpo HCH
      generalize o.length = N at *
      go_wp2_with fail
      refine HRC.out.mono ?_
      rintro e w5 ⟨b, rfl, hb, hb5⟩
      obtain rfl : b = true := hb.2 HRG.out
      have HB5 := Lib.hid (HB4'.out.trans (hb5.mono HB4'.out.size))
      clear hb hb5
      go_wp2
      go_ret
      exact ⟨rfl, HB5.out⟩
    | false =>
      obtain ⟨rfl, hnn⟩ := hno rfl
      have HNR := Lib.hid (no_right HAG.out HINC.out hnn)
      have HW4 := Lib.hid (HWR.out w4 hb4)
      clear hyes hno hnn hb4 hpo HCH
      go_wp2_with fail
      refine HW4.out.mono ?_
      rintro e w5 ⟨sl, cl, rfl, hol, hb5⟩
      have HB5 := Lib.hid (HB4'.out.trans (hb5.mono HB4'.out.size))
      have HB35 := Lib.hid (HB4.out.trans (hb5.mono HB4.out.size))
      obtain ⟨N, hN⟩ : ∃ N, l.length = N := ⟨_, rfl⟩
      rw [hN] at hol hlm ⊢
      have HN := Lib.hid hN
      have HOL := Lib.hid hol
      clear hb5 hol HW4 HB4 hN
      by_cases h6 : 6 < N
      · have h6' : (6 : Int) < (N : Int) := by omega
        go_wp2
        go_ret
        exact ⟨rfl, HB5.out⟩
      · have h6' : ¬ (6 : Int) < (N : Int) := by omega
        have HOR := Lib.hid (orders_any N l sl cl w5 (by omega) HN.out (own_isL HOL.out HN.out.symm) (own_cap3 HOL.out) (own_nil' HOL.out))
        go_wp2_with fail
        refine HOR.out.mono ?_
        rintro e w6 ⟨Q, sq, cq, rfl, hQ, hQl, hQn, hb6⟩
        have HB6 := Lib.hid (HB5.out.trans (hb6.mono HB5.out.size))
        have HB36 := Lib.hid (HB35.out.trans (hb6.mono HB35.out.size))
        obtain ⟨K, hK⟩ : ∃ K, Q.length = K := ⟨_, rfl⟩
        have hrw := hQ.row
        rw [hK] at hQl hrw ⊢
        have HK := Lib.hid hK
        have HQ : Hid (OrR w6 w5.heap.size (.slice sq K cq) Q ∧ w6.ownsRow w5.heap.size 41 1 (.slice sq K cq) K (Q.map (·.1))) := Lib.hid ⟨by rw [← hK] at *; exact hQ, hrw⟩
        have HQN := Lib.hid hQn
        have hK7 : K ≤ 720 := Nat.le_trans hQl (fct_le N (by omega))
        clear hK hQ hrw hQn hb6 hQl HOR HOL HB5 HB35
        go_wp2
        go_loopw [56] (fun i wr => ∃ r : Nat, r ≤ K ∧ i = .int .i64 (r : Int) ∧ Hid (Below w6.heap.size w6 wr)) (fun i _ => K - (intOf i).toNat)
        case atStart => exact ⟨0, Nat.zero_le _, rfl, Lib.hid (Below.refl _ _)⟩
        case round =>
          obtain ⟨r, hr, rfl, HW⟩ := hrel
          have HWB : Hid (Below w.heap.size w wr) := Lib.hid (HB6.out.trans (HW.out.mono HB6.out.size))
          by_cases hlr : r < K
          · have hlr' : (r : Int) < (K : Int) := by omega
            obtain ⟨g8, cap8, e8, hg8, hgl8⟩ := HQ.out.2.form (by omega)
            injection e8 with e81 e82 e83
            subst e81
            subst e83
            obtain ⟨x, hx⟩ : ∃ x, Q[r]? = some x := ⟨_, List.getElem?_eq_getElem (show r < Q.length by rw [HK.out]; exact hlr)⟩
            have hxm : x ∈ Q := List.mem_of_getElem? hx
            have hcl := HQ.out.2.cellAt r (by omega)
            rw [List.getElem?_map, hx] at hcl
            obtain ⟨su, cu, eu, hou⟩ := HQ.out.1.each x hxm
            have hlx := HQN.out x hxm
            obtain ⟨xu, V⟩ := x
            dsimp only at hcl eu hou hlx
            subst eu
            rw [hlx] at hcl hou
            have c1 := (HW.out.cell (p := ⟨g8, r, none⟩) hgl8).trans hcl
            have HRC := Lib.hid (HRI.out su N cu V wr hlx (by omega) (HB36.out.trans (HW.out.mono HB36.out.size)) ((own_isL hou hlx.symm).below HW.out))
            have HNV := Lib.hid (HNR.out V)
            clear hx hxm hcl hou hlx hgl8 hg8
            go_wp2_with fail
            refine HRC.out.mono ?_
            rintro e w7 ⟨b, rfl, hb, hb7⟩
            obtain rfl : b = false := by
              cases b with
              | false => rfl
              | true => exact absurd (hb.1 rfl) HNV.out
            have HW7 := Lib.hid (HW.out.trans (hb7.mono HW.out.size))
            clear hb hb7 HRC
            go_wp2
            go_roundw
            case rel => exact ⟨r + 1, by omega, by go_num, HW7⟩
            case measure => simp [intOf]; omega
          · obtain rfl : r = K := by omega
            go_wp2
            go_ret
            exact ⟨rfl, HWB.out⟩
end Go.Proofs.Yteobndfkkpfnlaa
