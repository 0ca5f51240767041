/-
  Contract of answers.
-/
import Derived.Test.YtgpnjgpbblookaaC
namespace Go.Proofs.Ytgpnjgpbblookaa
open Go.ChangeShapes Go.WideShapes Go.ChangeAt Go.RowKit Go.Maps

theorem MapS.drewN {w : World} {b n : Nat} {m : Int → Option Int} (h : MapS w b n m) (q : Nat) : MapS (w.drewN q) b n m := h.kept rfl
theorem below_drewN {B : Nat} {a w : World} (h : Below B a w) (n : Nat) : Below B a (w.drewN n) := ⟨h.os, h.tape, h.output, h.size, h.block⟩
theorem wpList_update_S {w : World} {ops : Array Oper} {rest : List Oper} {o : Oper} {a : Act} {Q : Exit → Act → World → Prop}
    (hg : o.guard = none) (m x v : Operand) (hop : o.op = Op.mapUpdate 47 m x v) (b n : Nat) (M : Int → Option Int)
    (hm : a.eval m = .map (some b)) (hown : MapS w b n M) (hn : n < 1000000) (key val : Int) (hx : a.eval x = .int .i64 key) (hv : a.eval v = .int .i64 val)
    (hkr : -9223372036854775808 ≤ key ∧ key ≤ 9223372036854775807) (hvr : -9223372036854775808 ≤ val ∧ val ≤ 9223372036854775807)
    (hK : ∀ w', MapS w' b (n + 1) (fun y => if y = key then some val else M y) → w.grownBy w' (some b) → wpList Try.prog ops Q rest (a.put o.dst undef) w') :
    wpList Try.prog ops Q (o :: rest) a w := by
  refine wpList_plain hg fun K' hK' => ?_
  obtain ⟨w', hrun, h1, h2⟩ := hown.update key val hn hkr hvr
  unfold Oper.wp
  simp [execOp, hop, hm, hx, hv, hrun, Result.andThen]
  exact hK' _ _ (hK w' h1 h2)

theorem lastW_other {t : Nat → O3} {i : Nat} (h : ¬ (t i).k = 2) : lastW t (i + 1) = lastW t i := by
  funext key
  show (if (t i).k = 2 ∧ key = (t i).key then some (t i).v else lastW t i key) = lastW t i key
  rw [if_neg (fun e => h e.1)]
theorem lastW_write {t : Nat → O3} {i : Nat} (h : (t i).k = 2) : lastW t (i + 1) = fun y => if y = (t i).key then some (t i).v else lastW t i y := by
  funext key
  show (if (t i).k = 2 ∧ key = (t i).key then some (t i).v else lastW t i key) = _
  by_cases hk : key = (t i).key
  · rw [if_pos ⟨h, hk⟩, if_pos hk]
  · rw [if_neg (fun e => hk e.2), if_neg hk]

set_option maxRecDepth 100000 in
set_option maxHeartbeats 2000000 in
theorem answers_any (asp : Option Addr) (na ac : Nat) (a : Nat → O3) (tsp : Option Addr) (nt tc : Nat) (t : Nat → O3) (ev : Int) (w : World) (hn : nt ≤ 12) (hna : na ≤ 12) (ha : OpS w asp na a) (ht : OpS w tsp nt t) (hsn : ∀ i, i < nt → SOp (t i) ev) :
    Calls Try.prog 40 #[.slice asp na ac, .slice tsp nt tc] w (AnsPost na nt a t w) := by
  have HA := Lib.hid ha
  have HT := Lib.hid ht
  have HSN := Lib.hid hsn
  clear ha ht hsn
  by_cases hne : nt = na
  · subst hne
    have HPE : Hid (∀ i, i < nt → (∀ j, j < i → errAt a t j = 0) → ¬ errAt a t i = 0 → AnsP nt nt a t (errAt a t i)) := Lib.hid fun i hi h1 h2 => .inr ⟨rfl, .inr ⟨i, hi, rfl, h2, h1⟩⟩
    have HPO : Hid ((∀ j, j < nt → errAt a t j = 0) → AnsP nt nt a t 0) := Lib.hid fun h => .inr ⟨rfl, .inl ⟨rfl, h⟩⟩
    have hmm := @run_makeMap Try.prog
    have HBM : Hid (Below w.heap.size w (w.alloc (.map #[] 0))) := Lib.hid ((Below.refl _ _).alloc (Nat.le_refl _) _)
    have HMM : Hid (MapS (w.alloc (.map #[] 0)) w.heap.size 0 (lastW t 0)) := Lib.hid (MapS.made w)
    go_enter Try.func40, Try.ntmps40
    go_wp2
    obtain ⟨wm, ewm⟩ : ∃ wm, wm = w.alloc (.map #[] 0) := ⟨_, rfl⟩
    rw [← ewm] at HBM HMM ⊢
    clear ewm
    go_loopw [6, 7, 8, 9, 18] (fun _ _ _ _ i wr => ∃ s : Nat, s ≤ nt ∧ i = .int .i64 (s : Int) ∧ Hid (Below w.heap.size w wr ∧ MapS wr w.heap.size s (lastW t s) ∧ ∀ j, j < s → errAt a t j = 0)) (fun _ _ _ _ i _ => nt - (intOf i).toNat)
    case atStart => exact ⟨0, Nat.zero_le _, rfl, Lib.hid ⟨HBM.out, HMM.out, fun i hi => absurd hi (Nat.not_lt_zero _)⟩⟩
    case round =>
      obtain ⟨s, hs, rfl, HR⟩ := hrel
      by_cases hlt : s < nt
      · obtain ⟨b, off, rfl, hbl, hci⟩ := HT.out (by omega)
        obtain ⟨c0, c1, c2⟩ := hci s hlt
        obtain ⟨ab, aoff, rfl, habl, haci⟩ := HA.out (by omega)
        obtain ⟨d0, d1, d2⟩ := haci s hlt
        have x0 := (HR.out.1.cell (p := ⟨b, off + s * 3, none⟩) hbl).trans c0
        have x1 := (HR.out.1.cell (p := ⟨b, off + s * 3 + 1, none⟩) hbl).trans c1
        have x2 := (HR.out.1.cell (p := ⟨b, off + s * 3 + 2, none⟩) hbl).trans c2
        have hlt' : (s : Int) < (nt : Int) := by omega
        have hsop := HSN.out s hlt
        have HPE' : Hid (¬ errAt a t s = 0 → AnsP nt nt a t (errAt a t s)) := Lib.hid fun h => HPE.out s hlt HR.out.2.2 h
        have HPN : Hid (errAt a t s = 0 → ∀ j, j < s + 1 → errAt a t j = 0) := Lib.hid fun h j hj => by
          by_cases hh : j < s
          · exact HR.out.2.2 j hh
          · obtain rfl : j = s := by omega
            exact h
        have HER : Hid (errAt a t s = if ¬ (t s).k = (a s).k ∨ ¬ (t s).key = (a s).key then 22 else if (t s).k = 2 then (if (t s).v = (a s).v then 0 else 22) else match lastW t s (t s).key with | some v => if (t s).v = v then 0 else 24 | none => 0) := Lib.hid rfl
        have HLO : Hid (¬ (t s).k = 2 → lastW t (s + 1) = lastW t s) := Lib.hid lastW_other
        have HLW : Hid ((t s).k = 2 → lastW t (s + 1) = fun y => if y = (t s).key then some (t s).v else lastW t s y) := Lib.hid lastW_write
        have HMS := Lib.hid HR.out.2.1
        have HBS := Lib.hid HR.out.1
        generalize errAt a t s = er at *
        generalize hL1 : lastW t (s + 1) = L1 at *
        have HLE := Lib.hid hL1
        clear hL1
        generalize hL : lastW t s = L at *
        generalize t s = ts at *
        generalize a s = as_ at *
        obtain ⟨tk, tkey, tv⟩ := ts
        obtain ⟨ak, akey, av⟩ := as_
        dsimp only [] at x0 x1 x2 d0 d1 d2 HER HLO HLW hsop
        have hkr : 0 ≤ tkey ∧ tkey ≤ 15 ∧ 0 ≤ tv ∧ tv < 1099511627776 := ⟨hsop.1, hsop.2.1, hsop.2.2.1, hsop.2.2.2.1⟩
        have hwx : Below wr.heap.size wr (wr.alloc (.cells #[.int .i64 tk, .int .i64 tkey, .int .i64 tv] 38)) := (Below.refl _ _).alloc (Nat.le_refl _) _
        obtain ⟨⟨e0, e1, e2⟩, _⟩ := cells3 (heap_alloc_new wr (.cells #[.int .i64 tk, .int .i64 tkey, .int .i64 tv] 38))
        have HBX := Lib.hid (HBS.out.trans (hwx.mono HBS.out.size))
        have y0 := (HBX.out.cell (p := ⟨ab, aoff + s * 3, none⟩) habl).trans d0
        have y1 := (HBX.out.cell (p := ⟨ab, aoff + s * 3 + 1, none⟩) habl).trans d1
        have y2 := (HBX.out.cell (p := ⟨ab, aoff + s * 3 + 2, none⟩) habl).trans d2
        have HMX := Lib.hid (HMS.out.kept (hwx.block _ HMS.out.lt))
        clear c0 c1 c2 d0 d1 d2 hci haci hsop hL HR
        have hBW : ∀ q, Below w.heap.size w ((wr.alloc (.cells #[.int .i64 tk, .int .i64 tkey, .int .i64 tv] 38)).drewN q) := fun q => below_drewN HBX.out q
        have HBW := Lib.hid hBW
        clear hBW hwx
        by_cases hk : tk = ak
        · by_cases hkey : tkey = akey
          · have HER2 : Hid (er = if tk = 2 then (if tv = av then 0 else 22) else match L tkey with | some v => if tv = v then 0 else 24 | none => 0) := Lib.hid (by rw [HER.out, if_neg (fun h => h.elim (fun h => h hk) (fun h => h hkey))])
            have hkb : (tk != ak) = false := by rw [hk]; simp
            have hyb : (tkey != akey) = false := by rw [hkey]; simp
            clear hk hkey HER
            by_cases h2 : tk = 2
            · have HL1 : Hid (L1 = fun y => if y = tkey then some tv else L y) := Lib.hid (HLW.out h2)
              have h2b : (tk == 2) = true := by rw [beq_iff_eq]; exact h2
              by_cases hv : tv = av
              · have HE0 : Hid (er = 0) := Lib.hid (by rw [HER2.out, if_pos h2, if_pos hv])
                have hvb : (tv != av) = false := by rw [hv]; simp
                clear h2 hv HER2 HLO HLW
                go_wp2
                go_quiet (fail)
                go_wp2
                go_quiet (fail)
                go_wp2_with (at_mapUpdate; refine wpList_update_S rfl _ _ _ rfl w.heap.size s L rfl (HMX.out.drewN _) (by omega) tkey tv rfl rfl (by omega) (by omega) ?_)
                intro w5 hm5 hg5
                rw [← HL1.out] at hm5
                have HM5 := Lib.hid hm5
                have HB5 := Lib.hid ((HBW.out _).grown hg5 (HBW.out _).size (fun q hq => by injection hq with hq; omega))
                clear hm5 hg5
                go_wp2
                go_roundw
                case rel => exact ⟨s + 1, by omega, by go_num, Lib.hid ⟨HB5.out, by rw [HLE.out]; exact HM5.out, HPN.out HE0.out⟩⟩
                case measure => simp [intOf]; omega
              · have HP : Hid (AnsP nt nt a t 22) := Lib.hid (by have e : er = 22 := by rw [HER2.out, if_pos h2, if_neg hv]
                                                                 rw [← e]; exact HPE'.out (by omega))
                have hvb : (tv != av) = true := by rw [bne_iff_ne]; exact hv
                clear h2 hv HER2 HLO HLW
                go_wp2
                go_quiet (fail)
                go_wp2
                go_quiet (fail)
                go_wp2
                go_ret
                exact ⟨22, rfl, HP.out, by first | exact HBW.out _ | exact below_drewN (HBW.out _) _⟩
            · have HL1 : Hid (L1 = L) := Lib.hid (HLO.out h2)
              have h2b : (tk == 2) = false := by rw [beq_eq_false_iff_ne]; exact h2
              have HMN : Hid (MapS (wr.alloc (.cells #[.int .i64 tk, .int .i64 tkey, .int .i64 tv] 38)) w.heap.size (s + 1) L1) := Lib.hid (by rw [HL1.out]; exact HMX.out.mono (by omega))
              have hlook : ∀ q, (Instr.lookup 47 (.map (some w.heap.size)) (.int .i64 tkey) true).run Try.prog ((wr.alloc (.cells #[.int .i64 tk, .int .i64 tkey, .int .i64 tv] 38)).drewN q) = .ok (.tuple #[.int .i64 ((L tkey).getD 0), .bool (L tkey).isSome]) ((wr.alloc (.cells #[.int .i64 tk, .int .i64 tkey, .int .i64 tv] 38)).drewN q) := fun q => (HMX.out.drewN q).look tkey (by omega)
              cases hLk : L tkey with
              | none =>
                rw [hLk] at hlook
                have HE0 : Hid (er = 0) := Lib.hid (by rw [HER2.out, if_neg h2, hLk])
                clear hLk h2 HER2 HLO HLW
                simp only [Option.getD_none, Option.isSome_none] at hlook
                go_wp2
                go_quiet (fail)
                go_wp2
                go_roundw
                case rel => exact ⟨s + 1, by omega, by go_num, Lib.hid ⟨HBW.out _, by rw [HLE.out]; exact HMN.out.drewN _, HPN.out HE0.out⟩⟩
                case measure => simp [intOf]; omega
              | some lv =>
                rw [hLk] at hlook
                simp only [Option.getD_some, Option.isSome_some] at hlook
                by_cases hv : tv = lv
                · have HE0 : Hid (er = 0) := Lib.hid (by rw [HER2.out, if_neg h2, hLk]; exact if_pos hv)
                  have hvb : (tv != lv) = false := by rw [hv]; simp
                  clear hLk h2 hv HER2 HLO HLW
                  go_wp2
                  go_quiet (fail)
                  go_wp2
                  go_roundw
                  case rel => exact ⟨s + 1, by omega, by go_num, Lib.hid ⟨HBW.out _, by rw [HLE.out]; exact HMN.out.drewN _, HPN.out HE0.out⟩⟩
                  case measure => simp [intOf]; omega
                · have HP : Hid (AnsP nt nt a t 24) := Lib.hid (by have e : er = 24 := by rw [HER2.out, if_neg h2, hLk]; exact if_neg hv
                                                                   rw [← e]; exact HPE'.out (by omega))
                  have hvb : (tv != lv) = true := by rw [bne_iff_ne]; exact hv
                  clear hLk h2 hv HER2 HLO HLW
                  go_wp2
                  go_quiet (fail)
                  go_wp2
                  go_ret
                  exact ⟨24, rfl, HP.out, HBW.out _⟩
          · have HP : Hid (AnsP nt nt a t 22) := Lib.hid (by have e : er = 22 := by rw [HER.out, if_pos (.inr hkey)]
                                                             rw [← e]; exact HPE'.out (by omega))
            have hkb : (tk != ak) = false := by rw [hk]; simp
            have hyb : (tkey != akey) = true := by rw [bne_iff_ne]; exact hkey
            clear hk hkey HER HLO HLW
            go_wp2
            go_quiet (fail)
            go_wp2
            go_ret
            exact ⟨22, rfl, HP.out, by first | exact HBW.out _ | exact below_drewN (HBW.out _) _⟩
        · have HP : Hid (AnsP nt nt a t 22) := Lib.hid (by have e : er = 22 := by rw [HER.out, if_pos (.inl hk)]
                                                           rw [← e]; exact HPE'.out (by omega))
          have hkb : (tk != ak) = true := by rw [bne_iff_ne]; exact hk
          clear hk HER HLO HLW
          go_wp2
          go_quiet (fail)
          go_wp2
          go_ret
          exact ⟨22, rfl, HP.out, by first | exact HBW.out _ | exact below_drewN (HBW.out _) _⟩
      · obtain rfl : nt = s := by omega
        go_wp2
        go_ret
        exact ⟨0, rfl, HPO.out HR.out.2.2, HR.out.1⟩
  · have hb : ((nt : Int) != (na : Int)) = true := by rw [bne_iff_ne]; omega
    have HP : Hid (AnsP na nt a t 22) := Lib.hid (.inl ⟨hne, rfl⟩)
    go_enter Try.func40, Try.ntmps40
    go_wp2
    go_ret
    exact ⟨22, rfl, HP.out, Below.refl _ _⟩
end Go.Proofs.Ytgpnjgpbblookaa
