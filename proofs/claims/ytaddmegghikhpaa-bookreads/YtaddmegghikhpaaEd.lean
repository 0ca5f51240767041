/-
  The references' Same and SameEvents, whatever they answer.
-/
import Derived.Test.YtaddmegghikhpaaEc
namespace Go.Proofs.Ytaddmegghikhpaa
open Go.ChangeShapes Go.WideShapes Go.ChangeAt Go.RowKit

theorem nums_inj (f g : Nat → Nat) (n m : Nat) (hf : ∀ j, f j < 256) (hg : ∀ j, g j < 256) (h : strOfNums (numsOf f n) = strOfNums (numsOf g m)) : n = m ∧ ∀ j, j < n → f j = g j := by
  have h1 : (strOfNums (numsOf f n)).data.toList = (strOfNums (numsOf g m)).data.toList := by rw [h]
  rw [strOfNums_data, strOfNums_data] at h1
  have hl : n = m := by
    have := congrArg List.length h1
    simpa [numsOf] using this
  subst hl
  refine ⟨rfl, fun j hj => ?_⟩
  have h2 := congrArg (fun l : List UInt8 => l[j]?.map UInt8.toNat) h1
  simp [numsOf, hj] at h2
  have a := hf j
  have b := hg j
  omega
theorem sameB_any (w : World) (sp1 sp2 : Option Addr) (n m cap1 cap2 : Nat) (f g : Nat → Nat) (b : Bool) (hf : ∀ j, f j < 256) (hg : ∀ j, g j < 256) (h1 : Src w sp1 n f) (h2 : Src w sp2 m g) (he : b = true ↔ (n = m ∧ ∀ j, j < n → f j = g j)) :
    Calls Try.prog 12 #[.slice sp1 n cap1, .slice sp2 m cap2] w fun e w' => e = .returned (.bool b) ∧ w = w' := by
  have r1 := conv_any w sp1 n cap1 f h1
  have r2 := conv_any w sp2 m cap2 g h2
  have e : (strOfNums (numsOf f n) = strOfNums (numsOf g m)) ↔ b = true := by
    rw [he]
    constructor
    · exact fun h => nums_inj f g n m hf hg h
    · rintro ⟨rfl, h⟩
      congr 1
      unfold numsOf; apply List.map_congr_left; intro j hj; rw [h j (by simpa using hj)]
  generalize strOfNums (numsOf g m) = s at *
  generalize strOfNums (numsOf f n) = t at *
  have hb : (t.toList == s.toList) = b := by
    rw [ByteArray.toList_eq, ByteArray.toList_eq]
    by_cases h : t = s
    · rw [e.1 h, h]; exact beq_self_eq_true _
    · cases b
      · refine beq_eq_false_iff_ne.mpr fun h' => h ?_
        cases t; cases s
        exact congrArg _ (Array.toList_inj.mp h')
      · exact absurd (e.2 rfl) h
  clear h1 h2 he e hf hg
  go_enter Try.func12, Try.ntmps12
  go_wp2
  go_ret
  exact ⟨by first | rfl | rw [hb], rfl⟩

theorem OpS.drewN {w : World} {sp : Option Addr} {n : Nat} {o : Nat → O3} (h : OpS w sp n o) (q : Nat) : OpS (w.drewN q) sp n o := h
theorem below_drewN {B : Nat} {w w' : World} (h : Below B w w') (n : Nat) : Below B w (w'.drewN n) := bel_drewN h n

set_option maxHeartbeats 1000000 in
theorem same_q (sp : Option Addr) (n c : Nat) (o : Nat → O3) (sp' : Option Addr) (n' c' : Nat) (o' : Nat → O3) (b : Bool) (w : World) (hn : n ≤ 1000000) (h : OpS w sp n o) (h' : OpS w sp' n' o') (he : b = true ↔ SameO n n' o o') :
    Calls Try.prog 23 #[.slice sp n c, .slice sp' n' c'] w fun e w' => e = .returned (.bool b) ∧ ∃ m, w' = w.drewN m := by
  have H1 := Lib.hid h
  have H2 := Lib.hid h'
  have HE := Lib.hid he
  clear h h' he
  by_cases hne : n = n'
  · subst hne
    have hguard : ∀ (u : World) (x y : Operand) (xs ys : Array Value), (eqGuard .neq 53 x y (.agg xs) (.agg ys)).run Try.prog u = .ok () u := fun u x y xs ys => run_eqGuard_agg u .neq 53 x y xs ys (by kernel_rfl)
    go_enter Try.func23, Try.ntmps23
    go_wp2
    go_loopw [5, 13] (fun _ x wr => ∃ t : Nat, t ≤ n ∧ x = .int .i64 (t : Int) ∧ Hid ((∃ q, wr = w.drewN q) ∧ ∀ j, j < t → o j = o' j)) (fun _ x _ => n - (intOf x).toNat)
    case atStart => exact ⟨0, Nat.zero_le _, rfl, Lib.hid ⟨⟨0, rfl⟩, fun i hi => absurd hi (Nat.not_lt_zero _)⟩⟩
    case round =>
      obtain ⟨t, ht, rfl, HT⟩ := hrel
      obtain ⟨q, hq⟩ := HT.out.1
      by_cases hlt : t < n
      · obtain ⟨b1, off, rfl, hbl, hci⟩ := H1.out (by omega)
        obtain ⟨b', off', rfl, hbl', hci'⟩ := H2.out (by omega)
        obtain ⟨c0, c1, c2⟩ := hci t hlt
        obtain ⟨d0, d1, d2⟩ := hci' t hlt
        have x0 : wr.cell? ⟨b1, off + t * 3, none⟩ = some (.int .i64 (o t).k) := by rw [hq]; exact c0
        have x1 : wr.cell? ⟨b1, off + t * 3 + 1, none⟩ = some (.int .i64 (o t).key) := by rw [hq]; exact c1
        have x2 : wr.cell? ⟨b1, off + t * 3 + 2, none⟩ = some (.int .i64 (o t).v) := by rw [hq]; exact c2
        have y0 : wr.cell? ⟨b', off' + t * 3, none⟩ = some (.int .i64 (o' t).k) := by rw [hq]; exact d0
        have y1 : wr.cell? ⟨b', off' + t * 3 + 1, none⟩ = some (.int .i64 (o' t).key) := by rw [hq]; exact d1
        have y2 : wr.cell? ⟨b', off' + t * 3 + 2, none⟩ = some (.int .i64 (o' t).v) := by rw [hq]; exact d2
        have hlt' : (t : Int) < (n : Int) := by omega
        have HPN : Hid (o t = o' t → ∀ j, j < t + 1 → o j = o' j) := Lib.hid fun h j hj => by
          by_cases hh : j < t
          · exact HT.out.2 j hh
          · obtain rfl : j = t := by omega
            exact h
        have HNO : Hid (¬ o t = o' t → b = false) := Lib.hid fun h => by
          cases hb : b
          · rfl
          · exact absurd ((HE.out.1 hb).2 t hlt) h
        have HQ := Lib.hid hq
        clear c0 c1 c2 d0 d1 d2 hci hci' hq HT
        generalize o t = p at *
        generalize o' t = r at *
        obtain ⟨pk, pkey, pv⟩ := p
        obtain ⟨qk, qkey, qv⟩ := r
        dsimp only at x0 x1 x2 y0 y1 y2
        have hneq : ∀ u : World, (binOp .neq 53 (.agg #[.int .i64 pk, .int .i64 pkey, .int .i64 pv]) (.agg #[.int .i64 qk, .int .i64 qkey, .int .i64 qv])).run Try.prog u = .ok (.bool (!(pk == qk && (pkey == qkey && pv == qv)))) u := fun u => by rw [run_neq_struct, eqO]; rfl
        by_cases hs : (⟨pk, pkey, pv⟩ : O3) = ⟨qk, qkey, qv⟩
        · have HS := Lib.hid (HPN.out hs)
          injection hs with e0 e1 e2
          subst e0 e1 e2
          simp only [BEq.rfl, Bool.and_self, Bool.not_true] at hneq
          clear HPN HNO
          go_wp2
          go_quiet (fail)
          go_wp2
          go_roundw
          case rel => exact ⟨t + 1, by omega, by go_num, Lib.hid ⟨⟨q + nq, by rw [HQ.out, World.drewN_drewN]⟩, HS.out⟩⟩
          case measure => simp [intOf]; omega
        · have hb : (!(pk == qk && (pkey == qkey && pv == qv))) = true := by
            rw [Bool.not_eq_true']
            rw [Bool.eq_false_iff]
            intro h
            simp at h
            exact hs (by rw [h.1, h.2.1, h.2.2])
          rw [hb] at hneq
          obtain rfl : b = false := HNO.out hs
          clear hs hb HNO HPN HE
          go_wp2
          go_quiet (fail)
          go_wp2
          go_ret
          exact ⟨rfl, q + nq, by rw [HQ.out, World.drewN_drewN]⟩
      · obtain rfl : n = t := by omega
        obtain rfl : b = true := HE.out.2 ⟨rfl, HT.out.2⟩
        have HQ := Lib.hid hq
        clear hq HE
        go_wp2
        go_ret
        exact ⟨rfl, q, HQ.out⟩
  · have hb : ((n : Int) != (n' : Int)) = true := by rw [bne_iff_ne]; omega
    obtain rfl : b = false := by
      cases hb : b
      · rfl
      · exact absurd (HE.out.1 hb).1 hne
    clear HE hne
    go_enter Try.func23, Try.ntmps23
    go_wp2
    go_ret
    exact ⟨rfl, 0, rfl⟩

/-- the same events -/
def SameEv (len len' : Nat) (E E' : Nat → Ev) : Prop := len = len' ∧ ∀ j, j < len → (E j).k = (E' j).k ∧ (E j).c = (E' j).c ∧ SameO (E j).n (E' j).n (E j).o (E' j).o

set_option maxRecDepth 100000 in
set_option maxHeartbeats 2000000 in
theorem sameE_any (a : Option Addr) (len c : Nat) (E : Nat → Ev) (a' : Option Addr) (len' c' : Nat) (E' : Nat → Ev) (b : Bool) (w : World) (hl : len ≤ 1000) (hn : ∀ j, j < len → (E j).n ≤ 1000000) (h : EvS w a len E) (h' : EvS w a' len' E') (he : b = true ↔ SameEv len len' E E') :
    Calls Try.prog 13 #[.slice a len c, .slice a' len' c'] w fun e w' => e = .returned (.bool b) ∧ ∃ m, w' = w.drewN m := by
  have H1 := Lib.hid h
  have H2 := Lib.hid h'
  have HN := Lib.hid hn
  have HE := Lib.hid he
  clear h h' hn he
  by_cases hne : len = len'
  · subst hne
    have hnn : ((len : Int) != (len : Int)) = false := by simp
    go_enter Try.func13, Try.ntmps13
    go_wp2
    go_loopw [5, 13] (fun _ x wr => ∃ t : Nat, t ≤ len ∧ x = .int .i64 (t : Int) ∧ Hid ((∃ q, wr = w.drewN q) ∧ ∀ j, j < t → (E j).k = (E' j).k ∧ (E j).c = (E' j).c ∧ SameO (E j).n (E' j).n (E j).o (E' j).o)) (fun _ x _ => len - (intOf x).toNat)
    case atStart => exact ⟨0, Nat.zero_le _, rfl, Lib.hid ⟨⟨0, rfl⟩, fun i hi => absurd hi (Nat.not_lt_zero _)⟩⟩
    case round =>
      obtain ⟨t, ht, rfl, HT⟩ := hrel
      obtain ⟨q, hq⟩ := HT.out.1
      by_cases hlt : t < len
      · obtain ⟨b1, off, rfl, hbl, hci⟩ := H1.out (by omega)
        obtain ⟨b', off', rfl, hbl', hci'⟩ := H2.out (by omega)
        obtain ⟨sp, cp, c0, c1, c2, ho, _⟩ := hci t hlt
        obtain ⟨sp', cp', d0, d1, d2, ho', _⟩ := hci' t hlt
        have x0 : wr.cell? ⟨b1, off + t * 3, none⟩ = some (.int .i64 (E t).k) := by rw [hq]; exact c0
        have x1 : wr.cell? ⟨b1, off + t * 3 + 1, none⟩ = some (.int .i64 (E t).c) := by rw [hq]; exact c1
        have x2 : wr.cell? ⟨b1, off + t * 3 + 2, none⟩ = some (.slice sp (E t).n cp) := by rw [hq]; exact c2
        have y0 : wr.cell? ⟨b', off' + t * 3, none⟩ = some (.int .i64 (E' t).k) := by rw [hq]; exact d0
        have y1 : wr.cell? ⟨b', off' + t * 3 + 1, none⟩ = some (.int .i64 (E' t).c) := by rw [hq]; exact d1
        have y2 : wr.cell? ⟨b', off' + t * 3 + 2, none⟩ = some (.slice sp' (E' t).n cp') := by rw [hq]; exact d2
        have HO : Hid (OpS wr sp (E t).n (E t).o) := Lib.hid (by rw [hq]; exact ho.drewN q)
        have HO' : Hid (OpS wr sp' (E' t).n (E' t).o) := Lib.hid (by rw [hq]; exact ho'.drewN q)
        have hn1 := HN.out t hlt
        have hlt' : (t : Int) < (len : Int) := by omega
        have HPN : Hid (((E t).k = (E' t).k ∧ (E t).c = (E' t).c ∧ SameO (E t).n (E' t).n (E t).o (E' t).o) → ∀ j, j < t + 1 → (E j).k = (E' j).k ∧ (E j).c = (E' j).c ∧ SameO (E j).n (E' j).n (E j).o (E' j).o) := Lib.hid fun h j hj => by
          by_cases hh : j < t
          · exact HT.out.2 j hh
          · obtain rfl : j = t := by omega
            exact h
        have HNO : Hid (¬ ((E t).k = (E' t).k ∧ (E t).c = (E' t).c ∧ SameO (E t).n (E' t).n (E t).o (E' t).o) → b = false) := Lib.hid fun h => by
          cases hb : b
          · rfl
          · exact absurd ((HE.out.1 hb).2 t hlt) h
        have HQ := Lib.hid hq
        clear c0 c1 c2 d0 d1 d2 hci hci' hq HT ho ho'
        generalize (E t).k = ek at *
        generalize (E t).c = ec at *
        generalize (E t).n = en at *
        generalize (E t).o = eo at *
        generalize (E' t).k = ek' at *
        generalize (E' t).c = ec' at *
        generalize (E' t).n = en' at *
        generalize (E' t).o = eo' at *
        by_cases hk : ek = ek'
        · have hkb : (ek != ek') = false := by rw [hk]; simp
          by_cases hc : ec = ec'
          · have hcb : (ec != ec') = false := by rw [hc]; simp
            by_cases hso : SameO en en' eo eo'
            · have HR := Lib.hid (HPN.out ⟨hk, hc, hso⟩)
              have HSO := Lib.hid hso
              clear hk hc hso HPN HNO
              go_wp2
              go_quiet ((go_at_call 23; refine Calls.quiet_of (same_q _ _ _ eo _ _ _ eo' true _ (by omega) (HO.out.drewN _) (HO'.out.drewN _) ⟨fun _ => HSO.out, fun _ => rfl⟩)))
              go_wp2
              go_roundw
              case rel => exact ⟨t + 1, by omega, by go_num, Lib.hid ⟨⟨q + nq, by rw [HQ.out, World.drewN_drewN]⟩, HR.out⟩⟩
              case measure => simp [intOf]; omega
            · obtain rfl : b = false := HNO.out fun h => hso h.2.2
              have HSO := Lib.hid hso
              clear hk hc hso HPN HNO HE
              go_wp2
              go_quiet ((go_at_call 23; refine Calls.quiet_of (same_q _ _ _ eo _ _ _ eo' false _ (by omega) (HO.out.drewN _) (HO'.out.drewN _) ⟨fun h => (by cases h), fun h => absurd h HSO.out⟩)))
              go_wp2
              go_ret
              exact ⟨rfl, q + nq, by rw [HQ.out, World.drewN_drewN]⟩
          · have hcb : (ec != ec') = true := by rw [bne_iff_ne]; exact hc
            obtain rfl : b = false := HNO.out fun h => hc h.2.1
            clear hk hc HPN HNO HE
            go_wp2
            go_quiet (fail)
            go_wp2
            go_ret
            exact ⟨rfl, q + nq, by rw [HQ.out, World.drewN_drewN]⟩
        · have hkb : (ek != ek') = true := by rw [bne_iff_ne]; exact hk
          obtain rfl : b = false := HNO.out fun h => hk h.1
          clear hk HPN HNO HE
          go_wp2
          go_quiet (fail)
          go_wp2
          go_ret
          exact ⟨rfl, q + nq, by rw [HQ.out, World.drewN_drewN]⟩
      · obtain rfl : len = t := by omega
        obtain rfl : b = true := HE.out.2 ⟨rfl, HT.out.2⟩
        have HQ := Lib.hid hq
        clear hq HE
        go_wp2
        go_ret
        exact ⟨rfl, q, HQ.out⟩
  · have hb : ((len : Int) != (len' : Int)) = true := by rw [bne_iff_ne]; omega
    obtain rfl : b = false := by
      cases hb : b
      · rfl
      · exact absurd (HE.out.1 hb).1 hne
    clear HE hne
    go_enter Try.func13, Try.ntmps13
    go_wp2
    go_ret
    exact ⟨rfl, 0, rfl⟩
end Go.Proofs.Ytaddmegghikhpaa
