/-
  The reference of chains: Get, Is.
  chains' laws: made.
  chains' laws: some.
  chains' laws: some's walk.
  The reference of chains: Ahead.
  The reference of chains: Next.
-/
import Derived.Test.YteobndfkkpfnlaaJ12
import Derived.Test.YteobndfkkpfnlaaJ07

namespace Go.Proofs.Yteobndfkkpfnlaa
open Go.ChangeShapes Go.WideShapes Go.ChangeAt Go.RowKit Go.Maps
set_option linter.unusedVariables false

deriving instance DecidableEq for C4
/-- what was said, in a slice -/
def SaS (w : World) (sp : Option Addr) (n : Nat) (f : Nat → C4 × Bool) : Prop :=
  0 < n → ∃ b off, sp = some ⟨b, off, none⟩ ∧ b < w.heap.size ∧ ∀ i, i < n → w.cell? ⟨b, off + i * 5, none⟩ = some (.int .i64 (f i).1.k) ∧ w.cell? ⟨b, off + i * 5 + 1, none⟩ = some (.int .i64 (f i).1.y) ∧ w.cell? ⟨b, off + i * 5 + 2, none⟩ = some (.int .i64 (f i).1.a) ∧ w.cell? ⟨b, off + i * 5 + 3, none⟩ = some (.int .i64 (f i).1.b) ∧ w.cell? ⟨b, off + i * 5 + 4, none⟩ = some (.bool (f i).2)
theorem SaS.below {w w' : World} {sp : Option Addr} {n : Nat} {f : Nat → C4 × Bool} (h : SaS w sp n f) (hb : Below w.heap.size w w') : SaS w' sp n f := by
  intro hn
  obtain ⟨b, off, e, hl, hc⟩ := h hn
  refine ⟨b, off, e, Nat.lt_of_lt_of_le hl hb.size, fun i hi => ?_⟩
  obtain ⟨c0, c1, c2, c3, c4⟩ := hc i hi
  exact ⟨(hb.cell (p := ⟨b, off + i * 5, none⟩) hl).trans c0, (hb.cell (p := ⟨b, off + i * 5 + 1, none⟩) hl).trans c1, (hb.cell (p := ⟨b, off + i * 5 + 2, none⟩) hl).trans c2, (hb.cell (p := ⟨b, off + i * 5 + 3, none⟩) hl).trans c3, (hb.cell (p := ⟨b, off + i * 5 + 4, none⟩) hl).trans c4⟩
/-- the first thing that is said of a choice -/
def gtS (f : Nat → C4 × Bool) (c : C4) : Nat → Option Bool
  | 0 => none
  | n + 1 => match gtS f c n with
    | some b => some b
    | none => if (f n).1 = c then some (f n).2 else none
theorem gtS_hit {f : Nat → C4 × Bool} {c : C4} {t : Nat} (h0 : gtS f c t = none) (h : (f t).1 = c) : ∀ d, gtS f c (t + 1 + d) = some (f t).2 := by
  intro d
  induction d with
  | zero => show (match gtS f c t with | some b => some b | none => if (f t).1 = c then some (f t).2 else none) = _; rw [h0]; exact if_pos h
  | succ d ih => show (match gtS f c (t + 1 + d) with | some b => some b | none => _) = _; rw [ih]
theorem gtS_next {f : Nat → C4 × Bool} {c : C4} {t : Nat} (h0 : gtS f c t = none) (h : (f t).1 ≠ c) : gtS f c (t + 1) = none := by
  show (match gtS f c t with | some b => some b | none => if (f t).1 = c then some (f t).2 else none) = none
  rw [h0]; exact if_neg h
/-- .. as a number -/
def numO : Option Bool → Int
  | some true => 1
  | some false => 0
  | none => -1

set_option maxRecDepth 100000 in
set_option maxHeartbeats 4000000 in
theorem get_any (sp : Option Addr) (n cp : Nat) (f : Nat → C4 × Bool) (c : C4) (w : World) (hnb : n ≤ 1000000) (hs : SaS w sp n f) :
    Calls Try.prog 56 #[.slice sp n cp, .agg #[.int .i64 c.k, .int .i64 c.y, .int .i64 c.a, .int .i64 c.b]] w (fun e w' => e = .returned (.int .i64 (numO (gtS f c n))) ∧ Below w.heap.size w w') := by
  have HS := Lib.hid hs
  clear hs
  have HP0 : Hid ((w.alloc (.cells #[.int .i64 c.k, .int .i64 c.y, .int .i64 c.a, .int .i64 c.b] 59)).heap[w.heap.size]? = some (.cells #[.int .i64 c.k, .int .i64 c.y, .int .i64 c.a, .int .i64 c.b] 59 (0, 0))) := Lib.hid (heap_alloc_new w _)
  have HX0 : Hid (Below w.heap.size w (w.alloc (.cells #[.int .i64 c.k, .int .i64 c.y, .int .i64 c.a, .int .i64 c.b] 59))) := Lib.hid ((Below.refl _ _).alloc (Nat.le_refl _) _)
  have HL0 : Hid (w.heap.size < (w.alloc (.cells #[.int .i64 c.k, .int .i64 c.y, .int .i64 c.a, .int .i64 c.b] 59)).heap.size) := Lib.hid (by simp)
  go_enter Try.func56, Try.ntmps56
  go_wp2
  obtain ⟨wx, ewx⟩ : ∃ wx, wx = w.alloc (.cells #[.int .i64 c.k, .int .i64 c.y, .int .i64 c.a, .int .i64 c.b] 59) := ⟨_, rfl⟩
  obtain ⟨P, eP⟩ : ∃ P, P = w.heap.size := ⟨_, rfl⟩
  rw [← ewx] at HP0 HX0 HL0 ⊢
  rw [← eP] at HP0 HL0 ⊢
  clear ewx eP
  go_loopw [6, 9] (fun _ x wr => ∃ t : Nat, t ≤ n ∧ x = .int .i64 (t : Int) ∧ Hid (Below wx.heap.size wx wr ∧ gtS f c t = none)) (fun _ x _ => n - (intOf x).toNat)
  case atStart => exact ⟨0, Nat.zero_le _, rfl, Lib.hid ⟨Below.refl _ _, rfl⟩⟩
  case round =>
    obtain ⟨t, ht, rfl, HT⟩ := hrel
    have HBT := Lib.hid HT.out.1
    have HNT := Lib.hid HT.out.2
    clear HT
    by_cases hlt : t < n
    · obtain ⟨b, off, rfl, hbl, hci⟩ := (HS.out.below HX0.out) (by omega)
      obtain ⟨c0, c1, c2, c3, c4⟩ := hci t hlt
      have x0 := (HBT.out.cell (p := ⟨b, off + t * 5, none⟩) hbl).trans c0
      have x1 := (HBT.out.cell (p := ⟨b, off + t * 5 + 1, none⟩) hbl).trans c1
      have x2 := (HBT.out.cell (p := ⟨b, off + t * 5 + 2, none⟩) hbl).trans c2
      have x3 := (HBT.out.cell (p := ⟨b, off + t * 5 + 3, none⟩) hbl).trans c3
      have x4 := (HBT.out.cell (p := ⟨b, off + t * 5 + 4, none⟩) hbl).trans c4
      have hP := (HBT.out.block _ HL0.out).trans HP0.out
      have y0 := cell_of_row _ _ 0 _ _ _ hP
      have y1 := cell_of_row _ _ 1 _ _ _ hP
      have y2 := cell_of_row _ _ 2 _ _ _ hP
      have y3 := cell_of_row _ _ 3 _ _ _ hP
      have hPl : P < wr.heap.size := Nat.lt_of_lt_of_le HL0.out HBT.out.size
      have hlt' : (t : Int) < (n : Int) := by omega
      have HHT : Hid ((f t).1 = c → gtS f c n = some (f t).2) := Lib.hid fun h => by
        have := gtS_hit HNT.out h (n - (t + 1))
        rwa [show t + 1 + (n - (t + 1)) = n by omega] at this
      have HNX : Hid ((f t).1 ≠ c → gtS f c (t + 1) = none) := Lib.hid fun h => gtS_next HNT.out h
      have HAL : Hid (∀ ob, Below wx.heap.size wx (wr.alloc ob)) := Lib.hid fun ob => HBT.out.alloc HBT.out.size _
      clear c0 c1 c2 c3 c4 hci hP
      generalize (f t) = ft at *
      obtain ⟨⟨fk, fy, fa, fb⟩, fs⟩ := ft
      obtain ⟨ck, cy, ca, cb⟩ := c
      dsimp only at *
      simp at y0 y1 y2 y3
      by_cases hek : fk = ck
      · subst hek
        by_cases hey : fy = cy
        · subst hey
          by_cases hea : fa = ca
          · subst hea
            by_cases heb : fb = cb
            · subst heb
              have HN := Lib.hid (HHT.out rfl)
              clear HHT HNX HNT
              cases fs with
              | true =>
                go_wp2
                go_ret
                exact ⟨by rw [HN.out]; rfl, HX0.out.trans ((HAL.out _).mono HX0.out.size)⟩
              | false =>
                go_wp2
                go_ret
                exact ⟨by rw [HN.out]; rfl, HX0.out.trans ((HAL.out _).mono HX0.out.size)⟩
            · have hqb : (fb == cb) = false := beq_eq_false_iff_ne.2 heb
              have hn := Lib.hid (HNX.out (fun h => by injection h with e1 e2 e3 e4; exact heb e4))
              clear HHT HNX HNT
              go_wp2
              go_roundw
              case rel => exact ⟨t + 1, by omega, by go_num, Lib.hid ⟨HAL.out _, hn.out⟩⟩
              case measure => simp [intOf]; omega
          · have hqa : (fa == ca) = false := beq_eq_false_iff_ne.2 hea
            have hn := Lib.hid (HNX.out (fun h => by injection h with e1 e2 e3 e4; exact hea e3))
            clear HHT HNX HNT
            go_wp2
            go_roundw
            case rel => exact ⟨t + 1, by omega, by go_num, Lib.hid ⟨HAL.out _, hn.out⟩⟩
            case measure => simp [intOf]; omega
        · have hqy : (fy == cy) = false := beq_eq_false_iff_ne.2 hey
          have hn := Lib.hid (HNX.out (fun h => by injection h with e1 e2 e3 e4; exact hey e2))
          clear HHT HNX HNT
          go_wp2
          go_roundw
          case rel => exact ⟨t + 1, by omega, by go_num, Lib.hid ⟨HAL.out _, hn.out⟩⟩
          case measure => simp [intOf]; omega
      · have hqk : (fk == ck) = false := beq_eq_false_iff_ne.2 hek
        have hn := Lib.hid (HNX.out (fun h => by injection h with e1 e2 e3 e4; exact hek e1))
        clear HHT HNX HNT
        go_wp2
        go_roundw
        case rel => exact ⟨t + 1, by omega, by go_num, Lib.hid ⟨HAL.out _, hn.out⟩⟩
        case measure => simp [intOf]; omega
    · obtain rfl : t = n := by omega
      go_wp2
      go_ret
      exact ⟨by rw [HNT.out]; rfl, HX0.out.trans (HBT.out.mono HX0.out.size)⟩

open Classical in
/-- is it done, by what was said -/
noncomputable def isG (T : Nat → Tx) (m n : Nat) (f : Nat → C4 × Bool) (i : Nat) : Int :=
  if suL T m i = true then 1 else if (T i).st = 2 ∨ ¬ wrT (T i) then 0 else numO (gtS f ⟨1, 0, (i : Int), 0⟩ n)

set_option maxRecDepth 100000 in
set_option maxHeartbeats 4000000 in
theorem ris_any (a : Option Addr) (m cap : Nat) (T : Nat → Tx) (sp : Option Addr) (n cp : Nat) (f : Nat → C4 × Bool) (i : Nat) (w : World) (hi : i < m) (hnb : n ≤ 1000000) (hs : TxS w a m T) (hx : HTx m T) (hu : Uq m T) (hf : SaS w sp n f) :
    Calls Try.prog 29 #[.slice a m cap, .slice sp n cp, .int .i64 (i : Int)] w (fun e w' => e = .returned (.int .i64 (isG T m n f i)) ∧ Below w.heap.size w w') := by
  have HS := Lib.hid hs
  have HXX := Lib.hid hx
  have HF := Lib.hid hf
  have hm4 := hx.ok.cnt
  have HSU := Lib.hid (rsure_any a m cap T w hs hx hu)
  have hi' : (i : Int) < (m : Int) := by omega
  have H1 : Hid (suL T m i = true → isG T m n f i = 1) := Lib.hid fun h => by unfold isG; rw [if_pos h]
  have H2 : Hid (suL T m i = false → (T i).st = 2 ∨ ¬ wrT (T i) → isG T m n f i = 0) := Lib.hid fun h h2 => by unfold isG; rw [if_neg (by rw [h]; simp), if_pos h2]
  have H3 : Hid (suL T m i = false → ¬ ((T i).st = 2 ∨ ¬ wrT (T i)) → isG T m n f i = numO (gtS f ⟨1, 0, (i : Int), 0⟩ n)) := Lib.hid fun h h2 => by unfold isG; rw [if_neg (by rw [h]; simp), if_neg h2]
  clear hs hx hu hf
  generalize isG T m n f i = r at *
  go_enter Try.func29, Try.ntmps29
  go_wp2_with fail
  refine HSU.out.mono ?_
  rintro e w1 ⟨spu, cpu, rfl, hro, hb1⟩
  have HB1 := Lib.hid hb1
  obtain ⟨gs, cap', e, _, hl⟩ := hro.form (by omega)
  injection e with e1 _ _
  subst e1
  have hsc : w1.cell? ⟨gs, i, none⟩ = some (.bool (suL T m i)) := (hro.cellAt i (by omega)).trans (by unfold rowB; exact rowW_get _ _ _ hi)
  clear hro hb1 HSU
  obtain ⟨b, off, rfl, hbl, hci⟩ := (HS.out.below HB1.out) (by omega)
  obtain ⟨spi, cpi, x0, x1, x2, ho⟩ := hci i hi
  clear hci
  cases hsu : suL T m i with
  | true =>
    rw [hsu] at hsc
    have HR := Lib.hid (H1.out hsu)
    clear H1 H2 H3 hsu ho
    generalize (T i).c = tc at *
    generalize (T i).st = tst at *
    generalize (T i).n = tn at *
    go_wp2_with fail
    go_ret
    exact ⟨by rw [HR.out]; rfl, HB1.out⟩
  | false =>
    rw [hsu] at hsc
    by_cases h2 : (T i).st = 2
    · have HR := Lib.hid (H2.out hsu (.inl h2))
      rw [h2] at x1
      clear H1 H2 H3 hsu ho h2
      generalize (T i).c = tc at *
      generalize (T i).n = tn at *
      go_wp2_with fail
      go_ret
      exact ⟨by rw [HR.out]; rfl, HB1.out⟩
    · have h2b : ((T i).st == 2) = false := beq_eq_false_iff_ne.2 h2
      have hn := HXX.out.n i hi
      have HWC := Lib.hid (rwrites_any (T i).c (T i).st spi (T i).n cpi (T i).o w1 (by omega) ho)
      have HWP := Lib.hid (wrl_pos (HXX.out.ok.key i hi))
      have HUN : Hid ((∃ x, x < (T i).n ∧ ((T i).o x).k = 2) ↔ wrT (T i)) := Lib.hid Iff.rfl
      rw [HUN.out] at HWP
      have HR2 : Hid (¬ wrT (T i) → r = 0) := Lib.hid fun h => H2.out hsu (.inr h)
      have HR3 : Hid (wrT (T i) → r = numO (gtS f ⟨1, 0, (i : Int), 0⟩ n)) := Lib.hid fun h => H3.out hsu (fun h' => h'.elim h2 fun h' => h' h)
      clear H1 H2 H3 HUN ho h2 hsu
      generalize wrl (T i).o (T i).n 16 = L at *
      generalize (T i).c = tc at *
      generalize (T i).st = tst at *
      generalize (T i).n = tn at *
      go_wp2_with fail
      refine HWC.out.mono ?_
      rintro e w3 ⟨sp3, cp3, rfl, _, hb3⟩
      have HB3 := Lib.hid (HB1.out.trans (hb3.mono HB1.out.size))
      clear hb3 HWC
      by_cases hL : L.length = 0
      · have HR := Lib.hid (HR2.out (fun h => by have := HWP.out.2 h; omega))
        have hLb : ((L.length : Int) == 0) = true := by rw [hL]; rfl
        clear HR2 HR3 HWP
        go_wp2_with fail
        go_ret
        exact ⟨by rw [HR.out]; rfl, HB3.out⟩
      · have HR := Lib.hid (HR3.out (HWP.out.1 (by omega)))
        have hLb : ((L.length : Int) == 0) = false := beq_eq_false_iff_ne.2 (by omega)
        have hL2 : ¬ L = [] := fun h => hL (by rw [h]; rfl)
        have HG := Lib.hid (get_any sp n cp f ⟨1, 0, (i : Int), 0⟩ w3 hnb (HF.out.below HB3.out))
        dsimp only at HG
        clear HR2 HR3 HWP
        go_wp2_with fail
        refine HG.out.mono ?_
        rintro e w4 ⟨rfl, hb4⟩
        have HB4 := Lib.hid (HB3.out.trans (hb4.mono HB3.out.size))
        clear hb4 HG
        go_wp2_with fail
        go_ret
        exact ⟨by rw [HR.out]; rfl, HB4.out⟩
end Go.Proofs.Yteobndfkkpfnlaa

namespace Go.Proofs.Yteobndfkkpfnlaa
open Go.ChangeShapes Go.WideShapes Go.ChangeAt Go.RowKit Go.Maps
set_option linter.unusedVariables false

theorem of_w (a : Option Addr) (len cap : Nat) (E : Nat → Ev) (w : World) (hs : EvS w a len E) : Calls Try.prog 15 #[.slice a len cap] w (OfR E len w) := by
  refine (refof_wide a len cap E w hs).mono ?_
  rintro e w' ⟨m, sp, cp, i, er, T, V, rfl, hm, hi, ho, hv, hb, hf⟩
  refine ⟨m, sp, cp, i, er, rfl, hb, fun h0 => ?_⟩
  subst h0
  rcases hf with ⟨_, _, _, h⟩ | ⟨hl, ⟨_, _, _, h, _⟩ | ⟨hg, _, _, rfl, rfl⟩⟩
  · omega
  · exact absurd rfl h
  · exact ⟨hg, rfl, htx_of hl hg, tx_row ho hv, V, ho, fun j hj => by obtain ⟨s, c, e, _⟩ := hv j hj; exact ⟨s, c, e⟩⟩
/-- a history's transactions, few enough -/
def MadP (E : Nat → Ev) (len : Nat) (w : World) (e : Ending) (w' : World) : Prop :=
  ∃ (sp : Option Addr) (m cp : Nat) (ok : Bool), e = .returned (.tuple #[.slice sp m cp, .bool ok]) ∧ Below w.heap.size w w' ∧
    (ok = true → Good E len ∧ m = (stateAt E len).m ∧ m ≤ 60 ∧ HTx m (stateAt E len).T ∧ Uq m (stateAt E len).T ∧ TxS w' sp m (stateAt E len).T)

set_option maxRecDepth 100000 in
set_option maxHeartbeats 2000000 in
theorem made_any (a : Option Addr) (len cap : Nat) (E : Nat → Ev) (w : World) (hs : EvS w a len E) :
    Calls Try.prog 23 #[.slice a len cap] w (MadP E len w) := by
  have HOF := Lib.hid (of_w a len cap E w hs)
  clear hs
  by_cases hl : 60 < len
  · have hl' : (60 : Int) < (len : Int) := by omega
    go_enter Try.func23, Try.ntmps23
    go_wp2_with fail
    go_ret2
    exact ⟨none, 0, 0, false, rfl, Below.refl _ _, fun h => by cases h⟩
  · have hl' : ¬ (60 : Int) < (len : Int) := by omega
    go_enter Try.func23, Try.ntmps23
    go_wp2_with fail
    refine HOF.out.mono ?_
    rintro e w2 ⟨m, sp, cp, i, er, rfl, hb, hf⟩
    have HB := Lib.hid hb
    have HF := Lib.hid hf
    clear hb hf HOF
    by_cases he : er = 0
    · have heb : (er == 0) = true := by rw [beq_iff_eq]; exact he
      obtain ⟨hg, hm, hx, ht, _⟩ := HF.out he
      have HZ : Hid (Good E len ∧ m = (stateAt E len).m ∧ m ≤ 60 ∧ HTx m (stateAt E len).T ∧ Uq m (stateAt E len).T ∧ TxS w2 sp m (stateAt E len).T) := Lib.hid ⟨hg, hm, by have := (inv_at E len hg).m; omega, hx, by rw [hm]; exact uq_of hg, ht⟩
      clear HF hg hm hx ht he
      go_wp2_with fail
      go_ret2
      exact ⟨sp, m, cp, true, rfl, HB.out, fun _ => HZ.out⟩
    · have heb : (er == 0) = false := beq_eq_false_iff_ne.2 he
      clear HF he
      go_wp2_with fail
      go_ret2
      exact ⟨sp, m, cp, false, rfl, HB.out, fun h => by cases h⟩
end Go.Proofs.Yteobndfkkpfnlaa

namespace Go.Proofs.Yteobndfkkpfnlaa
open Go.ChangeShapes Go.WideShapes Go.ChangeAt Go.RowKit Go.Maps
set_option linter.unusedVariables false

set_option maxRecDepth 100000 in
theorem info110 : (Try.prog.info? 110).map (fun i => (i.zero, i.size, i.bytes)) = some (some (.agg #[.int .i64 0, .int .i64 0, .int .i64 0, .int .i64 0, .bool false]), 5, 40) := by kernel_rfl
/-- numbers in a slice -/
def PkS (w : World) (a : Option Addr) (n : Nat) (P : Nat → Int) : Prop :=
  0 < n → ∃ b off, a = some ⟨b, off, none⟩ ∧ b < w.heap.size ∧ ∀ i, i < n → w.cell? ⟨b, off + i, none⟩ = some (.int .i64 (P i))
theorem PkS.below {w w' : World} {a : Option Addr} {n : Nat} {P : Nat → Int} (h : PkS w a n P) (hb : Below w.heap.size w w') : PkS w' a n P := by
  intro hn
  obtain ⟨b, off, e, hl, hc⟩ := h hn
  exact ⟨b, off, e, Nat.lt_of_lt_of_le hl hb.size, fun i hi => (hb.cell (p := ⟨b, off + i, none⟩) hl).trans (hc i hi)⟩
/-- a pick -/
def pkN (P : Nat → Int) (np t : Nat) : Int := if t < np then bits .and .i64 (P t) 3 else 0
def c40 : C4 := ⟨0, 0, 0, 0⟩
/-- what is said, as a map and as a list -/
def smF (l : List C4) (p : Nat → Int) : Nat → CM
  | 0 => fun _ _ _ _ => none
  | t + 1 => if p t < 2 then updC (smF l p t) (l.getD t c40).k (l.getD t c40).y (l.getD t c40).a (l.getD t c40).b (p t == 1) else smF l p t
def smL (l : List C4) (p : Nat → Int) : Nat → List (C4 × Bool)
  | 0 => []
  | t + 1 => if p t < 2 then smL l p t ++ [(l.getD t c40, p t == 1)] else smL l p t
theorem smL_le (l : List C4) (p : Nat → Int) (t : Nat) : (smL l p t).length ≤ t := by
  induction t with
  | zero => exact Nat.le_refl _
  | succ t ih => unfold smL; split
                 · rw [List.length_append, List.length_singleton]; omega
                 · omega
def cells5 (x : C4 × Bool) : List Value := cells4 x.1 ++ [.bool x.2]
def rowG (L : List (C4 × Bool)) : List Value := L.flatMap cells5
theorem rowG_snoc (L : List (C4 × Bool)) (x : C4 × Bool) : rowG (L ++ [x]) = rowG L ++ cells5 x := by unfold rowG; simp
theorem rowK_get (l : List C4) : ∀ i, i < l.length → (rowK l)[i * 4]? = some (.int .i64 (l.getD i c40).k) ∧ (rowK l)[i * 4 + 1]? = some (.int .i64 (l.getD i c40).y) ∧ (rowK l)[i * 4 + 2]? = some (.int .i64 (l.getD i c40).a) ∧ (rowK l)[i * 4 + 3]? = some (.int .i64 (l.getD i c40).b) := by
  induction l with
  | nil => intro i h; simp at h
  | cons c l ih =>
    intro i hi
    cases i with
    | zero => exact ⟨rfl, rfl, rfl, rfl⟩
    | succ i =>
      have h := ih i (by simpa using hi)
      have e : ∀ j, (rowK (c :: l))[(i + 1) * 4 + j]? = (rowK l)[i * 4 + j]? := fun j => by
        show (cells4 c ++ rowK l)[(i + 1) * 4 + j]? = _
        rw [List.getElem?_append_right (by simp [cells4]; omega)]
        congr 1
        simp [cells4]; omega
      have e0 := e 0
      rw [Nat.add_zero, Nat.add_zero] at e0
      rw [e0, e 1, e 2, e 3]
      simpa using h
/-- choices' cells as they are read -/
theorem own_ch {w : World} {B n cp : Nat} {sp : Option Addr} {l : List C4} (h : w.ownsRow B 59 4 (.slice sp l.length cp) l.length (rowK l)) (h0 : 0 < l.length) :
    ∃ g, sp = some ⟨g, 0, none⟩ ∧ g < w.heap.size ∧ B ≤ g ∧ ∀ i, i < l.length → w.cell? ⟨g, i * 4, none⟩ = some (.int .i64 (l.getD i c40).k) ∧ w.cell? ⟨g, i * 4 + 1, none⟩ = some (.int .i64 (l.getD i c40).y) ∧ w.cell? ⟨g, i * 4 + 2, none⟩ = some (.int .i64 (l.getD i c40).a) ∧ w.cell? ⟨g, i * 4 + 3, none⟩ = some (.int .i64 (l.getD i c40).b) := by
  obtain ⟨g, cap', e, hB, hl⟩ := h.form h0
  injection e with e1 _ _
  subst e1
  refine ⟨g, rfl, hl, hB, fun i hi => ?_⟩
  obtain ⟨g0, g1, g2, g3⟩ := rowK_get l i hi
  exact ⟨(h.cellAt (i * 4) (by omega)).trans g0, (h.cellAt (i * 4 + 1) (by omega)).trans g1, (h.cellAt (i * 4 + 2) (by omega)).trans g2, (h.cellAt (i * 4 + 3) (by omega)).trans g3⟩
/-- some's memory -/
structure SmS (w : World) (B bm : Nat) (wr : World) (n : Nat) (F : CM) (v : Value) (L : List (C4 × Bool)) (B2 : Nat) (u : Value) (l : List C4) : Prop where
  low : B ≤ wr.heap.size
  bel : Below B w wr
  mlow : B ≤ bm
  map : MapC wr bm n F
  row : wr.ownsRow B 110 5 v L.length (rowG L)
  ch : wr.ownsRow B2 59 4 u l.length (rowK l)
section
variable {w wr wr' wx w7 : World} {B bm n B2 g c : Nat} {F : CM} {v u : Value} {L : List (C4 × Bool)} {l : List C4}
theorem SmS.keep (h : SmS w B bm wr n F v L B2 u l) (hb : Below wr.heap.size wr wr') : SmS w B bm wr' n F v L B2 u l :=
  ⟨Nat.le_trans h.low hb.size, h.bel.trans (hb.mono h.low), h.mlow, h.map.below hb, own_keep h.row fun g hg => hb.block g (h.row.lt g hg).2, own_keep h.ch fun g hg => hb.block g (h.ch.lt g hg).2⟩
theorem SmS.upd {F' : CM} {n' : Nat} (h : SmS w B bm wr n F v L B2 u l) (hm : MapC w7 bm n' F') (hg : wr.grownBy w7 (some bm)) : SmS w B bm w7 n' F' v L B2 u l := by
  obtain ⟨es, cl, hmb⟩ := h.map.isMap
  refine ⟨Nat.le_trans h.low hg.size, h.bel.grown hg h.low (fun q hq => by injection hq with hq; rw [← hq]; exact h.mlow), h.mlow, hm, ?_, ?_⟩
  · refine own_keep h.row fun g hgo => hg.block g (h.row.lt g hgo).2 (fun e => ?_)
    obtain ⟨c1, e1⟩ := own_cells h.row hgo
    injection e with e
    rw [e, hmb] at e1
    cases e1
  · refine own_keep h.ch fun g hgo => hg.block g (h.ch.lt g hgo).2 (fun e => ?_)
    obtain ⟨c1, e1⟩ := own_cells h.ch hgo
    injection e with e
    rw [e, hmb] at e1
    cases e1
theorem SmS.more {x : C4 × Bool} (h : SmS w B bm wr n F v L B2 u l) (hb : Below wr.heap.size wr wx) (hg : wx.grownBy w7 v.ownBlock) (ho : w7.ownsRow B 110 5 (.slice (some ⟨g, 0, none⟩) (L.length + 1) c) (L.length + 1) (rowG L ++ cells5 x)) :
    SmS w B bm w7 n F (.slice (some ⟨g, 0, none⟩) (L ++ [x]).length c) (L ++ [x]) B2 u l := by
  have hx := h.keep hb
  refine ⟨Nat.le_trans hx.low hg.size, hx.bel.grown hg hx.low (fun q hq => (h.row.lt q hq).1), h.mlow, hx.map.kept (hg.block bm hx.map.lt (fun e => ?_)), ?_, ?_⟩
  · obtain ⟨es, cl, hmb⟩ := h.map.isMap
    obtain ⟨c1, e1⟩ := own_cells h.row e.symm
    rw [hmb] at e1
    cases e1
  · rw [List.length_append, List.length_singleton, rowG_snoc]
    exact ho
  · refine own_keep hx.ch fun g hgo => hg.block g (hx.ch.lt g hgo).2 (fun e => ?_)
    obtain ⟨c1, e1⟩ := own_cells h.row e.symm
    obtain ⟨c2, e2⟩ := own_cells h.ch hgo
    rw [e2] at e1
    injection e1 with e1
    injection e1 with _ e1 _
    cases e1
end
end Go.Proofs.Yteobndfkkpfnlaa

namespace Go.Proofs.Yteobndfkkpfnlaa
open Go.ChangeShapes Go.WideShapes Go.ChangeAt Go.RowKit Go.Maps
set_option linter.unusedVariables false

/-- what some answers -/
def SomP (T : Nat → Tx) (m np : Nat) (P : Nat → Int) (w : World) (e : Ending) (w' : World) : Prop :=
  ∃ (bm n : Nat) (sp : Option Addr) (cp : Nat), e = .returned (.tuple #[.map (some bm), .slice sp (smL (chA T m) (pkN P np) (chA T m).length).length cp]) ∧
    MapC w' bm n (smF (chA T m) (pkN P np) (chA T m).length) ∧ w'.ownsRow w.heap.size 110 5 (.slice sp (smL (chA T m) (pkN P np) (chA T m).length).length cp) (smL (chA T m) (pkN P np) (chA T m).length).length (rowG (smL (chA T m) (pkN P np) (chA T m).length)) ∧ Below w.heap.size w w' ∧ n ≤ (chA T m).length
theorem chA_le (T : Nat → Tx) (m : Nat) (hm : m ≤ 100) : (chA T m).length ≤ 160100 := by
  unfold chA
  rw [List.length_append]
  have := chC_le T m m
  have := prA_le (c := cand T) m 16 hm
  omega
theorem chA_in (T : Nat → Tx) (m : Nat) (hm : m ≤ 100) : ∀ c ∈ chA T m, InC c.k c.y c.a c.b := by
  intro c hc
  unfold chA at hc
  rcases List.mem_append.1 hc with h | h
  · unfold chC at h
    obtain ⟨i, hi, rfl⟩ := List.mem_map.1 h
    have := (List.mem_range.1 (List.mem_filter.1 hi).1)
    unfold InC In64
    dsimp only
    omega
  · unfold prA at h
    obtain ⟨y, hy, h⟩ := List.mem_flatMap.1 h
    unfold prs at h
    obtain ⟨b, hb, h⟩ := List.mem_flatMap.1 h
    unfold prK at h
    obtain ⟨a, ha, rfl⟩ := List.mem_map.1 h
    have h1 := List.mem_range.1 hy
    have h2 := List.mem_range.1 hb
    have h3 := List.mem_range.1 (List.mem_filter.1 ha).1
    unfold InC In64
    dsimp only
    omega

set_option maxRecDepth 100000 in
set_option maxHeartbeats 8000000 in
theorem some_any (a : Option Addr) (m cap : Nat) (T : Nat → Tx) (ap : Option Addr) (np capp : Nat) (P : Nat → Int) (w : World) (hm : m ≤ 100) (hs : TxS w a m T) (hx : HTx m T) (hu : Uq m T) (hp : PkS w ap np P) :
    Calls Try.prog 27 #[.slice a m cap, .slice ap np capp] w (SomP T m np P w) := by
  obtain ⟨i8, hi8, hx0, hx1, hx2⟩ := info_parts info110
  have HPK := Lib.hid hp
  obtain ⟨wb, ewb⟩ : ∃ wb, wb = (w.alloc (.map #[] 0)).alloc (.cells #[] 110) := ⟨_, rfl⟩
  have hba : Below w.heap.size w (w.alloc (.map #[] 0)) := (Below.refl _ _).alloc (Nat.le_refl _) _
  have hbb : Below (w.alloc (.map #[] 0)).heap.size (w.alloc (.map #[] 0)) wb := by rw [ewb]; exact (Below.refl _ _).alloc (Nat.le_refl _) _
  have HB0 := Lib.hid (hba.trans (hbb.mono hba.size))
  have HM0 : Hid (MapC wb w.heap.size 0 (fun _ _ _ _ => none)) := Lib.hid ((MapC.made w).below hbb)
  have hsz : (w.alloc (.map #[] 0)).heap.size = w.heap.size + 1 := by simp
  have HO0 : Hid (wb.ownsRow w.heap.size 110 5 (.slice (some ⟨w.heap.size + 1, 0, none⟩) 0 0) ([] : List (C4 × Bool)).length (rowG [])) := Lib.hid (by
    have h := World.ownsRow_lit (base := w.heap.size) (e := 110) (size := 5) (w.alloc (.map #[] 0)) #[] 0 hba.size (Nat.zero_le _) rfl
    rw [hsz] at h
    rw [ewb]; exact h)
  have HRC := Lib.hid (rchoices_any a m cap T wb hm (hs.below HB0.out) hx hu)
  have HLE := Lib.hid (chA_le T m hm)
  have HIN := Lib.hid (chA_in T m hm)
  have HSZ : Hid (wb.heap.size = w.heap.size + 2) := Lib.hid (by rw [ewb]; simp)
  clear hs hx hu hp hba hbb hsz
  unfold SomP
  generalize chA T m = l at *
  have hmm := @run_makeMap Try.prog
  go_enter Try.func27, Try.ntmps27
  go_wp2_with fail
  rw [← ewb]
  clear ewb
  refine HRC.out.mono ?_
  rintro e w1 ⟨spc, cpc, rfl, hrow, hb1⟩
  have hle := HLE.out
  have HS1 : Hid (SmS w w.heap.size w.heap.size w1 0 (smF l (pkN P np) 0) (.slice (some ⟨w.heap.size + 1, 0, none⟩) 0 0) (smL l (pkN P np) 0) wb.heap.size (.slice spc l.length cpc) l) := Lib.hid ⟨Nat.le_trans HB0.out.size hb1.size, HB0.out.trans (hb1.mono HB0.out.size), Nat.le_refl _, HM0.out.below hb1, own_keep HO0.out fun g hg => hb1.block g (HO0.out.lt g hg).2, hrow⟩
  clear hrow hb1 HRC HM0 HO0 HB0
  obtain ⟨bm, ebm⟩ : ∃ bm, bm = w.heap.size := ⟨_, rfl⟩
  obtain ⟨B2, eB2⟩ : ∃ B2, B2 = wb.heap.size := ⟨_, rfl⟩
  have HS2 : Hid (SmS w w.heap.size bm w1 0 (smF l (pkN P np) 0) (.slice (some ⟨w.heap.size + 1, 0, none⟩) 0 0) (smL l (pkN P np) 0) B2 (.slice spc l.length cpc) l) := Lib.hid (by rw [ebm, eB2]; exact HS1.out)
  clear HS1 hmm
  obtain ⟨g0, eg0⟩ : ∃ g0, g0 = w.heap.size + 1 := ⟨_, rfl⟩
  rw [← eg0] at HS2 ⊢
  rw [← ebm]
  clear ebm eB2 HSZ eg0
  go_wp2
  go_loopw [7, 8, 9, 10, 16] (fun gv _ _ _ x wr => ∃ (t n : Nat) (sp : Option Addr) (cp : Nat), t ≤ l.length ∧ n ≤ t ∧ x = .int .i64 (t : Int) ∧ gv = .slice sp (smL l (pkN P np) t).length cp ∧ Hid (SmS w w.heap.size bm wr n (smF l (pkN P np) t) (.slice sp (smL l (pkN P np) t).length cp) (smL l (pkN P np) t) B2 (.slice spc l.length cpc) l)) (fun _ _ _ _ x _ => l.length - (intOf x).toNat)
  case atStart => exact ⟨0, 0, _, _, Nat.zero_le _, Nat.le_refl _, rfl, rfl, HS2⟩
  case round =>
    obtain ⟨t, n, sp, cp, ht, hnt, rfl, rfl, HT⟩ := hrel
    clear HS2
    by_cases hlt : t < l.length
    · obtain ⟨g, rfl, hgl, hgB, hci⟩ := own_ch (n := 0) HT.out.ch (by omega)
      obtain ⟨c0, c1, c2, c3⟩ := hci t hlt
      have hlt' : (t : Int) < (l.length : Int) := by omega
      have hic := HIN.out (l.getD t c40) (by rw [List.getD_eq_getElem?_getD, List.getElem?_eq_getElem hlt]; exact List.getElem_mem hlt)
      have HF1 : Hid (pkN P np t < 2 → smF l (pkN P np) (t + 1) = updC (smF l (pkN P np) t) (l.getD t c40).k (l.getD t c40).y (l.getD t c40).a (l.getD t c40).b (pkN P np t == 1)) := Lib.hid fun h => if_pos h
      have HF0 : Hid (¬ pkN P np t < 2 → smF l (pkN P np) (t + 1) = smF l (pkN P np) t) := Lib.hid fun h => if_neg h
      have HL1 : Hid (pkN P np t < 2 → smL l (pkN P np) (t + 1) = smL l (pkN P np) t ++ [(l.getD t c40, pkN P np t == 1)]) := Lib.hid fun h => if_pos h
      have HL0 : Hid (¬ pkN P np t < 2 → smL l (pkN P np) (t + 1) = smL l (pkN P np) t) := Lib.hid fun h => if_neg h
      have HPN : Hid (pkN P np t = if t < np then bits .and .i64 (P t) 3 else 0) := Lib.hid rfl
      have hsl := smL_le l (pkN P np) t
      have HIC := Lib.hid hic
      clear hci hic
      generalize pkN P np t = p at *
      generalize smL l (pkN P np) t = L at *
      generalize smF l (pkN P np) t = F at *
      generalize (l.getD t c40) = cc at *
      obtain ⟨ck, cy, ca, cb⟩ := cc
      dsimp only at c0 c1 c2 c3
      have hbx : Below wr.heap.size wr (wr.alloc (.cells #[.int .i64 ck, .int .i64 cy, .int .i64 ca, .int .i64 cb] 59)) := (Below.refl _ _).alloc (Nat.le_refl _) _
      have HTX := Lib.hid (HT.out.keep hbx)
      have hrow := heap_alloc_new wr (.cells #[.int .i64 ck, .int .i64 cy, .int .i64 ca, .int .i64 cb] 59)
      have HPP : Hid (wr.heap.size < (wr.alloc (.cells #[.int .i64 ck, .int .i64 cy, .int .i64 ca, .int .i64 cb] 59)).heap.size) := Lib.hid (by simp)
      have HROW := Lib.hid hrow
      have HPX : Hid (PkS wr ap np P) := Lib.hid (HPK.out.below HT.out.bel)
      clear hbx hrow
      go_upto_if 24 with (fail)
      go_cut [10] from 21 to 29 (fun pv wc => pv = .int .i64 p ∧ wr.alloc (.cells #[.int .i64 ck, .int .i64 cy, .int .i64 ca, .int .i64 cb] 59) = wc)
      case first =>
        by_cases htn : t < np
        · obtain ⟨b, off, rfl, hbl, hci⟩ := HPX.out (by omega)
          have x0 := hci t htn
          have htn' : (t : Int) < (np : Int) := by omega
          have HPE : Hid (p = bits .and .i64 (P t) 3) := Lib.hid (by rw [HPN.out, if_pos htn])
          clear hci
          go_wp2
          go_meet
          exact ⟨by rw [HPE.out], rfl⟩
        · have htn' : ¬ (t : Int) < (np : Int) := by omega
          have HPE : Hid (p = 0) := Lib.hid (by rw [HPN.out, if_neg htn])
          go_wp2
          go_meet
          exact ⟨by rw [HPE.out], rfl⟩
      case rest =>
        obtain ⟨rfl, rfl⟩ := hcut
        clear HPN HPX
        by_cases hp2 : p < 2
        · have HFX := Lib.hid (HF1.out hp2)
          have HLX := Lib.hid (HL1.out hp2)
          dsimp only at HFX
          obtain ⟨q, hq⟩ : ∃ q, (p == 1) = q := ⟨_, rfl⟩
          rw [hq] at HFX HLX
          obtain ⟨w7, hrun7, hm7, hg7⟩ := HTX.out.map.update ck cy ca cb q (by omega) HIC.out
          unfold cho at hrun7
          have HU := Lib.hid (HTX.out.upd hm7 hg7)
          have hP7 := (hg7.block wr.heap.size HPP.out (fun e => by injection e with e; have := HT.out.map.lt; omega)).trans HROW.out
          have y0 := cell_of_row _ _ 0 _ _ _ hP7
          have y1 := cell_of_row _ _ 1 _ _ _ hP7
          have y2 := cell_of_row _ _ 2 _ _ _ hP7
          have y3 := cell_of_row _ _ 3 _ _ _ hP7
          simp at y0 y1 y2 y3
          have HAL := Lib.hid ((Below.refl w7.heap.size w7).alloc (Nat.le_refl _) (.cells #[.int .i64 ck, .int .i64 cy, .int .i64 ca, .int .i64 cb, .bool q] 110))
          have HR6 := Lib.hid (HU.out.keep HAL.out)
          have HNW : Hid (∀ (W : World) (j : Nat) (u : Value), [Value.int .i64 ck, .int .i64 cy, .int .i64 ca, .int .i64 cb, .bool q][j]? = some u → (W.alloc (.cells #[.int .i64 ck, .int .i64 cy, .int .i64 ca, .int .i64 cb, .bool q] 110)).cell? ((⟨W.heap.size, 0, none⟩ : Addr).add j) = some u) := Lib.hid fun W j u hj => by
            rw [Go.WideShapes.add_plain, cell_of_row _ _ _ _ 110 (0, 0) (heap_alloc_new W _), Nat.zero_add]
            simpa using hj
          clear HF1 HF0 HL1 HL0 hP7 hm7 hg7 HTX HROW HIC
          go_wp2_with (at_builtin; refine wpList_append_lies _ rfl (.tmp 36) (.tmp 41) 63 rfl w.heap.size 110 i8 (.agg #[.int .i64 0, .int .i64 0, .int .i64 0, .int .i64 0, .bool false]) 5 40 Try.underlying63 hi8 hx0 hx1 hx2 rfl (by decide) _ L.length (rowG L) rfl HR6.out.row ⟨w7.heap.size, 0, none⟩ 1 1 [.int .i64 ck, .int .i64 cy, .int .i64 ca, .int .i64 cb, .bool q] rfl rfl (HNW.out _) (by intro u hu; simp at hu; rcases hu with rfl | rfl | rfl | rfl | rfl <;> rfl) (by omega) (by unfold maxLen; omega) (by omega) HR6.out.low _ rfl ?_; intro g8 c8 w8 ho8 hg8 hat8 hl8; have HR8 := Lib.hid (SmS.more (x := (⟨ck, cy, ca, cb⟩, q)) HU.out HAL.out hg8 ho8); clear ho8 hg8 hat8)
          rw [← HLX.out, ← HFX.out] at HR8
          go_roundw
          case rel => exact ⟨t + 1, n + 1, some ⟨g8, 0, none⟩, c8, by omega, by omega, by go_num, by rw [HLX.out, List.length_append]; rfl, HR8⟩
          case measure => simp [intOf]; omega
        · have HFX := Lib.hid (HF0.out hp2)
          have HLX := Lib.hid (HL0.out hp2)
          clear HF1 HF0 HL1 HL0 HROW HIC
          go_wp2_with fail
          go_roundw
          case rel => exact ⟨t + 1, n, sp, cp, by omega, by omega, by go_num, by rw [HLX.out], Lib.hid (by rw [HLX.out, HFX.out]; exact HTX.out)⟩
          case measure => simp [intOf]; omega
    · obtain rfl : l.length = t := by omega
      go_wp2_with fail
      go_ret2
      exact ⟨bm, n, sp, cp, rfl, HT.out.map, HT.out.row, HT.out.bel, by omega⟩
end Go.Proofs.Yteobndfkkpfnlaa

namespace Go.Proofs.Yteobndfkkpfnlaa
open Go.ChangeShapes Go.WideShapes Go.ChangeAt Go.RowKit Go.Maps
set_option linter.unusedVariables false

theorem numO_one (o : Option Bool) : (numO o == 1) = (o == some true) := by rcases o with _ | _ | _ <;> rfl
theorem numO_zero (o : Option Bool) : (numO o == 0) = (o == some false) := by rcases o with _ | _ | _ <;> rfl
/-- does one stand ahead of another one, by what was said -/
def ahG (f : Nat → C4 × Bool) (n : Nat) (key a b : Int) : Bool :=
  if a < b then gtS f ⟨2, key, a, b⟩ n == some true else gtS f ⟨2, key, b, a⟩ n == some false

set_option maxRecDepth 100000 in
set_option maxHeartbeats 2000000 in
theorem ahead_any (sp : Option Addr) (n cp : Nat) (f : Nat → C4 × Bool) (key a b : Int) (w : World) (hnb : n ≤ 1000000) (hs : SaS w sp n f) :
    Calls Try.prog 65 #[.slice sp n cp, .int .i64 key, .int .i64 a, .int .i64 b] w (fun e w' => e = .returned (.bool (ahG f n key a b)) ∧ Below w.heap.size w w') := by
  by_cases h : a < b
  · have HG := Lib.hid (get_any sp n cp f ⟨2, key, a, b⟩ w hnb hs)
    dsimp only at HG
    have HE : Hid ((numO (gtS f ⟨2, key, a, b⟩ n) == 1) = ahG f n key a b) := Lib.hid (by rw [numO_one]; unfold ahG; rw [if_pos h])
    clear hs
    generalize numO (gtS f ⟨2, key, a, b⟩ n) = r at *
    go_enter Try.func65, Try.ntmps65
    go_wp2_with fail
    refine HG.out.mono ?_
    rintro e w2 ⟨rfl, hb⟩
    have HB := Lib.hid hb
    clear hb HG
    go_wp2_with fail
    go_ret
    exact ⟨by rw [← HE.out]; rfl, HB.out⟩
  · have HG := Lib.hid (get_any sp n cp f ⟨2, key, b, a⟩ w hnb hs)
    dsimp only at HG
    have HE : Hid ((numO (gtS f ⟨2, key, b, a⟩ n) == 0) = ahG f n key a b) := Lib.hid (by rw [numO_zero]; unfold ahG; rw [if_neg h])
    clear hs
    generalize numO (gtS f ⟨2, key, b, a⟩ n) = r at *
    go_enter Try.func65, Try.ntmps65
    go_wp2_with fail
    refine HG.out.mono ?_
    rintro e w2 ⟨rfl, hb⟩
    have HB := Lib.hid hb
    clear hb HG
    go_wp2_with fail
    go_ret
    exact ⟨by rw [← HE.out]; rfl, HB.out⟩
end Go.Proofs.Yteobndfkkpfnlaa

namespace Go.Proofs.Yteobndfkkpfnlaa
open Go.ChangeShapes Go.WideShapes Go.ChangeAt Go.RowKit Go.Maps
set_option linter.unusedVariables false

/-- who a choice speaks of -/
theorem chA_ix (T : Nat → Tx) (m : Nat) : ∀ c ∈ chA T m, c.k = 1 ∨ (c.k = 2 ∧ ∃ i j : Nat, c.a = (i : Int) ∧ c.b = (j : Int) ∧ i < m ∧ j < m) := by
  intro c hc
  unfold chA at hc
  rcases List.mem_append.1 hc with h | h
  · unfold chC at h
    obtain ⟨i, hi, rfl⟩ := List.mem_map.1 h
    exact .inl rfl
  · unfold prA at h
    obtain ⟨y, hy, h⟩ := List.mem_flatMap.1 h
    unfold prs at h
    obtain ⟨b, hb, h⟩ := List.mem_flatMap.1 h
    unfold prK at h
    obtain ⟨a, ha, rfl⟩ := List.mem_map.1 h
    have h2 := List.mem_range.1 hb
    have h3 := List.mem_range.1 (List.mem_filter.1 ha).1
    exact .inr ⟨rfl, a, b, rfl, rfl, by omega, h2⟩
/-- open, and it counts -/
def okN (T : Nat → Tx) (m n : Nat) (f : Nat → C4 × Bool) (c : C4) : Prop := gtS f c n = none ∧ (c.k = 1 ∨ isG T m n f c.a.toNat = 1 ∧ isG T m n f c.b.toNat = 1)
/-- the first one -/
def NxG (l : List C4) (ok : C4 → Prop) (c : C4) (is : Bool) : Prop :=
  (is = true ∧ ∃ t, t < l.length ∧ c = l.getD t c40 ∧ ok c ∧ ∀ j, j < t → ¬ ok (l.getD j c40)) ∨ (is = false ∧ c = c40 ∧ ∀ j, j < l.length → ¬ ok (l.getD j c40))
def RnP (T : Nat → Tx) (m n : Nat) (f : Nat → C4 × Bool) (w : World) (e : Ending) (w' : World) : Prop :=
  ∃ (c : C4) (is : Bool), e = .returned (.tuple #[.agg #[.int .i64 c.k, .int .i64 c.y, .int .i64 c.a, .int .i64 c.b], .bool is]) ∧ NxG (chA T m) (okN T m n f) c is ∧ Below w.heap.size w w'
theorem setC4 {w : World} {Q t : Nat} {x0 x1 x2 x3 A B C D : Value} (h : w.heap[Q]? = some (.cells #[x0, x1, x2, x3] t (0, 0))) :
    ((((w.setCell ⟨Q, 0, none⟩ A).setCell ⟨Q, 1, none⟩ B).setCell ⟨Q, 2, none⟩ C).setCell ⟨Q, 3, none⟩ D).cell? ⟨Q, 0, none⟩ = some A ∧ ((((w.setCell ⟨Q, 0, none⟩ A).setCell ⟨Q, 1, none⟩ B).setCell ⟨Q, 2, none⟩ C).setCell ⟨Q, 3, none⟩ D).cell? ⟨Q, 1, none⟩ = some B ∧ ((((w.setCell ⟨Q, 0, none⟩ A).setCell ⟨Q, 1, none⟩ B).setCell ⟨Q, 2, none⟩ C).setCell ⟨Q, 3, none⟩ D).cell? ⟨Q, 2, none⟩ = some C ∧ ((((w.setCell ⟨Q, 0, none⟩ A).setCell ⟨Q, 1, none⟩ B).setCell ⟨Q, 2, none⟩ C).setCell ⟨Q, 3, none⟩ D).cell? ⟨Q, 3, none⟩ = some D := by
  have h1 := heap_setCell_same w Q 0 _ t A h
  have h2 := heap_setCell_same _ Q 1 _ t B h1
  have h3 := heap_setCell_same _ Q 2 _ t C h2
  have h4 := heap_setCell_same _ Q 3 _ t D h3
  rw [cell_of_row _ _ _ _ _ _ h4, cell_of_row _ _ _ _ _ _ h4, cell_of_row _ _ _ _ _ _ h4, cell_of_row _ _ _ _ _ _ h4]
  exact ⟨rfl, rfl, rfl, rfl⟩
theorem numO_ge (o : Option Bool) : decide (0 ≤ numO o) = o.isSome := by rcases o with _ | _ | _ <;> rfl

set_option maxRecDepth 100000 in
set_option maxHeartbeats 8000000 in
theorem rnext_any (a : Option Addr) (m cap : Nat) (T : Nat → Tx) (sp : Option Addr) (n cp : Nat) (f : Nat → C4 × Bool) (w : World) (hm : m ≤ 100) (hnb : n ≤ 1000000) (hs : TxS w a m T) (hx : HTx m T) (hu : Uq m T) (hf : SaS w sp n f) :
    Calls Try.prog 31 #[.slice a m cap, .slice sp n cp] w (RnP T m n f w) := by
  have HX := Lib.hid hx
  have HU := Lib.hid hu
  have HLE := Lib.hid (chA_le T m hm)
  have HIX := Lib.hid (chA_ix T m)
  obtain ⟨wa, ewa⟩ : ∃ wa, wa = w.alloc (.cells #[.int .i64 0, .int .i64 0, .int .i64 0, .int .i64 0] 59) := ⟨_, rfl⟩
  have HBA : Hid (Below w.heap.size w wa) := Lib.hid (by rw [ewa]; exact (Below.refl _ _).alloc (Nat.le_refl _) _)
  have HRA : Hid (wa.heap[w.heap.size]? = some (.cells #[.int .i64 0, .int .i64 0, .int .i64 0, .int .i64 0] 59 (0, 0))) := Lib.hid (by rw [ewa]; exact heap_alloc_new w _)
  have HS := Lib.hid (hs.below HBA.out)
  have HF := Lib.hid (hf.below HBA.out)
  have HRC := Lib.hid (rchoices_any a m cap T wa hm (hs.below HBA.out) hx hu)
  clear hs hx hu hf
  unfold RnP
  have HIS : Hid (∀ (i : Nat) (w' : World), i < m → Below wa.heap.size wa w' → Calls Try.prog 29 #[.slice a m cap, .slice sp n cp, .int .i64 (i : Int)] w' (fun e w2 => e = .returned (.int .i64 (isG T m n f i)) ∧ Below w'.heap.size w' w2)) := Lib.hid fun i w' hi hb => ris_any a m cap T sp n cp f i w' hi hnb (HS.out.below hb) HX.out HU.out (HF.out.below hb)
  have HGE : Hid (∀ (c : C4) (w' : World), Below wa.heap.size wa w' → Calls Try.prog 56 #[.slice sp n cp, .agg #[.int .i64 c.k, .int .i64 c.y, .int .i64 c.a, .int .i64 c.b]] w' (fun e w2 => e = .returned (.int .i64 (numO (gtS f c n))) ∧ Below w'.heap.size w' w2)) := Lib.hid fun c w' hb => get_any sp n cp f c w' hnb (HF.out.below hb)
  have HOK : Hid (∀ c, okN T m n f c ↔ gtS f c n = none ∧ (c.k = 1 ∨ isG T m n f c.a.toNat = 1 ∧ isG T m n f c.b.toNat = 1)) := Lib.hid fun c => Iff.rfl
  generalize okN T m n f = ok at *
  generalize isG T m n f = ig at *
  generalize chA T m = l at *
  clear HX HU HS HF
  go_enter Try.func31, Try.ntmps31
  go_wp2_with fail
  rw [← ewa]
  refine HRC.out.mono ?_
  rintro e w1 ⟨spc, cpc, rfl, hrow, hb1⟩
  obtain ⟨R, eR⟩ : ∃ R, R = w.heap.size := ⟨_, rfl⟩
  rw [← eR] at HRA
  rw [← eR]
  have hRl : R < wa.heap.size := hlt_of HRA.out
  have HR1 := Lib.hid ((hb1.block _ hRl).trans HRA.out)
  have HRL := Lib.hid (Nat.lt_of_lt_of_le hRl hb1.size)
  have HB1 := Lib.hid hb1
  have HROW := Lib.hid hrow
  have HER := Lib.hid eR
  clear hrow hb1 HRC ewa eR hRl
  have HBW : Hid (∀ W, Below w1.heap.size w1 W → Below w.heap.size w W) := Lib.hid fun W h => (HBA.out.trans (HB1.out.mono HBA.out.size)).trans (h.mono (Nat.le_trans HBA.out.size HB1.out.size))
  have HBX : Hid (∀ W, Below w1.heap.size w1 W → Below wa.heap.size wa W) := Lib.hid fun W h => HB1.out.trans (h.mono HB1.out.size)
  go_wp2
  go_loopw [7, 11] (fun _ x wr => ∃ t : Nat, t ≤ l.length ∧ x = .int .i64 (t : Int) ∧ Hid (Below w1.heap.size w1 wr ∧ ∀ j, j < t → ¬ ok (l.getD j c40))) (fun _ x _ => l.length - (intOf x).toNat)
  case atStart => exact ⟨0, Nat.zero_le _, rfl, Lib.hid ⟨Below.refl _ _, fun j hj => absurd hj (Nat.not_lt_zero _)⟩⟩
  case round =>
    obtain ⟨t, ht, rfl, HT⟩ := hrel
    have hle := HLE.out
    have HBT := Lib.hid HT.out.1
    have HNT := Lib.hid HT.out.2
    clear HT
    by_cases hlt : t < l.length
    · obtain ⟨g, rfl, hgl, hgB, hci⟩ := own_ch (n := 0) (own_keep HROW.out fun g hg => HBT.out.block g (HROW.out.lt g hg).2) (by omega)
      obtain ⟨c0, c1, c2, c3⟩ := hci t hlt
      have hlt' : (t : Int) < (l.length : Int) := by omega
      have hix := HIX.out (l.getD t c40) (by rw [List.getD_eq_getElem?_getD, List.getElem?_eq_getElem hlt]; exact List.getElem_mem hlt)
      have HYS : Hid (ok (l.getD t c40) → NxG l ok (l.getD t c40) true) := Lib.hid fun h => .inl ⟨rfl, t, hlt, rfl, h, HNT.out⟩
      have HNX : Hid (¬ ok (l.getD t c40) → ∀ j, j < t + 1 → ¬ ok (l.getD j c40)) := Lib.hid fun h j hj => by
        by_cases e : j < t
        · exact HNT.out j e
        · obtain rfl : j = t := by omega
          exact h
      have HOC := Lib.hid (HOK.out (l.getD t c40))
      clear hci HNT HOK
      generalize (l.getD t c40) = cc at *
      have hbx : Below wr.heap.size wr (wr.alloc (.cells #[.int .i64 cc.k, .int .i64 cc.y, .int .i64 cc.a, .int .i64 cc.b] 59)) := (Below.refl _ _).alloc (Nat.le_refl _) _
      have HGC := Lib.hid (HGE.out cc _ (HBX.out _ (HBT.out.trans (hbx.mono HBT.out.size))))
      have hb3 : Below w1.heap.size w1 (wr.alloc (.cells #[.int .i64 cc.k, .int .i64 cc.y, .int .i64 cc.a, .int .i64 cc.b] 59)) := HBT.out.trans (hbx.mono HBT.out.size)
      have HB3 := Lib.hid hb3
      have HPP : Hid ((wr.alloc (.cells #[.int .i64 cc.k, .int .i64 cc.y, .int .i64 cc.a, .int .i64 cc.b] 59)).heap[wr.heap.size]? = some (.cells #[.int .i64 cc.k, .int .i64 cc.y, .int .i64 cc.a, .int .i64 cc.b] 59 (0, 0))) := Lib.hid (heap_alloc_new wr _)
      have HPL : Hid (wr.heap.size < (wr.alloc (.cells #[.int .i64 cc.k, .int .i64 cc.y, .int .i64 cc.a, .int .i64 cc.b] 59)).heap.size) := Lib.hid (by simp)
      obtain ⟨ck, cy, ca, cb⟩ := cc
      dsimp only at c0 c1 c2 c3 HGC hix HPP HPL HB3 HOC
      clear hbx hb3
      obtain ⟨P, eP⟩ : ∃ P, P = wr.heap.size := ⟨_, rfl⟩
      cases hgt : gtS f ⟨ck, cy, ca, cb⟩ n with
      | some bb =>
        rw [hgt] at HGC HOC
        have HZ := Lib.hid (HNX.out (fun h => by have := (HOC.out.1 h).1; cases this))
        have hr : (0 : Int) ≤ numO (some bb) := by cases bb <;> decide
        clear HNX HYS HOC hix eP hgt
        generalize numO (some bb) = r at *
        go_wp2_with fail
        refine HGC.out.mono ?_
        rintro e w3 ⟨rfl, hb⟩
        have HB4 := Lib.hid (HB3.out.trans (hb.mono HB3.out.size))
        clear hb HGC
        go_wp2_with fail
        go_roundw
        case rel => exact ⟨t + 1, by omega, by go_num, Lib.hid ⟨HB4.out, HZ.out⟩⟩
        case measure => simp [intOf]; omega
      | none =>
        rw [hgt] at HGC HOC
        go_wp2_with fail
        refine HGC.out.mono ?_
        rintro e w3 ⟨rfl, hb⟩
        have HB4 := Lib.hid (HB3.out.trans (hb.mono HB3.out.size))
        have hPb := (hb.block _ HPL.out).trans HPP.out
        have hPl := Nat.lt_of_lt_of_le HPL.out hb.size
        rw [← eP] at hPb hPl
        rw [← eP]
        have y0 := cell_of_row _ _ 0 _ _ _ hPb
        have y1 := cell_of_row _ _ 1 _ _ _ hPb
        have y2 := cell_of_row _ _ 2 _ _ _ hPb
        have y3 := cell_of_row _ _ 3 _ _ _ hPb
        simp at y0 y1 y2 y3
        have HPB := Lib.hid hPb
        have hn1 : numO none = -1 := rfl
        rw [hn1]
        clear hb HGC eP hPb hgt hn1
        rcases hix with hk1 | ⟨hk2, i, j, hai, hbj, hi, hj⟩
        · have hk1 : ck = 1 := hk1
          subst hk1
          have HZ := Lib.hid (HYS.out (HOC.out.2 ⟨by first | trivial | rfl, .inl rfl⟩))
          have hRb := (HB4.out.block _ HRL.out).trans HR1.out
          have z0 := cell_of_row _ _ 0 _ _ _ hRb
          have z1 := cell_of_row _ _ 1 _ _ _ hRb
          have z2 := cell_of_row _ _ 2 _ _ _ hRb
          have z3 := cell_of_row _ _ 3 _ _ _ hRb
          simp at z0 z1 z2 z3
          have f0 : w3.frozen? ⟨R, 0, none⟩ = false := by simp [World.frozen?, hRb]
          have f1 : w3.frozen? ⟨R, 1, none⟩ = false := by simp [World.frozen?, hRb]
          have f2 : w3.frozen? ⟨R, 2, none⟩ = false := by simp [World.frozen?, hRb]
          have f3 : w3.frozen? ⟨R, 3, none⟩ = false := by simp [World.frozen?, hRb]
          have HRB := Lib.hid hRb
          clear hRb
          clear HYS HNX HOC
          go_wp2_with fail
          obtain ⟨p0, p1, p2, p3⟩ := setC4 (A := .int .i64 1) (B := .int .i64 cy) (C := .int .i64 ca) (D := .int .i64 cb) HRB.out
          exact bodyPost_ret (v := .tuple #[.agg #[.int .i64 1, .int .i64 cy, .int .i64 ca, .int .i64 cb], .bool true]) (by simp [results, Try.results31, go_sem, p0, p1, p2, p3]) rfl ⟨⟨1, cy, ca, cb⟩, true, rfl, HZ.out, (((HBW.out _ HB4.out).setCell (p := ⟨R, 0, none⟩) (by rw [HER.out]; exact Nat.le_refl _) _).setCell (p := ⟨R, 1, none⟩) (by rw [HER.out]; exact Nat.le_refl _) _ |>.setCell (p := ⟨R, 2, none⟩) (by rw [HER.out]; exact Nat.le_refl _) _).setCell (p := ⟨R, 3, none⟩) (by rw [HER.out]; exact Nat.le_refl _) _⟩
        · have hk2 : ck = 2 := hk2
          have hai : ca = (i : Int) := hai
          have hbj : cb = (j : Int) := hbj
          subst hk2 hai hbj
          have HI1 := Lib.hid (HIS.out i w3 hi (HBX.out _ HB4.out))
          have HOC2 : Hid (ok ⟨2, cy, (i : Int), (j : Int)⟩ ↔ ig i = 1 ∧ ig j = 1) := Lib.hid (by
            rw [HOC.out]
            exact ⟨fun h => h.2.elim (fun h => absurd h (by decide)) id, fun h => ⟨by first | trivial | rfl, .inr h⟩⟩)
          clear HOC
          by_cases hig : ig i = 1
          · have hib : (ig i == 1) = true := by rw [beq_iff_eq]; exact hig
            rw [hig] at HI1 HOC2
            go_wp2_with fail
            refine HI1.out.mono ?_
            rintro e w4 ⟨rfl, hb⟩
            have HB5 := Lib.hid (HB4.out.trans (hb.mono HB4.out.size))
            have hPb := (hb.block _ hPl).trans HPB.out
            have hPl4 := Nat.lt_of_lt_of_le hPl hb.size
            clear y0 y1 y2 y3
            have y0 := cell_of_row _ _ 0 _ _ _ hPb
            have y1 := cell_of_row _ _ 1 _ _ _ hPb
            have y2 := cell_of_row _ _ 2 _ _ _ hPb
            have y3 := cell_of_row _ _ 3 _ _ _ hPb
            simp at y0 y1 y2 y3
            have HPB4 := Lib.hid hPb
            have HI2 := Lib.hid (HIS.out j w4 hj (HBX.out _ HB5.out))
            clear hb HI1 hPb hib hig
            by_cases hjg : ig j = 1
            · have HZ := Lib.hid (HYS.out (HOC2.out.2 ⟨by first | trivial | rfl, hjg⟩))
              rw [hjg] at HI2
              clear HYS HNX HOC2 hjg
              go_wp2_with fail
              refine HI2.out.mono ?_
              rintro e w5 ⟨rfl, hb⟩
              have HB6 := Lib.hid (HB5.out.trans (hb.mono HB5.out.size))
              have hPb := (hb.block _ hPl4).trans HPB4.out
              have hPl5 := Nat.lt_of_lt_of_le hPl4 hb.size
              clear y0 y1 y2 y3
              have y0 := cell_of_row _ _ 0 _ _ _ hPb
              have y1 := cell_of_row _ _ 1 _ _ _ hPb
              have y2 := cell_of_row _ _ 2 _ _ _ hPb
              have y3 := cell_of_row _ _ 3 _ _ _ hPb
              simp at y0 y1 y2 y3
              clear hb HI2 hPb
              have hRb := (HB6.out.block _ HRL.out).trans HR1.out
              have z0 := cell_of_row _ _ 0 _ _ _ hRb
              have z1 := cell_of_row _ _ 1 _ _ _ hRb
              have z2 := cell_of_row _ _ 2 _ _ _ hRb
              have z3 := cell_of_row _ _ 3 _ _ _ hRb
              simp at z0 z1 z2 z3
              have f0 : w5.frozen? ⟨R, 0, none⟩ = false := by simp [World.frozen?, hRb]
              have f1 : w5.frozen? ⟨R, 1, none⟩ = false := by simp [World.frozen?, hRb]
              have f2 : w5.frozen? ⟨R, 2, none⟩ = false := by simp [World.frozen?, hRb]
              have f3 : w5.frozen? ⟨R, 3, none⟩ = false := by simp [World.frozen?, hRb]
              have HRB := Lib.hid hRb
              clear hRb
              go_wp2_with fail
              obtain ⟨p0, p1, p2, p3⟩ := setC4 (A := .int .i64 2) (B := .int .i64 cy) (C := .int .i64 (i : Int)) (D := .int .i64 (j : Int)) HRB.out
              exact bodyPost_ret (v := .tuple #[.agg #[.int .i64 2, .int .i64 cy, .int .i64 (i : Int), .int .i64 (j : Int)], .bool true]) (by simp [results, Try.results31, go_sem, p0, p1, p2, p3]) rfl ⟨⟨2, cy, (i : Int), (j : Int)⟩, true, rfl, HZ.out, (((HBW.out _ HB6.out).setCell (p := ⟨R, 0, none⟩) (by rw [HER.out]; exact Nat.le_refl _) _).setCell (p := ⟨R, 1, none⟩) (by rw [HER.out]; exact Nat.le_refl _) _ |>.setCell (p := ⟨R, 2, none⟩) (by rw [HER.out]; exact Nat.le_refl _) _).setCell (p := ⟨R, 3, none⟩) (by rw [HER.out]; exact Nat.le_refl _) _⟩
            · have hjb : (ig j == 1) = false := beq_eq_false_iff_ne.2 hjg
              have HZ := Lib.hid (HNX.out (fun h => hjg (HOC2.out.1 h).2))
              clear HYS HNX HOC2 hjg
              generalize ig j = r2 at *
              go_wp2_with fail
              refine HI2.out.mono ?_
              rintro e w5 ⟨rfl, hb⟩
              have HB6 := Lib.hid (HB5.out.trans (hb.mono HB5.out.size))
              clear hb HI2
              go_wp2_with fail
              go_roundw
              case rel => exact ⟨t + 1, by omega, by go_num, Lib.hid ⟨HB6.out, HZ.out⟩⟩
              case measure => simp [intOf]; omega
          · have hib : (ig i == 1) = false := beq_eq_false_iff_ne.2 hig
            have HZ := Lib.hid (HNX.out (fun h => hig (HOC2.out.1 h).1))
            clear HYS HNX HOC2 hig
            generalize ig i = r1 at *
            go_wp2_with fail
            refine HI1.out.mono ?_
            rintro e w4 ⟨rfl, hb⟩
            have HB5 := Lib.hid (HB4.out.trans (hb.mono HB4.out.size))
            clear hb HI1
            go_wp2_with fail
            go_roundw
            case rel => exact ⟨t + 1, by omega, by go_num, Lib.hid ⟨HB5.out, HZ.out⟩⟩
            case measure => simp [intOf]; omega
    · obtain rfl : l.length = t := by omega
      have HZ : Hid (NxG l ok ⟨0, 0, 0, 0⟩ false) := Lib.hid (.inr ⟨rfl, rfl, HNT.out⟩)
      have hRb := (HBT.out.block _ HRL.out).trans HR1.out
      have z0 := cell_of_row _ _ 0 _ _ _ hRb
      have z1 := cell_of_row _ _ 1 _ _ _ hRb
      have z2 := cell_of_row _ _ 2 _ _ _ hRb
      have z3 := cell_of_row _ _ 3 _ _ _ hRb
      simp at z0 z1 z2 z3
      have f0 : wr.frozen? ⟨R, 0, none⟩ = false := by simp [World.frozen?, hRb]
      have f1 : wr.frozen? ⟨R, 1, none⟩ = false := by simp [World.frozen?, hRb]
      have f2 : wr.frozen? ⟨R, 2, none⟩ = false := by simp [World.frozen?, hRb]
      have f3 : wr.frozen? ⟨R, 3, none⟩ = false := by simp [World.frozen?, hRb]
      have HRB := Lib.hid hRb
      clear hRb
      go_wp2_with fail
      obtain ⟨p0, p1, p2, p3⟩ := setC4 (A := .int .i64 0) (B := .int .i64 0) (C := .int .i64 0) (D := .int .i64 0) HRB.out
      exact bodyPost_ret (v := .tuple #[.agg #[.int .i64 0, .int .i64 0, .int .i64 0, .int .i64 0], .bool false]) (by simp [results, Try.results31, go_sem, p0, p1, p2, p3]) rfl ⟨⟨0, 0, 0, 0⟩, false, rfl, HZ.out, (((HBW.out _ HBT.out).setCell (p := ⟨R, 0, none⟩) (by rw [HER.out]; exact Nat.le_refl _) _).setCell (p := ⟨R, 1, none⟩) (by rw [HER.out]; exact Nat.le_refl _) _ |>.setCell (p := ⟨R, 2, none⟩) (by rw [HER.out]; exact Nat.le_refl _) _).setCell (p := ⟨R, 3, none⟩) (by rw [HER.out]; exact Nat.le_refl _) _⟩
end Go.Proofs.Yteobndfkkpfnlaa

