/-
  The reference of chains: Get, Is.
  chains' laws: made.
  chains' laws: some.
  chains' laws: some's walk.
  The reference of chains: Ahead.
  The reference of chains: Next.
  Ranges over functions: a contract of iterators that goes for iterators over iterators too, and the caller's law.
  Maps of our own from numbers to lists of numbers.
  chains: the sorted keys of a map of lists; the marks of loops over functions.
  chains: pairs, an iterator over the pairs of a list.
  chains: befores, an iterator over iterators.
  chains: commits, an iterator over who may be done or not.
-/
import Derived.Test.YteobndfkkpfnlaaJ12
import Derived.Test.YteobndfkkpfnlaaJ07
import Derived.Test.YteobndfkkpfnlaaJ08
import Derived.RangeFuncNested
import Derived.RangeFuncBound
import Derived.RangeFuncCalls
import Derived.RangeFuncLeaves
import Derived.RangeFuncBox
import Derived.Shelf.Abstract
import Derived.Maps.OwnRows
import Derived.Shelf.RegionOpen
import Derived.WalkKit
import Derived.OwnWalkIn
import Derived.TacticsInMore
import Derived.LoopNIn
import Derived.LoopIn
import Derived.IntWalk

namespace Go.Proofs.Yteobndfkkpfnlaa
open Go.ChangeShapes Go.WideShapes Go.ChangeAt Go.RowKit Go.Maps
set_option linter.unusedVariables false

deriving instance DecidableEq for C4
/-- what was said, in a slice -/
def SaS (w : World) (sp : Option Addr) (n : Nat) (f : Nat → C4 × Bool) : Prop :=
  0 < n → ∃ b off, sp = some ⟨b, off, none⟩ ∧ b < w.heap.size ∧ ∀ i, i < n → w.cell? ⟨b, off + i * 5, none⟩ = some (.int .i64 (f i).1.k) ∧ w.cell? ⟨b, off + i * 5 + 1, none⟩ = some (.int .i64 (f i).1.y) ∧ w.cell? ⟨b, off + i * 5 + 2, none⟩ = some (.int .i64 (f i).1.a) ∧ w.cell? ⟨b, off + i * 5 + 3, none⟩ = some (.int .i64 (f i).1.b) ∧ w.cell? ⟨b, off + i * 5 + 4, none⟩ = some (.bool (f i).2)
theorem SaS.below {w w' : World} {sp : Option Addr} {n : Nat} {f : Nat → C4 × Bool} (h : SaS w sp n f) (hb : Below w.heap.size w w') : SaS w' sp n f := by
  intro hn
  obtain ⟨b, off, e, hl, hc⟩ := h hn
  refine ⟨b, off, e, Nat.lt_of_lt_of_le hl hb.size, fun i hi => ?_⟩
  obtain ⟨c0, c1, c2, c3, c4⟩ := hc i hi
  exact ⟨(hb.cell (p := ⟨b, off + i * 5, none⟩) hl).trans c0, (hb.cell (p := ⟨b, off + i * 5 + 1, none⟩) hl).trans c1, (hb.cell (p := ⟨b, off + i * 5 + 2, none⟩) hl).trans c2, (hb.cell (p := ⟨b, off + i * 5 + 3, none⟩) hl).trans c3, (hb.cell (p := ⟨b, off + i * 5 + 4, none⟩) hl).trans c4⟩
/-- the first thing that is said of a choice -/
def gtS (f : Nat → C4 × Bool) (c : C4) : Nat → Option Bool
  | 0 => none
  | n + 1 => match gtS f c n with
    | some b => some b
    | none => if (f n).1 = c then some (f n).2 else none
theorem gtS_hit {f : Nat → C4 × Bool} {c : C4} {t : Nat} (h0 : gtS f c t = none) (h : (f t).1 = c) : ∀ d, gtS f c (t + 1 + d) = some (f t).2 := by
  intro d
  induction d with
  | zero => show (match gtS f c t with | some b => some b | none => if (f t).1 = c then some (f t).2 else none) = _; rw [h0]; exact if_pos h
  | succ d ih => show (match gtS f c (t + 1 + d) with | some b => some b | none => _) = _; rw [ih]
theorem gtS_next {f : Nat → C4 × Bool} {c : C4} {t : Nat} (h0 : gtS f c t = none) (h : (f t).1 ≠ c) : gtS f c (t + 1) = none := by
  show (match gtS f c t with | some b => some b | none => if (f t).1 = c then some (f t).2 else none) = none
  rw [h0]; exact if_neg h
/-- .. as a number -/
def numO : Option Bool → Int
  | some true => 1
  | some false => 0
  | none => -1

set_option maxRecDepth 100000 in
set_option maxHeartbeats 4000000 in
theorem get_any (sp : Option Addr) (n cp : Nat) (f : Nat → C4 × Bool) (c : C4) (w : World) (hnb : n ≤ 1000000) (hs : SaS w sp n f) :
    Calls Try.prog 56 #[.slice sp n cp, .agg #[.int .i64 c.k, .int .i64 c.y, .int .i64 c.a, .int .i64 c.b]] w (fun e w' => e = .returned (.int .i64 (numO (gtS f c n))) ∧ Below w.heap.size w w') := by
  have HS := Lib.hid hs
  clear hs
  have HP0 : Hid ((w.alloc (.cells #[.int .i64 c.k, .int .i64 c.y, .int .i64 c.a, .int .i64 c.b] 59)).heap[w.heap.size]? = some (.cells #[.int .i64 c.k, .int .i64 c.y, .int .i64 c.a, .int .i64 c.b] 59 (0, 0))) := Lib.hid (heap_alloc_new w _)
  have HX0 : Hid (Below w.heap.size w (w.alloc (.cells #[.int .i64 c.k, .int .i64 c.y, .int .i64 c.a, .int .i64 c.b] 59))) := Lib.hid ((Below.refl _ _).alloc (Nat.le_refl _) _)
  have HL0 : Hid (w.heap.size < (w.alloc (.cells #[.int .i64 c.k, .int .i64 c.y, .int .i64 c.a, .int .i64 c.b] 59)).heap.size) := Lib.hid (by simp)
  go_enter Try.func56, Try.ntmps56
  go_wp2
  obtain ⟨wx, ewx⟩ : ∃ wx, wx = w.alloc (.cells #[.int .i64 c.k, .int .i64 c.y, .int .i64 c.a, .int .i64 c.b] 59) := ⟨_, rfl⟩
  obtain ⟨P, eP⟩ : ∃ P, P = w.heap.size := ⟨_, rfl⟩
  rw [← ewx] at HP0 HX0 HL0 ⊢
  rw [← eP] at HP0 HL0 ⊢
  clear ewx eP
  go_loopw [6, 9] (fun _ x wr => ∃ t : Nat, t ≤ n ∧ x = .int .i64 (t : Int) ∧ Hid (Below wx.heap.size wx wr ∧ gtS f c t = none)) (fun _ x _ => n - (intOf x).toNat)
  case atStart => exact ⟨0, Nat.zero_le _, rfl, Lib.hid ⟨Below.refl _ _, rfl⟩⟩
  case round =>
    obtain ⟨t, ht, rfl, HT⟩ := hrel
    have HBT := Lib.hid HT.out.1
    have HNT := Lib.hid HT.out.2
    clear HT
    by_cases hlt : t < n
    · obtain ⟨b, off, rfl, hbl, hci⟩ := (HS.out.below HX0.out) (by omega)
      obtain ⟨c0, c1, c2, c3, c4⟩ := hci t hlt
      have x0 := (HBT.out.cell (p := ⟨b, off + t * 5, none⟩) hbl).trans c0
      have x1 := (HBT.out.cell (p := ⟨b, off + t * 5 + 1, none⟩) hbl).trans c1
      have x2 := (HBT.out.cell (p := ⟨b, off + t * 5 + 2, none⟩) hbl).trans c2
      have x3 := (HBT.out.cell (p := ⟨b, off + t * 5 + 3, none⟩) hbl).trans c3
      have x4 := (HBT.out.cell (p := ⟨b, off + t * 5 + 4, none⟩) hbl).trans c4
      have hP := (HBT.out.block _ HL0.out).trans HP0.out
      have y0 := cell_of_row _ _ 0 _ _ _ hP
      have y1 := cell_of_row _ _ 1 _ _ _ hP
      have y2 := cell_of_row _ _ 2 _ _ _ hP
      have y3 := cell_of_row _ _ 3 _ _ _ hP
      have hPl : P < wr.heap.size := Nat.lt_of_lt_of_le HL0.out HBT.out.size
      have hlt' : (t : Int) < (n : Int) := by omega
      have HHT : Hid ((f t).1 = c → gtS f c n = some (f t).2) := Lib.hid fun h => by
        have := gtS_hit HNT.out h (n - (t + 1))
        rwa [show t + 1 + (n - (t + 1)) = n by omega] at this
      have HNX : Hid ((f t).1 ≠ c → gtS f c (t + 1) = none) := Lib.hid fun h => gtS_next HNT.out h
      have HAL : Hid (∀ ob, Below wx.heap.size wx (wr.alloc ob)) := Lib.hid fun ob => HBT.out.alloc HBT.out.size _
      clear c0 c1 c2 c3 c4 hci hP
      generalize (f t) = ft at *
      obtain ⟨⟨fk, fy, fa, fb⟩, fs⟩ := ft
      obtain ⟨ck, cy, ca, cb⟩ := c
      dsimp only at *
      simp at y0 y1 y2 y3
      by_cases hek : fk = ck
      · subst hek
        by_cases hey : fy = cy
        · subst hey
          by_cases hea : fa = ca
          · subst hea
            by_cases heb : fb = cb
            · subst heb
              have HN := Lib.hid (HHT.out rfl)
              clear HHT HNX HNT
              cases fs with
              | true =>
                go_wp2
                go_ret
                exact ⟨by rw [HN.out]; rfl, HX0.out.trans ((HAL.out _).mono HX0.out.size)⟩
              | false =>
                go_wp2
                go_ret
                exact ⟨by rw [HN.out]; rfl, HX0.out.trans ((HAL.out _).mono HX0.out.size)⟩
            · have hqb : (fb == cb) = false := beq_eq_false_iff_ne.2 heb
              have hn := Lib.hid (HNX.out (fun h => by injection h with e1 e2 e3 e4; exact heb e4))
              clear HHT HNX HNT
              go_wp2
              go_roundw
              case rel => exact ⟨t + 1, by omega, by go_num, Lib.hid ⟨HAL.out _, hn.out⟩⟩
              case measure => simp [intOf]; omega
          · have hqa : (fa == ca) = false := beq_eq_false_iff_ne.2 hea
            have hn := Lib.hid (HNX.out (fun h => by injection h with e1 e2 e3 e4; exact hea e3))
            clear HHT HNX HNT
            go_wp2
            go_roundw
            case rel => exact ⟨t + 1, by omega, by go_num, Lib.hid ⟨HAL.out _, hn.out⟩⟩
            case measure => simp [intOf]; omega
        · have hqy : (fy == cy) = false := beq_eq_false_iff_ne.2 hey
          have hn := Lib.hid (HNX.out (fun h => by injection h with e1 e2 e3 e4; exact hey e2))
          clear HHT HNX HNT
          go_wp2
          go_roundw
          case rel => exact ⟨t + 1, by omega, by go_num, Lib.hid ⟨HAL.out _, hn.out⟩⟩
          case measure => simp [intOf]; omega
      · have hqk : (fk == ck) = false := beq_eq_false_iff_ne.2 hek
        have hn := Lib.hid (HNX.out (fun h => by injection h with e1 e2 e3 e4; exact hek e1))
        clear HHT HNX HNT
        go_wp2
        go_roundw
        case rel => exact ⟨t + 1, by omega, by go_num, Lib.hid ⟨HAL.out _, hn.out⟩⟩
        case measure => simp [intOf]; omega
    · obtain rfl : t = n := by omega
      go_wp2
      go_ret
      exact ⟨by rw [HNT.out]; rfl, HX0.out.trans (HBT.out.mono HX0.out.size)⟩

open Classical in
/-- is it done, by what was said -/
noncomputable def isG (T : Nat → Tx) (m n : Nat) (f : Nat → C4 × Bool) (i : Nat) : Int :=
  if suL T m i = true then 1 else if (T i).st = 2 ∨ ¬ wrT (T i) then 0 else numO (gtS f ⟨1, 0, (i : Int), 0⟩ n)

set_option maxRecDepth 100000 in
set_option maxHeartbeats 4000000 in
theorem ris_any (a : Option Addr) (m cap : Nat) (T : Nat → Tx) (sp : Option Addr) (n cp : Nat) (f : Nat → C4 × Bool) (i : Nat) (w : World) (hi : i < m) (hnb : n ≤ 1000000) (hs : TxS w a m T) (hx : HTx m T) (hu : Uq m T) (hf : SaS w sp n f) :
    Calls Try.prog 29 #[.slice a m cap, .slice sp n cp, .int .i64 (i : Int)] w (fun e w' => e = .returned (.int .i64 (isG T m n f i)) ∧ Below w.heap.size w w') := by
  have HS := Lib.hid hs
  have HXX := Lib.hid hx
  have HF := Lib.hid hf
  have hm4 := hx.ok.cnt
  have HSU := Lib.hid (rsure_any a m cap T w hs hx hu)
  have hi' : (i : Int) < (m : Int) := by omega
  have H1 : Hid (suL T m i = true → isG T m n f i = 1) := Lib.hid fun h => by unfold isG; rw [if_pos h]
  have H2 : Hid (suL T m i = false → (T i).st = 2 ∨ ¬ wrT (T i) → isG T m n f i = 0) := Lib.hid fun h h2 => by unfold isG; rw [if_neg (by rw [h]; simp), if_pos h2]
  have H3 : Hid (suL T m i = false → ¬ ((T i).st = 2 ∨ ¬ wrT (T i)) → isG T m n f i = numO (gtS f ⟨1, 0, (i : Int), 0⟩ n)) := Lib.hid fun h h2 => by unfold isG; rw [if_neg (by rw [h]; simp), if_neg h2]
  clear hs hx hu hf
  generalize isG T m n f i = r at *
  go_enter Try.func29, Try.ntmps29
  go_wp2_with fail
  refine HSU.out.mono ?_
  rintro e w1 ⟨spu, cpu, rfl, hro, hb1⟩
  have HB1 := Lib.hid hb1
  obtain ⟨gs, cap', e, _, hl⟩ := hro.form (by omega)
  injection e with e1 _ _
  subst e1
  have hsc : w1.cell? ⟨gs, i, none⟩ = some (.bool (suL T m i)) := (hro.cellAt i (by omega)).trans (by unfold rowB; exact rowW_get _ _ _ hi)
  clear hro hb1 HSU
  obtain ⟨b, off, rfl, hbl, hci⟩ := (HS.out.below HB1.out) (by omega)
  obtain ⟨spi, cpi, x0, x1, x2, ho⟩ := hci i hi
  clear hci
  cases hsu : suL T m i with
  | true =>
    rw [hsu] at hsc
    have HR := Lib.hid (H1.out hsu)
    clear H1 H2 H3 hsu ho
    generalize (T i).c = tc at *
    generalize (T i).st = tst at *
    generalize (T i).n = tn at *
    go_wp2_with fail
    go_ret
    exact ⟨by rw [HR.out]; rfl, HB1.out⟩
  | false =>
    rw [hsu] at hsc
    by_cases h2 : (T i).st = 2
    · have HR := Lib.hid (H2.out hsu (.inl h2))
      rw [h2] at x1
      clear H1 H2 H3 hsu ho h2
      generalize (T i).c = tc at *
      generalize (T i).n = tn at *
      go_wp2_with fail
      go_ret
      exact ⟨by rw [HR.out]; rfl, HB1.out⟩
    · have h2b : ((T i).st == 2) = false := beq_eq_false_iff_ne.2 h2
      have hn := HXX.out.n i hi
      have HWC := Lib.hid (rwrites_any (T i).c (T i).st spi (T i).n cpi (T i).o w1 (by omega) ho)
      have HWP := Lib.hid (wrl_pos (HXX.out.ok.key i hi))
      have HUN : Hid ((∃ x, x < (T i).n ∧ ((T i).o x).k = 2) ↔ wrT (T i)) := Lib.hid Iff.rfl
      rw [HUN.out] at HWP
      have HR2 : Hid (¬ wrT (T i) → r = 0) := Lib.hid fun h => H2.out hsu (.inr h)
      have HR3 : Hid (wrT (T i) → r = numO (gtS f ⟨1, 0, (i : Int), 0⟩ n)) := Lib.hid fun h => H3.out hsu (fun h' => h'.elim h2 fun h' => h' h)
      clear H1 H2 H3 HUN ho h2 hsu
      generalize wrl (T i).o (T i).n 16 = L at *
      generalize (T i).c = tc at *
      generalize (T i).st = tst at *
      generalize (T i).n = tn at *
      go_wp2_with fail
      refine HWC.out.mono ?_
      rintro e w3 ⟨sp3, cp3, rfl, _, hb3⟩
      have HB3 := Lib.hid (HB1.out.trans (hb3.mono HB1.out.size))
      clear hb3 HWC
      by_cases hL : L.length = 0
      · have HR := Lib.hid (HR2.out (fun h => by have := HWP.out.2 h; omega))
        have hLb : ((L.length : Int) == 0) = true := by rw [hL]; rfl
        clear HR2 HR3 HWP
        go_wp2_with fail
        go_ret
        exact ⟨by rw [HR.out]; rfl, HB3.out⟩
      · have HR := Lib.hid (HR3.out (HWP.out.1 (by omega)))
        have hLb : ((L.length : Int) == 0) = false := beq_eq_false_iff_ne.2 (by omega)
        have hL2 : ¬ L = [] := fun h => hL (by rw [h]; rfl)
        have HG := Lib.hid (get_any sp n cp f ⟨1, 0, (i : Int), 0⟩ w3 hnb (HF.out.below HB3.out))
        dsimp only at HG
        clear HR2 HR3 HWP
        go_wp2_with fail
        refine HG.out.mono ?_
        rintro e w4 ⟨rfl, hb4⟩
        have HB4 := Lib.hid (HB3.out.trans (hb4.mono HB3.out.size))
        clear hb4 HG
        go_wp2_with fail
        go_ret
        exact ⟨by rw [HR.out]; rfl, HB4.out⟩
end Go.Proofs.Yteobndfkkpfnlaa

namespace Go.Proofs.Yteobndfkkpfnlaa
open Go.ChangeShapes Go.WideShapes Go.ChangeAt Go.RowKit Go.Maps
set_option linter.unusedVariables false

theorem of_w (a : Option Addr) (len cap : Nat) (E : Nat → Ev) (w : World) (hs : EvS w a len E) : Calls Try.prog 15 #[.slice a len cap] w (OfR E len w) := by
  refine (refof_wide a len cap E w hs).mono ?_
  rintro e w' ⟨m, sp, cp, i, er, T, V, rfl, hm, hi, ho, hv, hb, hf⟩
  refine ⟨m, sp, cp, i, er, rfl, hb, fun h0 => ?_⟩
  subst h0
  rcases hf with ⟨_, _, _, h⟩ | ⟨hl, ⟨_, _, _, h, _⟩ | ⟨hg, _, _, rfl, rfl⟩⟩
  · omega
  · exact absurd rfl h
  · exact ⟨hg, rfl, htx_of hl hg, tx_row ho hv, V, ho, fun j hj => by obtain ⟨s, c, e, _⟩ := hv j hj; exact ⟨s, c, e⟩⟩
/-- a history's transactions, few enough -/
def MadP (E : Nat → Ev) (len : Nat) (w : World) (e : Ending) (w' : World) : Prop :=
  ∃ (sp : Option Addr) (m cp : Nat) (ok : Bool), e = .returned (.tuple #[.slice sp m cp, .bool ok]) ∧ Below w.heap.size w w' ∧
    (ok = true → Good E len ∧ m = (stateAt E len).m ∧ m ≤ 60 ∧ HTx m (stateAt E len).T ∧ Uq m (stateAt E len).T ∧ TxS w' sp m (stateAt E len).T)

set_option maxRecDepth 100000 in
set_option maxHeartbeats 2000000 in
theorem made_any (a : Option Addr) (len cap : Nat) (E : Nat → Ev) (w : World) (hs : EvS w a len E) :
    Calls Try.prog 23 #[.slice a len cap] w (MadP E len w) := by
  have HOF := Lib.hid (of_w a len cap E w hs)
  clear hs
  by_cases hl : 60 < len
  · have hl' : (60 : Int) < (len : Int) := by omega
    go_enter Try.func23, Try.ntmps23
    go_wp2_with fail
    go_ret2
    exact ⟨none, 0, 0, false, rfl, Below.refl _ _, fun h => by cases h⟩
  · have hl' : ¬ (60 : Int) < (len : Int) := by omega
    go_enter Try.func23, Try.ntmps23
    go_wp2_with fail
    refine HOF.out.mono ?_
    rintro e w2 ⟨m, sp, cp, i, er, rfl, hb, hf⟩
    have HB := Lib.hid hb
    have HF := Lib.hid hf
    clear hb hf HOF
    by_cases he : er = 0
    · have heb : (er == 0) = true := by rw [beq_iff_eq]; exact he
      obtain ⟨hg, hm, hx, ht, _⟩ := HF.out he
      have HZ : Hid (Good E len ∧ m = (stateAt E len).m ∧ m ≤ 60 ∧ HTx m (stateAt E len).T ∧ Uq m (stateAt E len).T ∧ TxS w2 sp m (stateAt E len).T) := Lib.hid ⟨hg, hm, by have := (inv_at E len hg).m; omega, hx, by rw [hm]; exact uq_of hg, ht⟩
      clear HF hg hm hx ht he
      go_wp2_with fail
      go_ret2
      exact ⟨sp, m, cp, true, rfl, HB.out, fun _ => HZ.out⟩
    · have heb : (er == 0) = false := beq_eq_false_iff_ne.2 he
      clear HF he
      go_wp2_with fail
      go_ret2
      exact ⟨sp, m, cp, false, rfl, HB.out, fun h => by cases h⟩
end Go.Proofs.Yteobndfkkpfnlaa

namespace Go.Proofs.Yteobndfkkpfnlaa
open Go.ChangeShapes Go.WideShapes Go.ChangeAt Go.RowKit Go.Maps
set_option linter.unusedVariables false

set_option maxRecDepth 100000 in
theorem info110 : (Try.prog.info? 110).map (fun i => (i.zero, i.size, i.bytes)) = some (some (.agg #[.int .i64 0, .int .i64 0, .int .i64 0, .int .i64 0, .bool false]), 5, 40) := by kernel_rfl
/-- numbers in a slice -/
def PkS (w : World) (a : Option Addr) (n : Nat) (P : Nat → Int) : Prop :=
  0 < n → ∃ b off, a = some ⟨b, off, none⟩ ∧ b < w.heap.size ∧ ∀ i, i < n → w.cell? ⟨b, off + i, none⟩ = some (.int .i64 (P i))
theorem PkS.below {w w' : World} {a : Option Addr} {n : Nat} {P : Nat → Int} (h : PkS w a n P) (hb : Below w.heap.size w w') : PkS w' a n P := by
  intro hn
  obtain ⟨b, off, e, hl, hc⟩ := h hn
  exact ⟨b, off, e, Nat.lt_of_lt_of_le hl hb.size, fun i hi => (hb.cell (p := ⟨b, off + i, none⟩) hl).trans (hc i hi)⟩
/-- a pick -/
def pkN (P : Nat → Int) (np t : Nat) : Int := if t < np then bits .and .i64 (P t) 3 else 0
def c40 : C4 := ⟨0, 0, 0, 0⟩
/-- what is said, as a map and as a list -/
def smF (l : List C4) (p : Nat → Int) : Nat → CM
  | 0 => fun _ _ _ _ => none
  | t + 1 => if p t < 2 then updC (smF l p t) (l.getD t c40).k (l.getD t c40).y (l.getD t c40).a (l.getD t c40).b (p t == 1) else smF l p t
def smL (l : List C4) (p : Nat → Int) : Nat → List (C4 × Bool)
  | 0 => []
  | t + 1 => if p t < 2 then smL l p t ++ [(l.getD t c40, p t == 1)] else smL l p t
theorem smL_le (l : List C4) (p : Nat → Int) (t : Nat) : (smL l p t).length ≤ t := by
  induction t with
  | zero => exact Nat.le_refl _
  | succ t ih => unfold smL; split
                 · rw [List.length_append, List.length_singleton]; omega
                 · omega
def cells5 (x : C4 × Bool) : List Value := cells4 x.1 ++ [.bool x.2]
def rowG (L : List (C4 × Bool)) : List Value := L.flatMap cells5
theorem rowG_snoc (L : List (C4 × Bool)) (x : C4 × Bool) : rowG (L ++ [x]) = rowG L ++ cells5 x := by unfold rowG; simp
theorem rowK_get (l : List C4) : ∀ i, i < l.length → (rowK l)[i * 4]? = some (.int .i64 (l.getD i c40).k) ∧ (rowK l)[i * 4 + 1]? = some (.int .i64 (l.getD i c40).y) ∧ (rowK l)[i * 4 + 2]? = some (.int .i64 (l.getD i c40).a) ∧ (rowK l)[i * 4 + 3]? = some (.int .i64 (l.getD i c40).b) := by
  induction l with
  | nil => intro i h; simp at h
  | cons c l ih =>
    intro i hi
    cases i with
    | zero => exact ⟨rfl, rfl, rfl, rfl⟩
    | succ i =>
      have h := ih i (by simpa using hi)
      have e : ∀ j, (rowK (c :: l))[(i + 1) * 4 + j]? = (rowK l)[i * 4 + j]? := fun j => by
        show (cells4 c ++ rowK l)[(i + 1) * 4 + j]? = _
        rw [List.getElem?_append_right (by simp [cells4]; omega)]
        congr 1
        simp [cells4]; omega
      have e0 := e 0
      rw [Nat.add_zero, Nat.add_zero] at e0
      rw [e0, e 1, e 2, e 3]
      simpa using h
/-- choices' cells as they are read -/
theorem own_ch {w : World} {B n cp : Nat} {sp : Option Addr} {l : List C4} (h : w.ownsRow B 59 4 (.slice sp l.length cp) l.length (rowK l)) (h0 : 0 < l.length) :
    ∃ g, sp = some ⟨g, 0, none⟩ ∧ g < w.heap.size ∧ B ≤ g ∧ ∀ i, i < l.length → w.cell? ⟨g, i * 4, none⟩ = some (.int .i64 (l.getD i c40).k) ∧ w.cell? ⟨g, i * 4 + 1, none⟩ = some (.int .i64 (l.getD i c40).y) ∧ w.cell? ⟨g, i * 4 + 2, none⟩ = some (.int .i64 (l.getD i c40).a) ∧ w.cell? ⟨g, i * 4 + 3, none⟩ = some (.int .i64 (l.getD i c40).b) := by
  obtain ⟨g, cap', e, hB, hl⟩ := h.form h0
  injection e with e1 _ _
  subst e1
  refine ⟨g, rfl, hl, hB, fun i hi => ?_⟩
  obtain ⟨g0, g1, g2, g3⟩ := rowK_get l i hi
  exact ⟨(h.cellAt (i * 4) (by omega)).trans g0, (h.cellAt (i * 4 + 1) (by omega)).trans g1, (h.cellAt (i * 4 + 2) (by omega)).trans g2, (h.cellAt (i * 4 + 3) (by omega)).trans g3⟩
/-- some's memory -/
structure SmS (w : World) (B bm : Nat) (wr : World) (n : Nat) (F : CM) (v : Value) (L : List (C4 × Bool)) (B2 : Nat) (u : Value) (l : List C4) : Prop where
  low : B ≤ wr.heap.size
  bel : Below B w wr
  mlow : B ≤ bm
  map : MapC wr bm n F
  row : wr.ownsRow B 110 5 v L.length (rowG L)
  ch : wr.ownsRow B2 59 4 u l.length (rowK l)
section
variable {w wr wr' wx w7 : World} {B bm n B2 g c : Nat} {F : CM} {v u : Value} {L : List (C4 × Bool)} {l : List C4}
theorem SmS.keep (h : SmS w B bm wr n F v L B2 u l) (hb : Below wr.heap.size wr wr') : SmS w B bm wr' n F v L B2 u l :=
  ⟨Nat.le_trans h.low hb.size, h.bel.trans (hb.mono h.low), h.mlow, h.map.below hb, own_keep h.row fun g hg => hb.block g (h.row.lt g hg).2, own_keep h.ch fun g hg => hb.block g (h.ch.lt g hg).2⟩
theorem SmS.upd {F' : CM} {n' : Nat} (h : SmS w B bm wr n F v L B2 u l) (hm : MapC w7 bm n' F') (hg : wr.grownBy w7 (some bm)) : SmS w B bm w7 n' F' v L B2 u l := by
  obtain ⟨es, cl, hmb⟩ := h.map.isMap
  refine ⟨Nat.le_trans h.low hg.size, h.bel.grown hg h.low (fun q hq => by injection hq with hq; rw [← hq]; exact h.mlow), h.mlow, hm, ?_, ?_⟩
  · refine own_keep h.row fun g hgo => hg.block g (h.row.lt g hgo).2 (fun e => ?_)
    obtain ⟨c1, e1⟩ := own_cells h.row hgo
    injection e with e
    rw [e, hmb] at e1
    cases e1
  · refine own_keep h.ch fun g hgo => hg.block g (h.ch.lt g hgo).2 (fun e => ?_)
    obtain ⟨c1, e1⟩ := own_cells h.ch hgo
    injection e with e
    rw [e, hmb] at e1
    cases e1
theorem SmS.more {x : C4 × Bool} (h : SmS w B bm wr n F v L B2 u l) (hb : Below wr.heap.size wr wx) (hg : wx.grownBy w7 v.ownBlock) (ho : w7.ownsRow B 110 5 (.slice (some ⟨g, 0, none⟩) (L.length + 1) c) (L.length + 1) (rowG L ++ cells5 x)) :
    SmS w B bm w7 n F (.slice (some ⟨g, 0, none⟩) (L ++ [x]).length c) (L ++ [x]) B2 u l := by
  have hx := h.keep hb
  refine ⟨Nat.le_trans hx.low hg.size, hx.bel.grown hg hx.low (fun q hq => (h.row.lt q hq).1), h.mlow, hx.map.kept (hg.block bm hx.map.lt (fun e => ?_)), ?_, ?_⟩
  · obtain ⟨es, cl, hmb⟩ := h.map.isMap
    obtain ⟨c1, e1⟩ := own_cells h.row e.symm
    rw [hmb] at e1
    cases e1
  · rw [List.length_append, List.length_singleton, rowG_snoc]
    exact ho
  · refine own_keep hx.ch fun g hgo => hg.block g (hx.ch.lt g hgo).2 (fun e => ?_)
    obtain ⟨c1, e1⟩ := own_cells h.row e.symm
    obtain ⟨c2, e2⟩ := own_cells h.ch hgo
    rw [e2] at e1
    injection e1 with e1
    injection e1 with _ e1 _
    cases e1
end
end Go.Proofs.Yteobndfkkpfnlaa

namespace Go.Proofs.Yteobndfkkpfnlaa
open Go.ChangeShapes Go.WideShapes Go.ChangeAt Go.RowKit Go.Maps
set_option linter.unusedVariables false

/-- what some answers -/
def SomP (T : Nat → Tx) (m np : Nat) (P : Nat → Int) (w : World) (e : Ending) (w' : World) : Prop :=
  ∃ (bm n : Nat) (sp : Option Addr) (cp : Nat), e = .returned (.tuple #[.map (some bm), .slice sp (smL (chA T m) (pkN P np) (chA T m).length).length cp]) ∧
    MapC w' bm n (smF (chA T m) (pkN P np) (chA T m).length) ∧ w'.ownsRow w.heap.size 110 5 (.slice sp (smL (chA T m) (pkN P np) (chA T m).length).length cp) (smL (chA T m) (pkN P np) (chA T m).length).length (rowG (smL (chA T m) (pkN P np) (chA T m).length)) ∧ Below w.heap.size w w'
theorem chA_le (T : Nat → Tx) (m : Nat) (hm : m ≤ 100) : (chA T m).length ≤ 160100 := by
  unfold chA
  rw [List.length_append]
  have := chC_le T m m
  have := prA_le (c := cand T) m 16 hm
  omega
theorem chA_in (T : Nat → Tx) (m : Nat) (hm : m ≤ 100) : ∀ c ∈ chA T m, InC c.k c.y c.a c.b := by
  intro c hc
  unfold chA at hc
  rcases List.mem_append.1 hc with h | h
  · unfold chC at h
    obtain ⟨i, hi, rfl⟩ := List.mem_map.1 h
    have := (List.mem_range.1 (List.mem_filter.1 hi).1)
    unfold InC In64
    dsimp only
    omega
  · unfold prA at h
    obtain ⟨y, hy, h⟩ := List.mem_flatMap.1 h
    unfold prs at h
    obtain ⟨b, hb, h⟩ := List.mem_flatMap.1 h
    unfold prK at h
    obtain ⟨a, ha, rfl⟩ := List.mem_map.1 h
    have h1 := List.mem_range.1 hy
    have h2 := List.mem_range.1 hb
    have h3 := List.mem_range.1 (List.mem_filter.1 ha).1
    unfold InC In64
    dsimp only
    omega

set_option maxRecDepth 100000 in
set_option maxHeartbeats 8000000 in
theorem some_any (a : Option Addr) (m cap : Nat) (T : Nat → Tx) (ap : Option Addr) (np capp : Nat) (P : Nat → Int) (w : World) (hm : m ≤ 100) (hs : TxS w a m T) (hx : HTx m T) (hu : Uq m T) (hp : PkS w ap np P) :
    Calls Try.prog 27 #[.slice a m cap, .slice ap np capp] w (SomP T m np P w) := by
  obtain ⟨i8, hi8, hx0, hx1, hx2⟩ := info_parts info110
  have HPK := Lib.hid hp
  obtain ⟨wb, ewb⟩ : ∃ wb, wb = (w.alloc (.map #[] 0)).alloc (.cells #[] 110) := ⟨_, rfl⟩
  have hba : Below w.heap.size w (w.alloc (.map #[] 0)) := (Below.refl _ _).alloc (Nat.le_refl _) _
  have hbb : Below (w.alloc (.map #[] 0)).heap.size (w.alloc (.map #[] 0)) wb := by rw [ewb]; exact (Below.refl _ _).alloc (Nat.le_refl _) _
  have HB0 := Lib.hid (hba.trans (hbb.mono hba.size))
  have HM0 : Hid (MapC wb w.heap.size 0 (fun _ _ _ _ => none)) := Lib.hid ((MapC.made w).below hbb)
  have hsz : (w.alloc (.map #[] 0)).heap.size = w.heap.size + 1 := by simp
  have HO0 : Hid (wb.ownsRow w.heap.size 110 5 (.slice (some ⟨w.heap.size + 1, 0, none⟩) 0 0) ([] : List (C4 × Bool)).length (rowG [])) := Lib.hid (by
    have h := World.ownsRow_lit (base := w.heap.size) (e := 110) (size := 5) (w.alloc (.map #[] 0)) #[] 0 hba.size (Nat.zero_le _) rfl
    rw [hsz] at h
    rw [ewb]; exact h)
  have HRC := Lib.hid (rchoices_any a m cap T wb hm (hs.below HB0.out) hx hu)
  have HLE := Lib.hid (chA_le T m hm)
  have HIN := Lib.hid (chA_in T m hm)
  have HSZ : Hid (wb.heap.size = w.heap.size + 2) := Lib.hid (by rw [ewb]; simp)
  clear hs hx hu hp hba hbb hsz
  unfold SomP
  generalize chA T m = l at *
  have hmm := @run_makeMap Try.prog
  go_enter Try.func27, Try.ntmps27
  go_wp2_with fail
  rw [← ewb]
  clear ewb
  refine HRC.out.mono ?_
  rintro e w1 ⟨spc, cpc, rfl, hrow, hb1⟩
  have hle := HLE.out
  have HS1 : Hid (SmS w w.heap.size w.heap.size w1 0 (smF l (pkN P np) 0) (.slice (some ⟨w.heap.size + 1, 0, none⟩) 0 0) (smL l (pkN P np) 0) wb.heap.size (.slice spc l.length cpc) l) := Lib.hid ⟨Nat.le_trans HB0.out.size hb1.size, HB0.out.trans (hb1.mono HB0.out.size), Nat.le_refl _, HM0.out.below hb1, own_keep HO0.out fun g hg => hb1.block g (HO0.out.lt g hg).2, hrow⟩
  clear hrow hb1 HRC HM0 HO0 HB0
  obtain ⟨bm, ebm⟩ : ∃ bm, bm = w.heap.size := ⟨_, rfl⟩
  obtain ⟨B2, eB2⟩ : ∃ B2, B2 = wb.heap.size := ⟨_, rfl⟩
  have HS2 : Hid (SmS w w.heap.size bm w1 0 (smF l (pkN P np) 0) (.slice (some ⟨w.heap.size + 1, 0, none⟩) 0 0) (smL l (pkN P np) 0) B2 (.slice spc l.length cpc) l) := Lib.hid (by rw [ebm, eB2]; exact HS1.out)
  clear HS1 hmm
  obtain ⟨g0, eg0⟩ : ∃ g0, g0 = w.heap.size + 1 := ⟨_, rfl⟩
  rw [← eg0] at HS2 ⊢
  rw [← ebm]
  clear ebm eB2 HSZ eg0
  go_wp2
  go_loopw [7, 8, 9, 10, 16] (fun gv _ _ _ x wr => ∃ (t n : Nat) (sp : Option Addr) (cp : Nat), t ≤ l.length ∧ n ≤ t ∧ x = .int .i64 (t : Int) ∧ gv = .slice sp (smL l (pkN P np) t).length cp ∧ Hid (SmS w w.heap.size bm wr n (smF l (pkN P np) t) (.slice sp (smL l (pkN P np) t).length cp) (smL l (pkN P np) t) B2 (.slice spc l.length cpc) l)) (fun _ _ _ _ x _ => l.length - (intOf x).toNat)
  case atStart => exact ⟨0, 0, _, _, Nat.zero_le _, Nat.le_refl _, rfl, rfl, HS2⟩
  case round =>
    obtain ⟨t, n, sp, cp, ht, hnt, rfl, rfl, HT⟩ := hrel
    clear HS2
    by_cases hlt : t < l.length
    · obtain ⟨g, rfl, hgl, hgB, hci⟩ := own_ch (n := 0) HT.out.ch (by omega)
      obtain ⟨c0, c1, c2, c3⟩ := hci t hlt
      have hlt' : (t : Int) < (l.length : Int) := by omega
      have hic := HIN.out (l.getD t c40) (by rw [List.getD_eq_getElem?_getD, List.getElem?_eq_getElem hlt]; exact List.getElem_mem hlt)
      have HF1 : Hid (pkN P np t < 2 → smF l (pkN P np) (t + 1) = updC (smF l (pkN P np) t) (l.getD t c40).k (l.getD t c40).y (l.getD t c40).a (l.getD t c40).b (pkN P np t == 1)) := Lib.hid fun h => if_pos h
      have HF0 : Hid (¬ pkN P np t < 2 → smF l (pkN P np) (t + 1) = smF l (pkN P np) t) := Lib.hid fun h => if_neg h
      have HL1 : Hid (pkN P np t < 2 → smL l (pkN P np) (t + 1) = smL l (pkN P np) t ++ [(l.getD t c40, pkN P np t == 1)]) := Lib.hid fun h => if_pos h
      have HL0 : Hid (¬ pkN P np t < 2 → smL l (pkN P np) (t + 1) = smL l (pkN P np) t) := Lib.hid fun h => if_neg h
      have HPN : Hid (pkN P np t = if t < np then bits .and .i64 (P t) 3 else 0) := Lib.hid rfl
      have hsl := smL_le l (pkN P np) t
      have HIC := Lib.hid hic
      clear hci hic
      generalize pkN P np t = p at *
      generalize smL l (pkN P np) t = L at *
      generalize smF l (pkN P np) t = F at *
      generalize (l.getD t c40) = cc at *
      obtain ⟨ck, cy, ca, cb⟩ := cc
      dsimp only at c0 c1 c2 c3
      have hbx : Below wr.heap.size wr (wr.alloc (.cells #[.int .i64 ck, .int .i64 cy, .int .i64 ca, .int .i64 cb] 59)) := (Below.refl _ _).alloc (Nat.le_refl _) _
      have HTX := Lib.hid (HT.out.keep hbx)
      have hrow := heap_alloc_new wr (.cells #[.int .i64 ck, .int .i64 cy, .int .i64 ca, .int .i64 cb] 59)
      have HPP : Hid (wr.heap.size < (wr.alloc (.cells #[.int .i64 ck, .int .i64 cy, .int .i64 ca, .int .i64 cb] 59)).heap.size) := Lib.hid (by simp)
      have HROW := Lib.hid hrow
      have HPX : Hid (PkS wr ap np P) := Lib.hid (HPK.out.below HT.out.bel)
      clear hbx hrow
      go_upto_if 24 with (fail)
      go_cut [10] from 21 to 29 (fun pv wc => pv = .int .i64 p ∧ wr.alloc (.cells #[.int .i64 ck, .int .i64 cy, .int .i64 ca, .int .i64 cb] 59) = wc)
      case first =>
        by_cases htn : t < np
        · obtain ⟨b, off, rfl, hbl, hci⟩ := HPX.out (by omega)
          have x0 := hci t htn
          have htn' : (t : Int) < (np : Int) := by omega
          have HPE : Hid (p = bits .and .i64 (P t) 3) := Lib.hid (by rw [HPN.out, if_pos htn])
          clear hci
          go_wp2
          go_meet
          exact ⟨by rw [HPE.out], rfl⟩
        · have htn' : ¬ (t : Int) < (np : Int) := by omega
          have HPE : Hid (p = 0) := Lib.hid (by rw [HPN.out, if_neg htn])
          go_wp2
          go_meet
          exact ⟨by rw [HPE.out], rfl⟩
      case rest =>
        obtain ⟨rfl, rfl⟩ := hcut
        clear HPN HPX
        by_cases hp2 : p < 2
        · have HFX := Lib.hid (HF1.out hp2)
          have HLX := Lib.hid (HL1.out hp2)
          dsimp only at HFX
          obtain ⟨q, hq⟩ : ∃ q, (p == 1) = q := ⟨_, rfl⟩
          rw [hq] at HFX HLX
          obtain ⟨w7, hrun7, hm7, hg7⟩ := HTX.out.map.update ck cy ca cb q (by omega) HIC.out
          unfold cho at hrun7
          have HU := Lib.hid (HTX.out.upd hm7 hg7)
          have hP7 := (hg7.block wr.heap.size HPP.out (fun e => by injection e with e; have := HT.out.map.lt; omega)).trans HROW.out
          have y0 := cell_of_row _ _ 0 _ _ _ hP7
          have y1 := cell_of_row _ _ 1 _ _ _ hP7
          have y2 := cell_of_row _ _ 2 _ _ _ hP7
          have y3 := cell_of_row _ _ 3 _ _ _ hP7
          simp at y0 y1 y2 y3
          have HAL := Lib.hid ((Below.refl w7.heap.size w7).alloc (Nat.le_refl _) (.cells #[.int .i64 ck, .int .i64 cy, .int .i64 ca, .int .i64 cb, .bool q] 110))
          have HR6 := Lib.hid (HU.out.keep HAL.out)
          have HNW : Hid (∀ (W : World) (j : Nat) (u : Value), [Value.int .i64 ck, .int .i64 cy, .int .i64 ca, .int .i64 cb, .bool q][j]? = some u → (W.alloc (.cells #[.int .i64 ck, .int .i64 cy, .int .i64 ca, .int .i64 cb, .bool q] 110)).cell? ((⟨W.heap.size, 0, none⟩ : Addr).add j) = some u) := Lib.hid fun W j u hj => by
            rw [Go.WideShapes.add_plain, cell_of_row _ _ _ _ 110 (0, 0) (heap_alloc_new W _), Nat.zero_add]
            simpa using hj
          clear HF1 HF0 HL1 HL0 hP7 hm7 hg7 HTX HROW HIC
          go_wp2_with (at_builtin; refine wpList_append_lies _ rfl (.tmp 36) (.tmp 41) 63 rfl w.heap.size 110 i8 (.agg #[.int .i64 0, .int .i64 0, .int .i64 0, .int .i64 0, .bool false]) 5 40 Try.underlying63 hi8 hx0 hx1 hx2 rfl (by decide) _ L.length (rowG L) rfl HR6.out.row ⟨w7.heap.size, 0, none⟩ 1 1 [.int .i64 ck, .int .i64 cy, .int .i64 ca, .int .i64 cb, .bool q] rfl rfl (HNW.out _) (by intro u hu; simp at hu; rcases hu with rfl | rfl | rfl | rfl | rfl <;> rfl) (by omega) (by unfold maxLen; omega) (by omega) HR6.out.low _ rfl ?_; intro g8 c8 w8 ho8 hg8 hat8 hl8; have HR8 := Lib.hid (SmS.more (x := (⟨ck, cy, ca, cb⟩, q)) HU.out HAL.out hg8 ho8); clear ho8 hg8 hat8)
          rw [← HLX.out, ← HFX.out] at HR8
          go_roundw
          case rel => exact ⟨t + 1, n + 1, some ⟨g8, 0, none⟩, c8, by omega, by omega, by go_num, by rw [HLX.out, List.length_append]; rfl, HR8⟩
          case measure => simp [intOf]; omega
        · have HFX := Lib.hid (HF0.out hp2)
          have HLX := Lib.hid (HL0.out hp2)
          clear HF1 HF0 HL1 HL0 HROW HIC
          go_wp2_with fail
          go_roundw
          case rel => exact ⟨t + 1, n, sp, cp, by omega, by omega, by go_num, by rw [HLX.out], Lib.hid (by rw [HLX.out, HFX.out]; exact HTX.out)⟩
          case measure => simp [intOf]; omega
    · obtain rfl : l.length = t := by omega
      go_wp2_with fail
      go_ret2
      exact ⟨bm, n, sp, cp, rfl, HT.out.map, HT.out.row, HT.out.bel⟩
end Go.Proofs.Yteobndfkkpfnlaa

namespace Go.Proofs.Yteobndfkkpfnlaa
open Go.ChangeShapes Go.WideShapes Go.ChangeAt Go.RowKit Go.Maps
set_option linter.unusedVariables false

theorem numO_one (o : Option Bool) : (numO o == 1) = (o == some true) := by rcases o with _ | _ | _ <;> rfl
theorem numO_zero (o : Option Bool) : (numO o == 0) = (o == some false) := by rcases o with _ | _ | _ <;> rfl
/-- does one stand ahead of another one, by what was said -/
def ahG (f : Nat → C4 × Bool) (n : Nat) (key a b : Int) : Bool :=
  if a < b then gtS f ⟨2, key, a, b⟩ n == some true else gtS f ⟨2, key, b, a⟩ n == some false

set_option maxRecDepth 100000 in
set_option maxHeartbeats 2000000 in
theorem ahead_any (sp : Option Addr) (n cp : Nat) (f : Nat → C4 × Bool) (key a b : Int) (w : World) (hnb : n ≤ 1000000) (hs : SaS w sp n f) :
    Calls Try.prog 65 #[.slice sp n cp, .int .i64 key, .int .i64 a, .int .i64 b] w (fun e w' => e = .returned (.bool (ahG f n key a b)) ∧ Below w.heap.size w w') := by
  by_cases h : a < b
  · have HG := Lib.hid (get_any sp n cp f ⟨2, key, a, b⟩ w hnb hs)
    dsimp only at HG
    have HE : Hid ((numO (gtS f ⟨2, key, a, b⟩ n) == 1) = ahG f n key a b) := Lib.hid (by rw [numO_one]; unfold ahG; rw [if_pos h])
    clear hs
    generalize numO (gtS f ⟨2, key, a, b⟩ n) = r at *
    go_enter Try.func65, Try.ntmps65
    go_wp2_with fail
    refine HG.out.mono ?_
    rintro e w2 ⟨rfl, hb⟩
    have HB := Lib.hid hb
    clear hb HG
    go_wp2_with fail
    go_ret
    exact ⟨by rw [← HE.out]; rfl, HB.out⟩
  · have HG := Lib.hid (get_any sp n cp f ⟨2, key, b, a⟩ w hnb hs)
    dsimp only at HG
    have HE : Hid ((numO (gtS f ⟨2, key, b, a⟩ n) == 0) = ahG f n key a b) := Lib.hid (by rw [numO_zero]; unfold ahG; rw [if_neg h])
    clear hs
    generalize numO (gtS f ⟨2, key, b, a⟩ n) = r at *
    go_enter Try.func65, Try.ntmps65
    go_wp2_with fail
    refine HG.out.mono ?_
    rintro e w2 ⟨rfl, hb⟩
    have HB := Lib.hid hb
    clear hb HG
    go_wp2_with fail
    go_ret
    exact ⟨by rw [← HE.out]; rfl, HB.out⟩
end Go.Proofs.Yteobndfkkpfnlaa

namespace Go.Proofs.Yteobndfkkpfnlaa
open Go.ChangeShapes Go.WideShapes Go.ChangeAt Go.RowKit Go.Maps
set_option linter.unusedVariables false

/-- who a choice speaks of -/
theorem chA_ix (T : Nat → Tx) (m : Nat) : ∀ c ∈ chA T m, c.k = 1 ∨ (c.k = 2 ∧ ∃ i j : Nat, c.a = (i : Int) ∧ c.b = (j : Int) ∧ i < m ∧ j < m) := by
  intro c hc
  unfold chA at hc
  rcases List.mem_append.1 hc with h | h
  · unfold chC at h
    obtain ⟨i, hi, rfl⟩ := List.mem_map.1 h
    exact .inl rfl
  · unfold prA at h
    obtain ⟨y, hy, h⟩ := List.mem_flatMap.1 h
    unfold prs at h
    obtain ⟨b, hb, h⟩ := List.mem_flatMap.1 h
    unfold prK at h
    obtain ⟨a, ha, rfl⟩ := List.mem_map.1 h
    have h2 := List.mem_range.1 hb
    have h3 := List.mem_range.1 (List.mem_filter.1 ha).1
    exact .inr ⟨rfl, a, b, rfl, rfl, by omega, h2⟩
/-- open, and it counts -/
def okN (T : Nat → Tx) (m n : Nat) (f : Nat → C4 × Bool) (c : C4) : Prop := gtS f c n = none ∧ (c.k = 1 ∨ isG T m n f c.a.toNat = 1 ∧ isG T m n f c.b.toNat = 1)
/-- the first one -/
def NxG (l : List C4) (ok : C4 → Prop) (c : C4) (is : Bool) : Prop :=
  (is = true ∧ ∃ t, t < l.length ∧ c = l.getD t c40 ∧ ok c ∧ ∀ j, j < t → ¬ ok (l.getD j c40)) ∨ (is = false ∧ c = c40 ∧ ∀ j, j < l.length → ¬ ok (l.getD j c40))
def RnP (T : Nat → Tx) (m n : Nat) (f : Nat → C4 × Bool) (w : World) (e : Ending) (w' : World) : Prop :=
  ∃ (c : C4) (is : Bool), e = .returned (.tuple #[.agg #[.int .i64 c.k, .int .i64 c.y, .int .i64 c.a, .int .i64 c.b], .bool is]) ∧ NxG (chA T m) (okN T m n f) c is ∧ Below w.heap.size w w'
theorem setC4 {w : World} {Q t : Nat} {x0 x1 x2 x3 A B C D : Value} (h : w.heap[Q]? = some (.cells #[x0, x1, x2, x3] t (0, 0))) :
    ((((w.setCell ⟨Q, 0, none⟩ A).setCell ⟨Q, 1, none⟩ B).setCell ⟨Q, 2, none⟩ C).setCell ⟨Q, 3, none⟩ D).cell? ⟨Q, 0, none⟩ = some A ∧ ((((w.setCell ⟨Q, 0, none⟩ A).setCell ⟨Q, 1, none⟩ B).setCell ⟨Q, 2, none⟩ C).setCell ⟨Q, 3, none⟩ D).cell? ⟨Q, 1, none⟩ = some B ∧ ((((w.setCell ⟨Q, 0, none⟩ A).setCell ⟨Q, 1, none⟩ B).setCell ⟨Q, 2, none⟩ C).setCell ⟨Q, 3, none⟩ D).cell? ⟨Q, 2, none⟩ = some C ∧ ((((w.setCell ⟨Q, 0, none⟩ A).setCell ⟨Q, 1, none⟩ B).setCell ⟨Q, 2, none⟩ C).setCell ⟨Q, 3, none⟩ D).cell? ⟨Q, 3, none⟩ = some D := by
  have h1 := heap_setCell_same w Q 0 _ t A h
  have h2 := heap_setCell_same _ Q 1 _ t B h1
  have h3 := heap_setCell_same _ Q 2 _ t C h2
  have h4 := heap_setCell_same _ Q 3 _ t D h3
  rw [cell_of_row _ _ _ _ _ _ h4, cell_of_row _ _ _ _ _ _ h4, cell_of_row _ _ _ _ _ _ h4, cell_of_row _ _ _ _ _ _ h4]
  exact ⟨rfl, rfl, rfl, rfl⟩
theorem numO_ge (o : Option Bool) : decide (0 ≤ numO o) = o.isSome := by rcases o with _ | _ | _ <;> rfl

set_option maxRecDepth 100000 in
set_option maxHeartbeats 8000000 in
theorem rnext_any (a : Option Addr) (m cap : Nat) (T : Nat → Tx) (sp : Option Addr) (n cp : Nat) (f : Nat → C4 × Bool) (w : World) (hm : m ≤ 100) (hnb : n ≤ 1000000) (hs : TxS w a m T) (hx : HTx m T) (hu : Uq m T) (hf : SaS w sp n f) :
    Calls Try.prog 31 #[.slice a m cap, .slice sp n cp] w (RnP T m n f w) := by
  have HX := Lib.hid hx
  have HU := Lib.hid hu
  have HLE := Lib.hid (chA_le T m hm)
  have HIX := Lib.hid (chA_ix T m)
  obtain ⟨wa, ewa⟩ : ∃ wa, wa = w.alloc (.cells #[.int .i64 0, .int .i64 0, .int .i64 0, .int .i64 0] 59) := ⟨_, rfl⟩
  have HBA : Hid (Below w.heap.size w wa) := Lib.hid (by rw [ewa]; exact (Below.refl _ _).alloc (Nat.le_refl _) _)
  have HRA : Hid (wa.heap[w.heap.size]? = some (.cells #[.int .i64 0, .int .i64 0, .int .i64 0, .int .i64 0] 59 (0, 0))) := Lib.hid (by rw [ewa]; exact heap_alloc_new w _)
  have HS := Lib.hid (hs.below HBA.out)
  have HF := Lib.hid (hf.below HBA.out)
  have HRC := Lib.hid (rchoices_any a m cap T wa hm (hs.below HBA.out) hx hu)
  clear hs hx hu hf
  unfold RnP
  have HIS : Hid (∀ (i : Nat) (w' : World), i < m → Below wa.heap.size wa w' → Calls Try.prog 29 #[.slice a m cap, .slice sp n cp, .int .i64 (i : Int)] w' (fun e w2 => e = .returned (.int .i64 (isG T m n f i)) ∧ Below w'.heap.size w' w2)) := Lib.hid fun i w' hi hb => ris_any a m cap T sp n cp f i w' hi hnb (HS.out.below hb) HX.out HU.out (HF.out.below hb)
  have HGE : Hid (∀ (c : C4) (w' : World), Below wa.heap.size wa w' → Calls Try.prog 56 #[.slice sp n cp, .agg #[.int .i64 c.k, .int .i64 c.y, .int .i64 c.a, .int .i64 c.b]] w' (fun e w2 => e = .returned (.int .i64 (numO (gtS f c n))) ∧ Below w'.heap.size w' w2)) := Lib.hid fun c w' hb => get_any sp n cp f c w' hnb (HF.out.below hb)
  have HOK : Hid (∀ c, okN T m n f c ↔ gtS f c n = none ∧ (c.k = 1 ∨ isG T m n f c.a.toNat = 1 ∧ isG T m n f c.b.toNat = 1)) := Lib.hid fun c => Iff.rfl
  generalize okN T m n f = ok at *
  generalize isG T m n f = ig at *
  generalize chA T m = l at *
  clear HX HU HS HF
  go_enter Try.func31, Try.ntmps31
  go_wp2_with fail
  rw [← ewa]
  refine HRC.out.mono ?_
  rintro e w1 ⟨spc, cpc, rfl, hrow, hb1⟩
  obtain ⟨R, eR⟩ : ∃ R, R = w.heap.size := ⟨_, rfl⟩
  rw [← eR] at HRA
  rw [← eR]
  have hRl : R < wa.heap.size := hlt_of HRA.out
  have HR1 := Lib.hid ((hb1.block _ hRl).trans HRA.out)
  have HRL := Lib.hid (Nat.lt_of_lt_of_le hRl hb1.size)
  have HB1 := Lib.hid hb1
  have HROW := Lib.hid hrow
  have HER := Lib.hid eR
  clear hrow hb1 HRC ewa eR hRl
  have HBW : Hid (∀ W, Below w1.heap.size w1 W → Below w.heap.size w W) := Lib.hid fun W h => (HBA.out.trans (HB1.out.mono HBA.out.size)).trans (h.mono (Nat.le_trans HBA.out.size HB1.out.size))
  have HBX : Hid (∀ W, Below w1.heap.size w1 W → Below wa.heap.size wa W) := Lib.hid fun W h => HB1.out.trans (h.mono HB1.out.size)
  go_wp2
  go_loopw [7, 11] (fun _ x wr => ∃ t : Nat, t ≤ l.length ∧ x = .int .i64 (t : Int) ∧ Hid (Below w1.heap.size w1 wr ∧ ∀ j, j < t → ¬ ok (l.getD j c40))) (fun _ x _ => l.length - (intOf x).toNat)
  case atStart => exact ⟨0, Nat.zero_le _, rfl, Lib.hid ⟨Below.refl _ _, fun j hj => absurd hj (Nat.not_lt_zero _)⟩⟩
  case round =>
    obtain ⟨t, ht, rfl, HT⟩ := hrel
    have hle := HLE.out
    have HBT := Lib.hid HT.out.1
    have HNT := Lib.hid HT.out.2
    clear HT
    by_cases hlt : t < l.length
    · obtain ⟨g, rfl, hgl, hgB, hci⟩ := own_ch (n := 0) (own_keep HROW.out fun g hg => HBT.out.block g (HROW.out.lt g hg).2) (by omega)
      obtain ⟨c0, c1, c2, c3⟩ := hci t hlt
      have hlt' : (t : Int) < (l.length : Int) := by omega
      have hix := HIX.out (l.getD t c40) (by rw [List.getD_eq_getElem?_getD, List.getElem?_eq_getElem hlt]; exact List.getElem_mem hlt)
      have HYS : Hid (ok (l.getD t c40) → NxG l ok (l.getD t c40) true) := Lib.hid fun h => .inl ⟨rfl, t, hlt, rfl, h, HNT.out⟩
      have HNX : Hid (¬ ok (l.getD t c40) → ∀ j, j < t + 1 → ¬ ok (l.getD j c40)) := Lib.hid fun h j hj => by
        by_cases e : j < t
        · exact HNT.out j e
        · obtain rfl : j = t := by omega
          exact h
      have HOC := Lib.hid (HOK.out (l.getD t c40))
      clear hci HNT HOK
      generalize (l.getD t c40) = cc at *
      have hbx : Below wr.heap.size wr (wr.alloc (.cells #[.int .i64 cc.k, .int .i64 cc.y, .int .i64 cc.a, .int .i64 cc.b] 59)) := (Below.refl _ _).alloc (Nat.le_refl _) _
      have HGC := Lib.hid (HGE.out cc _ (HBX.out _ (HBT.out.trans (hbx.mono HBT.out.size))))
      have hb3 : Below w1.heap.size w1 (wr.alloc (.cells #[.int .i64 cc.k, .int .i64 cc.y, .int .i64 cc.a, .int .i64 cc.b] 59)) := HBT.out.trans (hbx.mono HBT.out.size)
      have HB3 := Lib.hid hb3
      have HPP : Hid ((wr.alloc (.cells #[.int .i64 cc.k, .int .i64 cc.y, .int .i64 cc.a, .int .i64 cc.b] 59)).heap[wr.heap.size]? = some (.cells #[.int .i64 cc.k, .int .i64 cc.y, .int .i64 cc.a, .int .i64 cc.b] 59 (0, 0))) := Lib.hid (heap_alloc_new wr _)
      have HPL : Hid (wr.heap.size < (wr.alloc (.cells #[.int .i64 cc.k, .int .i64 cc.y, .int .i64 cc.a, .int .i64 cc.b] 59)).heap.size) := Lib.hid (by simp)
      obtain ⟨ck, cy, ca, cb⟩ := cc
      dsimp only at c0 c1 c2 c3 HGC hix HPP HPL HB3 HOC
      clear hbx hb3
      obtain ⟨P, eP⟩ : ∃ P, P = wr.heap.size := ⟨_, rfl⟩
      cases hgt : gtS f ⟨ck, cy, ca, cb⟩ n with
      | some bb =>
        rw [hgt] at HGC HOC
        have HZ := Lib.hid (HNX.out (fun h => by have := (HOC.out.1 h).1; cases this))
        have hr : (0 : Int) ≤ numO (some bb) := by cases bb <;> decide
        clear HNX HYS HOC hix eP hgt
        generalize numO (some bb) = r at *
        go_wp2_with fail
        refine HGC.out.mono ?_
        rintro e w3 ⟨rfl, hb⟩
        have HB4 := Lib.hid (HB3.out.trans (hb.mono HB3.out.size))
        clear hb HGC
        go_wp2_with fail
        go_roundw
        case rel => exact ⟨t + 1, by omega, by go_num, Lib.hid ⟨HB4.out, HZ.out⟩⟩
        case measure => simp [intOf]; omega
      | none =>
        rw [hgt] at HGC HOC
        go_wp2_with fail
        refine HGC.out.mono ?_
        rintro e w3 ⟨rfl, hb⟩
        have HB4 := Lib.hid (HB3.out.trans (hb.mono HB3.out.size))
        have hPb := (hb.block _ HPL.out).trans HPP.out
        have hPl := Nat.lt_of_lt_of_le HPL.out hb.size
        rw [← eP] at hPb hPl
        rw [← eP]
        have y0 := cell_of_row _ _ 0 _ _ _ hPb
        have y1 := cell_of_row _ _ 1 _ _ _ hPb
        have y2 := cell_of_row _ _ 2 _ _ _ hPb
        have y3 := cell_of_row _ _ 3 _ _ _ hPb
        simp at y0 y1 y2 y3
        have HPB := Lib.hid hPb
        have hn1 : numO none = -1 := rfl
        rw [hn1]
        clear hb HGC eP hPb hgt hn1
        rcases hix with hk1 | ⟨hk2, i, j, hai, hbj, hi, hj⟩
        · have hk1 : ck = 1 := hk1
          subst hk1
          have HZ := Lib.hid (HYS.out (HOC.out.2 ⟨by first | trivial | rfl, .inl rfl⟩))
          have hRb := (HB4.out.block _ HRL.out).trans HR1.out
          have z0 := cell_of_row _ _ 0 _ _ _ hRb
          have z1 := cell_of_row _ _ 1 _ _ _ hRb
          have z2 := cell_of_row _ _ 2 _ _ _ hRb
          have z3 := cell_of_row _ _ 3 _ _ _ hRb
          simp at z0 z1 z2 z3
          have f0 : w3.frozen? ⟨R, 0, none⟩ = false := by simp [World.frozen?, hRb]
          have f1 : w3.frozen? ⟨R, 1, none⟩ = false := by simp [World.frozen?, hRb]
          have f2 : w3.frozen? ⟨R, 2, none⟩ = false := by simp [World.frozen?, hRb]
          have f3 : w3.frozen? ⟨R, 3, none⟩ = false := by simp [World.frozen?, hRb]
          have HRB := Lib.hid hRb
          clear hRb
          clear HYS HNX HOC
          go_wp2_with fail
          obtain ⟨p0, p1, p2, p3⟩ := setC4 (A := .int .i64 1) (B := .int .i64 cy) (C := .int .i64 ca) (D := .int .i64 cb) HRB.out
          exact bodyPost_ret (v := .tuple #[.agg #[.int .i64 1, .int .i64 cy, .int .i64 ca, .int .i64 cb], .bool true]) (by simp [results, Try.results31, go_sem, p0, p1, p2, p3]) rfl ⟨⟨1, cy, ca, cb⟩, true, rfl, HZ.out, (((HBW.out _ HB4.out).setCell (p := ⟨R, 0, none⟩) (by rw [HER.out]; exact Nat.le_refl _) _).setCell (p := ⟨R, 1, none⟩) (by rw [HER.out]; exact Nat.le_refl _) _ |>.setCell (p := ⟨R, 2, none⟩) (by rw [HER.out]; exact Nat.le_refl _) _).setCell (p := ⟨R, 3, none⟩) (by rw [HER.out]; exact Nat.le_refl _) _⟩
        · have hk2 : ck = 2 := hk2
          have hai : ca = (i : Int) := hai
          have hbj : cb = (j : Int) := hbj
          subst hk2 hai hbj
          have HI1 := Lib.hid (HIS.out i w3 hi (HBX.out _ HB4.out))
          have HOC2 : Hid (ok ⟨2, cy, (i : Int), (j : Int)⟩ ↔ ig i = 1 ∧ ig j = 1) := Lib.hid (by
            rw [HOC.out]
            exact ⟨fun h => h.2.elim (fun h => absurd h (by decide)) id, fun h => ⟨by first | trivial | rfl, .inr h⟩⟩)
          clear HOC
          by_cases hig : ig i = 1
          · have hib : (ig i == 1) = true := by rw [beq_iff_eq]; exact hig
            rw [hig] at HI1 HOC2
            go_wp2_with fail
            refine HI1.out.mono ?_
            rintro e w4 ⟨rfl, hb⟩
            have HB5 := Lib.hid (HB4.out.trans (hb.mono HB4.out.size))
            have hPb := (hb.block _ hPl).trans HPB.out
            have hPl4 := Nat.lt_of_lt_of_le hPl hb.size
            clear y0 y1 y2 y3
            have y0 := cell_of_row _ _ 0 _ _ _ hPb
            have y1 := cell_of_row _ _ 1 _ _ _ hPb
            have y2 := cell_of_row _ _ 2 _ _ _ hPb
            have y3 := cell_of_row _ _ 3 _ _ _ hPb
            simp at y0 y1 y2 y3
            have HPB4 := Lib.hid hPb
            have HI2 := Lib.hid (HIS.out j w4 hj (HBX.out _ HB5.out))
            clear hb HI1 hPb hib hig
            by_cases hjg : ig j = 1
            · have HZ := Lib.hid (HYS.out (HOC2.out.2 ⟨by first | trivial | rfl, hjg⟩))
              rw [hjg] at HI2
              clear HYS HNX HOC2 hjg
              go_wp2_with fail
              refine HI2.out.mono ?_
              rintro e w5 ⟨rfl, hb⟩
              have HB6 := Lib.hid (HB5.out.trans (hb.mono HB5.out.size))
              have hPb := (hb.block _ hPl4).trans HPB4.out
              have hPl5 := Nat.lt_of_lt_of_le hPl4 hb.size
              clear y0 y1 y2 y3
              have y0 := cell_of_row _ _ 0 _ _ _ hPb
              have y1 := cell_of_row _ _ 1 _ _ _ hPb
              have y2 := cell_of_row _ _ 2 _ _ _ hPb
              have y3 := cell_of_row _ _ 3 _ _ _ hPb
              simp at y0 y1 y2 y3
              clear hb HI2 hPb
              have hRb := (HB6.out.block _ HRL.out).trans HR1.out
              have z0 := cell_of_row _ _ 0 _ _ _ hRb
              have z1 := cell_of_row _ _ 1 _ _ _ hRb
              have z2 := cell_of_row _ _ 2 _ _ _ hRb
              have z3 := cell_of_row _ _ 3 _ _ _ hRb
              simp at z0 z1 z2 z3
              have f0 : w5.frozen? ⟨R, 0, none⟩ = false := by simp [World.frozen?, hRb]
              have f1 : w5.frozen? ⟨R, 1, none⟩ = false := by simp [World.frozen?, hRb]
              have f2 : w5.frozen? ⟨R, 2, none⟩ = false := by simp [World.frozen?, hRb]
              have f3 : w5.frozen? ⟨R, 3, none⟩ = false := by simp [World.frozen?, hRb]
              have HRB := Lib.hid hRb
              clear hRb
              go_wp2_with fail
              obtain ⟨p0, p1, p2, p3⟩ := setC4 (A := .int .i64 2) (B := .int .i64 cy) (C := .int .i64 (i : Int)) (D := .int .i64 (j : Int)) HRB.out
              exact bodyPost_ret (v := .tuple #[.agg #[.int .i64 2, .int .i64 cy, .int .i64 (i : Int), .int .i64 (j : Int)], .bool true]) (by simp [results, Try.results31, go_sem, p0, p1, p2, p3]) rfl ⟨⟨2, cy, (i : Int), (j : Int)⟩, true, rfl, HZ.out, (((HBW.out _ HB6.out).setCell (p := ⟨R, 0, none⟩) (by rw [HER.out]; exact Nat.le_refl _) _).setCell (p := ⟨R, 1, none⟩) (by rw [HER.out]; exact Nat.le_refl _) _ |>.setCell (p := ⟨R, 2, none⟩) (by rw [HER.out]; exact Nat.le_refl _) _).setCell (p := ⟨R, 3, none⟩) (by rw [HER.out]; exact Nat.le_refl _) _⟩
            · have hjb : (ig j == 1) = false := beq_eq_false_iff_ne.2 hjg
              have HZ := Lib.hid (HNX.out (fun h => hjg (HOC2.out.1 h).2))
              clear HYS HNX HOC2 hjg
              generalize ig j = r2 at *
              go_wp2_with fail
              refine HI2.out.mono ?_
              rintro e w5 ⟨rfl, hb⟩
              have HB6 := Lib.hid (HB5.out.trans (hb.mono HB5.out.size))
              clear hb HI2
              go_wp2_with fail
              go_roundw
              case rel => exact ⟨t + 1, by omega, by go_num, Lib.hid ⟨HB6.out, HZ.out⟩⟩
              case measure => simp [intOf]; omega
          · have hib : (ig i == 1) = false := beq_eq_false_iff_ne.2 hig
            have HZ := Lib.hid (HNX.out (fun h => hig (HOC2.out.1 h).1))
            clear HYS HNX HOC2 hig
            generalize ig i = r1 at *
            go_wp2_with fail
            refine HI1.out.mono ?_
            rintro e w4 ⟨rfl, hb⟩
            have HB5 := Lib.hid (HB4.out.trans (hb.mono HB4.out.size))
            clear hb HI1
            go_wp2_with fail
            go_roundw
            case rel => exact ⟨t + 1, by omega, by go_num, Lib.hid ⟨HB5.out, HZ.out⟩⟩
            case measure => simp [intOf]; omega
    · obtain rfl : l.length = t := by omega
      have HZ : Hid (NxG l ok ⟨0, 0, 0, 0⟩ false) := Lib.hid (.inr ⟨rfl, rfl, HNT.out⟩)
      have hRb := (HBT.out.block _ HRL.out).trans HR1.out
      have z0 := cell_of_row _ _ 0 _ _ _ hRb
      have z1 := cell_of_row _ _ 1 _ _ _ hRb
      have z2 := cell_of_row _ _ 2 _ _ _ hRb
      have z3 := cell_of_row _ _ 3 _ _ _ hRb
      simp at z0 z1 z2 z3
      have f0 : wr.frozen? ⟨R, 0, none⟩ = false := by simp [World.frozen?, hRb]
      have f1 : wr.frozen? ⟨R, 1, none⟩ = false := by simp [World.frozen?, hRb]
      have f2 : wr.frozen? ⟨R, 2, none⟩ = false := by simp [World.frozen?, hRb]
      have f3 : wr.frozen? ⟨R, 3, none⟩ = false := by simp [World.frozen?, hRb]
      have HRB := Lib.hid hRb
      clear hRb
      go_wp2_with fail
      obtain ⟨p0, p1, p2, p3⟩ := setC4 (A := .int .i64 0) (B := .int .i64 0) (C := .int .i64 0) (D := .int .i64 0) HRB.out
      exact bodyPost_ret (v := .tuple #[.agg #[.int .i64 0, .int .i64 0, .int .i64 0, .int .i64 0], .bool false]) (by simp [results, Try.results31, go_sem, p0, p1, p2, p3]) rfl ⟨⟨0, 0, 0, 0⟩, false, rfl, HZ.out, (((HBW.out _ HBT.out).setCell (p := ⟨R, 0, none⟩) (by rw [HER.out]; exact Nat.le_refl _) _).setCell (p := ⟨R, 1, none⟩) (by rw [HER.out]; exact Nat.le_refl _) _ |>.setCell (p := ⟨R, 2, none⟩) (by rw [HER.out]; exact Nat.le_refl _) _).setCell (p := ⟨R, 3, none⟩) (by rw [HER.out]; exact Nat.le_refl _) _⟩
end Go.Proofs.Yteobndfkkpfnlaa

namespace Go.Proofs.Yteobndfkkpfnlaa
open Go Go.RowKit Go.Shelf
set_option linter.unusedVariables false
variable {n0 : Nat}

theorem roomW (k : Nat) : Fence.wide.room k := fun d h => by cases h
theorem yieldW {m : Nat} (m' : Nat) {P : Program} {l : Nat} {args : Array Value} {W : World} {R : Ending → World → Prop} (h : YieldAt Fence.wide m P l args W R) : YieldAt Fence.wide m' P l args W R := by
  obtain ⟨fn, tmps, assign, body, hy, hR⟩ := h
  exact ⟨fn, tmps, assign, body, hy, hR.1, fun c cs _ => hR.2 c cs (roomW _)⟩

/-- blocks that a round may turn wherever they lie: rows of choices -/
def nbO : Obj → Bool
  | .cells _ t _ => t != 58
  | _ => true
/-- the blocks of X lie as they lay, but rows of choices from n0 on -/
structure KeptX (n0 : Nat) (X : Nat → Prop) (W W' : World) : Prop where
  os : W'.os = W.os
  tape : W'.tape = W.tape
  output : W'.output = W.output
  size : W.heap.size ≤ W'.heap.size
  same : ∀ k o, X k → W.heap[k]? = some o → nbO o = true → W'.heap[k]? = some o
  old : ∀ k, X k → k < n0 → k < W.heap.size → W'.heap[k]? = W.heap[k]?
section
variable {X : Nat → Prop} {A B C : World}
theorem KeptX.refl (X : Nat → Prop) (W : World) : KeptX n0 X W W := ⟨rfl, rfl, rfl, Nat.le_refl _, fun _ _ _ h _ => h, fun _ _ _ _ => rfl⟩
theorem KeptX.trans (h : KeptX n0 X A B) (k : KeptX n0 X B C) : KeptX n0 X A C := ⟨k.os.trans h.os, k.tape.trans h.tape, k.output.trans h.output, Nat.le_trans h.size k.size, fun i o hx h1 h2 => k.same i o hx (h.same i o hx h1 h2) h2, fun i hx h1 h2 => (k.old i hx h1 (Nat.lt_of_lt_of_le h2 h.size)).trans (h.old i hx h1 h2)⟩
theorem KeptX.mono {Y : Nat → Prop} (h : KeptX n0 X A B) (hy : ∀ k, Y k → X k) : KeptX n0 Y A B := ⟨h.os, h.tape, h.output, h.size, fun i o hx => h.same i o (hy i hx), fun i hx => h.old i (hy i hx)⟩
theorem KeptX.of_below {n : Nat} (h : Below n A B) (hX : ∀ k, X k → k < A.heap.size → k < n) : KeptX n0 X A B :=
  ⟨h.os, h.tape, h.output, h.size, fun k o hx ho _ => by
    rw [h.block k (hX k hx (Array.getElem?_eq_some_iff.1 ho).1)]
    exact ho, fun k hx _ h2 => h.block k (hX k hx h2)⟩
theorem KeptX.all (h : Below A.heap.size A B) : KeptX n0 X A B := KeptX.of_below h fun _ _ h => h
theorem KeptX.alloc (W : World) (o : Obj) : KeptX n0 X W (W.alloc o) := KeptX.all ((Below.refl _ _).alloc (Nat.le_refl _) _)
theorem KeptX.grown {row : Option Nat} (hg : A.grownBy B row) (hr : ∀ k, row = some k → X k → n0 ≤ k ∧ ∀ o, A.heap[k]? = some o → nbO o = true → False) : KeptX n0 X A B :=
  ⟨hg.1, hg.2, hg.3, hg.size, fun k o hx ho hn => by
    refine (hg.block k (Array.getElem?_eq_some_iff.1 ho).1 (fun e => ?_)).trans ho
    exact (hr k e.symm hx).2 o ho hn, fun k hx h1 h2 => hg.block k h2 (fun e => by have := (hr k e.symm hx).1; omega)⟩
theorem KeptX.putObj {W : World} {l : Nat} {o o' : Obj} (hl : W.heap[l]? = some o) (hx : ¬ X l) : KeptX n0 X W (W.putObj l o') := KeptX.grown (grownBy_putObj' W l o') fun k e hk => by injection e with e; subst e; exact absurd hk hx
theorem KeptX.setCell {W : World} {b : Nat} {v : Value} (hx : ¬ X b) : KeptX n0 X W (W.setCell ⟨b, 0, none⟩ v) := KeptX.grown (grownBy_setCell' W b v) fun k e hk => by injection e with e; subst e; exact absurd hk hx
theorem KeptX.low (h : KeptX n0 X A B) {p : Addr} {v : Value} (hx : X p.block) (hn : p.block < n0) (hl : p.block < A.heap.size) (hc : A.cell? p = some v) : B.cell? p = some v := by
  unfold World.cell? at hc ⊢
  rw [h.old _ hx hn hl]
  exact hc
theorem KeptX.cell (h : KeptX n0 X A B) {p : Addr} {v : Value} (hx : X p.block) (ht : ∃ cs t l, A.heap[p.block]? = some (.cells cs t l) ∧ t ≠ 58) (hc : A.cell? p = some v) : B.cell? p = some v := by
  obtain ⟨cs, t, l, ho, hn⟩ := ht
  have := h.same p.block _ hx ho (by simp [nbO, hn])
  unfold World.cell? at hc ⊢
  rw [ho] at hc
  rw [this]
  exact hc
end

/-- an iterator's contract -/
def SeqO {α : Type} (n0 : Nat) (P : Program) (g : Nat) (lb : Array Value) (encs : α → Array Value) (X : Nat → Prop) (S Sp : List α → Prop) (Nx : List α → α → Prop) (w : World) : Prop :=
  ∀ (l : Nat) (J Jx : List α → World → Prop) (W : World), KeptX n0 X w W → (∀ k, W.heap.size ≤ k → X k) → OwnFrom W.heap.size J → OwnFrom W.heap.size Jx →
    (∀ m pre x W1, J pre W1 → Nx pre x → YieldAt Fence.wide m P l (encs x) W1 fun e W' =>
      KeptX n0 X W1 W' ∧ ((e = .returned (.bool true) ∧ J (pre ++ [x]) W') ∨ (e = .returned (.bool false) ∧ Jx (pre ++ [x]) W'))) →
    J [] W →
    Calls P g (#[.func (.yield l) #[] #[]] ++ lb) W fun e W' => (∃ v, e = .returned v) ∧ ((∃ xs, S xs ∧ J xs W') ∨ (∃ pre, Sp pre ∧ Jx pre W'))

/-- how a round may be left -/
def postO {α : Type} (n0 : Nat) (Y : Nat → Prop) (I : List α → World → Prop) (Ix : Code → List α → World → Prop) (xs : List α) (W : World) : Exit → Act → World → Prop
  | .normal, _, W' => KeptX n0 Y W W' ∧ I xs W'
  | .ret, _, W' => KeptX n0 Y W W' ∧ Ix .ret xs W'
  | .exit id, _, W' => KeptX n0 Y W W' ∧ Ix (.exit id) xs W'
  | .goto t, _, W' => KeptX n0 Y W W' ∧ Ix (.goto t) xs W'
  | .panic _, _, _ => False
  | .outgrown, _, _ => False

set_option maxHeartbeats 1000000 in
/-- the caller's law -/
theorem range_o {n : Nat} {P : Program} {α : Type} {g : Operand} {ps : Array Tmp} {assign body : Code} {Q : Exit → Act → World → Prop} {a : Act} {w : World}
    {gf : Nat} {lb : Array Value} (hg : a.eval g = .func (.func gf) #[] lb) (eg : ∀ args w, (callFunc gf args).run P w = .ok (.enter gf args) w) (Y : Nat → Prop)
    {encs : α → Array Value} {S Sp : List α → Prop} {Nx : List α → α → Prop} {w0 : World} (hseq : SeqO n0 P gf lb encs (fun k => Y k ∧ k ≠ w.heap.size ∧ k ≠ w.heap.size + 1) S Sp Nx w0)
    (hb0 : KeptX n0 Y w0 w) (hY : ∀ k, w.heap.size ≤ k → Y k) (hps : ∀ x, (encs x).size = ps.size)
    (I : List α → World → Prop) (Ix : Code → List α → World → Prop) (hI : OwnFrom w.heap.size I) (hIx : ∀ c, OwnFrom w.heap.size (Ix c)) (h0 : I [] w)
    (Ax : α → Act → World → Prop) (hAx : ∀ x a', OwnFrom w.heap.size (fun (_ : Unit) W => Ax x a' W))
    (hassign : ∀ (l : Nat) (pre : List α) (x : α) (W : World) (K : Act → World → Prop), I pre W → (∀ a' W', KeptX n0 Y W W' → I pre W' → Ax x a' W' → K a' W') →
      assign.wpIn (Fence.wide.inRound l) (n - 1 - 1) P (Exit.then K (fun _ _ _ => False)) { tmps := (ps.zip (encs x)).foldl (fun t (p, v) => t.setIfInBounds p v) a.tmps, defers := [] } W)
    (hbody : ∀ (l : Nat) (pre : List α) (x : α) (a' : Act) (W : World), w.heap.size ≤ l → (∃ r, W.heap[l]? = some (.loop r)) → I pre W → Ax x a' W → Nx pre x → body.wpIn (Fence.wide.inRound l) (n - 1 - 1) P (postO n0 Y I Ix (pre ++ [x]) W) a' W)
    (hdone : ∀ (D : Nat) (xs : List α) (W : World), w.heap.size ≤ D → S xs → I xs W → W.heap[D]? = some (.deferred (some [])) → Q .normal { a with defers := { target := .collected D, args := #[] } :: a.defers } W)
    (hstop : ∀ (D : Nat) (c : Code) (pre : List α) (W : World), w.heap.size ≤ D → Sp pre → Ix c pre W → W.heap[D]? = some (.deferred (some [])) → c.wpIn Fence.wide n P Q { a with defers := { target := .collected D, args := #[] } :: a.defers } W) :
    (Code.rangeFunc g ps assign body).wpIn Fence.wide n P Q a w := by
  refine wpIn_rangeFunc fun fn hfn => ?_
  show ∃ l mark w₁ d w₁' f args w₂, (Instr.enterLoop fn a.tmps ps assign body none).run P w = _ ∧ _
  obtain ⟨rec, hrec⟩ : ∃ rec : LoopState → Option Code → Loop, rec = fun st pe => { state := st, pending := pe, fn, tmps := a.tmps, params := ps, assign, body, defers := w.heap.size } := ⟨_, rfl⟩
  obtain ⟨D, eD⟩ : ∃ D, D = w.heap.size := ⟨_, rfl⟩
  obtain ⟨L, eL⟩ : ∃ L, L = w.heap.size + 1 := ⟨_, rfl⟩
  obtain ⟨W1, hW1⟩ : ∃ W1, W1 = (w.alloc (.deferred (some []))).alloc (.loop (rec .ready none)) := ⟨_, rfl⟩
  have hz1 : W1.heap.size = w.heap.size + 2 := by rw [hW1]; simp
  have hL1 : W1.heap[L]? = some (.loop (rec .ready none)) := by
    have := World.alloc_heap_new (w.alloc (.deferred (some []))) (.loop (rec .ready none))
    rw [World.size_alloc, ← hW1, ← eL] at this
    exact this
  have hD1 : W1.heap[D]? = some (.deferred (some [])) := by
    rw [hW1, eD]
    exact (Below.heap_alloc _ _ _ (by simp)).trans (World.alloc_heap_new w _)
  have hI1 : I [] W1 := by rw [hW1]; exact hI.alloc _ (hI.alloc _ h0)
  have hk1 : KeptX n0 Y w W1 := by rw [hW1]; exact (KeptX.alloc _ _).trans (KeptX.alloc _ _)
  have subY : ∀ k, (Y k ∧ k ≠ w.heap.size ∧ k ≠ w.heap.size + 1) → Y k := fun k h => h.1
  have nX : ¬ (Y L ∧ L ≠ w.heap.size ∧ L ≠ w.heap.size + 1) := fun h => h.2.2 eL
  -- the records
  have own : ∀ {s : List α} {A B : World} {row : Option Nat} {k : Nat} {o : Obj}, k < W1.heap.size → A.grownBy B row → (∀ r, row = some r → W1.heap.size ≤ r ∧ ∃ o : Obj, A.heap[r]? = some o ∧ o.isCells = false) → A.heap[k]? = some o → B.heap[k]? = some o :=
    fun {s A B row k o} hk hg' hr ho => (hg'.block k (Array.getElem?_eq_some_iff.1 ho).1 (fun e => by have := (hr k e.symm).1; omega)).trans ho
  have wide1 : ∀ {A : World} {row : Option Nat}, (∀ r, row = some r → W1.heap.size ≤ r ∧ ∃ o : Obj, A.heap[r]? = some o ∧ o.isCells = false) → (∀ r, row = some r → w.heap.size ≤ r ∧ ∃ o : Obj, A.heap[r]? = some o ∧ o.isCells = false) :=
    fun hr r e => ⟨by have := (hr r e).1; omega, (hr r e).2⟩
  have hcall := hseq L
    (fun pre W => I pre W ∧ W.heap[L]? = some (.loop (rec .ready none)) ∧ W.heap[D]? = some (.deferred (some [])))
    (fun pre W => ∃ c, Ix c pre W ∧ W.heap[L]? = some (.loop (rec .done (some c))) ∧ W.heap[D]? = some (.deferred (some [])))
    W1 ((hb0.trans hk1).mono subY) (fun k hk => ⟨hY k (by omega), by omega, by omega⟩)
    (fun s A B row hs hg' hr => ⟨hI s A B row hs.1 hg' (wide1 hr), own (s := s) (by omega) hg' hr hs.2.1, own (s := s) (by omega) hg' hr hs.2.2⟩)
    (fun s A B row hs hg' hr => by
      obtain ⟨c, hc, hl, hd⟩ := hs
      exact ⟨c, hIx c s A B row hc hg' (wide1 hr), own (s := s) (by omega) hg' hr hl, own (s := s) (by omega) hg' hr hd⟩)
    (fun m pre x W => ?_) ⟨hI1, hL1, hD1⟩
  rotate_left
  · rintro ⟨hi, hl, hd⟩ hlen
    have hy := run_yield (P := P) (args := encs x) hl (by rw [hrec]; exact hps x)
    rw [hrec] at hy
    refine yieldW m (m := n - 1 - 1) ⟨fn, _, assign, body, hy, roundIn_of_wpIn hfn (hassign _ pre x W _ hi fun a' Wa hka hia hax => ?_)⟩
    have hla := hka.same _ _ (hY L (by omega)) hl rfl
    have hda := hka.same _ _ (hY D (by omega)) hd rfl
    have hlt : L < Wa.heap.size := (Array.getElem?_eq_some_iff.1 hla).1
    refine ⟨_, run_beginRound hla (by rw [hrec]), ?_⟩
    obtain ⟨Wb, hWb⟩ : ∃ Wb, Wb = Wa.putObj L (.loop { rec .ready none with state := .busy }) := ⟨_, rfl⟩
    have hlb : Wb.heap[L]? = some (.loop { rec .ready none with state := .busy }) := by rw [hWb]; exact World.putObj_heap_same hlt
    have hdb : Wb.heap[D]? = some (.deferred (some [])) := by rw [hWb]; exact (World.putObj_heap_other (by omega)).trans hda
    have hkb : KeptX n0 (fun k => Y k ∧ k ≠ w.heap.size ∧ k ≠ w.heap.size + 1) W Wb := by rw [hWb]; exact (hka.mono subY).trans (KeptX.putObj hla nX)
    have hib : I pre Wb := by rw [hWb]; exact hI.putObj _ hia (by omega) hla rfl
    have hab : Ax x a' Wb := by rw [hWb]; exact (hAx x a').putObj (s := ()) _ hax (by omega) hla rfl
    rw [← hWb]
    refine wpIn_mono (hbody L pre x a' Wb (by omega) ⟨_, hlb⟩ hib hab hlen) ?_
    have fin : ∀ (jump : Option Code) (Wc : World), KeptX n0 Y Wb Wc → ∃ We, (Instr.endRound L jump).run P Wc = .ok (.bool jump.isNone) We ∧ We = Wc.putObj L (.loop (rec (if jump.isNone then .ready else .done) jump)) ∧
        Wc.heap[L]? = some (.loop { rec .ready none with state := .busy }) ∧ We.heap[L]? = some (.loop (rec (if jump.isNone then .ready else .done) jump)) ∧ We.heap[D]? = some (.deferred (some [])) ∧
        KeptX n0 (fun k => Y k ∧ k ≠ w.heap.size ∧ k ≠ w.heap.size + 1) W We := fun jump Wc hkc => by
      have hlc := hkc.same _ _ (hY L (by omega)) hlb rfl
      have hdc := hkc.same _ _ (hY D (by omega)) hdb rfl
      refine ⟨_, run_endRound jump hlc, by rw [hrec], hlc, ?_, ?_, ?_⟩
      · rw [World.putObj_heap_same (Array.getElem?_eq_some_iff.1 hlc).1, hrec]
      · exact (World.putObj_heap_other (by omega)).trans hdc
      · exact (hkb.trans (hkc.mono subY)).trans (KeptX.putObj hlc nX)
    rintro e a3 Wc hp
    cases e with
    | normal =>
      obtain ⟨hkc, hic⟩ := hp
      obtain ⟨We, hr, eWe, hlc, hle, hde, hke⟩ := fin none Wc hkc
      refine ⟨_, _, hr, hke, .inl ⟨rfl, ?_, hle, hde⟩⟩
      rw [eWe]
      exact hI.putObj _ hic (by omega) hlc rfl
    | ret =>
      obtain ⟨hkc, hic⟩ := hp
      obtain ⟨We, hr, eWe, hlc, hle, hde, hke⟩ := fin (some .ret) Wc hkc
      refine ⟨_, _, hr, hke, .inr ⟨rfl, _, ?_, hle, hde⟩⟩
      rw [eWe]
      exact (hIx _).putObj _ hic (by omega) hlc rfl
    | exit id =>
      obtain ⟨hkc, hic⟩ := hp
      obtain ⟨We, hr, eWe, hlc, hle, hde, hke⟩ := fin (some (.exit id)) Wc hkc
      refine ⟨_, _, hr, hke, .inr ⟨rfl, _, ?_, hle, hde⟩⟩
      rw [eWe]
      exact (hIx _).putObj _ hic (by omega) hlc rfl
    | goto t =>
      obtain ⟨hkc, hic⟩ := hp
      obtain ⟨We, hr, eWe, hlc, hle, hde, hke⟩ := fin (some (.goto t)) Wc hkc
      refine ⟨_, _, hr, hke, .inr ⟨rfl, _, ?_, hle, hde⟩⟩
      rw [eWe]
      exact (hIx _).putObj _ hic (by omega) hlc rfl
    | panic ch => exact hp.elim
    | outgrown => exact hp.elim
  · refine ⟨w.heap.size + 1, [{ target := .collected w.heap.size, args := #[] }], W1, { target := .fn (.func gf) lb, args := #[.func (.yield (w.heap.size + 1)) #[] #[]] }, W1, gf,
      #[.func (.yield (w.heap.size + 1)) #[] #[]] ++ lb, W1, ?_, ?_, fun _ _ => trivial, ?_, fun h => absurd h (by decide), ?_⟩
    · rw [hW1, hrec]; exact run_enterLoop_outer _ _ _ _ _
    · simp only [resolve, hg]
      simp [go_sem]
    · simp [invoke, go_sem, eg]
    · rw [← eL]
      refine (callsIn_wide.2 hcall).mono ?_
      rintro e W2 ⟨⟨v, rfl⟩, (⟨xs, hS, hi, hl, hd⟩ | ⟨pre, hSp, c, hi, hl, hd⟩)⟩
      · exact ⟨none, _, by have := run_endLoop (P := P) hl (by rw [hrec]; simp); rw [hrec] at this; exact this, by rw [eD] at hd; exact hdone _ xs _ (Nat.le_refl _) hS (hI.putObj _ hi (by omega) hl rfl) ((World.putObj_heap_other (by omega)).trans hd)⟩
      · exact ⟨some c, _, by have := run_endLoop (P := P) hl (by rw [hrec]; simp); rw [hrec] at this; exact this, by rw [eD] at hd; exact hstop _ c pre _ (Nat.le_refl _) hSp ((hIx c).putObj _ hi (by omega) hl rfl) ((World.putObj_heap_other (by omega)).trans hd)⟩
end Go.Proofs.Yteobndfkkpfnlaa

namespace Go.Proofs.Yteobndfkkpfnlaa
open Go.ChangeShapes Go.WideShapes Go.ChangeAt Go.RowKit Go.Maps
set_option linter.unusedVariables false
variable {n0 : Nat}

set_option maxRecDepth 100000 in
theorem zero41 (w : World) : (zeroValue 41).run Try.prog w = .ok (.slice none 0 0) w := by kernel_rfl

/-- block b is a map that has m's lists, at most n -/
def MapG (w : World) (b n : Nat) (m : Int → List Int) : Prop :=
  ∃ D : DataW Unit, w.ownsGroups Try.prog 3 (b + 1) 3 .i64 b n D ∧ ∀ x, Maps.has D (.int .i64 x) = !(m x).isEmpty ∧ D.atKey (.int .i64 x) .nil = cond (m x).isEmpty .nil (.slice (lits .i64 (m x)) [])
section
variable {w w' : World} {b n : Nat} {m : Int → List Int}
theorem MapG.made (w : World) : MapG (w.alloc (.map #[] 0)) w.heap.size 0 (fun _ => []) :=
  ⟨.map [], World.ownsGroups_made w Try.prog 3 3 .i64, fun _ => ⟨rfl, rfl⟩⟩
theorem MapG.isMap (h : MapG w b n m) : ∃ es cl, w.heap[b]? = some (.map es cl) := by
  obtain ⟨D, ⟨es, clock, hb, _⟩, _⟩ := h
  exact ⟨es, clock, hb⟩
theorem MapG.lt (h : MapG w b n m) : b < w.heap.size := by
  obtain ⟨es, cl, hb⟩ := h.isMap
  exact (Array.getElem?_eq_some_iff.1 hb).1
theorem ints_keep {base : Nat} {v : Value} {zs : List Int} (hs : w.heap.size ≤ w'.heap.size) (h : w.ownsInts base 3 .i64 v zs) (hk : ∀ k o, base ≤ k → w.heap[k]? = some o → nbO o = true → w'.heap[k]? = some o) : w'.ownsInts base 3 .i64 v zs := by
  refine ⟨own_keep h.1 fun g hg => ?_, h.2⟩
  obtain ⟨cur, e⟩ := own_cells h.1 hg
  rw [e]
  exact hk g _ (h.1.lt g hg).1 e rfl
/-- what turns no list's row and not the map leaves the map -/
theorem MapG.keep (h : MapG w b n m) (hs : w.heap.size ≤ w'.heap.size) (hk : ∀ k o, b ≤ k → w.heap[k]? = some o → nbO o = true → w'.heap[k]? = some o) : MapG w' b n m := by
  obtain ⟨D, ⟨es, clock, hb, F, hs', hD, hbb, hlen, hap⟩, hv⟩ := h
  have hk' : ∀ k o, b + 1 ≤ k → w.heap[k]? = some o → nbO o = true → w'.heap[k]? = some o := fun k o h1 => hk k o (by omega)
  have hs2 : ∀ x ∈ es.toList, ∀ z, rowElem (H := Unit) w (b + 1) 3 .i64 x.val = some z → rowElem w' (b + 1) 3 .i64 x.val = some z := by
    intro x _ z hz
    obtain ⟨ys, ho, rfl⟩ := rowElem_inv hz
    exact rowElem_mk (ints_keep hs ho hk')
  obtain ⟨F2, hmap2, _⟩ := F.stay hs2
  refine ⟨D, ⟨es, clock, hk b _ (Nat.le_refl _) hb rfl, F2, hs', ?_, hbb, ?_, hap⟩, hv⟩
  · rw [hmap2]; exact hD
  · intro x hx zs ho
    obtain ⟨y, hy⟩ := F.reads x hx
    obtain ⟨z, hz, _⟩ := Go.WideElems.rd_val hy
    obtain ⟨ys, ho', _⟩ := rowElem_inv hz
    rw [ho.unique (ints_keep hs ho' hk')]
    exact hlen x hx ys ho'
theorem MapG.below (h : MapG w b n m) (hb : Below w.heap.size w w') : MapG w' b n m :=
  h.keep hb.size fun k o _ ho _ => (hb.block k (Array.getElem?_eq_some_iff.1 ho).1).trans ho
theorem MapG.keptX {X : Nat → Prop} (h : MapG w b n m) (hk : KeptX n0 X w w') (hX : ∀ k, b ≤ k → X k) : MapG w' b n m :=
  h.keep hk.size fun k o hb ho hn => hk.same k o (hX k hb) ho hn
/-- the way back, of the key x -/
def BackG (w : World) (b n : Nat) (m : Int → List Int) (x : Int) (v : Value) : Prop :=
  ∀ (w1 : World) (v' : Value) (zs' : List Int), w.grownBy w1 v.ownBlock → w1.ownsInts (b + 1) 3 .i64 v' zs' → zs'.length ≤ n + 1 → zs' ≠ [] → (v'.ownBlock = v.ownBlock ∨ ∃ g, v'.ownBlock = some g ∧ w.heap.size ≤ g) →
    ∃ w2, (Instr.mapUpdate 82 (.map (some b)) (.int .i64 x) v').run Try.prog w1 = .ok () w2 ∧ MapG w2 b (n + 1) (fun k => if k = x then zs' else m k) ∧ w1.grownBy w2 (some b)
theorem lits_inj {a c : List Int} (h : lits .i64 a = (lits .i64 c : List (DataW Unit))) : a = c := by
  unfold lits at h
  exact (List.map_inj_right (fun x y hxy => by simpa using hxy)).1 h
set_option maxRecDepth 100000 in
theorem MapG.look (h : MapG w b n m) (hn : n < 1000000) (x : Int) (hx : In64 x) :
    ∃ v, (Instr.lookup 82 (.map (some b)) (.int .i64 x) false).run Try.prog w = .ok v w ∧ w.ownsInts (b + 1) 3 .i64 v (m x) ∧ (m x).length ≤ n ∧ BackG w b n m x v := by
  obtain ⟨D, ho, hv⟩ := h
  have hkey := keyOf_int_mk (q := .i64) Try.underlying3 (wf64 hx)
  obtain ⟨v, zs, hrun, hat, hoi, hzl, hback⟩ := ho.at law3 Try.underlying82 (zero41 w) (by unfold maxLen; omega) hkey
  have hz : m x = zs := by
    rw [(hv x).2] at hat
    cases h0 : m x with
    | nil =>
      rw [h0] at hat
      rcases hoi.datum (H := Unit) with ⟨_, e⟩ | e
      · rw [e]
      · rw [e] at hat; cases hat
    | cons z l =>
      rw [h0] at hat
      rcases hoi.datum (H := Unit) with ⟨e, _⟩ | e
      · rw [e] at hat; cases hat
      · rw [e] at hat
        injection hat with hat
        exact lits_inj hat
  refine ⟨v, hrun, by rw [hz]; exact hoi, by rw [hz]; exact hzl, ?_⟩
  intro w1 v' zs' hg1 ho1 hl1 hne hloc
  obtain ⟨w2, hrun2, ho2, hg2⟩ := hback w1 v' zs' hg1 ho1 hl1 hloc
  refine ⟨w2, hrun2, ⟨_, ho2, fun k => ?_⟩, hg2⟩
  obtain ⟨es0, cl0, hb0, _, _, hD0, _⟩ := ho
  have hism : ∃ es, D = .map es := ⟨_, hD0⟩
  by_cases he : k = x
  · subst he
    dsimp only
    rw [if_pos rfl]
    refine ⟨?_, ?_⟩
    · rw [has_put_same hism (law3.key hkey)]
      cases zs' with
      | nil => exact absurd rfl hne
      | cons a l => rfl
    · rw [atKey_put_same hism (law3.key hkey), ho1.datum_pos hne]
      cases zs' with
      | nil => exact absurd rfl hne
      | cons a l => rfl
  · dsimp only
    rw [if_neg he]
    have hne' : Lit.int .i64 k ≠ Lit.int .i64 x := fun e => he (by injection e)
    rw [has_put_other hne', atKey_put_other hne']
    exact hv k
set_option maxRecDepth 100000 in
/-- a look in a later world: the row is one of the elder world's -/
theorem MapG.look2 (h : MapG w b n m) (hs : w.heap.size ≤ w'.heap.size) (hk : ∀ k o, b ≤ k → w.heap[k]? = some o → nbO o = true → w'.heap[k]? = some o) (x : Int) (hx : In64 x) :
    ∃ v, (Instr.lookup 82 (.map (some b)) (.int .i64 x) false).run Try.prog w' = .ok v w' ∧ w.ownsInts (b + 1) 3 .i64 v (m x) := by
  obtain ⟨D, ⟨es, clock, hb, F, hs', hD, hbb, hlen, hap⟩, hv⟩ := h
  have hk' : ∀ k o, b + 1 ≤ k → w.heap[k]? = some o → nbO o = true → w'.heap[k]? = some o := fun k o h1 => hk k o (by omega)
  have hs2 : ∀ x ∈ es.toList, ∀ z, rowElem (H := Unit) w (b + 1) 3 .i64 x.val = some z → rowElem w' (b + 1) 3 .i64 x.val = some z := by
    intro x _ z hz
    obtain ⟨ys, ho, rfl⟩ := rowElem_inv hz
    exact rowElem_mk (ints_keep hs ho hk')
  obtain ⟨F2, hmap2, _⟩ := F.stay hs2
  have hkey := keyOf_int_mk (q := .i64) Try.underlying3 (wf64 hx)
  have hvx := (hv x).2
  rcases Maps.fit_look false law3 Try.underlying82 (zero41 w') (hk b _ (Nat.le_refl _) hb rfl) F2 hkey with ⟨hrun, _, hat⟩ | ⟨e0, y, hm0, h3, hrun, hR, hat, _⟩
  · refine ⟨_, hrun, ?_⟩
    have e := hat .nil
    rw [hmap2, ← hD, hvx] at e
    cases h0 : m x with
    | nil => exact World.ownsInts_nil _ _ _ _
    | cons z l => rw [h0] at e; cases e
  · obtain ⟨zs', ho', rfl⟩ := rowElem_inv hR
    obtain ⟨y, hy⟩ := F.reads e0 hm0
    obtain ⟨z, hz, _⟩ := Go.WideElems.rd_val hy
    obtain ⟨zs, ho, _⟩ := rowElem_inv hz
    have ezz := ho'.unique (ints_keep hs ho hk')
    subst ezz
    refine ⟨_, hrun, ?_⟩
    have e := hat .nil
    rw [hmap2, ← hD, hvx] at e
    have : m x = zs' := by
      cases h0 : m x with
      | nil =>
        rw [h0] at e
        rcases ho.datum (H := Unit) with ⟨_, e1⟩ | e1
        · rw [e1]
        · rw [e1] at e; cases e
      | cons z l =>
        rw [h0] at e
        rcases ho.datum (H := Unit) with ⟨e1, _⟩ | e1
        · rw [e1] at e; cases e
        · rw [e1] at e
          injection e with e
          exact lits_inj e
    rw [this]
    exact ho
end
end Go.Proofs.Yteobndfkkpfnlaa

namespace Go.Proofs.Yteobndfkkpfnlaa
open Go.ChangeShapes Go.WideShapes Go.ChangeAt Go.RowKit Go.Maps Go.Shelf
set_option linter.unusedVariables false
variable {n0 : Nat}

/-- the keys, rising -/
def kyN (m : Int → List Int) : List Nat := (List.range 16).filter fun y => !(m (y : Int)).isEmpty
def kyF (m : Int → List Int) : List Int := (kyN m).map fun (y : Nat) => (y : Int)
theorem kyF_le (m : Int → List Int) : (kyF m).length ≤ 16 := by
  unfold kyF kyN
  rw [List.length_map]
  exact Nat.le_trans (List.length_filter_le _ _) (by simp)
theorem kyF_mem {m : Int → List Int} (h16 : ∀ x, m x ≠ [] → 0 ≤ x ∧ x ≤ 15) (x : Int) : x ∈ kyF m ↔ (!(m x).isEmpty) = true := by
  unfold kyF kyN
  rw [List.mem_map]
  constructor
  · rintro ⟨y, hy, rfl⟩
    exact (List.mem_filter.1 hy).2
  · intro h
    have h0 : m x ≠ [] := fun e => by rw [e] at h; cases h
    have := h16 x h0
    exact ⟨x.toNat, List.mem_filter.2 ⟨List.mem_range.2 (by omega), by rw [show ((x.toNat : Nat) : Int) = x by omega]; exact h⟩, by omega⟩
theorem kyF_lt (m : Int → List Int) : (kyF m).Pairwise (· < ·) := by
  unfold kyF kyN
  rw [List.pairwise_map]
  exact (List.Pairwise.filter _ List.pairwise_lt_range).imp (fun h => by omega)
theorem sortsA (m : Nat) : AnyZI.SortsIn Try.prog Try.sortedA_ren Fence.wide m :=
  ⟨fun blk off cap ss W hH hblk hsz => callsIn_wide.2 (AnyM.slices_Sort_int Try.sortA blk off cap ss W hH hblk hsz),
   fun p cap W => callsIn_wide.2 (AnyM.slices_Sort_int_none Try.sortA p cap W)⟩

theorem keys_call (n : Nat) (mb : Option Nat) (W : World) : CallsIn Fence.wide n Try.prog 76 #[.map mb] W fun e w' => e = .returned (.func (.func 87) #[] #[.pointer (some ⟨W.heap.size, 0, none⟩)]) ∧ w' = W.alloc (.cells #[.map mb] 82) :=
  AnyZI.keys_in Try.keysA Fence.wide n trivial rfl mb W

set_option maxHeartbeats 1000000 in
theorem keys_sorted {w : World} {b q : Nat} {m : Int → List Int} (h : MapG w b q m) (h16 : ∀ x, m x ≠ [] → 0 ≤ x ∧ x ≤ 15) :
    Calls Try.prog 75 #[.func (.func 87) #[] #[.pointer (some ⟨w.heap.size, 0, none⟩)]] (w.alloc (.cells #[.map (some b)] 82)) fun e w' => ∃ sp cp, e = .returned (.slice sp (kyF m).length cp) ∧ w'.ownsRow (w.heap.size + 1) 3 1 (.slice sp (kyF m).length cp) (kyF m).length ((kyF m).map (Value.int .i64)) ∧ Below (w.heap.size + 1) (w.alloc (.cells #[.map (some b)] 82)) w' := by
  obtain ⟨D, ⟨es, clock, hb, F, hs, hD, hbb, hlen, hap⟩, hv⟩ := h
  have hbl : b < w.heap.size := (Array.getElem?_eq_some_iff.1 hb).1
  have hown : w.ownsMap Try.prog 3 (rowElem w (b + 1) 3 .i64) b q D := ⟨es, clock, hb, F, hs, hD⟩
  have hperm : (kyF m).Perm (intKeys D) := CollectedI.perm (left := fun _ => false) ⟨(kyF_lt m).imp (fun hl => by omega), fun x => by rw [kyF_mem h16, (hv x).1]; simp⟩ hown law3 Try.underlying3 (fun _ => rfl)
  have hsz : Maps.size D ≤ 16 := by
    have h1 := hperm.length_eq
    have h2 : (intKeys D).length = Maps.size D := by
      rw [hD]
      exact List.length_map _
    have := kyF_le m
    omega
  have hseq : SeqGives Fence.wide 2 Try.prog 87 #[.pointer (some ⟨w.heap.size, 0, none⟩)] encZ (fun ss => ss.Perm (intKeys D)) (Maps.size D) (w.alloc (.cells #[.map (some b)] 82)) :=
    AnyZI.keys_gives (ρ := Try.keysA_ren) { Try.keysA with } Fence.wide _ trivial rfl (by omega) w.heap.size b q D _ (by simp) (by simp) ⟨es, clock, (Below.heap_alloc _ _ b hbl).trans hb, F, hs, hD⟩
  have cS := AnyZI.sorted_in Try.sortedA Fence.wide 5 trivial trivial trivial trivial rfl (by omega) (sortsA _) (enters_of Try.func86 (by kernel_rfl) rfl) 87 #[.pointer (some ⟨w.heap.size, 0, none⟩)] trivial (enters_of Try.func87 (by kernel_rfl) rfl) _ _ (by unfold maxLen; omega) (by omega) _ hseq
  change CallsIn _ _ Try.prog 75 _ _ _ at cS
  refine (callsIn_wide.1 cS).mono ?_
  rintro e w' ⟨v, ss, rfl, hS, hrow, hnil, hbw⟩
  have e1 : ss.mergeSort (fun x y => decide (x ≤ y)) = kyF m := by
    rw [mergeSort_of_perm_i (hS.trans hperm.symm)]
    exact List.mergeSort_of_pairwise ((kyF_lt m).imp fun hl => by simp; omega)
  have e2 : ss.length = (kyF m).length := (hS.trans hperm.symm).length_eq
  have hrow' : w'.ownsRow (w.heap.size + 1) 3 1 v (kyF m).length ((kyF m).map (Value.int .i64)) := by
    have h := hrow
    rw [e1, e2, World.size_alloc] at h
    exact h
  obtain ⟨sp, cp, rfl⟩ := own_form' hrow'
  exact ⟨sp, cp, rfl, hrow', by simpa using hbw⟩

/-- the marks of loops over functions that are done -/
def marksD (Ds : List Nat) : List Deferred := Ds.map fun D => { target := .collected D, args := #[] }
def OpenD (B : Nat) (W : World) (Ds : List Nat) : Prop := Ds.Nodup ∧ ∀ D, D ∈ Ds → B ≤ D ∧ W.heap[D]? = some (.deferred (some []))
theorem OpenD.keep {B : Nat} {X : Nat → Prop} {W W' : World} {Ds : List Nat} (h : OpenD B W Ds) (hk : KeptX n0 X W W') (hX : ∀ k, B ≤ k → X k) : OpenD B W' Ds :=
  ⟨h.1, fun D hD => ⟨(h.2 D hD).1, hk.same D _ (hX D (h.2 D hD).1) (h.2 D hD).2 rfl⟩⟩
theorem OpenD.cons {B D : Nat} {W : World} {Ds : List Nat} (h : OpenD B W Ds) (hB : B ≤ D) (ho : W.heap[D]? = some (.deferred (some []))) (hn : D ∉ Ds) : OpenD B W (D :: Ds) :=
  ⟨List.nodup_cons.2 ⟨hn, h.1⟩, fun k hk => by
    rcases List.mem_cons.1 hk with rfl | hk
    · exact ⟨hB, ho⟩
    · exact h.2 k hk⟩
theorem leaves_all {n : Nat} {P : Program} {fn : Func} {tmps : Array Value} {R : Ending → World → Prop} {B : Nat} (Q : World → Prop) (hQ : ∀ W D, Q W → B ≤ D → W.heap[D]? = some (.deferred (some [])) → Q (W.putObj D (.deferred none)))
    (hR : ∀ W, Q W → LeavesInM Fence.wide n P fn tmps R [] .returning W) : ∀ (Ds : List Nat) (W : World), OpenD B W Ds → Q W → LeavesInM Fence.wide n P fn tmps R (marksD Ds) .returning W
  | [], W, _, hq => hR W hq
  | D :: Ds, W, ho, hq => by
    obtain ⟨hB, hD⟩ := ho.2 D (List.mem_cons_self ..)
    refine ⟨by simp, .inl ⟨D, _, rfl, run_takeDeferred hD, leaves_all Q hQ hR Ds _ ⟨(List.nodup_cons.1 ho.1).2, fun k hk => ?_⟩ (hQ W D hq hB hD)⟩⟩
    obtain ⟨h1, h2⟩ := ho.2 k (List.mem_cons_of_mem _ hk)
    refine ⟨h1, (World.putObj_heap_other (fun e => ?_)).trans h2⟩
    subst e
    exact (List.nodup_cons.1 ho.1).1 hk
theorem ownMono {β : Type} {B B' : Nat} {I : β → World → Prop} (h : OwnFrom B I) (hB : B ≤ B') : OwnFrom B' I := fun s A C row hs hg hr => h s A C row hs hg fun r e => ⟨Nat.le_trans hB (hr r e).1, (hr r e).2⟩
theorem ownCalm {β : Type} {B : Nat} {I : β → World → Prop} (h : OwnFrom B I) {s : β} {A C : World} (hs : I s A) (hb : Below A.heap.size A C) : I s C :=
  h s A C none hs ⟨hb.os, hb.tape, hb.output, hb.size, fun k hk _ => hb.block k hk⟩ (fun r e => by cases e)
theorem ownFrom_kept {β : Type} {X : Nat → Prop} {W : World} {B : Nat} (hB : W.heap.size ≤ B) : OwnFrom B (fun (_ : β) W' => KeptX n0 X W W') := fun s A C row hs hg hr =>
  ⟨hg.1.trans hs.os, hg.2.trans hs.tape, hg.3.trans hs.output, Nat.le_trans hs.size hg.size, fun k o hx ho hn => by
    have h1 := hs.same k o hx ho hn
    refine (hg.block k (Array.getElem?_eq_some_iff.1 h1).1 (fun e => ?_)).trans h1
    have h2 := (hr k e.symm).1
    have h3 := (Array.getElem?_eq_some_iff.1 ho).1
    omega, fun k hx h1 h2 => (hg.block k (Nat.lt_of_lt_of_le h2 hs.size) (fun e => by have h3 := (hr k e.symm).1; omega)).trans (hs.old k hx h1 h2)⟩
end Go.Proofs.Yteobndfkkpfnlaa

namespace Go.Proofs.Yteobndfkkpfnlaa
open Go.RowKit Go.Shelf
set_option linter.unusedVariables false
variable {n0 : Nat}

attribute [local go_sem] Oper.semAt_some

/-- a choice as a value -/
def encC (c : C4) : Array Value := #[.agg #[.int .i64 c.k, .int .i64 c.y, .int .i64 c.a, .int .i64 c.b]]
/-- an iterator over a list of choices -/
def SeqL (n0 : Nat) (g : Nat) (lb : Array Value) (X : Nat → Prop) (tot : List C4) (w : World) : Prop := SeqO n0 Try.prog g lb encC X (fun ys => ys = tot) (fun pre => pre <+: tot) (fun pre x => pre ++ [x] <+: tot) w

/-- b with all ahead of it -/
def rwP (y : Int) (l : List Int) (b : Int) : List C4 := l.map fun a => ⟨2, y, a, b⟩
/-- the first n ones with all ahead of them -/
def prP (y : Int) (l : List Int) (n : Nat) : List C4 := (List.range n).flatMap fun i => rwP y (l.take i) (l.getD i 0)
theorem prP_succ (y : Int) (l : List Int) (n : Nat) : prP y l (n + 1) = prP y l n ++ rwP y (l.take n) (l.getD n 0) := by unfold prP; rw [List.range_succ, List.flatMap_append]; simp
theorem prP_pre (y : Int) (l : List Int) {n m : Nat} (h : n ≤ m) : prP y l n <+: prP y l m := by
  induction m with
  | zero => obtain rfl : n = 0 := by omega
            exact List.prefix_refl _
  | succ m ih =>
    rcases Nat.lt_or_ge n (m + 1) with h1 | h1
    · exact (ih (by omega)).trans (by rw [prP_succ]; exact List.prefix_append _ _)
    · obtain rfl : n = m + 1 := by omega
      exact List.prefix_refl _
theorem take_snoc {l : List Int} {k : Nat} (h : k < l.length) : l.take (k + 1) = l.take k ++ [l.getD k 0] := by
  rw [List.take_add_one, List.getElem?_eq_getElem h, List.getD_eq_getElem?_getD, List.getElem?_eq_getElem h]; rfl
theorem rwP_snoc {y : Int} {l : List Int} {b : Int} {k : Nat} (h : k < l.length) : rwP y (l.take (k + 1)) b = rwP y (l.take k) b ++ [⟨2, y, l.getD k 0, b⟩] := by
  unfold rwP; rw [take_snoc h, List.map_append]; rfl
theorem rwP_pre {y : Int} {l : List Int} {b : Int} {k n : Nat} (h : k ≤ n) : rwP y (l.take k) b <+: rwP y (l.take n) b := by
  unfold rwP
  exact List.IsPrefix.map _ (List.take_prefix_take_left h)
theorem at_pre {y : Int} {l : List Int} {t k : Nat} (ht : t < l.length) (hk : k ≤ t) : prP y l t ++ rwP y (l.take k) (l.getD t 0) <+: prP y l l.length := by
  refine List.IsPrefix.trans ?_ (prP_pre y l (show t + 1 ≤ l.length by omega))
  rw [prP_succ, List.prefix_append_right_inj]
  exact rwP_pre hk
theorem pre_lt {tot pre : List C4} {x : C4} (h : pre ++ [x] <+: tot) : pre.length < tot.length := by
  have := h.length_le
  simp at this
  omega

/-- numbers in a slice, as they are read -/
def IntsS (X : Nat → Prop) (w : World) (sp : Option Addr) (l : List Int) : Prop :=
  0 < l.length → ∃ g cs ty, sp = some ⟨g, 0, none⟩ ∧ X g ∧ w.heap[g]? = some (.cells cs 3 ty) ∧ ∀ i, i < l.length → w.cell? ⟨g, i, none⟩ = some (.int .i64 (l.getD i 0))
theorem IntsS.keep {X : Nat → Prop} {w w' : World} {sp : Option Addr} {l : List Int} (h : IntsS X w sp l) (hk : KeptX n0 X w w') : IntsS X w' sp l := by
  intro h0
  obtain ⟨g, cs, ty, e, hx, ho, hc⟩ := h h0
  exact ⟨g, cs, ty, e, hx, hk.same g _ hx ho rfl, fun i hi => hk.cell (p := ⟨g, i, none⟩) hx ⟨cs, 3, ty, ho, by decide⟩ (hc i hi)⟩
/-- a box -/
def BoxX (X : Nat → Prop) (w : World) (b : Nat) (t : TypeId) (v : Value) : Prop := X b ∧ t ≠ 58 ∧ ∃ ty, w.heap[b]? = some (.cells #[v] t ty)
theorem BoxX.keep {X : Nat → Prop} {w w' : World} {b : Nat} {t : TypeId} {v : Value} (h : BoxX X w b t v) (hk : KeptX n0 X w w') : BoxX X w' b t v := by
  obtain ⟨hx, ht, ty, ho⟩ := h
  exact ⟨hx, ht, ty, hk.same b _ hx ho (by simp [nbO, ht])⟩
theorem BoxX.sub {X Y : Nat → Prop} {w : World} {b : Nat} {t : TypeId} {v : Value} (h : BoxX X w b t v) (hy : ∀ k, k < w.heap.size → X k → Y k) : BoxX Y w b t v := by
  obtain ⟨hx, ht, ty, ho⟩ := h
  exact ⟨hy b (Array.getElem?_eq_some_iff.1 ho).1 hx, ht, ty, ho⟩
theorem IntsS.sub {X Y : Nat → Prop} {w : World} {sp : Option Addr} {l : List Int} (h : IntsS X w sp l) (hy : ∀ k, k < w.heap.size → X k → Y k) : IntsS Y w sp l := by
  intro h0
  obtain ⟨g, cs, ty, e, hx, ho, hc⟩ := h h0
  exact ⟨g, cs, ty, e, hy g (Array.getElem?_eq_some_iff.1 ho).1 hx, ho, hc⟩
theorem BoxX.cell {X : Nat → Prop} {w : World} {b : Nat} {t : TypeId} {v : Value} (h : BoxX X w b t v) : w.cell? ⟨b, 0, none⟩ = some v := by
  obtain ⟨_, _, ty, ho⟩ := h
  simp [World.cell?, ho]

set_option maxRecDepth 100000 in
set_option maxHeartbeats 4000000 in
theorem pairs_stops (X : Nat → Prop) (Bs Bk : Nat) (y : Int) (sp : Option Addr) (cap : Nat) (l : List Int) (w : World) (hcap : l.length ≤ cap) (hcm : l.length ≤ 1000) (hs : BoxX X w Bs 41 (.slice sp l.length cap)) (hk : BoxX X w Bk 3 (.int .i64 y)) (hl : IntsS X w sp l) :
    SeqL n0 78 #[.pointer (some ⟨Bs, 0, none⟩), .pointer (some ⟨Bk, 0, none⟩)] X (prP y l l.length) w := fun lo J Jx W hW hX hJ hJx hY h0 => by
  have HS := Lib.hid (hs.keep hW)
  have HK := Lib.hid (hk.keep hW)
  have HL := Lib.hid (hl.keep hW)
  have HJ := Lib.hid hJ
  have hcs := HS.out.cell
  have H0 := Lib.hid h0
  clear hs hk hl hW hJ hJx h0
  refine (callsIn_wide (n := 5)).1 ?_
  refine callsIn_of_wp Try.func78 rfl trivial ?_ rfl
  simp only [Try.ntmps78, List.size_toArray, List.length_cons, List.length_nil, Nat.reduceAdd, Nat.reduceSub, Array.replicate_succ, Array.replicate_zero, List.push_toArray, List.append_toArray, List.nil_append, List.cons_append]
  gi_wp2
  clear hcs
  gi_loopw [4, 5, 7, 10] (fun _ _ _ x wr => ∃ t : Nat, t ≤ l.length ∧ x = .int .i64 (t : Int) ∧ Hid (J (prP y l t) wr ∧ KeptX n0 X W wr)) (fun _ _ _ x _ => l.length - (intOf x).toNat)
  case atStart => exact ⟨0, Nat.zero_le _, rfl, Lib.hid ⟨H0.out, KeptX.refl _ _⟩⟩
  case round =>
    obtain ⟨t, ht, rfl, HT⟩ := hrel
    by_cases hlt : t < l.length
    · have hcs := (HS.out.keep HT.out.2).cell
      obtain ⟨g, cs, ty, rfl, hx, ho, hc⟩ := (HL.out.keep HT.out.2) (by omega)
      obtain ⟨b, eb⟩ : ∃ b, b = l.getD t 0 := ⟨_, rfl⟩
      have x0 := hc t hlt
      rw [← eb] at x0
      have hlt' : (t : Int) < (l.length : Int) := by omega
      have htc : (t : Int) ≤ (cap : Int) := by omega
      clear hc ho
      have HEB := Lib.hid eb
      clear eb
      gi_wp2
      gi_loopw [7, 19] (fun _ x wr => ∃ k : Nat, k ≤ t ∧ x = .int .i64 (k : Int) ∧ Hid (J (prP y l t ++ rwP y (l.take k) b) wr ∧ KeptX n0 X W wr)) (fun _ x _ => t - (intOf x).toNat)
      case atStart => exact ⟨0, Nat.zero_le _, rfl, Lib.hid ⟨by simpa [rwP] using HT.out.1, HT.out.2⟩⟩
      case round =>
        obtain ⟨k, hk, rfl, HR⟩ := hrel
        by_cases hkt : k < t
        · have hck := (HK.out.keep HR.out.2).cell
          obtain ⟨g', cs', ty', e, _, _, hc⟩ := (HL.out.keep HR.out.2) (by omega)
          injection e with e
          injection e with e
          subst e
          obtain ⟨a, ea⟩ : ∃ a, a = l.getD k 0 := ⟨_, rfl⟩
          have x1 := hc k (by omega)
          rw [← ea] at x1
          have hkt' : (k : Int) < (t : Int) := by omega
          have hpre : prP y l t ++ rwP y (l.take (k + 1)) b <+: prP y l l.length := by rw [HEB.out]; exact at_pre hlt (by omega)
          rw [rwP_snoc (by omega), ← ea, ← List.append_assoc] at hpre
          obtain ⟨fn, tmps, assign, body, hy, hR⟩ := hY 4 _ ⟨2, y, a, b⟩ wr HR.out.1 hpre
          unfold encC at hy
          dsimp only at hy
          have HR2 := Lib.hid hR
          have HP := Lib.hid hpre
          have HEA := Lib.hid ea
          clear hc hR hpre ea
          gi_wp2
          refine HR2.out.mono ?_
          rintro e W3 ⟨hk3, ⟨rfl, hJ3⟩ | ⟨rfl, hJx3⟩⟩
          · gi_wp2
            go_roundw
            case rel => exact ⟨k + 1, by omega, by go_num, Lib.hid ⟨by rw [rwP_snoc (by omega), ← HEA.out, ← List.append_assoc]; exact hJ3, HR.out.2.trans hk3⟩⟩
            case measure => simp [intOf]; omega
          · gi_wp2
            refine bodyPost_ret (results_none rfl _ _ _) rfl ?_
            exact ⟨⟨_, rfl⟩, .inr ⟨_, HP.out, hJx3⟩⟩
        · obtain rfl : k = t := by omega
          gi_wp2
          go_roundw
          case rel => exact ⟨k + 1, by omega, by go_num, Lib.hid ⟨by rw [prP_succ, ← HEB.out]; exact HR.out.1, HR.out.2⟩⟩
          case measure => simp [intOf]; omega
    · obtain rfl : t = l.length := by omega
      gi_wp2
      go_end0
      exact ⟨⟨_, rfl⟩, .inl ⟨_, rfl, HT.out.1⟩⟩

set_option maxRecDepth 100000 in
set_option maxHeartbeats 1000000 in
theorem pairs_any (y : Int) (sp : Option Addr) (len cap : Nat) (w : World) :
    Calls Try.prog 63 #[.int .i64 y, .slice sp len cap] w fun e w' => e = .returned (.func (.func 78) #[] #[.pointer (some ⟨w.heap.size + 1, 0, none⟩), .pointer (some ⟨w.heap.size, 0, none⟩)]) ∧ w' = (w.alloc (.cells #[.int .i64 y] 3)).alloc (.cells #[.slice sp len cap] 41) := by
  go_enter Try.func63, Try.ntmps63
  go_wp2
  go_ret
  exact ⟨rfl, rfl⟩
end Go.Proofs.Yteobndfkkpfnlaa

namespace Go.Proofs.Yteobndfkkpfnlaa
open Go.RowKit Go.Shelf
set_option linter.unusedVariables false
variable {n0 : Nat}

attribute [local go_sem] Oper.semAt_some

/-- the pairs of a key -/
def prM (m : Int → List Int) (y : Int) : List C4 := prP y (m y) (m y).length
/-- the pairs of the first j keys -/
def bfL (m : Int → List Int) (j : Nat) : List C4 := ((kyF m).take j).flatMap (prM m)
theorem bfL_succ (m : Int → List Int) {j : Nat} (h : j < (kyF m).length) : bfL m (j + 1) = bfL m j ++ prM m ((kyF m).getD j 0) := by
  unfold bfL; rw [take_snoc h, List.flatMap_append]; simp
theorem bfL_pre (m : Int → List Int) {j : Nat} (h : j ≤ (kyF m).length) : bfL m j <+: bfL m (kyF m).length := by
  have e : (kyF m).take (kyF m).length = (kyF m).take j ++ ((kyF m).take (kyF m).length).drop j := by
    have h2 := (List.take_append_drop j ((kyF m).take (kyF m).length))
    rw [List.take_take, Nat.min_eq_left h] at h2
    exact h2.symm
  unfold bfL
  conv => rhs; rw [e, List.flatMap_append]
  exact List.prefix_append _ _

/-- the box of a round's choice -/
theorem own_box {β : Type} {B : Nat} (p q : Nat → Prop) (cs : Array Value) (t : TypeId) : OwnFrom B (fun (_ : β) W => ∃ Bx, p Bx ∧ W.heap[Bx]? = some (.cells cs t (0, 0)) ∧ q Bx) := by
  rintro s A C row ⟨Bx, h1, h2, h3⟩ hg hr
  refine ⟨Bx, h1, (hg.block Bx (Array.getElem?_eq_some_iff.1 h2).1 (fun e => ?_)).trans h2, h3⟩
  obtain ⟨_, o, e1, e2⟩ := hr Bx e.symm
  rw [h2] at e1
  injection e1 with e1
  rw [← e1] at e2
  cases e2
theorem cells1 {w : World} {b t : Nat} {v0 : Value} {ty : Nat × Nat} (h : w.heap[b]? = some (.cells #[v0] t ty)) : w.cell? ⟨b, 0, none⟩ = some v0 := by simp [World.cell?, h]
theorem cells4' {w : World} {b t : Nat} {v0 v1 v2 v3 : Value} (h : w.heap[b]? = some (.cells #[v0, v1, v2, v3] t (0, 0))) :
    w.cell? ⟨b, 0, none⟩ = some v0 ∧ w.cell? ⟨b, 1, none⟩ = some v1 ∧ w.cell? ⟨b, 2, none⟩ = some v2 ∧ w.cell? ⟨b, 3, none⟩ = some v3 :=
  ⟨by simp [World.cell?, h], by simp [World.cell?, h], by simp [World.cell?, h], by simp [World.cell?, h]⟩
theorem ints_of_own {X : Nat → Prop} {w : World} {base n : Nat} {sp : Option Addr} {cp : Nat} {l : List Int} (h : w.ownsRow base 3 1 (.slice sp n cp) n (l.map (Value.int .i64))) (hn : n = l.length) (hX : ∀ k, base ≤ k → k < w.heap.size → X k) : IntsS X w sp l ∧ l.length ≤ cp := by
  subst hn
  refine ⟨fun h0 => ?_, ?_⟩
  · obtain ⟨g, cap, e, hb, hl⟩ := h.form h0
    injection e with e1 _ _
    subst e1
    obtain ⟨cur, ho⟩ := own_cells h (g := g) rfl
    refine ⟨g, cur, _, rfl, hX g hb hl, ho, fun i hi => ?_⟩
    rw [h.cellAt i (by omega)]
    simp [List.getD_eq_getElem?_getD, List.getElem?_eq_getElem hi]
  · rcases h.2 with ⟨e, h0⟩ | ⟨g, cap, cur, e, _, _, hcap, _⟩
    · omega
    · injection e with _ _ e
      omega

set_option maxRecDepth 100000 in
set_option maxHeartbeats 16000000 in
theorem befores_stops (X : Nat → Prop) (Bw b q : Nat) (m : Int → List Int) (w : World) (h16 : ∀ x, m x ≠ [] → 0 ≤ x ∧ x ≤ 15) (hcm : ∀ y, (m y).length ≤ 1000) (hs : BoxX X w Bw 82 (.map (some b))) (hm : MapG w b q m) (hXb : ∀ k, b ≤ k → k < w.heap.size → X k) :
    SeqL n0 74 #[.pointer (some ⟨Bw, 0, none⟩)] X (bfL m (kyF m).length) w := fun lo J Jx W hW hX hJ hJx hY h0 => by
  have HS := Lib.hid (hs.keep hW)
  have HMK : Hid (∀ Wx, KeptX n0 X W Wx → MapG Wx b q m ∧ ∀ x, In64 x → ∃ sv cv, (Instr.lookup 82 (.map (some b)) (.int .i64 x) false).run Try.prog Wx = .ok (.slice sv (m x).length cv) Wx ∧ IntsS X Wx sv (m x) ∧ (m x).length ≤ cv) := Lib.hid fun Wx hk => by
    have hk2 := hW.trans hk
    have hk3 : ∀ k o, b ≤ k → w.heap[k]? = some o → nbO o = true → Wx.heap[k]? = some o := fun k o hb ho hn => hk2.same k o (hXb k hb (Array.getElem?_eq_some_iff.1 ho).1) ho hn
    refine ⟨hm.keep hk2.size hk3, fun x hx => ?_⟩
    obtain ⟨v, hrun, hoi⟩ := hm.look2 hk2.size hk3 x hx
    obtain ⟨sv, cv, rfl⟩ := own_form' hoi.1
    obtain ⟨h1, h2⟩ := ints_of_own hoi.1 rfl (X := X) (fun k hk4 hk5 => hXb k (by omega) hk5)
    exact ⟨sv, cv, hrun, h1.keep hk2, h2⟩
  have hal : Below W.heap.size W (W.alloc (.cells #[.func (.yield lo) #[] #[]] 127)) := (Below.refl _ _).alloc (Nat.le_refl _) _
  have hal2 : Below (W.heap.size + 1) (W.alloc (.cells #[.func (.yield lo) #[] #[]] 127)) ((W.alloc (.cells #[.func (.yield lo) #[] #[]] 127)).alloc (.cells #[.map (some b)] 82)) := (Below.refl _ _).alloc (by simp) _
  have hcs : (W.alloc (.cells #[.func (.yield lo) #[] #[]] 127)).cell? ⟨Bw, 0, none⟩ = some (.map (some b)) := (HS.out.keep (KeptX.all (n0 := n0) hal)).cell
  have hks := keys_sorted (HMK.out _ (KeptX.all hal)).1 h16
  rw [World.size_alloc] at hks
  have HKS := Lib.hid hks
  clear hks hs hm hW
  refine (callsIn_wide (n := 5)).1 ?_
  refine callsIn_of_wp_marks Try.func74 rfl trivial ?_ rfl
  simp only [Try.ntmps74, List.size_toArray, List.length_cons, List.length_nil, Nat.reduceAdd, Nat.reduceSub, Array.replicate_succ, Array.replicate_zero, List.push_toArray, List.append_toArray, List.nil_append, List.cons_append]
  gi_wp2_with (first | (refine ⟨trivial, ?_⟩; gi_at_call 76; refine (keys_call _ _ _).mono ?_; rintro e w' ⟨rfl, rfl⟩) | (refine ⟨trivial, ?_⟩; gi_at_call 75; refine (callsIn_wide.2 HKS.out).mono ?_; rintro e w2 ⟨sp, cp, rfl, hrow, hb2⟩))
  have hB2 : Below W.heap.size W w2 := hal.trans ((hal2.trans (hb2.mono (by omega))).mono (by omega))
  obtain ⟨hK2, hcp⟩ := ints_of_own hrow rfl (X := X) (fun k hk4 hk5 => hX k (by omega))
  have HK := Lib.hid hK2
  have HYB : Hid (BoxX X w2 W.heap.size 127 (.func (.yield lo) #[] #[])) := Lib.hid ⟨hX _ (Nat.le_refl _), by decide, (0, 0), ((hal2.trans (hb2.mono (by omega))).block _ (by omega)).trans (World.alloc_heap_new W _)⟩
  have HBW := Lib.hid (HS.out.keep (KeptX.all (n0 := n0) hB2))
  have HJ2 := Lib.hid (ownCalm hJ h0 hB2)
  have hW2 : W.heap.size ≤ w2.heap.size := hB2.size
  have hky := kyF_le m
  have HKT : Hid (KeptX n0 X W w2) := Lib.hid (KeptX.all hB2)
  obtain ⟨n, en⟩ : ∃ n, n = (kyF m).length := ⟨_, rfl⟩
  obtain ⟨Y0, eY⟩ : ∃ Y0, Y0 = W.heap.size := ⟨_, rfl⟩
  rw [← en] at hcp hky
  rw [← en, ← eY]
  have hY0 : Y0 ≤ w2.heap.size := by omega
  rw [← eY] at HYB
  have HEN := Lib.hid en
  have HEY := Lib.hid eY
  have HFM : Hid (∀ j, j < n → 0 ≤ (kyF m).getD j 0 ∧ (kyF m).getD j 0 ≤ 15) := Lib.hid fun j hj => by
    have hmem : (kyF m).getD j 0 ∈ kyF m := by
      rw [List.getD_eq_getElem?_getD, List.getElem?_eq_getElem (by omega)]
      exact List.getElem_mem _
    refine h16 _ fun e => ?_
    have := (kyF_mem h16 _).1 hmem
    rw [e] at this
    cases this
  have HSUC : Hid (∀ j, j < n → bfL m (j + 1) = bfL m j ++ prM m ((kyF m).getD j 0)) := Lib.hid fun j hj => bfL_succ m (by omega)
  have HPRE : Hid (∀ j, j ≤ n → bfL m j <+: bfL m n) := Lib.hid fun j hj => by rw [HEN.out]; exact bfL_pre m (by omega)
  have HYY := Lib.hid hY
  have HX := Lib.hid hX
  have HCM := Lib.hid hcm
  rw [← en] at HYY
  clear hrow hb2 hB2 hK2 hal hal2 hcs HKS h0 en eY hY hX h16 hcm hXb HS
  refine wpIn_loop (fun a' wr => ∃ (j : Nat) (Ds : List Nat) (u4 u5 u11 u12 u13 u14 u15 u16 u17 u18 u19 u20 u21 u22 u23 u24 : Value), (j ≤ n ∧ Hid (J (bfL m j) wr ∧ KeptX n0 X w2 wr ∧ OpenD Y0 wr Ds)) ∧
    a' = { tmps := #[.func (.yield lo) #[] #[], .pointer (some ⟨Bw, 0, none⟩), .pointer (some ⟨Y0, 0, none⟩), undef, u4, u5, .map (some b), .func (.func 87) #[] #[.pointer (some ⟨Y0 + 1, 0, none⟩)], .slice sp n cp, .int .i64 (n : Int), .int .i64 (j : Int), u11, u12, u13, u14, u15, u16, u17, u18, u19, u20, u21, u22, u23, u24], defers := marksD Ds })
    (fun a' _ => n - (intOf (a'.tmps.getD 10 undef)).toNat) ⟨0, [], undef, undef, undef, undef, undef, undef, undef, undef, undef, undef, undef, undef, undef, undef, undef, undef, ⟨Nat.zero_le _, Lib.hid ⟨HJ2.out, KeptX.refl _ _, List.nodup_nil, fun D hD => by cases hD⟩⟩, rfl⟩ ?_
  rintro a' wr ⟨j, Ds, u4, u5, u11, u12, u13, u14, u15, u16, u17, u18, u19, u20, u21, u22, u23, u24, ⟨hj, HI⟩, rfl⟩
  by_cases hlt : j < n
  · have hlt' : (j : Int) < (n : Int) := by omega
    obtain ⟨g, cs, ty, rfl, hgx, hgo, hgc⟩ := (HK.out.keep HI.out.2.1) (by have := HEN.out; omega)
    obtain ⟨y, ey⟩ : ∃ y, y = (kyF m).getD j 0 := ⟨_, rfl⟩
    have x0 := hgc j (by have := HEN.out; omega)
    rw [← ey] at x0
    have hy16 := HFM.out j hlt
    rw [← ey] at hy16
    have hsu := HSUC.out j hlt
    rw [← ey] at hsu
    have HSU := Lib.hid hsu
    have hcb := (HBW.out.keep HI.out.2.1).cell
    obtain ⟨sv, cv, hlook, hiv, hcv⟩ := (HMK.out wr (HKT.out.trans HI.out.2.1)).2 y (by unfold In64; omega)
    have HIV := Lib.hid hiv
    have hln := HCM.out y
    have HYV := Lib.hid ey
    clear hgc hgo hsu hiv ey
    gi_wp2_with (first | (refine ⟨trivial, ?_⟩; gi_at_call 63; refine (callsIn_wide.2 (pairs_any _ _ _ _ _)).mono ?_; rintro e w' ⟨rfl, rfl⟩))
    obtain ⟨P0, eP⟩ : ∃ P0, P0 = wr.heap.size := ⟨_, rfl⟩
    obtain ⟨W0, eW0⟩ : ∃ W0, W0 = (wr.alloc (.cells #[.int .i64 y] 3)).alloc (.cells #[.slice sv (m y).length cv] 41) := ⟨_, rfl⟩
    have hz0 : W0.heap.size = P0 + 2 := by rw [eW0, eP]; simp
    have hB0 : Below wr.heap.size wr W0 := by rw [eW0]; exact ((Below.refl _ _).alloc (Nat.le_refl _) _).alloc (by simp) _
    have hwr : W.heap.size ≤ wr.heap.size := Nat.le_trans hW2 HI.out.2.1.size
    have hbk : BoxX X W0 P0 3 (.int .i64 y) := ⟨HX.out _ (by omega), by decide, (0, 0), by rw [eW0, eP]; exact (Below.heap_alloc _ _ _ (by simp)).trans (World.alloc_heap_new wr _)⟩
    have hbs : BoxX X W0 (P0 + 1) 41 (.slice sv (m y).length cv) := ⟨HX.out _ (by omega), by decide, (0, 0), by rw [eW0, eP]; have := World.alloc_heap_new (wr.alloc (.cells #[.int .i64 y] 3)) (.cells #[.slice sv (m y).length cv] 41); rw [World.size_alloc] at this; exact this⟩
    have hsb : ∀ k, k < W0.heap.size → X k → (X k ∧ k ≠ W0.heap.size ∧ k ≠ W0.heap.size + 1) := fun k h1 h2 => ⟨h2, by omega, by omega⟩
    have hps := pairs_stops (n0 := n0) (fun k => X k ∧ k ≠ W0.heap.size ∧ k ≠ W0.heap.size + 1) (P0 + 1) P0 y sv cv (m y) W0 hcv hln (hbs.sub hsb) (hbk.sub hsb) ((HIV.out.keep (KeptX.all (n0 := n0) hB0)).sub hsb)
    have hJ0 := ownCalm hJ HI.out.1 hB0
    have HK0 : Hid (KeptX n0 X w2 W0) := Lib.hid (HI.out.2.1.trans (KeptX.all hB0))
    have HO0 : Hid (OpenD Y0 W0 Ds) := Lib.hid (HI.out.2.2.keep (KeptX.all (n0 := n0) (X := X) hB0) (fun k hk => HX.out k (by rw [← HEY.out]; exact hk)))
    have hDs : ∀ D, D ∈ Ds → D < W0.heap.size := fun D hD => (Array.getElem?_eq_some_iff.1 (HO0.out.2 D hD).2).1
    have hWP : W.heap.size ≤ P0 := by omega
    rw [← eW0, ← eP]
    have HPS := Lib.hid hps
    have HJ0 := Lib.hid hJ0
    clear eW0 eP hbk hbs hsb hB0 hps hJ0 hlook HIV
    refine range_o (gf := 78) (lb := #[.pointer (some ⟨P0 + 1, 0, none⟩), .pointer (some ⟨P0, 0, none⟩)]) rfl (enters_of Try.func78 (by kernel_rfl) rfl) X HPS.out (KeptX.refl _ _) (fun k hk => HX.out k (by omega)) (fun _ => rfl)
      (fun pre Wx => J (bfL m j ++ pre) Wx ∧ KeptX n0 X W0 Wx) (fun c pre Wx => c = .ret ∧ Jx (bfL m j ++ pre) Wx ∧ KeptX n0 X W0 Wx)
      (fun s A C row hs hg hr => ⟨ownMono hJ (by omega) _ A C row hs.1 hg hr, ownFrom_kept (β := Unit) (Nat.le_refl _) () A C row hs.2 hg hr⟩)
      (fun c s A C row hs hg hr => ⟨hs.1, ownMono hJx (by omega) _ A C row hs.2.1 hg hr, ownFrom_kept (β := Unit) (Nat.le_refl _) () A C row hs.2.2 hg hr⟩)
      ⟨by rw [List.append_nil]; exact HJ0.out, KeptX.refl _ _⟩
      (fun x a' Wx => ∃ Bx, W0.heap.size ≤ Bx ∧ Wx.heap[Bx]? = some (.cells #[.int .i64 x.k, .int .i64 x.y, .int .i64 x.a, .int .i64 x.b] 58 (0, 0)) ∧
        a' = { tmps := #[.func (.yield lo) #[] #[], .pointer (some ⟨Bw, 0, none⟩), .pointer (some ⟨Y0, 0, none⟩), undef, .int .i64 y, .pointer (some ⟨Bx, 0, none⟩), .map (some b), .func (.func 87) #[] #[.pointer (some ⟨Y0 + 1, 0, none⟩)], .slice (some ⟨g, 0, none⟩) n cp, .int .i64 (n : Int), .int .i64 (j : Int), .bool true, .pointer (some ⟨g, j, none⟩), .int .i64 y, .int .i64 y, .map (some b), .int .i64 y, .slice sv (m y).length cv, .func (.func 78) #[] #[.pointer (some ⟨P0 + 1, 0, none⟩), .pointer (some ⟨P0, 0, none⟩)], .agg #[.int .i64 x.k, .int .i64 x.y, .int .i64 x.a, .int .i64 x.b], u20, u21, u22, u23, u24], defers := [] })
      (fun x a' => own_box _ _ _ _) ?assign ?body ?done ?stop
    case assign =>
      rintro l pre x Wx K hI hK
      have hal : Below Wx.heap.size Wx (Wx.alloc (.cells #[.int .i64 x.k, .int .i64 x.y, .int .i64 x.a, .int .i64 x.b] 58)) := (Below.refl _ _).alloc (Nat.le_refl _) _
      unfold encC
      gi_wp2
      exact hK _ _ (KeptX.all hal) ⟨ownCalm hJ hI.1 hal, hI.2.trans (KeptX.all hal)⟩ ⟨Wx.heap.size, hI.2.size, World.alloc_heap_new Wx _, rfl⟩
    case body =>
      rintro l pre x a' Wx hl ⟨r, hr⟩ hI ⟨Bx, hBx, hXX, rfl⟩ hlen
      obtain ⟨z0, z1, z2, z3⟩ := cells4' hXX
      have hyb := (HYB.out.keep (HK0.out.trans hI.2)).cell
      obtain ⟨fn, tmps, assign, body, hy, hR⟩ := HYY.out (5 - 1 - 1 - 1) _ x Wx hI.1 (by rw [List.append_assoc]; exact List.IsPrefix.trans (by rw [HSU.out, List.prefix_append_right_inj]; exact hlen) (HPRE.out (j + 1) (by omega)))
      unfold encC at hy
      have HR := Lib.hid hR
      have HKX := Lib.hid hI.2
      clear hR hI hr hXX
      gi_wp2
      refine HR.out.mono ?_
      rintro e W3 ⟨hk3, ⟨rfl, hJ3⟩ | ⟨rfl, hJx3⟩⟩
      · gi_wp2
        exact ⟨hk3, by rw [← List.append_assoc]; exact hJ3, HKX.out.trans hk3⟩
      · gi_wp2
        exact ⟨hk3, rfl, by rw [← List.append_assoc]; exact hJx3, HKX.out.trans hk3⟩
    case done =>
      rintro D xs Wx hD rfl hI hopen
      have HFIN : Hid (j + 1 ≤ n ∧ Hid (J (bfL m (j + 1)) Wx ∧ KeptX n0 X w2 Wx ∧ OpenD Y0 Wx (D :: Ds))) := Lib.hid ⟨by omega, Lib.hid ⟨by rw [HSU.out]; exact hI.1, HK0.out.trans hI.2, (HO0.out.keep hI.2 (fun k hk => HX.out k (by rw [← HEY.out]; exact hk))).cons (by have := HEY.out; omega) hopen (fun h => by have := hDs D h; omega)⟩⟩
      clear hI hopen
      gi_wp2
      refine ⟨⟨j + 1, D :: Ds, ?_⟩, by simp [intOf]; omega⟩
      repeat apply Exists.intro
      exact ⟨HFIN.out, rfl⟩
    case stop =>
      rintro D c pre Wx hD hSp ⟨rfl, hjx, hk⟩ hopen
      have HFIN : Hid (OpenD Y0 Wx (D :: Ds)) := Lib.hid ((HO0.out.keep hk (fun k hk => HX.out k (by rw [← HEY.out]; exact hk))).cons (by have := HEY.out; omega) hopen (fun h => by have := hDs D h; omega))
      have HSP : Hid (bfL m j ++ pre <+: bfL m n) := Lib.hid (List.IsPrefix.trans (by rw [HSU.out, List.prefix_append_right_inj]; exact hSp) (HPRE.out (j + 1) (by omega)))
      have HJX := Lib.hid hjx
      clear hopen hk hjx hSp
      gi_wp2
      refine leaves_all (B := Y0) (fun W' => Jx (bfL m j ++ pre) W') (fun W' D hq hB hD => ?_) (fun W' hq => ?_) (D :: Ds) Wx HFIN.out HJX.out
      · exact hJx.putObj _ hq (by rw [← HEY.out]; exact hB) hD rfl
      · exact ⟨_, results_none rfl _ _ _, ⟨_, rfl⟩, .inr ⟨_, by rw [← HEN.out]; exact HSP.out, hq⟩⟩
  · obtain rfl : j = n := by omega
    gi_wp2
    refine leaves_all (B := Y0) (fun W' => J (bfL m j) W') (fun W' D hq hB hD => ?_) (fun W' hq => ?_) Ds wr HI.out.2.2 HI.out.1
    · exact hJ.putObj _ hq (by rw [← HEY.out]; exact hB) hD rfl
    · exact ⟨_, results_none rfl _ _ _, ⟨_, rfl⟩, .inl ⟨_, by rw [HEN.out], hq⟩⟩
end Go.Proofs.Yteobndfkkpfnlaa

namespace Go.Proofs.Yteobndfkkpfnlaa
open Go.RowKit Go.Shelf
set_option linter.unusedVariables false
variable {n0 : Nat}

attribute [local go_sem] Oper.semAt_some

theorem KeptX.below {X : Nat → Prop} {wt w Wx : World} (h : KeptX n0 X w Wx) (hb : Below wt.heap.size wt w) (hn : wt.heap.size ≤ n0) (hx : ∀ k, k < wt.heap.size → X k) : Below wt.heap.size wt Wx :=
  ⟨h.os.trans hb.os, h.tape.trans hb.tape, h.output.trans hb.output, Nat.le_trans hb.size h.size, fun k hk => (h.old k (hx k hk) (by omega) (Nat.lt_of_lt_of_le hk hb.size)).trans (hb.block k hk)⟩
/-- bools in a row, as they are read -/
def BolS (X : Nat → Prop) (w : World) (g m : Nat) (S : Nat → Bool) : Prop := X g ∧ ∃ cs ty, w.heap[g]? = some (.cells cs 4 ty) ∧ ∀ i, i < m → w.cell? ⟨g, i, none⟩ = some (.bool (S i))
theorem BolS.keep {X : Nat → Prop} {w w' : World} {g m : Nat} {S : Nat → Bool} (h : BolS X w g m S) (hk : KeptX n0 X w w') : BolS X w' g m S := by
  obtain ⟨hx, cs, ty, ho, hc⟩ := h
  exact ⟨hx, cs, ty, hk.same g _ hx ho rfl, fun i hi => hk.cell (p := ⟨g, i, none⟩) hx ⟨cs, 4, ty, ho, by decide⟩ (hc i hi)⟩
theorem BolS.sub {X Y : Nat → Prop} {w : World} {g m : Nat} {S : Nat → Bool} (h : BolS X w g m S) (hy : ∀ k, k < w.heap.size → X k → Y k) : BolS Y w g m S := by
  obtain ⟨hx, cs, ty, ho, hc⟩ := h
  exact ⟨hy g (Array.getElem?_eq_some_iff.1 ho).1 hx, cs, ty, ho, hc⟩
theorem chC_pre {T : Nat → Tx} {m a b : Nat} (h : a ≤ b) : chC T m a <+: chC T m b := by
  induction b with
  | zero => obtain rfl : a = 0 := by omega
            exact List.prefix_refl _
  | succ b ih =>
    rcases Nat.lt_or_ge a (b + 1) with h1 | h1
    · refine (ih (by omega)).trans ?_
      obtain ⟨h2, h3⟩ := chC_succ T m b
      by_cases hc : unT (T b) ∧ suL T m b = false
      · rw [h2 hc]; exact List.prefix_append _ _
      · rw [h3 hc]; exact List.prefix_refl _
    · obtain rfl : a = b + 1 := by omega
      exact List.prefix_refl _

set_option maxRecDepth 100000 in
set_option maxHeartbeats 8000000 in
theorem commits_stops (X : Nat → Prop) (Bt Bs gs : Nat) (a : Option Addr) (m cap : Nat) (T : Nat → Tx) (wt w : World) (hb : BoxX X w Bt 25 (.slice a m cap)) (hb2 : BoxX X w Bs 35 (.slice (some ⟨gs, 0, none⟩) m m)) (hS : BolS X w gs m (suL T m))
    (hs : TxS wt a m T) (ok : TOk m T) (hwt : Below wt.heap.size wt w) (hn0 : wt.heap.size ≤ n0) (hxt : ∀ k, k < wt.heap.size → X k) :
    SeqL n0 73 #[.pointer (some ⟨Bt, 0, none⟩), .pointer (some ⟨Bs, 0, none⟩)] X (chC T m m) w := fun lo J Jx W hW hX hJ hJx hY h0 => by
  have HBT := Lib.hid (hb.keep hW)
  have HBS := Lib.hid (hb2.keep hW)
  have HSU := Lib.hid (hS.keep hW)
  have HTX : Hid (∀ Wx, KeptX n0 X W Wx → TxS Wx a m T) := Lib.hid fun Wx hk => hs.below ((hW.trans hk).below hwt hn0 hxt)
  have HOK := Lib.hid ok
  have hm4 := ok.cnt
  have H0 := Lib.hid h0
  have hcs := HBT.out.cell
  have HYY := Lib.hid hY
  clear hb hb2 hS hs hwt hxt h0 hW hY ok
  refine (callsIn_wide (n := 5)).1 ?_
  refine callsIn_of_wp Try.func73 rfl trivial ?_ rfl
  simp only [Try.ntmps73, List.size_toArray, List.length_cons, List.length_nil, Nat.reduceAdd, Nat.reduceSub, Array.replicate_succ, Array.replicate_zero, List.push_toArray, List.append_toArray, List.nil_append, List.cons_append]
  gi_wp2
  clear hcs
  gi_loopw [4, 5, 8] (fun _ _ x wr => ∃ t : Nat, t ≤ m ∧ x = .int .i64 (t : Int) ∧ Hid (J (chC T m t) wr ∧ KeptX n0 X W wr)) (fun _ _ x _ => m - (intOf x).toNat)
  case atStart => exact ⟨0, Nat.zero_le _, rfl, Lib.hid ⟨by rw [chC_zero]; exact H0.out, KeptX.refl _ _⟩⟩
  case round =>
    obtain ⟨t, ht, rfl, HT⟩ := hrel
    by_cases hlt : t < m
    · obtain ⟨b, off, rfl, hbl, hci⟩ := HTX.out wr HT.out.2 (by omega)
      obtain ⟨sp, cp, x0, x1, x2, ho⟩ := hci t hlt
      have hlt' : (t : Int) < (m : Int) := by omega
      have hn1 := HOK.out.n t hlt
      obtain ⟨NY, NN⟩ := chC_succ T m t
      have HYS := Lib.hid NY
      have HNO := Lib.hid NN
      have hal : ∀ o, Below wr.heap.size wr (wr.alloc o) := fun o => (Below.refl _ _).alloc (Nat.le_refl _) _
      have hbs : ∀ o, (wr.alloc o).cell? ⟨Bs, 0, none⟩ = some (.slice (some ⟨gs, 0, none⟩) m m) := fun o => ((HBS.out.keep HT.out.2).keep (KeptX.all (n0 := n0) (hal o))).cell
      have hsc : ∀ o, (wr.alloc o).cell? ⟨gs, t, none⟩ = some (.bool (suL T m t)) := fun o => by
        obtain ⟨_, _, _, _, hc⟩ := (HSU.out.keep HT.out.2).keep (KeptX.all (n0 := n0) (hal o))
        exact hc t hlt
      have HAL := Lib.hid hal
      have HOP := Lib.hid ho
      clear hci ho NY NN hal
      cases hsu : suL T m t with
      | true =>
        have HNX := Lib.hid (HNO.out (fun h => by rw [hsu] at h; cases h.2))
        rw [hsu] at hsc
        have hb1 := hbs (.cells #[.int .i64 (T t).c, .int .i64 (T t).st, .slice sp (T t).n cp] 47)
        have hs1 := hsc (.cells #[.int .i64 (T t).c, .int .i64 (T t).st, .slice sp (T t).n cp] 47)
        have HW := Lib.hid (HAL.out (.cells #[.int .i64 (T t).c, .int .i64 (T t).st, .slice sp (T t).n cp] 47))
        clear hbs hsc hsu HYS HNO HOP
        generalize (T t).c = tc at *
        generalize (T t).st = tst at *
        generalize (T t).n = tn at *
        gi_wp2
        refine ⟨trivial, ?_⟩
        gi_wp2
        refine ⟨trivial, ?_⟩
        gi_wp2
        refine ⟨fun _ h => (by cases h), ?_⟩
        gi_wp2
        go_roundw
        case rel => exact ⟨t + 1, by omega, by go_num, Lib.hid ⟨by rw [HNX.out]; exact ownCalm hJ HT.out.1 HW.out, HT.out.2.trans (KeptX.all HW.out)⟩⟩
        case measure => simp [intOf]; omega
      | false =>
        rw [hsu] at hsc
        have hb1 := hbs (.cells #[.int .i64 (T t).c, .int .i64 (T t).st, .slice sp (T t).n cp] 47)
        have hs1 := hsc (.cells #[.int .i64 (T t).c, .int .i64 (T t).st, .slice sp (T t).n cp] 47)
        have HW := Lib.hid (HAL.out (.cells #[.int .i64 (T t).c, .int .i64 (T t).st, .slice sp (T t).n cp] 47))
        have hU := fun bb => unsettled_any (T t).c (T t).st sp (T t).n cp (T t).o bb _ (by omega) (HOP.out.below HW.out)
        by_cases hu : unT (T t)
        · have HU := Lib.hid (hU true (by simp [hu]))
          have HNX := Lib.hid (HYS.out ⟨hu, hsu⟩)
          clear hbs hsc hsu HYS HNO HOP hU hu
          generalize (T t).c = tc at *
          generalize (T t).st = tst at *
          generalize (T t).n = tn at *
          have HPL : Hid (chC T m t ++ [⟨1, 0, (t : Int), 0⟩] <+: chC T m m) := Lib.hid (by rw [← HNX.out]; exact chC_pre (by omega))
          gi_wp2_with (first | (refine ⟨trivial, ?_⟩; gi_at_call 54; refine (callsIn_wide.2 HU.out).mono ?_; rintro e w3 ⟨rfl, hb3⟩; have HB3 := Lib.hid (HW.out.trans (hb3.mono HW.out.size)); clear hb3) | (refine ⟨trivial, ?_⟩; gi_at_call 55; refine (callsIn_wide.2 (commitOf_any _ _)).mono ?_; rintro e w4 ⟨rfl, hb4⟩; have HB4 := Lib.hid (HB3.out.trans (hb4.mono HB3.out.size)); clear hb4; obtain ⟨fn, tmps, assign, body, hy, hR⟩ := HYY.out (5 - 1) _ ⟨1, 0, (t : Int), 0⟩ w4 (ownCalm hJ HT.out.1 HB4.out) HPL.out; unfold encC at hy; dsimp only at hy; unfold cho))
          refine hR.mono ?_
          rintro e W3 ⟨hk3, ⟨rfl, hJ3⟩ | ⟨rfl, hJx3⟩⟩
          · gi_wp2
            go_roundw
            case rel => exact ⟨t + 1, by omega, by go_num, Lib.hid ⟨by rw [HNX.out]; exact hJ3, (HT.out.2.trans (KeptX.all HB4.out)).trans hk3⟩⟩
            case measure => simp [intOf]; omega
          · gi_wp2
            refine bodyPost_ret (results_none rfl _ _ _) rfl ?_
            refine ⟨⟨_, rfl⟩, .inr ⟨_, ?_, hJx3⟩⟩
            rw [← HNX.out]
            exact chC_pre (by omega)
        · have HU := Lib.hid (hU false (by simp [hu]))
          have HNX := Lib.hid (HNO.out (fun h => hu h.1))
          clear hbs hsc hsu HYS HNO HOP hU hu
          generalize (T t).c = tc at *
          generalize (T t).st = tst at *
          generalize (T t).n = tn at *
          gi_wp2_with (first | (refine ⟨trivial, ?_⟩; gi_at_call 54; refine (callsIn_wide.2 HU.out).mono ?_; rintro e w3 ⟨rfl, hb3⟩; have HB3 := Lib.hid (HW.out.trans (hb3.mono HW.out.size)); clear hb3))
          refine ⟨trivial, ?_⟩
          gi_wp2
          refine ⟨fun _ h => (by cases h), ?_⟩
          gi_wp2
          go_roundw
          case rel => exact ⟨t + 1, by omega, by go_num, Lib.hid ⟨by rw [HNX.out]; exact ownCalm hJ HT.out.1 HB3.out, HT.out.2.trans (KeptX.all HB3.out)⟩⟩
          case measure => simp [intOf]; omega
    · obtain rfl : t = m := by omega
      gi_wp2
      go_end0
      exact ⟨⟨_, rfl⟩, .inl ⟨_, rfl, HT.out.1⟩⟩
end Go.Proofs.Yteobndfkkpfnlaa

