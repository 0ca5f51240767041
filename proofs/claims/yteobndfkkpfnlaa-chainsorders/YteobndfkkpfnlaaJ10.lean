/-
  The reference's final.
  The reference's Flaws.
-/
import Derived.Test.YteobndfkkpfnlaaJ09
import Derived.Deep.CutRange
import Derived.Deep.CutBlock

namespace Go.Proofs.Yteobndfkkpfnlaa
open Go.ChangeShapes Go.WideShapes Go.ChangeAt Go.RowKit
set_option linter.unusedVariables false

set_option maxRecDepth 100000 in
set_option maxHeartbeats 4000000 in
theorem final_any (c st : Int) (sp : Option Addr) (n cap : Nat) (o : Nat → O3) (k v : Int) (w : World) (hn : n ≤ 1000) (hs : OpS w sp n o) :
    Calls Try.prog 48 #[.agg #[.int .i64 c, .int .i64 st, .slice sp n cap], .int .i64 k, .int .i64 v] w (Tells (Fin_ ⟨c, st, n, o⟩ k v) w) := by
  obtain ⟨wx, ewx⟩ : ∃ wx, wx = w.alloc (.cells #[.int .i64 c, .int .i64 st, .slice sp n cap] 47) := ⟨_, rfl⟩
  have HBX : Hid (Below w.heap.size w wx) := Lib.hid (by rw [ewx]; exact (Below.refl _ _).alloc (Nat.le_refl _) _)
  have HC := Lib.hid (rwrites_any c st sp n cap o wx hn (hs.below HBX.out))
  have HF : Hid (Fin_ ⟨c, st, n, o⟩ k v ↔ ∃ r ∈ wrl o n 16, r.key = k ∧ r.v = v) := Lib.hid Iff.rfl
  have HEW := Lib.hid ewx
  clear hs ewx
  generalize Fin_ ⟨c, st, n, o⟩ k v = FF at *
  go_enter Try.func48, Try.ntmps48
  go_wp2_with fail
  rw [← HEW.out]
  refine HC.out.mono ?_
  rintro e w5 ⟨sp2, cp2, rfl, ho2, hb⟩
  have HB5 := Lib.hid (HBX.out.trans (hb.mono HBX.out.size))
  have HO := Lib.hid (own38_ops ho2)
  have hl16 := wrl_16 o n
  obtain ⟨Q, eQ⟩ : ∃ Q, Q = w.heap.size := ⟨_, rfl⟩
  clear ho2 hb HC HBX HEW
  generalize wrl o n 16 = l at *
  go_wp2
  rw [← eQ]
  clear eQ
  go_loopw [6, 8, 12] (fun _ _ x wr => ∃ j : Nat, j ≤ l.length ∧ x = .int .i64 (j : Int) ∧ Hid (Below w5.heap.size w5 wr ∧ ∀ i, i < j → ¬ ((lf l i).key = k ∧ (lf l i).v = v))) (fun _ _ x _ => l.length - (intOf x).toNat)
  case atStart => exact ⟨0, Nat.zero_le _, rfl, Lib.hid ⟨Below.refl _ _, fun i hi => absurd hi (Nat.not_lt_zero _)⟩⟩
  case round =>
    obtain ⟨j, hj, rfl, HJ⟩ := hrel
    by_cases hjl : j < l.length
    · obtain ⟨b3, off3, rfl, hb3, hc3⟩ := HO.out (by omega)
      obtain ⟨d0, d1, d2⟩ := hc3 j hjl
      have x0 := (HJ.out.1.cell (p := ⟨b3, off3 + j * 3, none⟩) hb3).trans d0
      have x1 := (HJ.out.1.cell (p := ⟨b3, off3 + j * 3 + 1, none⟩) hb3).trans d1
      have x2 := (HJ.out.1.cell (p := ⟨b3, off3 + j * 3 + 2, none⟩) hb3).trans d2
      have hjl' : (j : Int) < (l.length : Int) := by omega
      have HY : Hid ((lf l j).key = k → (lf l j).v = v → FF) := Lib.hid fun h1 h2 => HF.out.2 ⟨lf l j, lf_mem hjl, h1, h2⟩
      have HN : Hid (¬ ((lf l j).key = k ∧ (lf l j).v = v) → ∀ i, i < j + 1 → ¬ ((lf l i).key = k ∧ (lf l i).v = v)) := Lib.hid fun h i hi => by
        by_cases e : i < j
        · exact HJ.out.2 i e
        · obtain rfl : i = j := by omega
          exact h
      have HBA : Hid (∀ ob, Below w5.heap.size w5 (wr.alloc ob)) := Lib.hid fun ob => HJ.out.1.alloc HJ.out.1.size _
      clear d0 d1 d2 hc3 HJ
      generalize lf l j = oj at *
      obtain ⟨ok, okey, ov⟩ := oj
      dsimp only at x0 x1 x2 HY HN
      by_cases h2 : okey = k
      · have h2b : (okey == k) = true := beq_iff_eq.2 h2
        by_cases h3 : ov = v
        · have h3b : (ov == v) = true := beq_iff_eq.2 h3
          have HZ := Lib.hid (HY.out h2 h3)
          have HBZ : Hid (∀ ob, Below w.heap.size w (wr.alloc ob)) := Lib.hid fun ob => HB5.out.trans ((HBA.out ob).mono HB5.out.size)
          clear HY HN
          subst h2 h3
          go_wp2
          go_ret
          exact ⟨true, rfl, ⟨fun _ => HZ.out, fun _ => rfl⟩, HBZ.out _⟩
        · have h3b : (ov == v) = false := beq_eq_false_iff_ne.2 h3
          have HN2 := Lib.hid (HN.out fun h => h3 h.2)
          clear h3 HY HN
          subst h2
          go_wp2
          go_roundw
          case rel => exact ⟨j + 1, by omega, by go_num, Lib.hid ⟨HBA.out _, HN2.out⟩⟩
          case measure => simp [intOf]; omega
      · have h2b : (okey == k) = false := beq_eq_false_iff_ne.2 h2
        have HN2 := Lib.hid (HN.out fun h => h2 h.1)
        clear h2 HY HN
        go_wp2
        go_roundw
        case rel => exact ⟨j + 1, by omega, by go_num, Lib.hid ⟨HBA.out _, HN2.out⟩⟩
        case measure => simp [intOf]; omega
    · obtain rfl : j = l.length := by omega
      have HBE := Lib.hid (HB5.out.trans (HJ.out.1.mono HB5.out.size))
      have HNE : Hid (¬ FF) := Lib.hid fun h => by
        obtain ⟨r, hr, e⟩ := HF.out.1 h
        obtain ⟨y, hy, rfl⟩ := List.getElem_of_mem hr
        have : lf l y = l[y] := by unfold lf; rw [List.getD_eq_getElem?_getD, List.getElem?_eq_getElem hy]; rfl
        exact absurd (by rw [this]; exact e) (HJ.out.2 y hy)
      clear HJ HF
      go_wp2
      go_ret
      exact ⟨false, rfl, ⟨fun h => (by cases h), fun h => absurd h HNE.out⟩, HBE.out⟩
end Go.Proofs.Yteobndfkkpfnlaa

namespace Go.Proofs.Yteobndfkkpfnlaa
open Go.ChangeShapes Go.WideShapes Go.ChangeAt Go.RowKit
set_option linter.unusedVariables false

theorem info34 : (Try.prog.info? 34).map (fun i => (i.zero, i.size, i.bytes)) = some (some (.agg #[.int .i64 0, .int .i64 0, .int .i64 0]), 3, 24) := by kernel_rfl
/-- what is wrong with a read whose writer is looked for -/
def rK (L : VM) (T : Nat → Tx) (i : Int) (r : O3) (q : Option Nat) : Int := if r.v = 0 then 0 else match q with
  | none => 1
  | some j => if (j : Int) = i then 1 else if (T j).st = 2 then 2 else if (L r.key r.v).isSome then 0 else 3
theorem flK_first {T : Nat → Tx} {m : Nat} {i : Int} {r : O3} {q : Option Nat} (hu : Uq m T) (h : FirstW T m r.key r.v q) :
    flK (allV T m) (endV T m) T i r = rK (endV T m) T i r q := by
  unfold flK rK
  rw [first_all hu h]
  cases q with
  | none => rfl
  | some j =>
    show (if r.v = 0 then 0 else if (j : Int) = i then 1 else if (T (j : Int).toNat).st = 2 then 2 else if (endV T m r.key r.v).isSome then 0 else 3) = _
    rw [Int.toNat_natCast]
/-- Flaws' memory -/
structure RfS (w : World) (B : Nat) (wr : World) (v : Value) (l : List O3) : Prop where
  low : B ≤ wr.heap.size
  bel : Below B w wr
  row : wr.ownsRow B 34 3 v l.length (rowO (lf l) l.length)
theorem RfS.keep {w wr wr' : World} {B : Nat} {v : Value} {l : List O3} (h : RfS w B wr v l) (hb : Below wr.heap.size wr wr') : RfS w B wr' v l :=
  ⟨Nat.le_trans h.low hb.size, h.bel.trans (hb.mono h.low), own_keep h.row fun g hg => hb.block g (h.row.lt g hg).2⟩
theorem RfS.push {w wr wr' : World} {B : Nat} {v v' : Value} {l : List O3} {x : O3} (h : RfS w B wr v l)
    (ho : wr'.ownsRow B 34 3 v' (l.length + 1) (rowO (lf l) l.length ++ [.int .i64 x.k, .int .i64 x.key, .int .i64 x.v])) (hg : wr.grownBy wr' v.ownBlock) : RfS w B wr' v' (l ++ [x]) := by
  refine ⟨Nat.le_trans h.low hg.size, h.bel.grown hg h.low (fun q hq => (h.row.lt q hq).1), ?_⟩
  rw [List.length_append, List.length_singleton]
  have := rowO_snoc l x
  rw [List.length_append, List.length_singleton] at this
  rw [this]
  exact ho
theorem row_other34 {wr wr' : World} {B Bq n n' : Nat} {v u : Value} {xs ys : List Value} (h : wr.ownsRow Bq 44 3 u n xs) (hr : wr.ownsRow B 34 3 v n' ys) (hg : wr.grownBy wr' v.ownBlock) : wr'.ownsRow Bq 44 3 u n xs :=
  own_keep h fun g hg' => hg.block g (h.lt g hg').2 (fun e => by
    obtain ⟨c1, e1⟩ := own_cells h hg'
    obtain ⟨c2, e2⟩ := own_cells hr e.symm
    rw [e1] at e2
    injection e2 with e2
    injection e2 with _ e2 _
    cases e2)
def RfP (T : Nat → Tx) (m : Nat) (w : World) (e : Ending) (w' : World) : Prop :=
  ∃ sp cp, e = .returned (.slice sp (flL T m).length cp) ∧ w'.ownsRow w.heap.size 34 3 (.slice sp (flL T m).length cp) (flL T m).length (rowO (lf (flL T m)) (flL T m).length) ∧ Below w.heap.size w w'

theorem flK_in (A L : VM) (T : Nat → Tx) (i : Int) (r : O3) : 0 ≤ flK A L T i r ∧ flK A L T i r ≤ 3 := by
  unfold flK
  split
  · omega
  · split
    · omega
    · split
      · omega
      · split
        · omega
        · split <;> omega
theorem writer_q (a : Option Addr) (m cap : Nat) (T : Nat → Tx) (k v : Int) (w : World) (hs : TxS w a m T) (ok : TOk m T) :
    Calls Try.prog 21 #[.slice a m cap, .int .i64 k, .int .i64 v] w (fun e w' => ∃ (q : Option Nat) (wq : Int), FirstW T m k v q ∧ (q = none → wq = -1) ∧ (∀ i, q = some i → wq = (i : Int)) ∧ e = .returned (.int .i64 wq) ∧ Below w.heap.size w w') := by
  refine (writer_any a m cap T k v w hs ok).mono ?_
  rintro e w' ⟨q, hq, rfl, hb⟩
  cases q with
  | none => exact ⟨none, -1, hq, fun _ => rfl, fun i e => (by cases e), rfl, hb⟩
  | some i => exact ⟨some i, i, hq, fun e => (by cases e), fun j e => by injection e with e; rw [e], rfl, hb⟩

set_option maxRecDepth 100000 in
set_option maxHeartbeats 4000000 in
theorem rflaws_any (a : Option Addr) (m cap : Nat) (T : Nat → Tx) (w : World) (hs : TxS w a m T) (hx : HTx m T) (hu : Uq m T) :
    Calls Try.prog 17 #[.slice a m cap] w (RfP T m w) := by
  obtain ⟨i8, hi8, hx0, hx1, hx2⟩ := info_parts info34
  have HS := Lib.hid hs
  have HX := Lib.hid hx
  have HU := Lib.hid hu
  have hm4 := hx.ok.cnt
  have HFL : Hid (flL T m = flT (allV T m) (endV T m) T m) := Lib.hid rfl
  have HLE : Hid (∀ t, t ≤ m → (flT (allV T m) (endV T m) T t).length ≤ 100 * t) := Lib.hid fun t ht => flT_le T t _ _ fun j hj => hx.ok.n j (by omega)
  have HKQ : Hid (∀ (i : Int) (r : O3) (q : Option Nat), FirstW T m r.key r.v q → flK (allV T m) (endV T m) T i r = rK (endV T m) T i r q) := Lib.hid fun i r q h => flK_first hu h
  have HEF : Hid (∀ (i : Nat) (k v : Int), i < m → Has (T i) k v → ((endV T m k v).isSome = true ↔ Fin_ (T i) k v)) := Lib.hid fun i k v hi h => end_fin hu hi h
  clear hs hx hu
  have HA0 : Hid (RfS w w.heap.size (w.alloc (.cells #[] 34)) (.slice (some ⟨w.heap.size, 0, none⟩) (flT (allV T m) (endV T m) T 0).length 0) (flT (allV T m) (endV T m) T 0)) := Lib.hid
    ⟨by simp, (Below.refl _ _).alloc (Nat.le_refl _) _, World.ownsRow_lit w #[] 0 (Nat.le_refl _) (Nat.zero_le _) rfl⟩
  generalize allV T m = A at *
  generalize endV T m = L at *
  go_enter Try.func17, Try.ntmps17
  go_wp2
  obtain ⟨wi, ewi⟩ : ∃ wi, wi = w.alloc (.cells #[] 34) := ⟨_, rfl⟩
  obtain ⟨gi, egi⟩ : ∃ gi, gi = w.heap.size := ⟨_, rfl⟩
  have HA1 : Hid (RfS w w.heap.size wi (.slice (some ⟨gi, 0, none⟩) (flT A L T 0).length 0) (flT A L T 0)) := Lib.hid (by rw [ewi, egi]; exact HA0.out)
  rw [← ewi, ← egi]
  clear ewi egi HA0
  go_loopw [3, 4, 5, 6, 7, 8, 12] (fun vo _ _ _ _ _ x wr => ∃ (t : Nat) (spo : Option Addr) (cpo : Nat), t ≤ m ∧ x = .int .i64 (t : Int) ∧ vo = .slice spo (flT A L T t).length cpo ∧ Hid (RfS w w.heap.size wr (.slice spo (flT A L T t).length cpo) (flT A L T t))) (fun _ _ _ _ _ _ x _ => m - (intOf x).toNat)
  case atStart => exact ⟨0, _, _, Nat.zero_le _, rfl, rfl, HA1⟩
  case round =>
    obtain ⟨t, spo, cpo, ht, rfl, rfl, HT⟩ := hrel
    clear HA1
    by_cases hlt : t < m
    · obtain ⟨b, off, rfl, hbl, hci⟩ := HS.out (by omega)
      have HCI := Lib.hid hci
      obtain ⟨sp, cp, c0, c1, c2, ho⟩ := hci t hlt
      have x0 := (HT.out.bel.cell (p := ⟨b, off + t * 3, none⟩) hbl).trans c0
      have x1 := (HT.out.bel.cell (p := ⟨b, off + t * 3 + 1, none⟩) hbl).trans c1
      have x2 := (HT.out.bel.cell (p := ⟨b, off + t * 3 + 2, none⟩) hbl).trans c2
      have hlt' : (t : Int) < (m : Int) := by omega
      have hn1 := HX.out.ok.n t hlt
      have HNX : Hid (flT A L T (t + 1) = flT A L T t ++ flR A L T t (rdT (T t)) (rdT (T t)).length) := Lib.hid rfl
      have hfle := HLE.out t ht
      have hrle := rdT_le (T t)
      have HCR := Lib.hid (rreads_any (T t).c (T t).st sp (T t).n cp (T t).o wr (by omega) (fun i hi => (HX.out.op t hlt i hi).1.1) (ho.below HT.out.bel))
      rw [show rdS (T t).st (T t).o (T t).n = rdT (T t) from rfl] at HCR
      clear c0 c1 c2 ho hci
      generalize rdT (T t) = rs at *
      generalize (T t).c = tc at *
      generalize (T t).st = tst at *
      generalize (T t).n = tn at *
      generalize (T t).o = to_ at *
      generalize flT A L T t = fl at *
      go_wp2_with fail
      refine HCR.out.mono ?_
      rintro e w5 ⟨sp2, cp2, rfl, ho2, hb2⟩
      obtain ⟨Bq, eBq⟩ : ∃ Bq, Bq = wr.heap.size := ⟨_, rfl⟩
      rw [← eBq] at ho2
      have HA1 : Hid (RfS w w.heap.size w5 (.slice spo (fl ++ flR A L T t rs 0).length cpo) (fl ++ flR A L T t rs 0) ∧ w5.ownsRow Bq 44 3 (.slice sp2 rs.length cp2) rs.length (rowO (lf rs) rs.length)) := Lib.hid (by
        rw [show fl ++ flR A L T t rs 0 = fl from List.append_nil _]
        exact ⟨HT.out.keep hb2, ho2⟩)
      have hf0 : (fl ++ flR A L T t rs 0).length = fl.length := by rw [show fl ++ flR A L T t rs 0 = fl from List.append_nil _]
      clear eBq ho2 hb2 HCR HT x0 x1 x2
      go_wp2
      go_loopw [3, 5, 6, 7, 8, 21] (fun vo _ _ _ _ x ws => ∃ (j nl : Nat) (spo : Option Addr) (cpo : Nat), j ≤ rs.length ∧ nl ≤ fl.length + j ∧ x = .int .i64 (j : Int) ∧ vo = .slice spo nl cpo ∧ Hid (nl = (fl ++ flR A L T t rs j).length ∧ RfS w w.heap.size ws (.slice spo nl cpo) (fl ++ flR A L T t rs j) ∧ ws.ownsRow Bq 44 3 (.slice sp2 rs.length cp2) rs.length (rowO (lf rs) rs.length))) (fun _ _ _ _ _ x _ => rs.length - (intOf x).toNat)
      case atStart => exact ⟨0, fl.length, spo, cpo, Nat.zero_le _, by omega, rfl, rfl, Lib.hid ⟨hf0.symm, by rw [← hf0]; exact HA1.out.1, HA1.out.2⟩⟩
      case round =>
        obtain ⟨j, nl, spo, cpo, hj, hnl, rfl, rfl, HJ⟩ := hrel
        clear HA1 hf0
        have HAJ := Lib.hid HJ.out.2.1
        have HRJ := Lib.hid HJ.out.2.2
        have HNL := Lib.hid HJ.out.1
        clear HJ
        by_cases hjl : j < rs.length
        · obtain ⟨b3, off3, e3, hb3, hc3⟩ := (own38_ops HRJ.out) (by omega)
          subst e3
          obtain ⟨d0, d1, d2⟩ := hc3 j hjl
          have hjl' : (j : Int) < (rs.length : Int) := by omega
          have HFR : Hid (flR A L T t rs (j + 1) = if flK A L T (t : Int) (lf rs j) = 0 then flR A L T t rs j else flR A L T t rs j ++ [⟨(t : Int), (j : Int), flK A L T (t : Int) (lf rs j)⟩]) := Lib.hid rfl
          have HKK := Lib.hid (HKQ.out t (lf rs j))
          clear hc3
          generalize flR A L T t rs j = fr at *
          generalize lf rs j = oj at *
          obtain ⟨ok, okey, ov⟩ := oj
          dsimp only at d0 d1 d2
          obtain ⟨wy, ewy⟩ : ∃ wy, wy = wr.alloc (.cells #[.int .i64 ok, .int .i64 okey, .int .i64 ov] 44) := ⟨_, rfl⟩
          have hwx : Below wr.heap.size wr wy := by rw [ewy]; exact (Below.refl _ _).alloc (Nat.le_refl _) _
          have HAY := Lib.hid (HAJ.out.keep hwx)
          have HRY := Lib.hid (own_keep HRJ.out fun g hg => hwx.block g (HRJ.out.lt g hg).2)
          obtain ⟨P, eP⟩ : ∃ P, P = wr.heap.size := ⟨_, rfl⟩
          have HPP : Hid (wy.heap[P]? = some (.cells #[.int .i64 ok, .int .i64 okey, .int .i64 ov] 44 (0, 0))) := Lib.hid (by rw [ewy, eP]; exact heap_alloc_new wr _)
          have HCW := Lib.hid (writer_q (some ⟨b, off, none⟩) m cap T okey ov wy (HS.out.below HAY.out.bel) HX.out.ok)
          clear hwx HAJ HRJ
          go_wp2_with fail
          rw [← ewy]
          refine HCW.out.mono ?_
          rintro e w6 ⟨q, wq, hq, hqn, hqs, rfl, hb6⟩
          have HQN := Lib.hid hqn
          have HQS := Lib.hid hqs
          clear hqn hqs
          have hkq := HKK.out q hq
          have HKV : Hid (flK A L T (t : Int) ⟨ok, okey, ov⟩ = rK L T (t : Int) ⟨ok, okey, ov⟩ q) := Lib.hid hkq
          have HQF : Hid (∀ i, q = some i → i < m ∧ Has (T i) okey ov) := Lib.hid fun i e => by
            rcases hq with ⟨rfl, _⟩ | ⟨k, hk, rfl, hh, _⟩
            · cases e
            · injection e with e; subst e; exact ⟨hk, hh⟩
          have HA6 := Lib.hid (HAY.out.keep hb6)
          have HR6 := Lib.hid (own_keep HRY.out fun g hg => hb6.block g (HRY.out.lt g hg).2)
          have HP6 := Lib.hid ((hb6.block _ (hlt_of HPP.out)).trans HPP.out)
          rw [← eP]
          clear ewy eP hb6 HCW HAY HRY d0 d1 d2 hq hkq HKK HPP
          have hkk := flK_in A L T (t : Int) ⟨ok, okey, ov⟩
          generalize flK A L T (t : Int) ⟨ok, okey, ov⟩ = kk at *
          obtain ⟨⟨p0, p1, p2⟩, _⟩ := cells3 HP6.out
          go_upto_if 34 with (fail)
          go_cut [8] from 32 to 60 (fun v wc => v = .int .i64 kk ∧ Hid (Below w6.heap.size w6 wc))
          case first =>
            have HB66 : Hid (Below w6.heap.size w6 w6) := Lib.hid (Below.refl _ _)
            by_cases hv0 : ov = 0
            · subst hv0
              obtain rfl : kk = 0 := by rw [HKV.out]; rfl
              go_wp2
              go_meet
              exact ⟨rfl, HB66⟩
            · have hvb : (ov != 0) = true := bne_iff_ne.2 hv0
              have hkv := HKV.out
              unfold rK at hkv
              rw [if_neg hv0] at hkv
              cases q with
              | none =>
                obtain rfl : kk = 1 := hkv
                obtain rfl := HQN.out rfl
                go_wp2
                go_meet
                exact ⟨rfl, HB66⟩
              | some i =>
                dsimp only at hkv
                obtain ⟨him, hhas⟩ := HQF.out i rfl
                obtain rfl := HQS.out i rfl
                have hil : decide ((i : Int) < 0) = false := by simp
                by_cases hit : (i : Int) = (t : Int)
                · rw [if_pos hit] at hkv
                  subst hkv
                  have hitb : ((i : Int) == (t : Int)) = true := beq_iff_eq.2 hit
                  obtain rfl : i = t := by omega
                  go_wp2
                  go_meet
                  exact ⟨rfl, HB66⟩
                · rw [if_neg hit] at hkv
                  have hitb : ((i : Int) == (t : Int)) = false := beq_eq_false_iff_ne.2 hit
                  have hit2 : ¬ i = t := by omega
                  obtain ⟨spi, cpi, i0, i1, i2, hoi⟩ := HCI.out i him
                  have z0 := (HA6.out.bel.cell (p := ⟨b, off + i * 3, none⟩) hbl).trans i0
                  have z1 := (HA6.out.bel.cell (p := ⟨b, off + i * 3 + 1, none⟩) hbl).trans i1
                  have z2 := (HA6.out.bel.cell (p := ⟨b, off + i * 3 + 2, none⟩) hbl).trans i2
                  have him' : (i : Int) < (m : Int) := by omega
                  have HOI := Lib.hid (hoi.below HA6.out.bel)
                  have hni := HX.out.ok.n i him
                  clear i0 i1 i2 hoi
                  by_cases hst : (T i).st = 2
                  · rw [if_pos hst] at hkv
                    subst hkv
                    rw [hst] at z1
                    go_wp2
                    go_meet
                    exact ⟨rfl, HB66⟩
                  · rw [if_neg hst] at hkv
                    have hstb : ((T i).st == 2) = false := beq_eq_false_iff_ne.2 hst
                    have HFI := Lib.hid (HEF.out i okey ov him hhas)
                    have HCF : Hid (∀ W, Below w6.heap.size w6 W → Calls Try.prog 48 #[.agg #[.int .i64 (T i).c, .int .i64 (T i).st, .slice spi (T i).n cpi], .int .i64 okey, .int .i64 ov] W (Tells (Fin_ (T i) okey ov) W)) := Lib.hid fun W hb => final_any (T i).c (T i).st spi (T i).n cpi (T i).o okey ov W (by omega) (HOI.out.below hb)
                    have hb00 : Below w6.heap.size w6 w6 := Below.refl _ _
                    have hB0 : Below w6.heap.size w6 w6.drew := (Below.refl _ _).drew
                    have HZZ : Hid (∀ W, Below w6.heap.size w6 W → (W.cell? ⟨b, off + i * 3, none⟩ = some (.int .i64 (T i).c) ∧ W.cell? ⟨b, off + i * 3 + 1, none⟩ = some (.int .i64 (T i).st) ∧ W.cell? ⟨b, off + i * 3 + 2, none⟩ = some (.slice spi (T i).n cpi)) ∧ W.cell? ⟨P, 1, none⟩ = some (.int .i64 okey) ∧ W.cell? ⟨P, 2, none⟩ = some (.int .i64 ov)) := Lib.hid fun W hb => ⟨⟨(hb.cell (p := ⟨b, off + i * 3, none⟩) (cell_lt z0)).trans z0, (hb.cell (p := ⟨b, off + i * 3 + 1, none⟩) (cell_lt z1)).trans z1, (hb.cell (p := ⟨b, off + i * 3 + 2, none⟩) (cell_lt z2)).trans z2⟩, (hb.cell (p := ⟨P, 1, none⟩) (cell_lt p1)).trans p1, (hb.cell (p := ⟨P, 2, none⟩) (cell_lt p2)).trans p2⟩
                    generalize (T i).c = ic at *
                    generalize (T i).st = ist at *
                    generalize (T i).n = in_ at *
                    go_wp2
                    go_region_held3 (fun W => (W.cell? ⟨b, off + i * 3, none⟩ = some (.int .i64 ic) ∧ W.cell? ⟨b, off + i * 3 + 1, none⟩ = some (.int .i64 ist) ∧ W.cell? ⟨b, off + i * 3 + 2, none⟩ = some (.slice spi in_ cpi)) ∧ W.cell? ⟨P, 1, none⟩ = some (.int .i64 okey) ∧ W.cell? ⟨P, 2, none⟩ = some (.int .i64 ov))
                      (first | exact HZZ.out _ hb00 | exact HZZ.out _ hB0 | exact HZZ.out _ hB8)
                      (first
                        | (go_at_call 48; refine (HCF.out _ hB0).mono ?_; rintro e w8 ⟨fb, rfl, hfb, hb8⟩; have hB8 : Below w6.heap.size w6 w8 := hB0.trans hb8; have HFB := Lib.hid hfb))
                    have HB8 := Lib.hid hB8
                    have hff : fb = (L okey ov).isSome := by
                      apply Bool.eq_iff_iff.2
                      rw [HFB.out, HFI.out]
                    cases fb with
                    | true =>
                      rw [← hff] at hkv
                      obtain rfl : kk = 0 := hkv
                      clear hff hB8 hb8 hB0 hb00 HFB
                      go_wp2
                      go_meet
                      exact ⟨rfl, HB8⟩
                    | false =>
                      rw [← hff] at hkv
                      obtain rfl : kk = 3 := hkv
                      clear hff hB8 hb8 hB0 hb00 HFB
                      go_wp2
                      go_meet
                      exact ⟨rfl, HB8⟩
          case rest =>
            obtain ⟨rfl, HBW⟩ := hcut
            have HAW := Lib.hid (HA6.out.keep HBW.out)
            have HRW := Lib.hid (own_keep HR6.out fun g hg => HBW.out.block g (HR6.out.lt g hg).2)
            clear HBW HA6 HR6 HP6 p0 p1 p2 HKV HQF HQN HQS
            by_cases hk0 : kk = 0
            · subst hk0
              rw [if_pos rfl] at HFR
              go_wp2
              go_roundw
              case rel => exact ⟨j + 1, nl, spo, cpo, by omega, by omega, by go_num, rfl, Lib.hid ⟨by rw [HFR.out]; exact HNL.out, by rw [HFR.out]; exact HAW.out, HRW.out⟩⟩
              case measure => simp [intOf]; omega
            · rw [if_neg hk0] at HFR
              have hkp : 0 < kk := by omega
              have HNW : Hid (∀ (W : World) (i : Nat) (z : Value), [Value.int .i64 (t : Int), .int .i64 (j : Int), .int .i64 kk][i]? = some z → (W.alloc (.cells #[.int .i64 (t : Int), .int .i64 (j : Int), .int .i64 kk] 34)).cell? ((⟨W.heap.size, 0, none⟩ : Addr).add i) = some z) := Lib.hid fun W i z hj => by
                rw [Go.WideShapes.add_plain, cell_of_row _ _ _ _ 34 (0, 0) (heap_alloc_new W _), Nat.zero_add]
                simpa using hj
              have hwx : Below wc.heap.size wc (wc.alloc (.cells #[.int .i64 (t : Int), .int .i64 (j : Int), .int .i64 kk] 34)) := (Below.refl _ _).alloc (Nat.le_refl _) _
              have HA7 := Lib.hid (HAW.out.keep hwx)
              have HR7 := Lib.hid (own_keep HRW.out fun g hg => hwx.block g (HRW.out.lt g hg).2)
              have hrw := HA7.out.row
              rw [← HNL.out] at hrw
              have HROW := Lib.hid hrw
              clear hwx hrw
              go_wp2_with (at_builtin; refine wpList_append_lies _ rfl _ _ 30 rfl w.heap.size 34 i8 (.agg #[.int .i64 0, .int .i64 0, .int .i64 0]) 3 24 Try.underlying30 hi8 hx0 hx1 hx2 rfl (by decide) _ nl _ rfl HROW.out ⟨wc.heap.size, 0, none⟩ 1 1 [.int .i64 (t : Int), .int .i64 (j : Int), .int .i64 kk] rfl rfl (HNW.out _) (by intro u hu; simp at hu; rcases hu with rfl | rfl | rfl <;> rfl) (by omega) (by unfold maxLen; omega) (by omega) HA7.out.low _ rfl ?_)
              intro g7 c7 w7 ho7 hg7 hat7 hl7
              have HR8 := Lib.hid (row_other34 HR7.out HROW.out hg7)
              have HA8 : Hid (RfS w w.heap.size w7 (.slice (some ⟨g7, 0, none⟩) (nl + 1) c7) (fl ++ flR A L T t rs (j + 1))) := Lib.hid (by
                rw [HFR.out, ← List.append_assoc]
                refine HA7.out.push (x := ⟨(t : Int), (j : Int), kk⟩) ?_ hg7
                rw [← HNL.out]
                exact ho7)
              have HN8 : Hid (nl + 1 = (fl ++ flR A L T t rs (j + 1)).length) := Lib.hid (by
                rw [HFR.out, ← List.append_assoc, List.length_append, List.length_singleton, ← HNL.out])
              clear ho7 hg7 hat7 HROW HNW
              go_wp2
              go_roundw
              case rel => exact ⟨j + 1, nl + 1, some ⟨g7, 0, none⟩, c7, by omega, by omega, by go_num, rfl, Lib.hid ⟨HN8.out, HA8.out, HR8.out⟩⟩
              case measure => simp [intOf]; omega
        · obtain rfl : j = rs.length := by omega
          have HLN : Hid (nl = (flT A L T (t + 1)).length) := Lib.hid (by rw [HNX.out]; exact HNL.out)
          have HAN : Hid (RfS w w.heap.size wr (.slice spo nl cpo) (flT A L T (t + 1))) := Lib.hid (by rw [HNX.out]; exact HAJ.out)
          clear HAJ HRJ HNL HNX
          obtain rfl : nl = (flT A L T (t + 1)).length := HLN.out
          go_wp2
          go_roundw
          case rel => exact ⟨t + 1, spo, cpo, by omega, by go_num, rfl, HAN⟩
          case measure => simp [intOf]; omega
    · obtain rfl : t = m := by omega
      go_wp2
      go_ret
      refine ⟨spo, cpo, ?_, ?_, HT.out.bel⟩
      · rw [HFL.out]; rfl
      · rw [HFL.out]; exact HT.out.row
end Go.Proofs.Yteobndfkkpfnlaa

