/-
  Source; the reference's Writer.
-/
import Derived.Test.YteobndfkkpfnlaaFk
namespace Go.Proofs.Yteobndfkkpfnlaa
open Go.ChangeShapes Go.WideShapes Go.ChangeAt Go.RowKit
set_option linter.unusedVariables false

/-- a transaction writes a value to a key -/
def Has (t : Tx) (k v : Int) : Prop := ∃ x, x < t.n ∧ (t.o x).k = 2 ∧ (t.o x).key = k ∧ (t.o x).v = v
/-- the first one that does -/
def FirstW (T : Nat → Tx) (m : Nat) (k v : Int) (r : Option Nat) : Prop :=
  (r = none ∧ ∀ i, i < m → ¬ Has (T i) k v) ∨ ∃ i, i < m ∧ r = some i ∧ Has (T i) k v ∧ ∀ j, j < i → ¬ Has (T j) k v
theorem FirstW.one {T : Nat → Tx} {m : Nat} {k v : Int} {r q : Option Nat} (h : FirstW T m k v r) (h' : FirstW T m k v q) : r = q := by
  rcases h with ⟨rfl, h⟩ | ⟨i, hi, rfl, h1, h2⟩
  · rcases h' with ⟨rfl, _⟩ | ⟨j, hj, rfl, k1, _⟩
    · rfl
    · exact absurd k1 (h j hj)
  · rcases h' with ⟨rfl, h'⟩ | ⟨j, hj, rfl, k1, k2⟩
    · exact absurd h1 (h' i hi)
    · rcases Nat.lt_trichotomy i j with e | e | e
      · exact absurd h1 (k2 i e)
      · rw [e]
      · exact absurd k1 (h2 j e)
def SrcP (T : Nat → Tx) (m : Nat) (k v : Int) (w : World) (e : Ending) (w' : World) : Prop :=
  ∃ r, FirstW T m k v r ∧ e = .returned (.tuple #[.int .i64 ((r.getD 0 : Nat) : Int), .bool r.isSome]) ∧ Below w.heap.size w w'
def WrtP (T : Nat → Tx) (m : Nat) (k v : Int) (w : World) (e : Ending) (w' : World) : Prop :=
  ∃ r : Option Nat, FirstW T m k v r ∧ e = .returned (.int .i64 (match r with | some i => (i : Int) | none => -1)) ∧ Below w.heap.size w w'
theorem source_zero (a : Option Addr) (m cap : Nat) (k : Int) (w : World) :
    Calls Try.prog 20 #[.slice a m cap, .int .i64 k, .int .i64 0] w (fun e w' => e = .returned (.tuple #[.int .i64 (-1), .bool true]) ∧ Below w.heap.size w w') := by
  go_enter Try.func20, Try.ntmps20
  go_wp2
  go_ret2
  exact ⟨rfl, Below.refl _ _⟩

set_option maxRecDepth 100000 in
set_option maxHeartbeats 4000000 in
theorem source_any (a : Option Addr) (m cap : Nat) (T : Nat → Tx) (k v : Int) (w : World) (hv : ¬ v = 0) (hs : TxS w a m T) (ok : TOk m T) :
    Calls Try.prog 20 #[.slice a m cap, .int .i64 k, .int .i64 v] w (SrcP T m k v w) := by
  have HS := Lib.hid hs
  have HOK := Lib.hid ok
  have hm4 := ok.cnt
  have hvb : (v == 0) = false := beq_eq_false_iff_ne.2 hv
  clear hs ok
  go_enter Try.func20, Try.ntmps20
  go_wp2
  go_loopw [6, 7, 8, 9, 11, 16] (fun r1 r2 _ _ _ x wr => ∃ t : Nat, t ≤ m ∧ x = .int .i64 (t : Int) ∧ Hid (Below w.heap.size w wr ∧ ∀ i, i < t → ¬ Has (T i) k v)) (fun _ _ _ _ _ x _ => m - (intOf x).toNat)
  case atStart => exact ⟨0, Nat.zero_le _, rfl, Lib.hid ⟨Below.refl _ _, fun i hi => absurd hi (Nat.not_lt_zero _)⟩⟩
  case round =>
    obtain ⟨t, ht, rfl, HT⟩ := hrel
    by_cases hlt : t < m
    · obtain ⟨b, off, rfl, hbl, hci⟩ := HS.out (by omega)
      obtain ⟨sp, cp, c0, c1, c2, ho⟩ := hci t hlt
      have x0 := (HT.out.1.cell (p := ⟨b, off + t * 3, none⟩) hbl).trans c0
      have x1 := (HT.out.1.cell (p := ⟨b, off + t * 3 + 1, none⟩) hbl).trans c1
      have x2 := (HT.out.1.cell (p := ⟨b, off + t * 3 + 2, none⟩) hbl).trans c2
      have hlt' : (t : Int) < (m : Int) := by omega
      have HOPB := Lib.hid ho
      have hn1 := HOK.out.n t hlt
      have HYES : Hid (Has (T t) k v → FirstW T m k v (some t)) := Lib.hid fun h => .inr ⟨t, hlt, rfl, h, HT.out.2⟩
      have HNO : Hid (¬ Has (T t) k v → ∀ i, i < t + 1 → ¬ Has (T i) k v) := Lib.hid fun h i hi => by
        by_cases e : i < t
        · exact HT.out.2 i e
        · obtain rfl : i = t := by omega
          exact h
      have HIN : Hid (∀ x, x < (T t).n → ((T t).o x).k = 2 → ((T t).o x).key = k → ((T t).o x).v = v → Has (T t) k v) := Lib.hid fun x h1 h2 h3 h4 => ⟨x, h1, h2, h3, h4⟩
      have HOUT : Hid (Has (T t) k v → ∃ x, x < (T t).n ∧ ((T t).o x).k = 2 ∧ ((T t).o x).key = k ∧ ((T t).o x).v = v) := Lib.hid fun h => h
      clear c0 c1 c2 ho hci
      generalize Has (T t) k v = HH at *
      generalize (T t).c = tc at *
      generalize (T t).st = tst at *
      generalize (T t).n = tn at *
      generalize (T t).o = to_ at *
      obtain ⟨wx, ewx⟩ : ∃ wx, wx = wr.alloc (.cells #[.int .i64 tc, .int .i64 tst, .slice sp tn cp] 47) := ⟨_, rfl⟩
      have HBX : Hid (Below w.heap.size w wx) := Lib.hid (by rw [ewx]; exact HT.out.1.alloc HT.out.1.size _)
      obtain ⟨Q, eQ⟩ : ∃ Q, Q = wr.heap.size := ⟨_, rfl⟩
      go_wp2
      rw [← ewx, ← eQ]
      clear ewx eQ HT x0 x1 x2
      go_loopw [6, 7, 11, 24] (fun _ _ _ x ws => ∃ j : Nat, j ≤ tn ∧ x = .int .i64 (j : Int) ∧ Hid (Below w.heap.size w ws ∧ ∀ i, i < j → ¬ ((to_ i).k = 2 ∧ (to_ i).key = k ∧ (to_ i).v = v))) (fun _ _ _ x _ => tn - (intOf x).toNat)
      case atStart => exact ⟨0, Nat.zero_le _, rfl, Lib.hid ⟨HBX.out, fun i hi => absurd hi (Nat.not_lt_zero _)⟩⟩
      case round =>
        obtain ⟨j, hj, rfl, HJ⟩ := hrel
        by_cases hjl : j < tn
        · obtain ⟨b3, off3, rfl, hb3, hc3⟩ := HOPB.out (by omega)
          obtain ⟨d0, d1, d2⟩ := hc3 j hjl
          have x0 := (HJ.out.1.cell (p := ⟨b3, off3 + j * 3, none⟩) hb3).trans d0
          have x1 := (HJ.out.1.cell (p := ⟨b3, off3 + j * 3 + 1, none⟩) hb3).trans d1
          have x2 := (HJ.out.1.cell (p := ⟨b3, off3 + j * 3 + 2, none⟩) hb3).trans d2
          have hjl' : (j : Int) < (tn : Int) := by omega
          have HY := Lib.hid (HIN.out j hjl)
          have HN : Hid (¬ ((to_ j).k = 2 ∧ (to_ j).key = k ∧ (to_ j).v = v) → ∀ i, i < j + 1 → ¬ ((to_ i).k = 2 ∧ (to_ i).key = k ∧ (to_ i).v = v)) := Lib.hid fun h i hi => by
            by_cases e : i < j
            · exact HJ.out.2 i e
            · obtain rfl : i = j := by omega
              exact h
          have HBA : Hid (∀ ob, Below w.heap.size w (wr.alloc ob)) := Lib.hid fun ob => HJ.out.1.alloc HJ.out.1.size _
          clear d0 d1 d2 hc3 HJ
          generalize to_ j = oj at *
          obtain ⟨ok, okey, ov⟩ := oj
          dsimp only at x0 x1 x2 HY HN
          by_cases h1 : ok = 2
          · have h1b : (ok == 2) = true := beq_iff_eq.2 h1
            by_cases h2 : okey = k
            · have h2b : (okey == k) = true := beq_iff_eq.2 h2
              by_cases h3 : ov = v
              · have h3b : (ov == v) = true := beq_iff_eq.2 h3
                have HF := Lib.hid (HYES.out (HY.out h1 h2 h3))
                subst h1 h2 h3
                go_wp2
                go_ret2
                exact ⟨some t, HF.out, rfl, HBA.out _⟩
              · have h3b : (ov == v) = false := beq_eq_false_iff_ne.2 h3
                have HN2 := Lib.hid (HN.out fun h => h3 h.2.2)
                subst h1 h2
                clear h3
                go_wp2
                go_roundw
                case rel => exact ⟨j + 1, by omega, by go_num, Lib.hid ⟨HBA.out _, HN2.out⟩⟩
                case measure => simp [intOf]; omega
            · have h2b : (okey == k) = false := beq_eq_false_iff_ne.2 h2
              have HN2 := Lib.hid (HN.out fun h => h2 h.2.1)
              subst h1
              clear h2
              go_wp2
              go_roundw
              case rel => exact ⟨j + 1, by omega, by go_num, Lib.hid ⟨HBA.out _, HN2.out⟩⟩
              case measure => simp [intOf]; omega
          · have h1b : (ok == 2) = false := beq_eq_false_iff_ne.2 h1
            have HN2 := Lib.hid (HN.out fun h => h1 h.1)
            clear h1
            go_wp2
            go_roundw
            case rel => exact ⟨j + 1, by omega, by go_num, Lib.hid ⟨HBA.out _, HN2.out⟩⟩
            case measure => simp [intOf]; omega
        · obtain rfl : j = tn := by omega
          have HNN := Lib.hid (HNO.out fun h => by obtain ⟨x, h1, h2⟩ := HOUT.out h; exact HJ.out.2 x h1 h2)
          have HBJ := Lib.hid HJ.out.1
          clear HJ
          go_wp2
          go_roundw
          case rel => exact ⟨t + 1, by omega, by go_num, Lib.hid ⟨HBJ.out, HNN.out⟩⟩
          case measure => simp [intOf]; omega
    · obtain rfl : t = m := by omega
      go_wp2
      go_ret2
      exact ⟨none, .inl ⟨rfl, HT.out.2⟩, rfl, HT.out.1⟩
set_option maxRecDepth 100000 in
set_option maxHeartbeats 4000000 in
theorem writer_any (a : Option Addr) (m cap : Nat) (T : Nat → Tx) (k v : Int) (w : World) (hs : TxS w a m T) (ok : TOk m T) :
    Calls Try.prog 21 #[.slice a m cap, .int .i64 k, .int .i64 v] w (WrtP T m k v w) := by
  have HS := Lib.hid hs
  have HOK := Lib.hid ok
  have hm4 := ok.cnt
  clear hs ok
  go_enter Try.func21, Try.ntmps21
  go_wp2
  go_loopw [6, 7, 9, 12] (fun _ _ _ x wr => ∃ t : Nat, t ≤ m ∧ x = .int .i64 (t : Int) ∧ Hid (Below w.heap.size w wr ∧ ∀ i, i < t → ¬ Has (T i) k v)) (fun _ _ _ x _ => m - (intOf x).toNat)
  case atStart => exact ⟨0, Nat.zero_le _, rfl, Lib.hid ⟨Below.refl _ _, fun i hi => absurd hi (Nat.not_lt_zero _)⟩⟩
  case round =>
    obtain ⟨t, ht, rfl, HT⟩ := hrel
    by_cases hlt : t < m
    · obtain ⟨b, off, rfl, hbl, hci⟩ := HS.out (by omega)
      obtain ⟨sp, cp, c0, c1, c2, ho⟩ := hci t hlt
      have x0 := (HT.out.1.cell (p := ⟨b, off + t * 3, none⟩) hbl).trans c0
      have x1 := (HT.out.1.cell (p := ⟨b, off + t * 3 + 1, none⟩) hbl).trans c1
      have x2 := (HT.out.1.cell (p := ⟨b, off + t * 3 + 2, none⟩) hbl).trans c2
      have hlt' : (t : Int) < (m : Int) := by omega
      have HOPB := Lib.hid ho
      have hn1 := HOK.out.n t hlt
      have HYES : Hid (Has (T t) k v → FirstW T m k v (some t)) := Lib.hid fun h => .inr ⟨t, hlt, rfl, h, HT.out.2⟩
      have HNO : Hid (¬ Has (T t) k v → ∀ i, i < t + 1 → ¬ Has (T i) k v) := Lib.hid fun h i hi => by
        by_cases e : i < t
        · exact HT.out.2 i e
        · obtain rfl : i = t := by omega
          exact h
      have HIN : Hid (∀ x, x < (T t).n → ((T t).o x).k = 2 → ((T t).o x).key = k → ((T t).o x).v = v → Has (T t) k v) := Lib.hid fun x h1 h2 h3 h4 => ⟨x, h1, h2, h3, h4⟩
      have HOUT : Hid (Has (T t) k v → ∃ x, x < (T t).n ∧ ((T t).o x).k = 2 ∧ ((T t).o x).key = k ∧ ((T t).o x).v = v) := Lib.hid fun h => h
      clear c0 c1 c2 ho hci
      generalize Has (T t) k v = HH at *
      generalize (T t).c = tc at *
      generalize (T t).st = tst at *
      generalize (T t).n = tn at *
      generalize (T t).o = to_ at *
      have HBX := Lib.hid HT.out.1
      clear HT
      go_wp2
      clear x0 x1 x2
      go_loopw [6, 9, 21] (fun _ _ x ws => ∃ j : Nat, j ≤ tn ∧ x = .int .i64 (j : Int) ∧ Hid (Below w.heap.size w ws ∧ ∀ i, i < j → ¬ ((to_ i).k = 2 ∧ (to_ i).key = k ∧ (to_ i).v = v))) (fun _ _ x _ => tn - (intOf x).toNat)
      case atStart => exact ⟨0, Nat.zero_le _, rfl, Lib.hid ⟨HBX.out, fun i hi => absurd hi (Nat.not_lt_zero _)⟩⟩
      case round =>
        obtain ⟨j, hj, rfl, HJ⟩ := hrel
        by_cases hjl : j < tn
        · obtain ⟨b3, off3, rfl, hb3, hc3⟩ := HOPB.out (by omega)
          obtain ⟨d0, d1, d2⟩ := hc3 j hjl
          have x0 := (HJ.out.1.cell (p := ⟨b3, off3 + j * 3, none⟩) hb3).trans d0
          have x1 := (HJ.out.1.cell (p := ⟨b3, off3 + j * 3 + 1, none⟩) hb3).trans d1
          have x2 := (HJ.out.1.cell (p := ⟨b3, off3 + j * 3 + 2, none⟩) hb3).trans d2
          have hjl' : (j : Int) < (tn : Int) := by omega
          have HY := Lib.hid (HIN.out j hjl)
          have HN : Hid (¬ ((to_ j).k = 2 ∧ (to_ j).key = k ∧ (to_ j).v = v) → ∀ i, i < j + 1 → ¬ ((to_ i).k = 2 ∧ (to_ i).key = k ∧ (to_ i).v = v)) := Lib.hid fun h i hi => by
            by_cases e : i < j
            · exact HJ.out.2 i e
            · obtain rfl : i = j := by omega
              exact h
          have HBA : Hid (∀ ob, Below w.heap.size w (wr.alloc ob)) := Lib.hid fun ob => HJ.out.1.alloc HJ.out.1.size _
          clear d0 d1 d2 hc3 HJ
          generalize to_ j = oj at *
          obtain ⟨ok, okey, ov⟩ := oj
          dsimp only at x0 x1 x2 HY HN
          by_cases h1 : ok = 2
          · have h1b : (ok == 2) = true := beq_iff_eq.2 h1
            by_cases h2 : okey = k
            · have h2b : (okey == k) = true := beq_iff_eq.2 h2
              by_cases h3 : ov = v
              · have h3b : (ov == v) = true := beq_iff_eq.2 h3
                have HF := Lib.hid (HYES.out (HY.out h1 h2 h3))
                subst h1 h2 h3
                go_wp2
                go_ret
                exact ⟨some t, HF.out, rfl, HBA.out _⟩
              · have h3b : (ov == v) = false := beq_eq_false_iff_ne.2 h3
                have HN2 := Lib.hid (HN.out fun h => h3 h.2.2)
                subst h1 h2
                clear h3
                go_wp2
                go_roundw
                case rel => exact ⟨j + 1, by omega, by go_num, Lib.hid ⟨HBA.out _, HN2.out⟩⟩
                case measure => simp [intOf]; omega
            · have h2b : (okey == k) = false := beq_eq_false_iff_ne.2 h2
              have HN2 := Lib.hid (HN.out fun h => h2 h.2.1)
              subst h1
              clear h2
              go_wp2
              go_roundw
              case rel => exact ⟨j + 1, by omega, by go_num, Lib.hid ⟨HBA.out _, HN2.out⟩⟩
              case measure => simp [intOf]; omega
          · have h1b : (ok == 2) = false := beq_eq_false_iff_ne.2 h1
            have HN2 := Lib.hid (HN.out fun h => h1 h.1)
            clear h1
            go_wp2
            go_roundw
            case rel => exact ⟨j + 1, by omega, by go_num, Lib.hid ⟨HBA.out _, HN2.out⟩⟩
            case measure => simp [intOf]; omega
        · obtain rfl : j = tn := by omega
          have HNN := Lib.hid (HNO.out fun h => by obtain ⟨x, h1, h2⟩ := HOUT.out h; exact HJ.out.2 x h1 h2)
          have HBJ := Lib.hid HJ.out.1
          clear HJ
          go_wp2
          go_roundw
          case rel => exact ⟨t + 1, by omega, by go_num, Lib.hid ⟨HBJ.out, HNN.out⟩⟩
          case measure => simp [intOf]; omega
    · obtain rfl : t = m := by omega
      go_wp2
      go_ret
      exact ⟨none, .inl ⟨rfl, HT.out.2⟩, rfl, HT.out.1⟩
end Go.Proofs.Yteobndfkkpfnlaa
