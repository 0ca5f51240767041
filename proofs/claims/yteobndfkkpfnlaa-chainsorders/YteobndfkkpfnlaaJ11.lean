/-
  The reference's Sure.
-/
import Derived.Test.YteobndfkkpfnlaaJ10

namespace Go.Proofs.Yteobndfkkpfnlaa
open Go.ChangeShapes Go.WideShapes Go.ChangeAt Go.RowKit
set_option linter.unusedVariables false

/-- a read that makes the i-th one sure -/
def Gd (A : VM) (T : Nat → Tx) (i : Nat) (r : O3) : Prop := r.v ≠ 0 ∧ (T i).st = 0 ∧ A r.key r.v = some (i : Int)
theorem suR_iff {A : VM} {T : Nat → Tx} {rs : List O3} {S : Nat → Bool} {m i : Nat} (hz : ∀ k v x, A k v = some x → v ≠ 0 ∧ ∃ j : Nat, x = (j : Int)) : ∀ n, suR A T rs S n i = true ↔ (S i = true ∨ ∃ y, y < n ∧ Gd A T i (lf rs y)) := by
  intro n
  induction n with
  | zero => exact ⟨fun h => .inl h, fun h => by rcases h with h | ⟨y, hy, _⟩; exact h; omega⟩
  | succ n ih =>
    have hsplit : (∃ y, y < n + 1 ∧ Gd A T i (lf rs y)) ↔ (Gd A T i (lf rs n) ∨ ∃ y, y < n ∧ Gd A T i (lf rs y)) := by
      constructor
      · rintro ⟨y, hy, h⟩
        by_cases e : y = n
        · subst e; exact .inl h
        · exact .inr ⟨y, by omega, h⟩
      · rintro (h | ⟨y, hy, h⟩)
        · exact ⟨n, by omega, h⟩
        · exact ⟨y, by omega, h⟩
    rw [hsplit]
    unfold suR
    cases hA : A (lf rs n).key (lf rs n).v with
    | none =>
      dsimp only
      rw [ih]
      have hn : ¬ Gd A T i (lf rs n) := fun h => by have := h.2.2; rw [hA] at this; cases this
      constructor
      · rintro (h | h)
        · exact .inl h
        · exact .inr (.inr h)
      · rintro (h | h | h)
        · exact .inl h
        · exact absurd h hn
        · exact .inr h
    | some x =>
      dsimp only
      obtain ⟨hv, j, rfl⟩ := hz _ _ _ hA
      rw [Int.toNat_natCast]
      by_cases h0 : (T j).st = 0
      · rw [if_pos h0]
        unfold setB
        by_cases hij : i = j
        · subst hij
          rw [if_pos rfl]
          exact ⟨fun _ => .inr (.inl ⟨hv, h0, hA⟩), fun _ => rfl⟩
        · rw [if_neg hij, ih]
          have hn : ¬ Gd A T i (lf rs n) := fun h => by
            have := h.2.2
            rw [hA] at this
            injection this with this
            omega
          constructor
          · rintro (h | h)
            · exact .inl h
            · exact .inr (.inr h)
          · rintro (h | h | h)
            · exact .inl h
            · exact absurd h hn
            · exact .inr h
      · rw [if_neg h0, ih]
        have hn : ¬ Gd A T i (lf rs n) := fun h => by
          have h1 := h.2.2
          rw [hA] at h1
          injection h1 with h1
          have : j = i := by omega
          subst this
          exact h0 h.2.1
        constructor
        · rintro (h | h)
          · exact .inl h
          · exact .inr (.inr h)
        · rintro (h | h | h)
          · exact .inl h
          · exact absurd h hn
          · exact .inr h
theorem suT_iff {A : VM} {T : Nat → Tx} {i : Nat} (hz : ∀ k v x, A k v = some x → v ≠ 0 ∧ ∃ j : Nat, x = (j : Int)) : ∀ m, suT A T m i = true ↔ ((i < m ∧ (T i).st = 1) ∨ ∃ k, k < m ∧ ∃ y, y < (rdT (T k)).length ∧ Gd A T i (lf (rdT (T k)) y)) := by
  intro m
  induction m with
  | zero => exact ⟨fun h => (by cases h), fun h => by rcases h with ⟨h, _⟩ | ⟨k, h, _⟩ <;> omega⟩
  | succ m ih =>
    have hsplit : (∃ k, k < m + 1 ∧ ∃ y, y < (rdT (T k)).length ∧ Gd A T i (lf (rdT (T k)) y)) ↔ ((∃ y, y < (rdT (T m)).length ∧ Gd A T i (lf (rdT (T m)) y)) ∨ ∃ k, k < m ∧ ∃ y, y < (rdT (T k)).length ∧ Gd A T i (lf (rdT (T k)) y)) := by
      constructor
      · rintro ⟨k, hk, h⟩
        by_cases e : k = m
        · subst e; exact .inl h
        · exact .inr ⟨k, by omega, h⟩
      · rintro (h | ⟨k, hk, h⟩)
        · exact ⟨m, by omega, h⟩
        · exact ⟨k, by omega, h⟩
    rw [hsplit]
    unfold suT
    by_cases h1 : (T m).st = 1
    · rw [if_pos h1, suR_iff (m := m) hz]
      unfold setB
      by_cases him : i = m
      · subst him
        rw [if_pos rfl]
        exact ⟨fun _ => .inl ⟨by omega, h1⟩, fun _ => .inl rfl⟩
      · rw [if_neg him, ih]
        constructor
        · rintro ((⟨a, b⟩ | h) | h)
          · exact .inl ⟨by omega, b⟩
          · exact .inr (.inr h)
          · exact .inr (.inl h)
        · rintro (⟨a, b⟩ | h | h)
          · exact .inl (.inl ⟨by omega, b⟩)
          · exact .inr h
          · exact .inl (.inr h)
    · rw [if_neg h1, ih]
      have hr : rdT (T m) = [] := by unfold rdT; rw [if_neg h1]
      rw [hr]
      constructor
      · rintro (⟨a, b⟩ | h)
        · exact .inl ⟨by omega, b⟩
        · exact .inr (.inr h)
      · rintro (⟨a, b⟩ | ⟨y, hy, _⟩ | h)
        · refine .inl ⟨?_, b⟩
          rcases Nat.lt_or_ge i m with h | h
          · exact h
          · have : i = m := by omega
            subst this
            exact absurd b h1
        · simp at hy
        · exact .inr h
theorem su_iff {T : Nat → Tx} {m i : Nat} (hu : Uq m T) (hi : i < m) : suL T m i = true ↔ ((T i).st = 1 ∨ ∃ k, k < m ∧ ∃ y, y < (rdT (T k)).length ∧ Gd (allV T m) T i (lf (rdT (T k)) y)) := by
  unfold suL
  rw [suT_iff]
  · constructor
    · rintro (⟨_, h⟩ | h)
      · exact .inl h
      · exact .inr h
    · rintro (h | h)
      · exact .inl ⟨hi, h⟩
      · exact .inr h
  · intro k v x h
    obtain ⟨j, hj, e, y, hy, h2, _, hv⟩ := allV_has m h
    have := hu.pos j hj y hy h2
    exact ⟨by omega, j, e⟩
theorem rowB_succ (M : Nat → Bool) (n : Nat) : rowB M (n + 1) = rowB M n ++ [.bool (M n)] := by
  unfold rowB rowW; rw [List.range_succ, List.map_append]; rfl
theorem rowB_length (M : Nat → Bool) (n : Nat) : (rowB M n).length = n := by unfold rowB; exact rowW_length _ _
/-- Sure's memory -/
structure RsS (w : World) (B : Nat) (wr : World) (v : Value) (S : Nat → Bool) (t : Nat) : Prop where
  low : B ≤ wr.heap.size
  bel : Below B w wr
  row : wr.ownsRow B 4 1 v t (rowB S t)
theorem RsS.keep {w wr wr' : World} {B t : Nat} {v : Value} {S : Nat → Bool} (h : RsS w B wr v S t) (hb : Below wr.heap.size wr wr') : RsS w B wr' v S t :=
  ⟨Nat.le_trans h.low hb.size, h.bel.trans (hb.mono h.low), own_keep h.row fun g hg => hb.block g (h.row.lt g hg).2⟩
def RsP (T : Nat → Tx) (m : Nat) (w : World) (e : Ending) (w' : World) : Prop :=
  ∃ sp cp, e = .returned (.slice sp m cp) ∧ w'.ownsRow w.heap.size 4 1 (.slice sp m cp) m (rowB (suL T m) m) ∧ Below w.heap.size w w'

set_option maxRecDepth 100000 in
set_option maxHeartbeats 4000000 in
theorem rsure_any (a : Option Addr) (m cap : Nat) (T : Nat → Tx) (w : World) (hs : TxS w a m T) (hx : HTx m T) (hu : Uq m T) :
    Calls Try.prog 19 #[.slice a m cap] w (RsP T m w) := by
  obtain ⟨i8, hi8, hx0, hx1, hx2⟩ := info_parts info4
  have HS := Lib.hid hs
  have HX := Lib.hid hx
  have hm4 := hx.ok.cnt
  have HSI : Hid (∀ i, i < m → (suL T m i = true ↔ ((T i).st = 1 ∨ ∃ k, k < m ∧ ∃ y, y < (rdT (T k)).length ∧ Gd (allV T m) T i (lf (rdT (T k)) y)))) := Lib.hid fun i hi => su_iff hu hi
  have HFQ : Hid (∀ (i : Nat) (r : O3) (q : Option Nat), FirstW T m r.key r.v q → (allV T m r.key r.v = some (i : Int) ↔ q = some i)) := Lib.hid fun i r q h => by
    rw [first_all hu h]
    cases q with
    | none => exact ⟨fun h => (by cases h), fun h => (by cases h)⟩
    | some j =>
      show some (j : Int) = some (i : Int) ↔ _
      constructor
      · intro h; injection h with h; rw [show j = i by omega]
      · intro h; injection h with h; rw [h]
  clear hs hx hu
  generalize allV T m = A at *
  obtain ⟨SU, hSU⟩ : ∃ SU, SU = suL T m := ⟨_, rfl⟩
  rw [← hSU] at HSI
  have HSE := Lib.hid hSU
  clear hSU
  have HA0 : Hid (RsS w w.heap.size (w.alloc (.cells #[] 4)) (.slice (some ⟨w.heap.size, 0, none⟩) 0 0) SU 0) := Lib.hid
    ⟨by simp, (Below.refl _ _).alloc (Nat.le_refl _) _, World.ownsRow_lit w #[] 0 (Nat.le_refl _) (Nat.zero_le _) rfl⟩
  go_enter Try.func19, Try.ntmps19
  go_wp2
  obtain ⟨wi, ewi⟩ : ∃ wi, wi = w.alloc (.cells #[] 4) := ⟨_, rfl⟩
  obtain ⟨gi, egi⟩ : ∃ gi, gi = w.heap.size := ⟨_, rfl⟩
  have HA1 : Hid (RsS w w.heap.size wi (.slice (some ⟨gi, 0, none⟩) 0 0) SU 0) := Lib.hid (by rw [ewi, egi]; exact HA0.out)
  rw [← ewi, ← egi]
  clear ewi egi HA0
  go_loopw [3, 4, 5, 6, 8, 12] (fun vo _ _ _ _ x wr => ∃ (t : Nat) (spo : Option Addr) (cpo : Nat), t ≤ m ∧ x = .int .i64 (t : Int) ∧ vo = .slice spo t cpo ∧ Hid (RsS w w.heap.size wr (.slice spo t cpo) SU t)) (fun _ _ _ _ _ x _ => m - (intOf x).toNat)
  case atStart => exact ⟨0, _, _, Nat.zero_le _, rfl, rfl, HA1⟩
  case round =>
    obtain ⟨t, spo, cpo, ht, rfl, rfl, HT⟩ := hrel
    clear HA1
    by_cases hlt : t < m
    · obtain ⟨b, off, rfl, hbl, hci⟩ := HS.out (by omega)
      have HCI := Lib.hid hci
      obtain ⟨sp, cp, c0, c1, c2, ho⟩ := hci t hlt
      have x1 := (HT.out.bel.cell (p := ⟨b, off + t * 3 + 1, none⟩) hbl).trans c1
      have hlt' : (t : Int) < (m : Int) := by omega
      have HSU := Lib.hid (HSI.out t hlt)
      have HGD : Hid (∀ r, Gd A T t r ↔ (r.v ≠ 0 ∧ (T t).st = 0 ∧ A r.key r.v = some (t : Int))) := Lib.hid fun r => Iff.rfl
      have hc1 := c1
      clear c0 c1 c2 ho hci
      obtain ⟨wz, ewz⟩ : ∃ wz, wz = wr := ⟨_, rfl⟩
      rw [← ewz] at HT x1 ⊢
      clear ewz
      generalize hst : (T t).st = tst at *
      clear hst
      obtain ⟨d0, hd0⟩ : ∃ d0 : Bool, d0 = (tst == 1) := ⟨_, rfl⟩
      have HD0 : Hid (d0 = true ↔ tst = 1) := Lib.hid (by rw [hd0]; exact beq_iff_eq)
      have hd0' := hd0.symm
      clear hd0
      go_wp2
      clear hd0'
      go_loopw [5, 6, 8, 23] (fun dv _ _ x ws => ∃ (k : Nat) (db : Bool), k ≤ m ∧ x = .int .i64 (k : Int) ∧ dv = .bool db ∧ Hid ((db = true ↔ (tst = 1 ∨ ∃ k', k' < k ∧ ∃ y, y < (rdT (T k')).length ∧ Gd A T t (lf (rdT (T k')) y))) ∧ Below wz.heap.size wz ws)) (fun _ _ _ x _ => m - (intOf x).toNat)
      case atStart => exact ⟨0, d0, Nat.zero_le _, rfl, rfl, Lib.hid ⟨⟨fun h => .inl (HD0.out.1 h), fun h => by rcases h with h | ⟨k, hk, _⟩; exact HD0.out.2 h; omega⟩, Below.refl _ _⟩⟩
      case round =>
        obtain ⟨k, db, hk, rfl, rfl, HK⟩ := hrel
        clear HD0
        by_cases hkm : k < m
        · obtain ⟨sp, cp, c0, c1, c2, ho⟩ := HCI.out k hkm
          have hbw := HT.out.bel.trans (HK.out.2.mono HT.out.low)
          have z0 := (hbw.cell (p := ⟨b, off + k * 3, none⟩) hbl).trans c0
          have z1 := (hbw.cell (p := ⟨b, off + k * 3 + 1, none⟩) hbl).trans c1
          have z2 := (hbw.cell (p := ⟨b, off + k * 3 + 2, none⟩) hbl).trans c2
          have hkm' : (k : Int) < (m : Int) := by omega
          have hn1 := HX.out.ok.n k hkm
          have hrle := rdT_le (T k)
          have HCR := Lib.hid (rreads_any (T k).c (T k).st sp (T k).n cp (T k).o wr (by omega) (fun i hi => (HX.out.op k hkm i hi).1.1) (ho.below hbw))
          rw [show rdS (T k).st (T k).o (T k).n = rdT (T k) from rfl] at HCR
          have HNX : Hid ((∃ k', k' < k + 1 ∧ ∃ y, y < (rdT (T k')).length ∧ Gd A T t (lf (rdT (T k')) y)) ↔ ((∃ k', k' < k ∧ ∃ y, y < (rdT (T k')).length ∧ Gd A T t (lf (rdT (T k')) y)) ∨ ∃ y, y < (rdT (T k)).length ∧ Gd A T t (lf (rdT (T k)) y))) := Lib.hid (by
            constructor
            · rintro ⟨k', h, r⟩
              by_cases e : k' = k
              · subst e; exact .inr r
              · exact .inl ⟨k', by omega, r⟩
            · rintro (⟨k', h, r⟩ | r)
              · exact ⟨k', by omega, r⟩
              · exact ⟨k, by omega, r⟩)
          have HDB := Lib.hid HK.out.1
          have HBK := Lib.hid HK.out.2
          clear c0 c1 c2 ho hbw HK
          generalize (∃ k', k' < k ∧ ∃ y, y < (rdT (T k')).length ∧ Gd A T t (lf (rdT (T k')) y)) = PK at *
          generalize rdT (T k) = rs at *
          generalize (T k).c = tc at *
          generalize (T k).st = kst at *
          generalize (T k).n = tn at *
          generalize (T k).o = to_ at *
          go_wp2_with fail
          refine HCR.out.mono ?_
          rintro e w5 ⟨sp2, cp2, rfl, ho2, hb2⟩
          have HB5 := Lib.hid (HBK.out.trans (hb2.mono HBK.out.size))
          have HO5 := Lib.hid (own38_ops ho2)
          clear ho2 hb2 HCR HBK z0 z1 z2
          go_wp2
          go_loopw [5, 8, 32] (fun dv _ x ws => ∃ (j : Nat) (db : Bool), j ≤ rs.length ∧ x = .int .i64 (j : Int) ∧ dv = .bool db ∧ Hid ((db = true ↔ ((tst = 1 ∨ PK) ∨ ∃ y, y < j ∧ Gd A T t (lf rs y))) ∧ Below w5.heap.size w5 ws)) (fun _ _ x _ => rs.length - (intOf x).toNat)
          case atStart => exact ⟨0, db, Nat.zero_le _, rfl, rfl, Lib.hid ⟨⟨fun h => .inl (HDB.out.1 h), fun h => by rcases h with h | ⟨y, hy, _⟩; exact HDB.out.2 h; omega⟩, Below.refl _ _⟩⟩
          case round =>
            obtain ⟨j, db, hj, rfl, rfl, HJ⟩ := hrel
            clear HDB
            by_cases hjl : j < rs.length
            · obtain ⟨b3, off3, e3, hb3, hc3⟩ := HO5.out (by omega)
              subst e3
              obtain ⟨d0, d1, d2⟩ := hc3 j hjl
              have x0 := (HJ.out.2.cell (p := ⟨b3, off3 + j * 3, none⟩) hb3).trans d0
              have y1 := (HJ.out.2.cell (p := ⟨b3, off3 + j * 3 + 1, none⟩) hb3).trans d1
              have y2 := (HJ.out.2.cell (p := ⟨b3, off3 + j * 3 + 2, none⟩) hb3).trans d2
              have hjl' : (j : Int) < (rs.length : Int) := by omega
              have HGJ := Lib.hid (HGD.out (lf rs j))
              have HFJ := Lib.hid (HFQ.out t (lf rs j))
              have HN : Hid ((∃ y, y < j + 1 ∧ Gd A T t (lf rs y)) ↔ ((∃ y, y < j ∧ Gd A T t (lf rs y)) ∨ Gd A T t (lf rs j))) := Lib.hid (by
                constructor
                · rintro ⟨y, h, r⟩
                  by_cases e : y = j
                  · subst e; exact .inr r
                  · exact .inl ⟨y, by omega, r⟩
                · rintro (⟨y, h, r⟩ | r)
                  · exact ⟨y, by omega, r⟩
                  · exact ⟨j, by omega, r⟩)
              have hbw := HT.out.bel.trans ((HB5.out.trans (HJ.out.2.mono HB5.out.size)).mono HT.out.low)
              have t1 := (hbw.cell (p := ⟨b, off + t * 3 + 1, none⟩) hbl).trans hc1
              have HSW := Lib.hid (HS.out.below hbw)
              have hblr : b < wr.heap.size := Nat.lt_of_lt_of_le hbl hbw.size
              have HBJ := Lib.hid HJ.out.2
              have HDJ := Lib.hid HJ.out.1
              clear d0 d1 d2 hc3 HJ hbw
              generalize (∃ y, y < j ∧ Gd A T t (lf rs y)) = PJ at *
              generalize Gd A T t (lf rs j) = GJ at *
              generalize lf rs j = oj at *
              obtain ⟨ok, okey, ov⟩ := oj
              dsimp only at x0 y1 y2
              have hwx : Below wr.heap.size wr (wr.alloc (.cells #[.int .i64 ok, .int .i64 okey, .int .i64 ov] 44)) := (Below.refl _ _).alloc (Nat.le_refl _) _
              have HBX := Lib.hid (HBJ.out.trans (hwx.mono HBJ.out.size))
              have HSX := Lib.hid (HSW.out.below hwx)
              clear hwx HSW
              cases db with
              | true =>
                go_wp2
                go_roundw
                case rel => exact ⟨j + 1, true, by omega, by go_num, rfl, Lib.hid ⟨⟨fun _ => by
                  rw [HN.out]
                  rcases HDJ.out.1 rfl with h | h
                  · exact .inl h
                  · exact .inr (.inl h), fun _ => rfl⟩, HBX.out⟩⟩
                case measure => simp [intOf]; omega
              | false =>
                have HNO : Hid (¬ GJ → (false = true ↔ ((tst = 1 ∨ PK) ∨ ∃ y, y < j + 1 ∧ Gd A T t (lf rs y)))) := Lib.hid fun hg => ⟨fun h => (by cases h), fun h => by
                  rw [HN.out] at h
                  rcases h with h | h | h
                  · exact HDJ.out.2 (.inl h)
                  · exact HDJ.out.2 (.inr h)
                  · exact absurd h hg⟩
                by_cases hv0 : ov = 0
                · have HZ : Hid (¬ GJ) := Lib.hid fun h => (HGJ.out.1 h).1 hv0
                  have hvb : (ov != 0) = false := by rw [hv0]; rfl
                  subst hv0
                  go_wp2
                  go_roundw
                  case rel => exact ⟨j + 1, false, by omega, by go_num, rfl, Lib.hid ⟨HNO.out HZ.out, HBX.out⟩⟩
                  case measure => simp [intOf]; omega
                · have hvb : (ov != 0) = true := bne_iff_ne.2 hv0
                  by_cases hs0 : tst = 0
                  · have hsb : (tst == 0) = true := beq_iff_eq.2 hs0
                    have HCW := Lib.hid (writer_q (some ⟨b, off, none⟩) m cap T okey ov _ HSX.out HX.out.ok)
                    have HG2 : Hid (GJ ↔ A okey ov = some (t : Int)) := Lib.hid ⟨fun h => (HGJ.out.1 h).2.2, fun h => HGJ.out.2 ⟨hv0, hs0, h⟩⟩
                    subst hs0
                    go_wp2_with fail
                    refine HCW.out.mono ?_
                    rintro e w8 ⟨q, wq, hq, hqn, hqs, rfl, hb8⟩
                    have HB8 := Lib.hid (HBX.out.trans (hb8.mono HBX.out.size))
                    have hfq := HFJ.out q hq
                    by_cases hqt : q = some t
                    · obtain rfl := hqs t hqt
                      have HZ : Hid GJ := Lib.hid (HG2.out.2 (hfq.2 hqt))
                      clear hq hqn hqs hb8 hfq HCW hqt
                      have htt : ((t : Int) == (t : Int)) = true := by simp
                      go_wp2
                      go_roundw
                      case rel => exact ⟨j + 1, true, by omega, by go_num, rfl, Lib.hid ⟨⟨fun _ => by rw [HN.out]; exact .inr (.inr HZ.out), fun _ => rfl⟩, HB8.out⟩⟩
                      case measure => simp [intOf]; omega
                    · have HZ : Hid (¬ GJ) := Lib.hid fun h => hqt (hfq.1 (HG2.out.1 h))
                      have hwt : wq ≠ (t : Int) := by
                        cases q with
                        | none => rw [hqn rfl]; omega
                        | some i => rw [hqs i rfl]; intro e; exact hqt (by rw [show i = t by omega])
                      have hwb : (wq == (t : Int)) = false := beq_eq_false_iff_ne.2 hwt
                      clear hq hqn hqs hb8 hfq HCW hqt hwt
                      go_wp2
                      go_roundw
                      case rel => exact ⟨j + 1, false, by omega, by go_num, rfl, Lib.hid ⟨HNO.out HZ.out, HB8.out⟩⟩
                      case measure => simp [intOf]; omega
                  · have HZ : Hid (¬ GJ) := Lib.hid fun h => hs0 (HGJ.out.1 h).2.1
                    have hsb : (tst == 0) = false := beq_eq_false_iff_ne.2 hs0
                    go_wp2
                    go_roundw
                    case rel => exact ⟨j + 1, false, by omega, by go_num, rfl, Lib.hid ⟨HNO.out HZ.out, HBX.out⟩⟩
                    case measure => simp [intOf]; omega
            · obtain rfl : j = rs.length := by omega
              have HBN := Lib.hid (HB5.out.trans (HJ.out.2.mono HB5.out.size))
              have HDN := Lib.hid HJ.out.1
              clear HJ HB5
              go_wp2
              go_roundw
              case rel => exact ⟨k + 1, db, by omega, by go_num, rfl, Lib.hid ⟨by rw [HDN.out, HNX.out, or_assoc], HBN.out⟩⟩
              case measure => simp [intOf]; omega
        · obtain rfl : k = m := by omega
          have hdb : db = SU t := by
            apply Bool.eq_iff_iff.2
            rw [HK.out.1, HSU.out]
          have HTK := Lib.hid (HT.out.keep HK.out.2)
          clear HK HT HSU
          have hwx : Below wr.heap.size wr (wr.alloc (.cells #[.bool db] 4)) := (Below.refl _ _).alloc (Nat.le_refl _) _
          have HTX := Lib.hid (HTK.out.keep hwx)
          have HNW : Hid (∀ (W : World) (i : Nat) (z : Value), [Value.bool db][i]? = some z → (W.alloc (.cells #[.bool db] 4)).cell? ((⟨W.heap.size, 0, none⟩ : Addr).add i) = some z) := Lib.hid fun W i z hj => by
            rw [Go.WideShapes.add_plain, cell_of_row _ _ _ _ 4 (0, 0) (heap_alloc_new W _), Nat.zero_add]
            simpa using hj
          have HRS : Hid (rowB SU (t + 1) = rowB SU t ++ [.bool db]) := Lib.hid (by rw [rowB_succ, hdb])
          clear hwx hdb
          go_wp2_with (at_builtin; refine wpList_append_lies _ rfl _ _ 35 rfl w.heap.size 4 i8 (.bool false) 1 1 Try.underlying35 hi8 hx0 hx1 hx2 rfl (by decide) _ t _ rfl HTX.out.row ⟨wr.heap.size, 0, none⟩ 1 1 [.bool db] rfl rfl (HNW.out _) (by intro u hu; simp at hu; rcases hu with rfl; rfl) (by omega) (by unfold maxLen; omega) (by omega) HTX.out.low _ rfl ?_)
          intro g7 c7 w7 ho7 hg7 hat7 hl7
          rw [← HRS.out] at ho7
          have HT7 : Hid (RsS w w.heap.size w7 (.slice (some ⟨g7, 0, none⟩) (t + 1) c7) SU (t + 1)) := Lib.hid ⟨Nat.le_trans HTX.out.low hg7.size, HTX.out.bel.grown hg7 HTX.out.low (fun q hq => (HTX.out.row.lt q hq).1), ho7⟩
          clear ho7 hg7 hat7 HTX HTK HNW
          go_wp2
          go_roundw
          case rel => exact ⟨t + 1, some ⟨g7, 0, none⟩, c7, by omega, by go_num, rfl, HT7⟩
          case measure => simp [intOf]; omega
    · obtain rfl : t = m := by omega
      go_wp2
      go_ret
      exact ⟨spo, cpo, rfl, by rw [← HSE.out]; exact HT.out.row, HT.out.bel⟩
end Go.Proofs.Yteobndfkkpfnlaa

