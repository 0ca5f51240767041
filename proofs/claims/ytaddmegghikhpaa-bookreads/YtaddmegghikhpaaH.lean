/-
  Operations and events in memory; the reference's Same, Copy; the laws' big.
-/
import Derived.Test.YtaddmegghikhpaaBG
import Derived.Test.YtaddmegghikhpaaBN2
import Derived.WalkKit
import Derived.ProofKit
import Derived.OpenShut
import Derived.Below
import Derived.Lib.Hide
import Derived.Deep.AppendLies
import Derived.WalkArith
import Derived.BigQuiet
import Derived.Laws.StructEq
import Derived.Deep.RegionHeld3
import Derived.WalkSpells
namespace Go.Proofs.Ytaddmegghikhpaa
open Go.ChangeShapes Go.WideShapes Go.ChangeAt Go.RowKit

/-- three cells of a block -/
theorem cells3 {w : World} {b t : Nat} {v0 v1 v2 : Value} (h : w.heap[b]? = some (.cells #[v0, v1, v2] t (0, 0))) :
    (w.cell? ⟨b, 0, none⟩ = some v0 ∧ w.cell? ⟨b, 1, none⟩ = some v1 ∧ w.cell? ⟨b, 2, none⟩ = some v2) ∧ ∀ j, w.frozen? ⟨b, j, none⟩ = false :=
  ⟨⟨by simp [World.cell?, h], by simp [World.cell?, h], by simp [World.cell?, h]⟩, fun j => by simp [World.frozen?, h]⟩

/-- who tells whether something holds -/
def Tells (p : Prop) (w : World) (e : Ending) (w' : World) : Prop := ∃ b : Bool, e = .returned (.bool b) ∧ (b = true ↔ p) ∧ Below w.heap.size w w'

/-- an operation -/
structure O3 where
  k : Int
  key : Int
  v : Int

/-- operations in a slice that may be anybody's -/
def OpS (w : World) (sp : Option Addr) (n : Nat) (o : Nat → O3) : Prop :=
  0 < n → ∃ b off, sp = some ⟨b, off, none⟩ ∧ b < w.heap.size ∧ ∀ i, i < n → w.cell? ⟨b, off + i * 3, none⟩ = some (.int .i64 (o i).k) ∧ w.cell? ⟨b, off + i * 3 + 1, none⟩ = some (.int .i64 (o i).key) ∧ w.cell? ⟨b, off + i * 3 + 2, none⟩ = some (.int .i64 (o i).v)

theorem OpS.below {w w' : World} {sp : Option Addr} {n : Nat} {o : Nat → O3} (h : OpS w sp n o) (hb : Below w.heap.size w w') : OpS w' sp n o := by
  intro hn
  obtain ⟨b, off, e, hl, hc⟩ := h hn
  refine ⟨b, off, e, Nat.lt_of_lt_of_le hl hb.size, fun i hi => ?_⟩
  obtain ⟨c0, c1, c2⟩ := hc i hi
  exact ⟨(hb.cell hl).trans c0, (hb.cell hl).trans c1, (hb.cell hl).trans c2⟩

theorem info38 : (Try.prog.info? 53).map (fun i => (i.zero, i.size, i.bytes)) = some (some (.agg #[.int .i64 0, .int .i64 0, .int .i64 0]), 3, 24) := by kernel_rfl

/-- operations' cells -/
def rowO (o : Nat → O3) (n : Nat) : List Value := (List.range n).flatMap fun i => [Value.int .i64 (o i).k, .int .i64 (o i).key, .int .i64 (o i).v]

theorem rowO_succ (o : Nat → O3) (n : Nat) : rowO o (n + 1) = rowO o n ++ [Value.int .i64 (o n).k, .int .i64 (o n).key, .int .i64 (o n).v] := by
  unfold rowO; rw [List.range_succ, List.flatMap_append]; rfl

theorem rowO_length (o : Nat → O3) (n : Nat) : (rowO o n).length = n * 3 := by
  induction n with
  | zero => rfl
  | succ n ih => rw [rowO_succ, List.length_append, ih]; simp; omega

theorem rowO_get (o : Nat → O3) (n i : Nat) (hi : i < n) : (rowO o n)[i * 3]? = some (.int .i64 (o i).k) ∧ (rowO o n)[i * 3 + 1]? = some (.int .i64 (o i).key) ∧ (rowO o n)[i * 3 + 2]? = some (.int .i64 (o i).v) := by
  induction n with
  | zero => omega
  | succ n ih =>
    rw [rowO_succ]
    by_cases h : i < n
    · rw [List.getElem?_append_left (by rw [rowO_length]; omega), List.getElem?_append_left (by rw [rowO_length]; omega), List.getElem?_append_left (by rw [rowO_length]; omega)]
      exact ih h
    · obtain rfl : i = n := by omega
      rw [List.getElem?_append_right (by rw [rowO_length]; omega), List.getElem?_append_right (by rw [rowO_length]; omega), List.getElem?_append_right (by rw [rowO_length]; omega), rowO_length]
      exact ⟨by rw [Nat.sub_self]; rfl, by rw [Nat.add_sub_cancel_left]; rfl, by rw [Nat.add_sub_cancel_left]; rfl⟩

theorem rowO_one (o : Nat → O3) (n : Nat) : ∀ u ∈ rowO o n, u.oneCell' = true := by
  intro u hu
  unfold rowO at hu
  rw [List.mem_flatMap] at hu
  obtain ⟨i, _, hu⟩ := hu
  simp at hu
  rcases hu with rfl | rfl | rfl <;> rfl

theorem OpS.cellAt {w : World} {b off n : Nat} {o : Nat → O3} (h : OpS w (some ⟨b, off, none⟩) n o) (j : Nat) (u : Value) (hj : (rowO o n)[j]? = some u) : w.cell? ⟨b, off + j, none⟩ = some u := by
  have hjl : j < n * 3 := by
    rcases Nat.lt_or_ge j (n * 3) with h' | h'
    · exact h'
    · rw [List.getElem?_eq_none (by rw [rowO_length]; exact h')] at hj; cases hj
  obtain ⟨b', off', e, _, hc⟩ := h (by omega)
  injection e with e
  injection e with e1 e2
  subst e1 e2
  obtain ⟨c0, c1, c2⟩ := hc (j / 3) (by omega)
  obtain ⟨g0, g1, g2⟩ := rowO_get o n (j / 3) (by omega)
  have hm : j % 3 = 0 ∨ j % 3 = 1 ∨ j % 3 = 2 := by omega
  rcases hm with hm | hm | hm
  · have e2 : j / 3 * 3 = j := by omega
    rw [e2] at c0 g0
    rw [c0, ← g0, hj]
  · have e2 : j / 3 * 3 + 1 = j := by omega
    rw [e2] at g1
    rw [show off + j / 3 * 3 + 1 = off + j by omega] at c1
    rw [c1, ← g1, hj]
  · have e2 : j / 3 * 3 + 2 = j := by omega
    rw [e2] at g2
    rw [show off + j / 3 * 3 + 2 = off + j by omega] at c2
    rw [c2, ← g2, hj]

theorem own38_ops {w : World} {base n cap : Nat} {sp : Option Addr} {o : Nat → O3} (h : w.ownsRow base 53 3 (.slice sp n cap) n (rowO o n)) : OpS w sp n o := by
  intro hn
  obtain ⟨g, cap', e, _, hl⟩ := h.form hn
  injection e with e1 e2 e3
  subst e1
  refine ⟨g, 0, rfl, hl, fun i hi => ?_⟩
  obtain ⟨g0, g1, g2⟩ := rowO_get o n i hi
  have h0 := (h.cellAt (i * 3) (by omega)).trans g0
  have h1 := (h.cellAt (i * 3 + 1) (by omega)).trans g1
  have h2 := (h.cellAt (i * 3 + 2) (by omega)).trans g2
  simp only [Nat.zero_add]
  exact ⟨h0, h1, h2⟩

/-- a transaction -/
structure Tx where
  c : Int
  st : Int
  n : Nat
  o : Nat → O3

/-- transactions' cells -/
def rowT (T : Nat → Tx) (V : Nat → Value) (n : Nat) : List Value := (List.range n).flatMap fun i => [Value.int .i64 (T i).c, .int .i64 (T i).st, V i]

theorem rowT_succ (T : Nat → Tx) (V : Nat → Value) (n : Nat) : rowT T V (n + 1) = rowT T V n ++ [Value.int .i64 (T n).c, .int .i64 (T n).st, V n] := by
  unfold rowT; rw [List.range_succ, List.flatMap_append]; rfl

theorem rowT_length (T : Nat → Tx) (V : Nat → Value) (n : Nat) : (rowT T V n).length = n * 3 := by
  induction n with
  | zero => rfl
  | succ n ih => rw [rowT_succ, List.length_append, ih]; simp; omega

theorem rowT_get (T : Nat → Tx) (V : Nat → Value) (n i : Nat) (hi : i < n) : (rowT T V n)[i * 3]? = some (.int .i64 (T i).c) ∧ (rowT T V n)[i * 3 + 1]? = some (.int .i64 (T i).st) ∧ (rowT T V n)[i * 3 + 2]? = some (V i) := by
  induction n with
  | zero => omega
  | succ n ih =>
    rw [rowT_succ]
    by_cases h : i < n
    · rw [List.getElem?_append_left (by rw [rowT_length]; omega), List.getElem?_append_left (by rw [rowT_length]; omega), List.getElem?_append_left (by rw [rowT_length]; omega)]
      exact ih h
    · obtain rfl : i = n := by omega
      rw [List.getElem?_append_right (by rw [rowT_length]; omega), List.getElem?_append_right (by rw [rowT_length]; omega), List.getElem?_append_right (by rw [rowT_length]; omega), rowT_length]
      exact ⟨by rw [Nat.sub_self]; rfl, by rw [Nat.add_sub_cancel_left]; rfl, by rw [Nat.add_sub_cancel_left]; rfl⟩

theorem rowT_congr (T T' : Nat → Tx) (V V' : Nat → Value) (n : Nat) (h : ∀ i, i < n → (T i).c = (T' i).c ∧ (T i).st = (T' i).st ∧ V i = V' i) : rowT T V n = rowT T' V' n := by
  induction n with
  | zero => rfl
  | succ n ih =>
    obtain ⟨h0, h1, h2⟩ := h n (by omega)
    rw [rowT_succ, rowT_succ, ih fun i hi => h i (by omega), h0, h1, h2]

theorem own_keep {w w' : World} {base e size n : Nat} {v : Value} {xs : List Value} (h : w.ownsRow base e size v n xs) (hk : ∀ g, v.ownBlock = some g → w'.heap[g]? = w.heap[g]?) : w'.ownsRow base e size v n xs := by
  refine ⟨h.1, ?_⟩
  rcases h.2 with h0 | ⟨g, cap, cur, hv, hg, hh, hrest⟩
  · exact .inl h0
  · exact .inr ⟨g, cap, cur, hv, hg, (hk g (by rw [hv]; rfl)).trans hh, hrest⟩

theorem own_cells {w : World} {base e size n : Nat} {v : Value} {xs : List Value} (h : w.ownsRow base e size v n xs) {g : Nat} (hg : v.ownBlock = some g) : ∃ cur, w.heap[g]? = some (.cells cur e (0, 0)) := by
  rcases h.2 with ⟨h0, _⟩ | ⟨g', cap, cur, hv, _, hh, _⟩
  · rw [h0] at hg; cases hg
  · rw [hv] at hg
    have e' : g' = g := Option.some.inj hg
    exact ⟨cur, e' ▸ hh⟩

theorem own_form' {w : World} {base e size n : Nat} {v : Value} {xs : List Value} (h : w.ownsRow base e size v n xs) : ∃ sp cp, v = .slice sp n cp := by
  rcases h.2 with ⟨e, rfl⟩ | ⟨g, cp, cur, e, _⟩
  · exact ⟨_, _, e⟩
  · exact ⟨_, _, e⟩

/-- an event -/
structure Ev where
  k : Int
  c : Int
  n : Nat
  o : Nat → O3

/-- events in a slice that may be anybody's -/
def EvS (w : World) (a : Option Addr) (len : Nat) (E : Nat → Ev) : Prop :=
  0 < len → ∃ b off, a = some ⟨b, off, none⟩ ∧ b < w.heap.size ∧ ∀ j, j < len → ∃ sp cap, w.cell? ⟨b, off + j * 3, none⟩ = some (.int .i64 (E j).k) ∧ w.cell? ⟨b, off + j * 3 + 1, none⟩ = some (.int .i64 (E j).c) ∧ w.cell? ⟨b, off + j * 3 + 2, none⟩ = some (.slice sp (E j).n cap) ∧ OpS w sp (E j).n (E j).o ∧ (sp = none → (E j).n = 0 ∧ cap = 0) ∧ (E j).n ≤ 9223372036854775807

theorem EvS.below {w w' : World} {a : Option Addr} {len : Nat} {E : Nat → Ev} (h : EvS w a len E) (hb : Below w.heap.size w w') : EvS w' a len E := by
  intro hl
  obtain ⟨b, off, e, hbl, hc⟩ := h hl
  refine ⟨b, off, e, Nat.lt_of_lt_of_le hbl hb.size, fun j hj => ?_⟩
  obtain ⟨sp, cap, c0, c1, c2, ho, hp, hn⟩ := hc j hj
  exact ⟨sp, cap, (hb.cell hbl).trans c0, (hb.cell hbl).trans c1, (hb.cell hbl).trans c2, ho.below hb, hp, hn⟩

theorem str38 : Try.prog.underlying 53 = some (.struct (Try.prog.fieldsOf 53)) := by kernel_rfl

theorem held38 : Try.prog.stoodInHeld 53 = false := by kernel_rfl

theorem eqO (k key v k' key' v' : Int) (w : World) : (Op.equalIn 10000 53 (.agg #[.int .i64 k, .int .i64 key, .int .i64 v]) (.agg #[.int .i64 k', .int .i64 key', .int .i64 v'])).run Try.prog w = .ok (k == k' && (key == key' && v == v')) w := by
  refine (run_equalIn_struct (P := Try.prog) w 9999 53 _ _ str38 held38).trans ?_
  have hfs := TypeDesc.struct.inj (Option.some.inj (str38.symm.trans Try.underlying53))
  rw [hfs]
  have e : ∀ (a b : Int) (w : World), (Op.equalIn 9999 3 (.int .i64 a) (.int .i64 b)).run Try.prog w = .ok (a == b) w := fun a b w => run_equalIn_int w 9998 3 .i64 .i64 _ _ Try.underlying3
  have q0 : ∀ (a b c : Int) (w : World), (part 3 #[.int .i64 a, .int .i64 b, .int .i64 c] 0).run Try.prog w = .ok (.int .i64 a) w := fun a b c w => by simp [part, go_sem]
  have q1 : ∀ (a b c : Int) (w : World), (part 3 #[.int .i64 a, .int .i64 b, .int .i64 c] 1).run Try.prog w = .ok (.int .i64 b) w := fun a b c w => by simp [part, go_sem]
  have q2 : ∀ (a b c : Int) (w : World), (part 3 #[.int .i64 a, .int .i64 b, .int .i64 c] 2).run Try.prog w = .ok (.int .i64 c) w := fun a b c w => by simp [part, go_sem]
  by_cases h0 : k = k' <;> by_cases h1 : key = key' <;> by_cases h2 : v = v' <;> simp [Op.eqFields, q0, q1, q2, e, h0, h1, h2]

/-- the same operations -/
def SameO (n n' : Nat) (o o' : Nat → O3) : Prop := n = n' ∧ ∀ i, i < n → o i = o' i

set_option maxHeartbeats 1000000 in
theorem same_any (sp : Option Addr) (n c : Nat) (o : Nat → O3) (sp' : Option Addr) (n' c' : Nat) (o' : Nat → O3) (w : World) (hn : n ≤ 1000000) (h : OpS w sp n o) (h' : OpS w sp' n' o') :
    Calls Try.prog 23 #[.slice sp n c, .slice sp' n' c'] w (Tells (SameO n n' o o') w) := by
  have H1 := Lib.hid h
  have H2 := Lib.hid h'
  clear h h'
  by_cases hne : n = n'
  · subst hne
    have hguard : ∀ (u : World) (x y : Operand) (xs ys : Array Value), (eqGuard .neq 53 x y (.agg xs) (.agg ys)).run Try.prog u = .ok () u := fun u x y xs ys => run_eqGuard_agg u .neq 53 x y xs ys (by kernel_rfl)
    go_enter Try.func23, Try.ntmps23
    go_wp2
    go_loopw [5, 13] (fun _ x wr => ∃ t : Nat, t ≤ n ∧ x = .int .i64 (t : Int) ∧ Hid (Below w.heap.size w wr ∧ ∀ j, j < t → o j = o' j)) (fun _ x _ => n - (intOf x).toNat)
    case atStart => exact ⟨0, Nat.zero_le _, rfl, Lib.hid ⟨Below.refl _ _, fun i hi => absurd hi (Nat.not_lt_zero _)⟩⟩
    case round =>
      obtain ⟨t, ht, rfl, HT⟩ := hrel
      by_cases hlt : t < n
      · obtain ⟨b, off, rfl, hbl, hci⟩ := H1.out (by omega)
        obtain ⟨b', off', rfl, hbl', hci'⟩ := H2.out (by omega)
        obtain ⟨c0, c1, c2⟩ := hci t hlt
        obtain ⟨d0, d1, d2⟩ := hci' t hlt
        have x0 := (HT.out.1.cell (p := ⟨b, off + t * 3, none⟩) hbl).trans c0
        have x1 := (HT.out.1.cell (p := ⟨b, off + t * 3 + 1, none⟩) hbl).trans c1
        have x2 := (HT.out.1.cell (p := ⟨b, off + t * 3 + 2, none⟩) hbl).trans c2
        have y0 := (HT.out.1.cell (p := ⟨b', off' + t * 3, none⟩) hbl').trans d0
        have y1 := (HT.out.1.cell (p := ⟨b', off' + t * 3 + 1, none⟩) hbl').trans d1
        have y2 := (HT.out.1.cell (p := ⟨b', off' + t * 3 + 2, none⟩) hbl').trans d2
        have hlt' : (t : Int) < (n : Int) := by omega
        have HPN : Hid (o t = o' t → ∀ j, j < t + 1 → o j = o' j) := Lib.hid fun h j hj => by
          by_cases hh : j < t
          · exact HT.out.2 j hh
          · obtain rfl : j = t := by omega
            exact h
        have HNO : Hid (¬ o t = o' t → ¬ SameO n n o o') := Lib.hid fun h hs => h (hs.2 t hlt)
        have HBT := Lib.hid HT.out.1
        clear c0 c1 c2 d0 d1 d2 hci hci' HT
        generalize o t = p at *
        generalize o' t = q at *
        obtain ⟨pk, pkey, pv⟩ := p
        obtain ⟨qk, qkey, qv⟩ := q
        dsimp only at x0 x1 x2 y0 y1 y2
        have heq : ∀ u : World, (Op.equalIn 10000 53 (.agg #[.int .i64 pk, .int .i64 pkey, .int .i64 pv]) (.agg #[.int .i64 qk, .int .i64 qkey, .int .i64 qv])).run Try.prog u = .ok (pk == qk && (pkey == qkey && pv == qv)) u := fun u => eqO _ _ _ _ _ _ u
        have hneq : ∀ u : World, (binOp .neq 53 (.agg #[.int .i64 pk, .int .i64 pkey, .int .i64 pv]) (.agg #[.int .i64 qk, .int .i64 qkey, .int .i64 qv])).run Try.prog u = .ok (.bool (!(pk == qk && (pkey == qkey && pv == qv)))) u := fun u => by rw [run_neq_struct, heq]; rfl
        clear heq
        by_cases hs : (⟨pk, pkey, pv⟩ : O3) = ⟨qk, qkey, qv⟩
        · have HS := Lib.hid hs
          injection hs with e0 e1 e2
          subst e0 e1 e2
          simp only [BEq.rfl, Bool.and_self, Bool.not_true] at hneq
          go_wp2
          go_quiet (fail)
          go_wp2
          go_roundw
          case rel => exact ⟨t + 1, by omega, by go_num, Lib.hid ⟨below_drewN HBT.out _, HPN.out (by first | rfl | trivial)⟩⟩
          case measure => simp [intOf]; omega
        · have hb : (!(pk == qk && (pkey == qkey && pv == qv))) = true := by
            rw [Bool.not_eq_true']
            rw [Bool.eq_false_iff]
            intro h
            simp at h
            exact hs (by rw [h.1, h.2.1, h.2.2])
          rw [hb] at hneq
          have HN := Lib.hid (HNO.out hs)
          clear hs hb HNO HPN
          go_wp2
          go_quiet (fail)
          go_wp2
          go_ret
          exact ⟨false, rfl, ⟨fun h => (by cases h), fun h => absurd h HN.out⟩, below_drewN HBT.out _⟩
      · obtain rfl : n = t := by omega
        go_wp2
        go_ret
        exact ⟨true, rfl, ⟨fun _ => ⟨rfl, HT.out.2⟩, fun _ => rfl⟩, HT.out.1⟩
  · have hb : ((n : Int) != (n' : Int)) = true := by rw [bne_iff_ne]; omega
    have HN : Hid (¬ SameO n n' o o') := Lib.hid fun h => hne h.1
    go_enter Try.func23, Try.ntmps23
    go_wp2
    go_ret
    exact ⟨false, rfl, ⟨fun h => (by cases h), fun h => absurd h HN.out⟩, Below.refl _ _⟩

theorem info43 : (Try.prog.info? 43).map (fun i => (i.zero, i.size, i.bytes)) = some (some (.agg #[.int .i64 0, .int .i64 0, .slice none 0 0]), 3, 40) := by kernel_rfl

/-- an event's numbers, laid as a transaction's are -/
def asT (e : Ev) : Tx := ⟨e.k, e.c, e.n, e.o⟩

/-- events in a row of our own, their operations in rows of our own -/
structure EvO (w : World) (B : Nat) (v : Value) (len : Nat) (E : Nat → Ev) (V : Nat → Value) : Prop where
  row : w.ownsRow B 43 3 v len (rowT (fun i => asT (E i)) V len)
  ops : ∀ i, i < len → ∃ sp cap, V i = .slice sp (E i).n cap ∧ w.ownsRow B 53 3 (.slice sp (E i).n cap) (E i).n (rowO (E i).o (E i).n) ∧ (sp = none → (E i).n = 0 ∧ cap = 0) ∧ (E i).n ≤ 1000000

theorem EvO.below {w w' : World} {B len : Nat} {v : Value} {E : Nat → Ev} {V : Nat → Value} (h : EvO w B v len E V) (hb : Below w.heap.size w w') : EvO w' B v len E V := by
  refine ⟨own_keep h.row fun g hg => hb.block g (h.row.lt g hg).2, fun i hi => ?_⟩
  obtain ⟨sp, cap, e, ho, hp, hn⟩ := h.ops i hi
  exact ⟨sp, cap, e, own_keep ho fun g hg => hb.block g (ho.lt g hg).2, hp, hn⟩

theorem EvO.evs {w : World} {B len cap : Nat} {sp : Option Addr} {E : Nat → Ev} {V : Nat → Value} (h : EvO w B (.slice sp len cap) len E V) : EvS w sp len E := by
  intro hl
  obtain ⟨g, cap', e, _, hgl⟩ := h.row.form hl
  injection e with e1 e2 e3
  subst e1
  refine ⟨g, 0, rfl, hgl, fun j hj => ?_⟩
  obtain ⟨sp, cap, e, ho, hp, hn⟩ := h.ops j hj
  obtain ⟨r0, r1, r2⟩ := rowT_get (fun i => asT (E i)) V len j hj
  rw [e] at r2
  have c0 := (h.row.cellAt (j * 3) (by omega)).trans r0
  have c1 := (h.row.cellAt (j * 3 + 1) (by omega)).trans r1
  have c2 := (h.row.cellAt (j * 3 + 2) (by omega)).trans r2
  simp only [Nat.zero_add]
  exact ⟨sp, cap, c0, c1, c2, own38_ops ho, hp, by omega⟩

/-- operations appended to none of our own -/
theorem step_append_ops {w : World} {ops : Array Oper} {o : Oper} {a : Act} {K : Act → World → Prop} {Q : Exit → Act → World → Prop} {E : Prop} (hgd : o.guard = none) (s x : Operand)
    (ho : o.op = .call { callee := .builtin .append, args := #[s, x], argTypes := #[41, 41] })
    (base : Nat) (v : Value) (hs : a.eval s = v) (hown : w.ownsRow base 53 3 v 0 [])
    (sp : Option Addr) (m c : Nat) (d : Nat → O3) (hx : a.eval x = .slice sp m c) (hsrc : OpS w sp m d) (hsp : sp = none → m = 0 ∧ c = 0)
    (h63 : m ≤ 1000000) (hbase : base ≤ w.heap.size)
    (h : ∀ v' w', w'.ownsRow base 53 3 v' m (rowO d m) → w.grownBy w' v.ownBlock → K (a.put o.dst v') w') :
    if Region.wanted o (yielded ops a.tmps) = true then Oper.wp Try.prog o a w K Q else E := by
  have hw : Region.wanted o (yielded ops a.tmps) = true := by simp [Region.wanted, hgd]
  rw [if_pos hw]
  obtain ⟨i0, hi, hz0, hz1, hz2⟩ := info_parts info38
  rcases sp with _ | ad
  · obtain ⟨rfl, rfl⟩ := hsp rfl
    have hrun := run_append_owned_none (P := Try.prog) (w := w) base 41 o.type 53 i0 3 Try.underlying41 hi v 0 [] hown
    unfold Oper.wp
    simp [execOp, ho, resolve, invoke, builtin, hs, hx, hrun, Result.andThen]
    exact h v w hown ⟨rfl, rfl, rfl, Nat.le_refl _, fun _ _ _ => rfl⟩
  · refine wp_append_own w s x 41 ho base 53 i0 (.agg #[.int .i64 0, .int .i64 0, .int .i64 0]) 3 24 Try.underlying41 hi hz0 hz1 hz2 rfl (by decide) v 0 [] hs hown ad m c (rowO d m) hx (by rw [rowO_length]) ?_ (rowO_one _ _) (by unfold maxLen; omega) (by omega) hbase ?_
    · intro j u hj
      have hjn : j < m * 3 := by
        rcases Nat.lt_or_ge j (m * 3) with h' | h'
        · exact h'
        · rw [List.getElem?_eq_none (by rw [rowO_length]; exact h')] at hj; cases hj
      obtain ⟨b, off, e', _, _⟩ := hsrc (by omega)
      injection e' with e'
      subst e'
      rw [Go.WideShapes.add_plain]
      exact hsrc.cellAt j u hj
    · intro v' w' h2 h3 _
      rw [Nat.zero_add] at h2
      exact h v' w' h2 h3

def CopyP (len : Nat) (E : Nat → Ev) (w : World) (e : Ending) (w' : World) : Prop := ∃ v V, e = .returned v ∧ EvO w' w.heap.size v len E V ∧ Below w.heap.size w w'

/-- an event is added -/
theorem EvO.added {w w' : World} {B len cap : Nat} {v v' : Value} {E : Nat → Ev} {V : Nat → Value} {sp : Option Addr} (h : EvO w B v len E V)
    (hn : w.ownsRow B 53 3 (.slice sp (E len).n cap) (E len).n (rowO (E len).o (E len).n)) (hsp : sp = none → (E len).n = 0 ∧ cap = 0) (hle : (E len).n ≤ 1000000)
    (ho : w'.ownsRow B 43 3 v' (len + 1) (rowT (fun i => asT (E i)) V len ++ [.int .i64 (E len).k, .int .i64 (E len).c, .slice sp (E len).n cap])) (hg : w.grownBy w' v.ownBlock) :
    EvO w' B v' (len + 1) E (fun i => if i = len then .slice sp (E len).n cap else V i) := by
  have keep : ∀ {n : Nat} {u : Value} {xs : List Value}, w.ownsRow B 53 3 u n xs → w'.ownsRow B 53 3 u n xs := fun {n u xs} ho' => own_keep ho' fun g hg' => by
    obtain ⟨cur, e⟩ := own_cells ho' hg'
    refine hg.block g (ho'.lt g hg').2 (fun e' => ?_)
    obtain ⟨cur', e3⟩ := own_cells h.row e'.symm
    rw [e] at e3
    injection e3 with e3
    injection e3 with _ e3 _
    cases e3
  refine ⟨?_, fun i hi => ?_⟩
  · have e : rowT (fun i => asT (E i)) V len ++ [.int .i64 (E len).k, .int .i64 (E len).c, .slice sp (E len).n cap] = rowT (fun i => asT (E i)) (fun i => if i = len then .slice sp (E len).n cap else V i) (len + 1) := by
      rw [rowT_succ, if_pos rfl]
      congr 1
      exact rowT_congr _ _ _ _ len fun i hi => by rw [if_neg (by omega)]; exact ⟨rfl, rfl, rfl⟩
    rw [← e]; exact ho
  · by_cases hi' : i = len
    · subst hi'
      rw [if_pos rfl]
      exact ⟨sp, cap, rfl, keep hn, hsp, hle⟩
    · rw [if_neg hi']
      obtain ⟨sp1, cap1, e, ho', hp, hn'⟩ := h.ops i (by omega)
      exact ⟨sp1, cap1, e, keep ho', hp, hn'⟩

theorem own_nil' {w : World} {base e size n cap : Nat} {sp : Option Addr} {xs : List Value} (h : w.ownsRow base e size (.slice sp n cap) n xs) : sp = none → n = 0 ∧ cap = 0 := by
  intro hs
  rcases h.2 with ⟨e, _⟩ | ⟨g, cp, cur, e, _⟩
  · injection e with e1 e2 e3; exact ⟨e2, e3⟩
  · injection e with e1 e2 e3; rw [hs] at e1; cases e1

set_option maxRecDepth 100000 in
set_option maxHeartbeats 4000000 in
theorem copy_any (a : Option Addr) (len cap : Nat) (E : Nat → Ev) (w : World) (hl : len ≤ 1000) (hn : ∀ i, i < len → (E i).n ≤ 1000) (hs : EvS w a len E) : Calls Try.prog 9 #[.slice a len cap] w (CopyP len E w) := by
  obtain ⟨i1, hi1, hz0, hz1, hz2⟩ := info_parts info43
  have HS := Lib.hid hs
  have HN := Lib.hid hn
  clear hs hn
  have HO0 : Hid (EvO (w.alloc (.cells #[] 43)) w.heap.size (.slice (some ⟨w.heap.size, 0, none⟩) 0 0) 0 E (fun _ => .slice none 0 0)) := Lib.hid ⟨World.ownsRow_lit w #[] 0 (Nat.le_refl _) (Nat.zero_le _) rfl, fun i hi => absurd hi (Nat.not_lt_zero _)⟩
  have HB0 : Hid (Below w.heap.size w (w.alloc (.cells #[] 43))) := Lib.hid ((Below.refl _ _).alloc (Nat.le_refl _) _)
  go_enter Try.func9, Try.ntmps9
  go_wp2
  obtain ⟨wi, ewi⟩ : ∃ wi, wi = w.alloc (.cells #[] 43) := ⟨_, rfl⟩
  rw [← ewi] at HO0 HB0 ⊢
  clear ewi
  go_loopw [3, 5, 9] (fun vo _ x wr => ∃ (t : Nat) (V : Nat → Value), t ≤ len ∧ x = .int .i64 (t : Int) ∧ Hid (Below w.heap.size w wr ∧ EvO wr w.heap.size vo t E V)) (fun _ _ x _ => len - (intOf x).toNat)
  case atStart => exact ⟨0, _, Nat.zero_le _, rfl, Lib.hid ⟨HB0.out, HO0.out⟩⟩
  case round =>
    obtain ⟨t, V, ht, rfl, HR⟩ := hrel
    by_cases hlt : t < len
    · obtain ⟨b, off, rfl, hbl, hci⟩ := HS.out (by omega)
      obtain ⟨sp, cp, c0, c1, c2, ho, hp, hnn⟩ := hci t hlt
      have x0 := (HR.out.1.cell (p := ⟨b, off + t * 3, none⟩) hbl).trans c0
      have x1 := (HR.out.1.cell (p := ⟨b, off + t * 3 + 1, none⟩) hbl).trans c1
      have x2 := (HR.out.1.cell (p := ⟨b, off + t * 3 + 2, none⟩) hbl).trans c2
      have hlt' : (t : Int) < (len : Int) := by omega
      have hn1 := HN.out t hlt
      obtain ⟨spo, cpo, evo⟩ := own_form' HR.out.2.row
      subst evo
      have hogl : ∀ g, (Value.slice spo t cpo).ownBlock = some g → g < wr.heap.size := fun g hg => (HR.out.2.row.lt g hg).2
      have HOG := Lib.hid hogl
      have HEO := Lib.hid HR.out.2
      have HBR := Lib.hid HR.out.1
      have HOP := Lib.hid (ho.below HR.out.1)
      have HPP := Lib.hid hp
      have HAD : Hid (∀ {W W' : World} {v' : Value} {s6 : Option Addr} {c6 : Nat}, EvO W w.heap.size (.slice spo t cpo) t E V → W.ownsRow w.heap.size 53 3 (.slice s6 (E t).n c6) (E t).n (rowO (E t).o (E t).n) → (s6 = none → (E t).n = 0 ∧ c6 = 0) → W'.ownsRow w.heap.size 43 3 v' (t + 1) (rowT (fun i => asT (E i)) V t ++ [.int .i64 (E t).k, .int .i64 (E t).c, .slice s6 (E t).n c6]) → W.grownBy W' (Value.ownBlock (.slice spo t cpo)) → EvO W' w.heap.size v' (t + 1) E (fun i => if i = t then .slice s6 (E t).n c6 else V i)) := Lib.hid fun h1 h2 h3 h4 h5 => h1.added h2 h3 (by omega) h4 h5
      clear c0 c1 c2 ho hp hnn hci HR hogl
      generalize (E t).k = ek at *
      generalize (E t).c = ec at *
      generalize (E t).n = en at *
      generalize (E t).o = eo at *
      obtain ⟨wx, ewx⟩ : ∃ wx, wx = wr.alloc (.cells #[.int .i64 ek, .int .i64 ec, .slice sp en cp] 43) := ⟨_, rfl⟩
      have hbx : Below wr.heap.size wr wx := by rw [ewx]; exact (Below.refl _ _).alloc (Nat.le_refl _) _
      have hxl : wr.heap.size < wx.heap.size := by rw [ewx]; simp
      have hxx : wx.heap[wr.heap.size]? = some (.cells #[.int .i64 ek, .int .i64 ec, .slice sp en cp] 43 (0, 0)) := by rw [ewx]; exact heap_alloc_new wr _
      have HEX := Lib.hid (HEO.out.below hbx)
      have HOX := Lib.hid (HOP.out.below hbx)
      have HBX := Lib.hid (HBR.out.trans (hbx.mono HBR.out.size))
      have HKK : Hid (∀ W, Below wx.heap.size wx W → W.cell? ⟨wr.heap.size, 0, none⟩ = some (.int .i64 ek) ∧ W.cell? ⟨wr.heap.size, 1, none⟩ = some (.int .i64 ec) ∧ W.cell? ⟨wr.heap.size, 2, none⟩ = some (.slice sp en cp)) := Lib.hid fun W hb => (cells3 ((hb.block _ hxl).trans hxx)).1
      have HKG : Hid (∀ W W', Below wx.heap.size wx W → W.grownBy W' (Value.ownBlock (.slice spo t cpo)) → W'.cell? ⟨wr.heap.size, 0, none⟩ = some (.int .i64 ek) ∧ W'.cell? ⟨wr.heap.size, 1, none⟩ = some (.int .i64 ec) ∧ W'.cell? ⟨wr.heap.size, 2, none⟩ = some (.slice sp en cp)) := Lib.hid fun W W' hb hg => (cells3 ((hg.block _ (Nat.lt_of_lt_of_le hxl hb.size) (fun e => by have := HOG.out _ e.symm; omega)).trans ((hb.block _ hxl).trans hxx))).1
      have HO1 : Hid ((wx.drew.alloc (.cells #[] 53)).ownsRow w.heap.size 53 3 (.slice (some ⟨wx.heap.size, 0, none⟩) 0 0) 0 []) := Lib.hid (World.ownsRow_lit wx.drew #[] 0 HBX.out.size (Nat.zero_le _) rfl)
      have HNW : Hid (∀ (W : World) (s6 : Option Addr) (c6 : Nat) (j : Nat) (u : Value), [Value.int .i64 ek, .int .i64 ec, .slice s6 en c6][j]? = some u → (W.alloc (.cells #[.int .i64 ek, .int .i64 ec, .slice s6 en c6] 43)).cell? ((⟨W.heap.size, 0, none⟩ : Addr).add j) = some u) := Lib.hid fun W s6 c6 j u hj => by
        rw [Go.WideShapes.add_plain, cell_of_row _ _ _ _ 43 (0, 0) (heap_alloc_new W _), Nat.zero_add]
        simpa using hj
      have hB0 : Below wx.heap.size wx wx := Below.refl _ _
      have hB1 : Below wx.heap.size wx wx.drew := hB0.drew
      have hB2 : Below wx.heap.size wx (wx.drew.alloc (.cells #[] 53)) := hB1.alloc (Nat.le_refl _) _
      have hB3 : Below wx.heap.size wx (wx.alloc (.cells #[] 53)).drew := (hB0.alloc (Nat.le_refl _) _).drew
      go_wp2
      rw [← ewx]
      clear ewx hbx hxx
      go_region_held3 (fun W => W.cell? ⟨wr.heap.size, 0, none⟩ = some (.int .i64 ek) ∧ W.cell? ⟨wr.heap.size, 1, none⟩ = some (.int .i64 ec) ∧ W.cell? ⟨wr.heap.size, 2, none⟩ = some (.slice sp en cp))
        (first | exact HKK.out _ hB1 | exact HKK.out _ hB0 | exact HKK.out _ hB2 | exact HKK.out _ hB3 | exact HKK.out _ hB6 | exact HKK.out _ (hB6.alloc hB6.size _) | exact HKG.out _ _ (hB6.alloc hB6.size _) hg7)
        (first
          | (refine step_append_lies _ (by rfl) _ _ 22 (by rfl) w.heap.size 43 i1 (.agg #[.int .i64 0, .int .i64 0, .slice none 0 0]) 3 40 Try.underlying22 hi1 hz0 hz1 hz2 rfl (by decide) _ t (rowT (fun i => asT (E i)) V t) (by rfl) (HEX.out.below (hB6.alloc hB6.size _)).row ⟨w6.heap.size, 0, none⟩ 1 1 [.int .i64 ek, .int .i64 ec, .slice s6 en c6] (by rfl) (by rfl) (HNW.out w6 s6 c6) (by intro u hu; simp at hu; rcases hu with rfl | rfl | rfl <;> rfl) (by omega) (by unfold maxLen; omega) (by omega) (Nat.le_trans HBX.out.size (Nat.le_trans hB6.size (by simp))) _ rfl ?_; intro g7 c7 w7 ho7 hg7 hat7 hl7)
          | (refine step_append_ops (by rfl) _ _ (by rfl) w.heap.size _ (by rfl) HO1.out sp en cp eo (by rfl) (HOX.out.below hB2) HPP.out (by omega) (Nat.le_trans HBX.out.size hB2.size) ?_; intro v6 w6 ho6 hg6; obtain ⟨s6, c6, rfl⟩ := own_form' ho6; have hB6 : Below wx.heap.size wx w6 := hB2.grown hg6 hB2.size (fun q hq => by simp [Value.ownBlock] at hq; omega)))
      have HE7 := Lib.hid (HAD.out (HEX.out.below (hB6.alloc hB6.size (.cells #[.int .i64 ek, .int .i64 ec, .slice s6 en c6] 43))) (ho6.alloc _) (own_nil' ho6) ho7 hg7)
      have HB7 := Lib.hid ((HBX.out.trans ((hB6.alloc hB6.size _).mono HBX.out.size)).grown hg7 (Nat.le_trans HBX.out.size (Nat.le_trans hB6.size (by simp))) (fun q hq => (HEO.out.row.lt q hq).1))
      clear ho7 hg7 hat7 ho6 hg6 hB0 hB1 hB2 hB3 hB6 HKK HKG
      go_wp2
      go_roundw
      case rel => exact ⟨t + 1, _, by omega, by go_num, Lib.hid ⟨HB7.out, HE7.out⟩⟩
      case measure => simp [intOf]; omega
    · obtain rfl : len = t := by omega
      go_wp2
      go_ret
      exact ⟨_, V, rfl, HR.out.2, HR.out.1⟩

def Big (len : Nat) (E : Nat → Ev) : Prop := 500 < len ∨ ∃ j, j < len ∧ 30 < (E j).n

theorem big_any (a : Option Addr) (len cap : Nat) (E : Nat → Ev) (w : World) (hs : EvS w a len E) : Calls Try.prog 8 #[.slice a len cap] w (Tells (Big len E) w) := by
  have HS := Lib.hid hs
  clear hs
  by_cases h5 : 500 < len
  · have h5' : (500 : Int) < (len : Int) := by omega
    have HBG : Hid (Big len E) := Lib.hid (.inl h5)
    clear h5
    go_enter Try.func8, Try.ntmps8
    go_wp2
    go_ret
    exact ⟨true, rfl, ⟨fun _ => HBG.out, fun _ => rfl⟩, Below.refl _ _⟩
  · have h5' : ¬ (500 : Int) < (len : Int) := by omega
    have hl5 : len ≤ 500 := by omega
    clear h5
    go_enter Try.func8, Try.ntmps8
    go_wp2
    go_loopw [4, 10] (fun _ i wr => ∃ t : Nat, t ≤ len ∧ i = .int .i64 (t : Int) ∧ Hid (Below w.heap.size w wr ∧ ∀ j, j < t → ¬ 30 < (E j).n)) (fun _ i _ => len - (intOf i).toNat)
    case atStart => exact ⟨0, Nat.zero_le _, rfl, Lib.hid ⟨Below.refl _ _, fun i hi => absurd hi (Nat.not_lt_zero _)⟩⟩
    case round =>
      obtain ⟨t, ht, rfl, HT⟩ := hrel
      by_cases hlt : t < len
      · obtain ⟨b, off, rfl, hbl, hci⟩ := HS.out (by omega)
        obtain ⟨sp, cp, c0, c1, c2, _⟩ := hci t hlt
        have x0 := (HT.out.1.cell (p := ⟨b, off + t * 3, none⟩) hbl).trans c0
        have x1 := (HT.out.1.cell (p := ⟨b, off + t * 3 + 1, none⟩) hbl).trans c1
        have x2 := (HT.out.1.cell (p := ⟨b, off + t * 3 + 2, none⟩) hbl).trans c2
        have hlt' : (t : Int) < (len : Int) := by omega
        have HPN : Hid (¬ 30 < (E t).n → ∀ j, j < t + 1 → ¬ 30 < (E j).n) := Lib.hid fun h j hj => by
          by_cases hh : j < t
          · exact HT.out.2 j hh
          · obtain rfl : j = t := by omega
            exact h
        have HBG : Hid (30 < (E t).n → Big len E) := Lib.hid fun h => .inr ⟨t, hlt, h⟩
        have HB1 : Hid (∀ ob, Below w.heap.size w (wr.alloc ob)) := Lib.hid fun ob => HT.out.1.alloc HT.out.1.size _
        clear c0 c1 c2 hci
        generalize E t = et at *
        obtain ⟨ek, ec, en, eo⟩ := et
        dsimp only at *
        by_cases h3 : 30 < en
        · have h3' : (30 : Int) < (en : Int) := by omega
          go_wp2
          go_ret
          exact ⟨true, rfl, ⟨fun _ => HBG.out h3, fun _ => rfl⟩, HB1.out _⟩
        · have h3' : ¬ (30 : Int) < (en : Int) := by omega
          go_wp2
          go_roundw
          case rel => exact ⟨t + 1, by omega, by go_num, Lib.hid ⟨HB1.out _, HPN.out h3⟩⟩
          case measure => simp [intOf]; omega
      · obtain rfl : len = t := by omega
        have HNB : Hid (¬ Big len E) := Lib.hid fun h => by
          rcases h with h | ⟨j, hj, h⟩
          · omega
          · exact HT.out.2 j hj h
        go_wp2
        go_ret
        exact ⟨false, rfl, ⟨fun h => (by cases h), fun h => absurd h HNB.out⟩, HT.out.1⟩

end Go.Proofs.Ytaddmegghikhpaa
