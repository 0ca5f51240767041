/-
  HistParts' walk; a transaction that came in by value.
-/
import Derived.Test.YtgpnjgpbblookaaWf
import Derived.Test.YtgpnjgpbblookaaT
import Derived.Deep.RegionHeld3
namespace Go.Proofs.Ytgpnjgpbblookaa
open Go.ChangeShapes Go.WideShapes Go.ChangeAt Go.RowKit

theorem cells36 : Try.prog.cellsOf 36 = 3 := by kernel_rfl
section
variable {H : Type} {enc : TypeId × Value → H} {w : World} {base : Nat} {spare : Nat → Bool} {held : Bool}
def InR (z : Int) : Prop := -9223372036854775808 ≤ z ∧ z ≤ 9223372036854775807
theorem op_of' {n : Nat} {cs : List Value} {y : DataW H × List MemPlace} {a : Addr} (hc : w.cells? base a 3 = some cs) (h : DataW.trod enc Try.prog w base spare held n 38 cs = some y) :
    ∃ t : O3, InR t.v ∧ w.cell? (a.add 0) = some (.int .i64 t.k) ∧ w.cell? (a.add 1) = some (.int .i64 t.key) ∧ w.cell? (a.add 2) = some (.int .i64 t.v) := by
  obtain ⟨_, hlen, hat⟩ := World.cells?_some hc
  obtain ⟨xs, n', _, _, _, hxl, hf⟩ := DataW.trod_struct Try.underlying38 h
  match cs, hlen with
  | [c0, c1, c2], _ =>
    match xs, hxl with
    | [y0, y1, y2], _ =>
      have g0 := hf 0 _ rfl
      have g1 := hf 1 _ rfl
      have g2 := hf 2 _ rfl
      simp [cellsI] at g0 g1 g2
      obtain ⟨k, e0, _, _⟩ := DataW.trod_int Try.underlying3 g0
      obtain ⟨key, e1, _, _⟩ := DataW.trod_int Try.underlying3 g1
      obtain ⟨v, e2, _, hwf⟩ := DataW.trod_int Try.underlying3 g2
      simp at e0 e1 e2
      subst e0 e1 e2
      exact ⟨⟨k, key, v⟩, i64_bounds hwf, hat 0 (by decide), hat 1 (by decide), hat 2 (by decide)⟩
theorem ops_of' {fuel : Nat} {a : Option Addr} {len cap : Nat} {x : DataW H × List MemPlace} (h : DataW.trod enc Try.prog w base spare held fuel 34 [.slice a len cap] = some x) :
    ∃ o, OpS w a len o ∧ (∀ i, i < len → InR (o i).v) ∧ len ≤ 9223372036854775807 := by
  rcases Go.Deep.open_slice Try.underlying34 h with ⟨e, _⟩ | ⟨ad, len', cap', m, n, D, Pl, e, _, hl, hm, hmm, _, hi⟩
  · simp at e; obtain ⟨rfl, rfl, rfl⟩ := e
    exact ⟨fun _ => ⟨0, 0, 0⟩, fun h => absurd h (Nat.lt_irrefl 0), fun i hi => absurd hi (Nat.not_lt_zero _), Nat.zero_le _⟩
  · simp at e; obtain ⟨rfl, rfl, rfl⟩ := e
    rw [cells38] at hi
    have hlm : len ≤ m := by rw [hmm]; split <;> omega
    have hex : ∀ j, ∃ t : O3, j < len → InR t.v ∧ w.cell? ((ad.add (j * 3)).add 0) = some (.int .i64 t.k) ∧ w.cell? ((ad.add (j * 3)).add 1) = some (.int .i64 t.key) ∧ w.cell? ((ad.add (j * 3)).add 2) = some (.int .i64 t.v) := fun j => by
      by_cases hj : j < len
      · obtain ⟨cs, h1, h2⟩ := hi j (by omega)
        obtain ⟨t, ht⟩ := op_of' h1 h2
        exact ⟨t, fun _ => ht⟩
      · exact ⟨⟨0, 0, 0⟩, fun h => absurd h hj⟩
    obtain ⟨o, ho⟩ := Classical.skolem.mp hex
    refine ⟨o, fun hpos => ?_, fun i hi => (ho i hi).1, by unfold maxLen at hm; omega⟩
    obtain ⟨b, off, spot⟩ := ad
    have h0 := (ho 0 hpos).2.1
    have hspot : spot = none := by simpa [Addr.add] using World.cell?_spot h0
    subst hspot
    refine ⟨b, off, rfl, ?_, fun j hj => ?_⟩
    · have := cell_lt h0; simpa [block_add] using this
    · obtain ⟨_, h1, h2, h3⟩ := ho j hj
      rw [Go.WideShapes.add_plain, Go.WideShapes.add_plain] at h1 h2 h3
      exact ⟨h1, h2, h3⟩
theorem txn_of {n : Nat} {cs : List Value} {y : DataW H × List MemPlace} (h : DataW.trod enc Try.prog w base spare held n 36 cs = some y) :
    ∃ (c st : Int) (sp : Option Addr) (len cap : Nat) (o : Nat → O3), cs = [.int .i64 c, .int .i64 st, .slice sp len cap] ∧ OpS w sp len o ∧ (∀ i, i < len → InR (o i).v) ∧ len ≤ 9223372036854775807 := by
  obtain ⟨xs, n', _, _, hlen, hxl, hf⟩ := DataW.trod_struct Try.underlying36 h
  rw [cells36] at hlen
  match cs, hlen with
  | [c0, c1, c2], _ =>
    match xs, hxl with
    | [y0, y1, y2], _ =>
      have g0 := hf 0 _ rfl
      have g1 := hf 1 _ rfl
      have g2 := hf 2 _ rfl
      simp [cellsI, cells34] at g0 g1 g2
      obtain ⟨k, e0, _, _⟩ := DataW.trod_int Try.underlying3 g0
      obtain ⟨c, e1, _, _⟩ := DataW.trod_int Try.underlying3 g1
      simp at e0 e1
      subst e0 e1
      obtain ⟨sp, l, cp, e2⟩ : ∃ sp l cp, c2 = .slice sp l cp := by
        rcases Go.Deep.open_slice Try.underlying34 g2 with ⟨e, _⟩ | ⟨ad, len', cap', m, n, D, Pl, e, _⟩
        · simp at e; exact ⟨_, _, _, e⟩
        · simp at e; exact ⟨_, _, _, e⟩
      subst e2
      obtain ⟨o, h1, h2, h3⟩ := ops_of' g2
      exact ⟨k, c, sp, l, cp, o, rfl, h1, h2, h3⟩
end

/-- an operation of a history, as the law asks -/
def LOp (t : O3) : Prop := (t.k = 1 ∨ t.k = 2) ∧ 0 ≤ t.key ∧ t.key ≤ 15

set_option maxRecDepth 100000 in
set_option maxHeartbeats 8000000 in
theorem parts_main (c st : Int) (sp : Option Addr) (n cap : Nat) (o : Nat → O3) (w : World) (hs : OpS w sp n o) (hv : ∀ i, i < n → InR (o i).v) :
    Calls Try.prog 4 #[.agg #[.int .i64 c, .int .i64 st, .slice sp n cap]] w fun e w' => e = .returned (.bool true) ∧ Below w.heap.size w w' := by
  have HS := Lib.hid hs
  have HV := Lib.hid hv
  clear hs hv
  obtain ⟨wx, ewx⟩ : ∃ wx, wx = w.alloc (.cells #[.int .i64 c, .int .i64 st, .slice sp n cap] 36) := ⟨_, rfl⟩
  have hxx : wx.heap[w.heap.size]? = some (.cells #[.int .i64 c, .int .i64 st, .slice sp n cap] 36 (0, 0)) := by rw [ewx]; exact heap_alloc_new w _
  have hxl : w.heap.size < wx.heap.size := by rw [ewx]; simp
  have HB0 : Hid (Below w.heap.size w wx) := Lib.hid (by rw [ewx]; exact (Below.refl _ _).alloc (Nat.le_refl _) _)
  obtain ⟨X, eX⟩ : ∃ X, X = w.heap.size := ⟨_, rfl⟩
  rw [← eX] at hxx hxl
  have HX := Lib.hid hxx
  clear hxx
  go_enter Try.func4, Try.ntmps4
  go_wp2_with fail
  rw [← ewx, ← eX]
  clear ewx eX
  refine (head_any _).mono ?_
  rintro e w1 ⟨rfl, hb1⟩
  have HB1 := Lib.hid hb1
  have HX1 := Lib.hid ((hb1.block _ hxl).trans HX.out)
  have hx1l : X < w1.heap.size := Nat.lt_of_lt_of_le hxl hb1.size
  clear hb1
  obtain ⟨⟨q0, q1, q2⟩, _⟩ := cells3 HX1.out
  have HBW1 := Lib.hid (HB0.out.trans (HB1.out.mono HB0.out.size))
  by_cases h60 : 60 < n
  · have h60' : (60 : Int) < (n : Int) := by omega
    go_wp2
    go_ret
    exact ⟨rfl, HBW1.out⟩
  · have h60' : ¬ (60 : Int) < (n : Int) := by omega
    have hn6 : n ≤ 60 := by omega
    clear h60
    go_wp2
    clear q0 q1 q2
    go_loopw [4, 14] (fun _ x wr => ∃ t : Nat, t ≤ n ∧ x = .int .i64 (t : Int) ∧ Hid (Below w1.heap.size w1 wr ∧ ∀ i, i < t → LOp (o i))) (fun _ x _ => n - (intOf x).toNat)
    case atStart => exact ⟨0, Nat.zero_le _, rfl, Lib.hid ⟨Below.refl _ _, fun i hi => absurd hi (Nat.not_lt_zero _)⟩⟩
    case round =>
      obtain ⟨t, ht, rfl, HT⟩ := hrel
      by_cases hlt : t < n
      · have HBT := Lib.hid (HBW1.out.trans (HT.out.1.mono HBW1.out.size))
        obtain ⟨b, off, rfl, hbl, hci⟩ := HS.out (by omega)
        obtain ⟨c0, c1, c2⟩ := hci t hlt
        have x0 := (HBT.out.cell (p := ⟨b, off + t * 3, none⟩) hbl).trans c0
        have x1 := (HBT.out.cell (p := ⟨b, off + t * 3 + 1, none⟩) hbl).trans c1
        have x2 := (HBT.out.cell (p := ⟨b, off + t * 3 + 2, none⟩) hbl).trans c2
        have hlt' : (t : Int) < (n : Int) := by omega
        have HPR : Hid (LOp (o t) → ∀ i, i < t + 1 → LOp (o i)) := Lib.hid fun hh i hi => by
          by_cases h : i < t
          · exact HT.out.2 i h
          · obtain rfl : i = t := by omega
            exact hh
        clear c0 c1 c2 hci
        generalize o t = ot at *
        obtain ⟨ok, okey, ov⟩ := ot
        dsimp only at x0 x1 x2
        have HW2 : Hid (Below w1.heap.size w1 (wr.alloc (.cells #[.int .i64 ok, .int .i64 okey, .int .i64 ov] 38))) := Lib.hid (HT.out.1.alloc HT.out.1.size _)
        by_cases hk : ok = 1 ∨ ok = 2
        · have hkb : (ok != 1) = false ∨ ((ok != 1) = true ∧ (ok != 2) = false) := by
            rcases hk with h | h
            · left; rw [h]; rfl
            · right; rw [h]; exact ⟨rfl, rfl⟩
          by_cases h1 : okey < 0
          · clear hk
            rcases hkb with h | ⟨h, h'⟩
            all_goals
              go_wp2
              go_ret
              exact ⟨rfl, HBW1.out.trans (HW2.out.mono HBW1.out.size)⟩
          · by_cases h2 : 15 < okey
            · clear hk
              rcases hkb with h | ⟨h, h'⟩
              all_goals
                go_wp2
                go_ret
                exact ⟨rfl, HBW1.out.trans (HW2.out.mono HBW1.out.size)⟩
            · have HG := Lib.hid (HPR.out ⟨hk, by dsimp only; omega, by dsimp only; omega⟩)
              clear hk
              rcases hkb with h | ⟨h, h'⟩
              all_goals
                go_wp2
                go_roundw
                case rel => exact ⟨t + 1, by omega, by go_num, Lib.hid ⟨HW2.out, HG.out⟩⟩
                case measure => simp [intOf]; omega
        · have h1 : (ok != 1) = true := by rw [bne_iff_ne]; exact fun h => hk (.inl h)
          have h2 : (ok != 2) = true := by rw [bne_iff_ne]; exact fun h => hk (.inr h)
          clear hk
          go_wp2
          go_ret
          exact ⟨rfl, HBW1.out.trans (HW2.out.mono HBW1.out.size)⟩
      · obtain rfl : t = n := by omega
        obtain ⟨wq, ewq⟩ : ∃ wq, wq = wr := ⟨_, rfl⟩
        subst ewq
        have HXQ := Lib.hid ((HT.out.1.block _ hx1l).trans HX1.out)
        have hxql : X < wq.heap.size := Nat.lt_of_lt_of_le hx1l HT.out.1.size
        have HBQ := Lib.hid (HBW1.out.trans (HT.out.1.mono HBW1.out.size))
        have HSQ := Lib.hid (HS.out.below HBQ.out)
        have HL := Lib.hid HT.out.2
        have hB : Below wq.heap.size wq wq.drew := (Below.refl _ _).drew
        have HKK : Hid (∀ W, Below wq.heap.size wq W → W.cell? ⟨X, 0, none⟩ = some (.int .i64 c) ∧ W.cell? ⟨X, 1, none⟩ = some (.int .i64 st) ∧ W.cell? ⟨X, 2, none⟩ = some (.slice sp t cap)) := Lib.hid fun W hb => (cells3 ((hb.block _ hxql).trans HXQ.out)).1
        have H18 : Hid (∀ W, Below wq.heap.size wq W → Calls Try.prog 18 #[.agg #[.int .i64 c, .int .i64 st, .slice sp t cap]] W (OpsP (rdS st o t) W)) := Lib.hid fun W hb => hreads_any c st sp t cap o W (by omega) (fun i hi => (HL.out i hi).2) (fun i hi => HV.out i hi) (HSQ.out.below hb)
        have H19 : Hid (∀ W, Below wq.heap.size wq W → Calls Try.prog 19 #[.agg #[.int .i64 c, .int .i64 st, .slice sp t cap]] W (OpsP (rdS st o t) W)) := Lib.hid fun W hb => rreads_any c st sp t cap o W (by omega) (fun i hi => (HL.out i hi).1) (HSQ.out.below hb)
        have H20 : Hid (∀ W, Below wq.heap.size wq W → Calls Try.prog 20 #[.agg #[.int .i64 c, .int .i64 st, .slice sp t cap]] W (OpsP (wrl o t 16) W)) := Lib.hid fun W hb => hwrites_any c st sp t cap o W (by omega) (fun i hi => (HL.out i hi).2) (HSQ.out.below hb)
        have H21 : Hid (∀ W, Below wq.heap.size wq W → Calls Try.prog 21 #[.agg #[.int .i64 c, .int .i64 st, .slice sp t cap]] W (OpsP (wrl o t 16) W)) := Lib.hid fun W hb => rwrites_any c st sp t cap o W (by omega) (HSQ.out.below hb)
        have hrl : (rdS st o t).length ≤ 1000000 := by
          unfold rdS
          split
          · have := rd_le o t; omega
          · simp
        have hwl : (wrl o t 16).length ≤ 1000000 := by have := wrl_le o t 16; omega
        generalize rdS st o t = RL at *
        generalize wrl o t 16 = WL at *
        clear HT
        go_wp2
        go_region_held3 (fun W => W.cell? ⟨X, 0, none⟩ = some (.int .i64 c) ∧ W.cell? ⟨X, 1, none⟩ = some (.int .i64 st) ∧ W.cell? ⟨X, 2, none⟩ = some (.slice sp t cap))
          (exact HKK.out _ hB)
          (first
            | (go_at_call 18; refine (H18.out _ hB).mono ?_; rintro e w5 ⟨s5, c5, rfl, ho5, hb5⟩; have h18 := own38_ops ho5; (try replace h19 := h19.below hb5); replace hB := hB.trans (hb5.mono hB.size); clear ho5 hb5)
            | (go_at_call 19; refine (H19.out _ hB).mono ?_; rintro e w6 ⟨s6, c6, rfl, ho6, hb6⟩; have h19 := own38_ops ho6; (try replace h18 := h18.below hb6); replace hB := hB.trans (hb6.mono hB.size); clear ho6 hb6)
            | (go_at_call 20; refine (H20.out _ hB).mono ?_; rintro e w8 ⟨s8, c8, rfl, ho8, hb8⟩; have h20 := own38_ops ho8; (try replace h21 := h21.below hb8); replace hB := hB.trans (hb8.mono hB.size); clear ho8 hb8)
            | (go_at_call 21; refine (H21.out _ hB).mono ?_; rintro e w9 ⟨s9, c9, rfl, ho9, hb9⟩; have h21 := own38_ops ho9; (try replace h20 := h20.below hb9); replace hB := hB.trans (hb9.mono hB.size); clear ho9 hb9)
            | (go_at_call 17; refine (same_true s8 _ c8 (lf WL) s9 c9 _ hwl h20 h21).mono ?_; rintro e wa ⟨rfl, qa, rfl⟩; replace hB := below_drewN hB qa)
            | (go_at_call 17; refine (same_true s5 _ c5 (lf RL) s6 c6 _ hrl h18 h19).mono ?_; rintro e wa ⟨rfl, qa, rfl⟩; replace hB := below_drewN hB qa))
        all_goals
          go_wp2
          go_ret
          exact ⟨rfl, HBQ.out.trans (hB.mono HBQ.out.size)⟩
end Go.Proofs.Ytgpnjgpbblookaa
