/-
  Contract of Scan: the frames that stand one behind the other.
-/
import Derived.Test.YtgplannipnceeaaI
namespace Go.Proofs.Ytgplannipnceeaa
open Go.ChangeShapes Go.WideShapes Go.ChangeAt Go.RowKit

theorem info24 : (Try.prog.info? 24).map (fun i => (i.zero, i.size, i.bytes)) = some (some (.agg #[.int .i64 0, .slice none 0 0]), 2, 32) := by kernel_rfl

/-- bytes from a place on -/
def sh (f : Nat → Nat) (p : Nat) : Nat → Nat := fun j => f (p + j)
/-- where the frames begin, if each one is whole -/
def scanP (f : Nat → Nat) : Nat → Nat
  | 0 => 0
  | i + 1 => scanP f i + (12 + sizeOf' (sh f (scanP f i)))
/-- c frames are whole -/
def Wholes (f : Nat → Nat) (n c : Nat) : Prop := ∀ i, i < c → scanP f i < n ∧ derr (sh f (scanP f i)) (n - scanP f i) = 0

theorem derr_fits {f : Nat → Nat} {n : Nat} (h : derr f n = 0) : 12 + sizeOf' f ≤ n ∧ sizeOf' f ≤ 65536 := by
  unfold derr at h
  split at h
  · cases h
  · split at h
    · cases h
    · split at h
      · cases h
      · split at h
        · cases h
        · omega

/-- frames in a row of our own: kinds, and slices of bytes that are our own, too -/
structure Frames (w : World) (base : Nat) (v : Value) (c : Nat) (k : Nat → Nat) (z : Nat → Nat) (d : Nat → Nat → Nat) : Prop where
  row : ∃ V : Nat → Value, w.ownsRow base 24 2 v c ((List.range c).flatMap fun i => [Value.int .i64 ((k i : Nat) : Int), V i]) ∧
    ∀ i, i < c → ∃ sp cap, V i = .slice sp (z i) cap ∧ w.ownsRow base 5 1 (.slice sp (z i) cap) (z i) (rowB (d i) (z i)) ∧ (sp = none → z i = 0 ∧ cap = 0)

theorem rowF_succ (k : Nat → Nat) (V : Nat → Value) (c : Nat) : ((List.range c).flatMap fun i => [Value.int .i64 ((k i : Nat) : Int), V i]) ++ [Value.int .i64 ((k c : Nat) : Int), V c] = (List.range (c + 1)).flatMap fun i => [Value.int .i64 ((k i : Nat) : Int), V i] := by
  rw [List.range_succ, List.flatMap_append]; rfl

theorem own24_below {w w' : World} {base n : Nat} {v : Value} {xs : List Value} (h : w.ownsRow base 24 2 v n xs) (hb : Below w.heap.size w w') : w'.ownsRow base 24 2 v n xs := by
  refine ⟨h.1, ?_⟩
  rcases h.2 with h0 | ⟨g, cap, cur, hv, hg, hh, hrest⟩
  · exact .inl h0
  · have hlt : g < w.heap.size := by
      rcases Nat.lt_or_ge g w.heap.size with h' | h'
      · exact h'
      · rw [Array.getElem?_eq_none h'] at hh; cases hh
    exact .inr ⟨g, cap, cur, hv, hg, (hb.block g hlt).trans hh, hrest⟩

/-- bytes of our own stay where frames are appended -/
theorem own5_grown {W W' : World} {base base' n m : Nat} {v u : Value} {xs ys : List Value} (h : W.ownsRow base 5 1 v n xs) (hf : W.ownsRow base' 24 2 u m ys) (hg : W.grownBy W' u.ownBlock) : W'.ownsRow base 5 1 v n xs := by
  refine ⟨h.1, ?_⟩
  rcases h.2 with h0 | ⟨g, cap, cur, hv, hgb, hh, hrest⟩
  · exact .inl h0
  · have hlt : g < W.heap.size := by
      rcases Nat.lt_or_ge g W.heap.size with h' | h'
      · exact h'
      · rw [Array.getElem?_eq_none h'] at hh; cases hh
    refine .inr ⟨g, cap, cur, hv, hgb, (hg.block g hlt ?_).trans hh, hrest⟩
    intro e
    rcases hf.2 with ⟨h', _⟩ | ⟨g', c', cur', h', _, hh', _⟩
    · rw [h'] at e; cases e
    · rw [h'] at e
      have e' : g = g' := Option.some.inj e
      rw [← e', hh] at hh'
      injection hh' with hh'
      injection hh' with _ hh' _
      cases hh'

theorem Frames.below {w w' : World} {base c : Nat} {v : Value} {k z : Nat → Nat} {d : Nat → Nat → Nat} (h : Frames w base v c k z d) (hb : Below w.heap.size w w') : Frames w' base v c k z d := by
  obtain ⟨V, ho, hv⟩ := h.row
  exact ⟨V, own24_below ho hb, fun i hi => by obtain ⟨sp, cap, e, h1, h2⟩ := hv i hi; exact ⟨sp, cap, e, own_below h1 hb, h2⟩⟩

theorem Frames.app {W W' : World} {base c : Nat} {v v' : Value} {k z : Nat → Nat} {d : Nat → Nat → Nat} {V : Nat → Value} {sp : Option Addr} {cap : Nat}
    (ho : W.ownsRow base 24 2 v c ((List.range c).flatMap fun i => [Value.int .i64 ((k i : Nat) : Int), V i]))
    (hv : ∀ i, i < c → ∃ sp cap, V i = .slice sp (z i) cap ∧ W.ownsRow base 5 1 (.slice sp (z i) cap) (z i) (rowB (d i) (z i)) ∧ (sp = none → z i = 0 ∧ cap = 0))
    (hn : W.ownsRow base 5 1 (.slice sp (z c) cap) (z c) (rowB (d c) (z c))) (hsp : sp = none → z c = 0 ∧ cap = 0)
    (h' : W'.ownsRow base 24 2 v' (c + 1) (((List.range c).flatMap fun i => [Value.int .i64 ((k i : Nat) : Int), V i]) ++ [Value.int .i64 ((k c : Nat) : Int), .slice sp (z c) cap])) (hg : W.grownBy W' v.ownBlock) :
    Frames W' base v' (c + 1) k z d := by
  refine ⟨fun i => if i < c then V i else .slice sp (z c) cap, ?_, fun i hi => ?_⟩
  · have e : (((List.range c).flatMap fun i => [Value.int .i64 ((k i : Nat) : Int), V i]) ++ [Value.int .i64 ((k c : Nat) : Int), .slice sp (z c) cap]) = (List.range (c + 1)).flatMap fun i => [Value.int .i64 ((k i : Nat) : Int), if i < c then V i else .slice sp (z c) cap] := by
      rw [← rowF_succ k (fun i => if i < c then V i else .slice sp (z c) cap) c, if_neg (by omega)]
      congr 1
      rw [List.flatMap_def, List.flatMap_def]
      congr 1
      apply List.map_congr_left
      intro i hi
      rw [if_pos (by simpa using hi)]
    rw [← e]; exact h'
  · by_cases h : i < c
    · obtain ⟨sp1, cap1, e1, o1, p1⟩ := hv i h
      exact ⟨sp1, cap1, by show (if i < c then V i else _) = _; rw [if_pos h]; exact e1, own5_grown o1 ho hg, p1⟩
    · obtain rfl : i = c := by omega
      exact ⟨sp, cap, by show (if i < i then V i else _) = _; rw [if_neg (by omega)], own5_grown hn ho hg, hsp⟩

def ScanPost (f : Nat → Nat) (n : Nat) (w : World) (e : Ending) (w' : World) : Prop :=
  Below w.heap.size w w' ∧ ∃ (c er : Nat) (v : Value), e = .returned (.tuple #[v, .int .i64 ((scanP f c : Nat) : Int), .int .i64 (er : Int)]) ∧ Wholes f n c ∧
    ((scanP f c = n ∧ er = 0) ∨ (scanP f c < n ∧ er = derr (sh f (scanP f c)) (n - scanP f c) ∧ ¬ er = 0)) ∧
    Frames w' w.heap.size v c (fun i => kindOf (sh f (scanP f i))) (fun i => sizeOf' (sh f (scanP f i))) (fun i j => sh f (scanP f i) (12 + j))

theorem scan_bounds {f : Nat → Nat} {n c : Nat} (h : Wholes f n c) : scanP f c ≤ n ∧ 12 * c ≤ scanP f c := by
  induction c with
  | zero => exact ⟨Nat.zero_le _, Nat.le_refl _⟩
  | succ c ih =>
    have h1 := ih fun i hi => h i (by omega)
    obtain ⟨h2, h3⟩ := h c (by omega)
    have h4 := derr_fits h3
    show scanP f c + (12 + sizeOf' (sh f (scanP f c))) ≤ n ∧ 12 * (c + 1) ≤ scanP f c + (12 + sizeOf' (sh f (scanP f c)))
    omega

set_option maxHeartbeats 2000000 in
theorem scan_any (sp : Option Addr) (n cap : Nat) (f : Nat → Nat) (w : World) (hn : n ≤ 1000000) (hc : n ≤ cap) (hf : ∀ j, f j < 256) (hs : Src w sp n f) : Calls Try.prog 16 #[.slice sp n cap] w (ScanPost f n w) := by
  obtain ⟨i0, hi, hz0, hz1, hz2⟩ := info_parts info24
  have HF := Lib.hid hf
  have HS := Lib.hid hs
  clear hf hs
  go_enter Try.func16, Try.ntmps16
  go_wp2
  go_loopw [5, 6, 7, 8, 9] (fun v i _ _ _ wr => ∃ c : Nat, i = .int .i64 ((scanP f c : Nat) : Int) ∧ Hid (Wholes f n c ∧ Below w.heap.size w wr ∧ Frames wr w.heap.size v c (fun i => kindOf (sh f (scanP f i))) (fun i => sizeOf' (sh f (scanP f i))) (fun i j => sh f (scanP f i) (12 + j)))) (fun _ i _ _ _ _ => n - (intOf i).toNat)
  case atStart => exact ⟨0, rfl, Lib.hid ⟨fun i hi => absurd hi (Nat.not_lt_zero _), Below.refl _ _, ⟨fun _ => .slice none 0 0, World.ownsRow_nil _ _ _ _, fun i hi => absurd hi (Nat.not_lt_zero _)⟩⟩⟩
  case round =>
    obtain ⟨c, rfl, HA⟩ := hrel
    have hbd := scan_bounds HA.out.1
    have HWS : Hid (∀ i, i < c → scanP f i < n ∧ derr (sh f (scanP f i)) (n - scanP f i) = 0) := Lib.hid HA.out.1
    have HP1 : Hid (scanP f (c + 1) = scanP f c + (12 + sizeOf' (sh f (scanP f c)))) := Lib.hid rfl
    by_cases hlt : scanP f c < n
    · obtain ⟨ad, rfl, _⟩ := HS.out (by omega)
      obtain ⟨p, ep⟩ : ∃ p, p = scanP f c := ⟨_, rfl⟩
      rw [← ep] at hlt hbd ⊢
      have HEP := Lib.hid ep
      clear ep
      have HSR := Lib.hid ((HS.out.below HA.out.2.1).behind p (n - p) (by omega))
      have hl1 : (p : Int) < (n : Int) := by omega
      have hl2 : (n : Int) ≤ (cap : Int) := by omega
      have hl3 : ¬ cap = p := by omega
      have hl4 : ¬ p = cap := by omega
      have hl5 : (p : Int) ≤ (n : Int) := by omega
      have hl6 : (p : Int) ≤ (cap : Int) := by omega
      go_wp2_with fail
      refine (decode_any (some (ad.add p)) (n - p) (cap - p) (sh f p) wr (fun j => HF.out _) (by omega) HSR.out).mono ?_
      rintro e w3 ⟨hb3, hres⟩
      have HB3 := Lib.hid (HA.out.2.1.trans (hb3.mono HA.out.2.1.size))
      have HFR3 := Lib.hid (HA.out.2.2.below hb3)
      rcases hres with ⟨hne, rfl⟩ | ⟨heq, sp', cap', rfl, hown3, hsp3⟩
      · have hq : ((((derr (sh f p) (n - p) : Nat) : Int)) == 0) = false := by rw [beq_eq_false_iff_ne]; omega
        have HNE := Lib.hid hne
        obtain ⟨q, eq⟩ : ∃ q, q = derr (sh f p) (n - p) := ⟨_, rfl⟩
        rw [← eq] at hq HNE ⊢
        have HQ := Lib.hid eq
        unfold zeroF
        clear hb3 hne eq
        go_wp2
        go_ret3
        refine ⟨HB3.out.alloc HB3.out.size _, c, q, u5, by rw [← HEP.out]; rfl, HWS.out, .inr ⟨by rw [← HEP.out]; exact hlt, by rw [← HEP.out]; exact HQ.out, HNE.out⟩, HFR3.out.below ((Below.refl _ _).alloc (Nat.le_refl _) _)⟩
      · have HEQ := Lib.hid heq
        have HOW3 := Lib.hid (own_mono hown3 HA.out.2.1.size)
        have HSP3 := Lib.hid hsp3
        obtain ⟨kd, ekd⟩ : ∃ kd, kd = kindOf (sh f p) := ⟨_, rfl⟩
        obtain ⟨z, ez⟩ : ∃ z, z = sizeOf' (sh f p) := ⟨_, rfl⟩
        have hfit := derr_fits heq
        rw [← ekd, ← ez]
        rw [← ez] at HOW3 HSP3 hfit
        have HKD := Lib.hid ekd
        have HZD := Lib.hid ez
        clear ekd ez heq hown3 hsp3 hb3
        obtain ⟨V, hoV, hV⟩ := HFR3.out.row
        have HOV := Lib.hid hoV
        have HVV := Lib.hid hV
        clear hoV hV
        have HBW : Hid (Below w3.heap.size w3 ((w3.alloc (.cells #[.int .i64 (kd : Int), .slice sp' z cap'] 24)).alloc (.cells #[.int .i64 (kd : Int), .slice sp' z cap'] 24))) := Lib.hid (((Below.refl _ _).alloc (Nat.le_refl _) _).alloc (by simp) _)
        have HOVW := Lib.hid (own24_below HOV.out HBW.out)
        have HNW : Hid (((w3.alloc (.cells #[.int .i64 (kd : Int), .slice sp' z cap'] 24)).alloc (.cells #[.int .i64 (kd : Int), .slice sp' z cap'] 24)).heap[w3.heap.size + 1]? = some (.cells #[.int .i64 (kd : Int), .slice sp' z cap'] 24 (0, 0))) := Lib.hid (by have := heap_alloc_new (w3.alloc (.cells #[.int .i64 (kd : Int), .slice sp' z cap'] 24)) (.cells #[.int .i64 (kd : Int), .slice sp' z cap'] 24); rwa [show (w3.alloc (.cells #[.int .i64 (kd : Int), .slice sp' z cap'] 24)).heap.size = w3.heap.size + 1 by simp] at this)
        have hsz : w.heap.size ≤ w3.heap.size := HB3.out.size
        go_wp2_with (at_builtin; refine wpList_append_own _ rfl _ _ 39 rfl w.heap.size 24 i0 (.agg #[.int .i64 0, .slice none 0 0]) 2 32 Try.underlying39 hi hz0 hz1 hz2 rfl (by decide) _ c ((List.range c).flatMap fun i => [Value.int .i64 ((kindOf (sh f (scanP f i)) : Nat) : Int), V i]) rfl ?a0 ⟨w3.heap.size + 1, 0, none⟩ 1 1 [.int .i64 (kd : Int), .slice sp' z cap'] rfl ?a1 ?a2 ?a3 ?a4 ?a5 ?a6 ?_)
        case a0 => exact HOVW.out
        case a1 => rfl
        case a2 =>
          intro j u hj
          rw [Go.WideShapes.add_plain, cell_of_row _ _ _ _ 24 (0, 0) HNW.out, Nat.zero_add]
          simpa using hj
        case a3 =>
          intro u hu
          simp at hu
          rcases hu with rfl | rfl <;> rfl
        case a4 => unfold maxLen; omega
        case a5 => omega
        case a6 => simp; omega
        intro v5 w5 hown5 hgrow5 _
        have HB5 := Lib.hid ((HB3.out.trans (HBW.out.mono HB3.out.size)).grown hgrow5 (Nat.le_trans hsz HBW.out.size) (fun q hq => (HOVW.out.lt q hq).1))
        have HFR5 : Hid (Frames w5 w.heap.size v5 (c + 1) (fun i => kindOf (sh f (scanP f i))) (fun i => sizeOf' (sh f (scanP f i))) (fun i j => sh f (scanP f i) (12 + j))) := Lib.hid (by
          refine Frames.app (V := V) (sp := sp') (cap := cap') HOVW.out (fun i hi => ?_) ?_ ?_ ?_ hgrow5
          · obtain ⟨sp1, cap1, e1, o1, p1⟩ := HVV.out i hi
            exact ⟨sp1, cap1, e1, own_below o1 HBW.out, p1⟩
          · show ((w3.alloc (.cells #[.int .i64 (kd : Int), .slice sp' z cap'] 24)).alloc (.cells #[.int .i64 (kd : Int), .slice sp' z cap'] 24)).ownsRow w.heap.size 5 1 (.slice sp' (sizeOf' (sh f (scanP f c))) cap') (sizeOf' (sh f (scanP f c))) (rowB (fun j => sh f (scanP f c) (12 + j)) (sizeOf' (sh f (scanP f c))))
            rw [← HEP.out, ← HZD.out]
            exact own_below HOW3.out HBW.out
          · show sp' = none → sizeOf' (sh f (scanP f c)) = 0 ∧ cap' = 0
            rw [← HEP.out, ← HZD.out]
            exact HSP3.out
          · show w5.ownsRow w.heap.size 24 2 v5 (c + 1) (_ ++ [Value.int .i64 ((kindOf (sh f (scanP f c)) : Nat) : Int), .slice sp' (sizeOf' (sh f (scanP f c))) cap'])
            rw [← HEP.out, ← HZD.out, ← HKD.out]
            exact hown5)
        have HW5 : Hid (Wholes f n (c + 1)) := Lib.hid fun i hi => by
          by_cases h : i < c
          · exact HWS.out i h
          · obtain rfl : i = c := by omega
            rw [← HEP.out]
            exact ⟨hlt, HEQ.out⟩
        clear hown5 hgrow5
        go_wp2
        go_roundw
        case rel => exact ⟨c + 1, val_int (by rw [HP1.out, ← HEP.out, ← HZD.out]; omega), Lib.hid ⟨HW5.out, HB5.out, HFR5.out⟩⟩
        case measure => simp [intOf]; omega
    · have hpe : scanP f c = n := by omega
      have HPE := Lib.hid hpe
      have hnl : ¬ ((scanP f c : Nat) : Int) < (n : Int) := by omega
      clear hpe
      go_wp2
      go_ret3
      exact ⟨HA.out.2.1, c, 0, u5, rfl, HWS.out, .inl ⟨HPE.out, rfl⟩, HA.out.2.2⟩
end Go.Proofs.Ytgplannipnceeaa
