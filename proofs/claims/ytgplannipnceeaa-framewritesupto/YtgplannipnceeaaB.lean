/-
  Contracts of the reference's Copy, Same, More and Sum; bytes that came in.
-/
import Derived.Test.YtgplannipnceeaaA
import Derived.Laws.BytesArg
import Derived.Laws.IdiomStrings
namespace Go.Proofs.Ytgplannipnceeaa
open Go.ChangeShapes Go.WideShapes Go.ChangeAt Go.RowKit

theorem info5 : (Try.prog.info? 5).map (fun i => (i.zero, i.size, i.bytes)) = some (some (.int .u8 0), 1, 1) := by kernel_rfl
theorem size5 : (Try.prog.info? 5).map (·.size) = some 1 := by kernel_rfl

/-- bytes, as cells -/
def rowB (f : Nat → Nat) (n : Nat) : List Value := (List.range n).map fun j => .int .u8 ((f j : Nat) : Int)
theorem rowB_length (f : Nat → Nat) (n : Nat) : (rowB f n).length = n := by simp [rowB]
theorem rowB_get (f : Nat → Nat) (n j : Nat) (h : j < n) : (rowB f n)[j]? = some (.int .u8 ((f j : Nat) : Int)) := by simp [rowB, h]
theorem rowB_one (f : Nat → Nat) (n : Nat) : ∀ u ∈ rowB f n, u.oneCell' = true := by
  intro u hu; simp [rowB] at hu; obtain ⟨j, _, rfl⟩ := hu; rfl
theorem rowB_congr (f h : Nat → Nat) (n : Nat) (e : ∀ j, j < n → f j = h j) : rowB f n = rowB h n := by
  unfold rowB; apply List.map_congr_left; intro j hj; rw [e j (by simpa using hj)]
theorem rowB_app (f h : Nat → Nat) (n m : Nat) (r : Nat → Nat) (h1 : ∀ j, j < n → r j = f j) (h2 : ∀ j, j < m → r (n + j) = h j) : rowB f n ++ rowB h m = rowB r (n + m) := by
  apply List.ext_getElem?
  intro j
  by_cases hj : j < n
  · rw [List.getElem?_append_left (by rw [rowB_length]; exact hj), rowB_get _ _ _ hj, rowB_get _ _ _ (by omega), h1 j hj]
  · rw [List.getElem?_append_right (by rw [rowB_length]; omega), rowB_length]
    by_cases hj2 : j < n + m
    · rw [rowB_get _ _ _ (by omega), rowB_get _ _ _ hj2]
      have := h2 (j - n) (by omega)
      rw [show n + (j - n) = j from by omega] at this
      rw [this]
    · rw [List.getElem?_eq_none (by rw [rowB_length]; omega), List.getElem?_eq_none (by rw [rowB_length]; omega)]

theorem own_below {w w' : World} {base e size n : Nat} {v : Value} {xs : List Value} (h : w.ownsRow base e size v n xs) (hb : Below w.heap.size w w') : w'.ownsRow base e size v n xs := by
  refine ⟨h.1, ?_⟩
  rcases h.2 with h0 | ⟨g, cap, cur, hv, hg, hh, hrest⟩
  · exact .inl h0
  · have hlt : g < w.heap.size := by
      rcases Nat.lt_or_ge g w.heap.size with h' | h'
      · exact h'
      · rw [Array.getElem?_eq_none h'] at hh; cases hh
    exact .inr ⟨g, cap, cur, hv, hg, (hb.block g hlt).trans hh, hrest⟩

theorem own_src {w : World} {base n cap : Nat} {sp : Option Addr} {F : Nat → Nat} (h : w.ownsRow base 5 1 (.slice sp n cap) n (rowB F n)) : Src w sp n F := by
  intro hn
  obtain ⟨g, cap', e, _, hlt⟩ := h.form hn
  injection e with e1 e2 e3
  subst e1
  refine ⟨_, rfl, hlt, fun j hj => ?_⟩
  have := h.cells (g := g) rfl j _ (rowB_get F n j hj)
  exact this
theorem own_slice {w : World} {base n : Nat} {v : Value} {xs : List Value} (h : w.ownsRow base 5 1 v n xs) : ∃ sp cap, v = .slice sp n cap ∧ (sp = none → n = 0 ∧ cap = 0) ∧ n ≤ cap := by
  rcases h.2 with ⟨e, rfl⟩ | ⟨g, cp, cur, e, _, _, hc, _⟩
  · exact ⟨_, _, e, fun _ => ⟨rfl, rfl⟩, Nat.le_refl _⟩
  · exact ⟨_, _, e, fun h => (by cases h), hc⟩

theorem cell_lt {w : World} {a : Addr} {v : Value} (h : w.cell? a = some v) : a.block < w.heap.size := by
  rcases Nat.lt_or_ge a.block w.heap.size with h' | h'
  · exact h'
  · simp [World.cell?, Array.getElem?_eq_none h'] at h
theorem u8_bounds {n : Int} (h : (Lit.int .u8 n).wf = true) : 0 ≤ n ∧ n ≤ 255 := by
  simpa [Lit.wf, IntKind.min, IntKind.max, IntKind.signed, IntKind.bits] using h
theorem u8_nat {a0 : Int} (w0 : (Lit.int .u8 a0).wf = true) : ∃ m : Nat, a0 = (m : Int) ∧ m < 256 := by
  have hx := u8_bounds w0
  exact ⟨a0.toNat, by omega, by omega⟩
theorem u32_nat {a0 : Int} (w0 : (Lit.int .u32 a0).wf = true) : ∃ m : Nat, a0 = (m : Int) ∧ m < 4294967296 := by
  have hx : 0 ≤ a0 ∧ a0 ≤ 4294967295 := by simpa [Lit.wf, IntKind.min, IntKind.max, IntKind.signed, IntKind.bits] using w0
  exact ⟨a0.toNat, by omega, by omega⟩

/-- bytes that came in, as a function of their places -/
theorem src_of {w : World} {a : Option Addr} {len cap : Nat} {zs : List Int}
    (h : (a = none ∧ len = 0 ∧ cap = 0 ∧ zs = []) ∨ ∃ x, a = some x ∧ len ≤ cap ∧ cap ≤ maxLen ∧ zs.length = cap ∧ (∀ i, i < zs.length → w.cell? (x.add i) = some (.int .u8 (zs.getD i 0))) ∧ ∀ n ∈ zs, (Lit.int .u8 n).wf = true) :
    (len ≤ 9223372036854775807 ∧ len ≤ cap ∧ cap ≤ 9223372036854775807 ∧ (a = none → len = 0 ∧ cap = 0)) ∧ ∃ f : Nat → Nat, (∀ j, f j < 256) ∧ Src w a len f := by
  rcases h with ⟨rfl, rfl, rfl, rfl⟩ | ⟨x, rfl, hl, hm, hz, hc, hwf⟩
  · exact ⟨⟨by omega, by omega, by omega, fun _ => ⟨rfl, rfl⟩⟩, fun _ => 0, fun _ => Nat.zero_lt_succ 255, fun h => by omega⟩
  · refine ⟨⟨by unfold maxLen at hm; omega, hl, by unfold maxLen at hm; omega, fun h => by cases h⟩, fun j => (zs.getD j 0).toNat, fun j => ?_, fun hn => ?_⟩
    · show (zs.getD j 0).toNat < 256
      by_cases hj : j < zs.length
      · have hmem : zs.getD j 0 ∈ zs := by rw [List.getD_eq_getElem?_getD, List.getElem?_eq_getElem hj]; exact List.getElem_mem _
        have := u8_bounds (hwf _ hmem); omega
      · rw [List.getD_eq_getElem?_getD, List.getElem?_eq_none (by omega)]; decide
    · refine ⟨x, rfl, ?_, fun j hj => ?_⟩
      · have := cell_lt (hc 0 (by omega)); rwa [block_add] at this
      · have hmem : zs.getD j 0 ∈ zs := by rw [List.getD_eq_getElem?_getD, List.getElem?_eq_getElem (by omega)]; exact List.getElem_mem _
        have hb := u8_bounds (hwf _ hmem)
        rw [hc j (by omega)]
        show some (Value.int .u8 (zs.getD j 0)) = some (Value.int .u8 (((zs.getD j 0).toNat : Nat) : Int))
        rw [Int.toNat_of_nonneg hb.1]

/-- Copy: a row of its own, that is there even if it is empty -/
def CopySome (n : Nat) (f : Nat → Nat) (w : World) (e : Ending) (w' : World) : Prop :=
  ∃ g cap', e = .returned (.slice (some ⟨g, 0, none⟩) n cap') ∧ w.heap.size ≤ g ∧ w'.ownsRow w.heap.size 5 1 (.slice (some ⟨g, 0, none⟩) n cap') n (rowB f n) ∧ Below w.heap.size w w'

theorem rcopy_some (sp : Option Addr) (n cap : Nat) (f : Nat → Nat) (w : World) (hn : n ≤ 1000000) (hs : Src w sp n f) (hsp : sp = none → n = 0 ∧ cap = 0) :
    Calls Try.prog 9 #[.slice sp n cap] w (CopySome n f w) := by
  obtain ⟨i0, hi, hz0, hz1, hz2⟩ := info_parts info5
  cases sp with
  | none =>
    obtain ⟨rfl, rfl⟩ := hsp rfl
    clear hsp hs
    go_enter Try.func9, Try.ntmps9
    go_wp2
    go_ret
    exact ⟨_, _, rfl, Nat.le_refl _, World.ownsRow_lit w #[] 0 (Nat.le_refl _) (Nat.zero_le _) rfl, (Below.refl _ _).alloc (Nat.le_refl _) _⟩
  | some ad =>
    have HS := Lib.hid hs
    clear hs hsp
    go_enter Try.func9, Try.ntmps9
    go_wp2_with (at_builtin; refine wpList_append_own _ rfl _ _ 22 rfl w.heap.size 5 i0 (.int .u8 0) 1 1 Try.underlying22 hi hz0 hz1 hz2 rfl (by decide) _ 0 [] rfl ?c0 ad n cap (rowB f n) rfl ?cl ?c1 ?c2 ?c3 ?c4 ?c5 ?_)
    case c0 => exact World.ownsRow_lit w #[] 0 (Nat.le_refl _) (Nat.zero_le _) rfl
    case cl => rw [rowB_length]; omega
    case c1 =>
      intro j u hj
      have hjn : j < n := by
        rcases Nat.lt_or_ge j n with h' | h'
        · exact h'
        · rw [List.getElem?_eq_none (by rw [rowB_length]; exact h')] at hj; cases hj
      rw [rowB_get f n j hjn] at hj
      injection hj with hj
      obtain ⟨ad', e', hlt, hc⟩ := HS.out (by omega)
      injection e' with e'
      subst e'
      rw [World.cell?_alloc_lt _ _ _ (by rw [block_add]; exact hlt), ← hj]
      exact hc j hjn
    case c2 => exact rowB_one _ _
    case c3 => unfold maxLen; omega
    case c4 => omega
    case c5 => simp
    intro v5 w5 hown5 hgrow5 hne5
    have HB5 : Hid (Below w.heap.size w w5) := Lib.hid (((Below.refl _ _).alloc (Nat.le_refl _) _).grown hgrow5 (by simp) (fun q hq => by simp [Value.ownBlock] at hq; omega))
    obtain ⟨g5, cap', rfl, hg5⟩ : ∃ g cap', v5 = .slice (some ⟨g, 0, none⟩) n cap' ∧ w.heap.size ≤ g := by
      rcases hown5.2 with ⟨e, _⟩ | ⟨g, cp, cur, e, hg, _⟩
      · exact absurd e (by simpa using hne5)
      · exact ⟨g, cp, e, hg⟩
    have HO := Lib.hid hown5
    clear hown5 hgrow5 hne5
    go_wp2
    go_ret
    exact ⟨g5, cap', rfl, hg5, HO.out, HB5.out⟩


def numsOf (f : Nat → Nat) (n : Nat) : List Int := (List.range n).map fun j => ((f j : Nat) : Int)

theorem conv_any (w : World) (sp : Option Addr) (n cap : Nat) (f : Nat → Nat) (h : Src w sp n f) :
    (convert 22 9 (.slice sp n cap)).run Try.prog w = .ok (.string (strOfNums (numsOf f n))) w := by
  by_cases hn : n = 0
  · subst hn
    rcases sp with _ | a
    · exact run_convert_bytes_nil w 22 5 Try.underlying22 Try.underlying5 0 cap 9 Try.underlying9
    · rw [run_convert_bytes_string w 22 9 5 _ 0 cap Try.underlying22 Try.underlying5 Try.underlying9]
      exact run_bytesToString w a 0 cap [] (by simp [loadCells, loadCellsFrom])
  · obtain ⟨ad, rfl, hlt, hc⟩ := h (by omega)
    obtain ⟨b, off, spot⟩ := ad
    have h0 := hc 0 (by omega)
    have hspot : spot = none := by simpa [Addr.add] using World.cell?_spot h0
    subst hspot
    refine run_convert_bytes_arg w 22 5 Try.underlying22 Try.underlying5 b off n cap (numsOf f n) (by simp [numsOf]) (fun i hi => ?_) 9 Try.underlying9
    have := hc i hi
    rw [Go.WideShapes.add_plain] at this
    rw [this]
    simp [numsOf, hi]

theorem nums_inj (f g : Nat → Nat) (n : Nat) (hf : ∀ j, j < n → f j < 256) (hg : ∀ j, j < n → g j < 256) (h : strOfNums (numsOf f n) = strOfNums (numsOf g n)) (j : Nat) (hj : j < n) : f j = g j := by
  have h1 : (strOfNums (numsOf f n)).data.toList = (strOfNums (numsOf g n)).data.toList := by rw [h]
  rw [strOfNums_data, strOfNums_data] at h1
  have h2 := congrArg (fun l : List UInt8 => l[j]?.map UInt8.toNat) h1
  simp [numsOf, hj] at h2
  have a := hf j hj
  have b := hg j hj
  omega

theorem same_any (w : World) (sp1 sp2 : Option Addr) (n cap1 cap2 : Nat) (f g : Nat → Nat) (b : Bool) (hf : ∀ j, j < n → f j < 256) (hg : ∀ j, j < n → g j < 256) (h1 : Src w sp1 n f) (h2 : Src w sp2 n g) (he : b = true ↔ ∀ j, j < n → f j = g j) :
    Calls Try.prog 11 #[.slice sp1 n cap1, .slice sp2 n cap2] w fun e w' => e = .returned (.bool b) ∧ w = w' := by
  have r1 := conv_any w sp1 n cap1 f h1
  have r2 := conv_any w sp2 n cap2 g h2
  have e : (strOfNums (numsOf f n) = strOfNums (numsOf g n)) ↔ b = true := by
    rw [he]
    constructor
    · exact fun h j hj => nums_inj f g n hf hg h j hj
    · intro h
      congr 1
      unfold numsOf; apply List.map_congr_left; intro j hj; rw [h j (by simpa using hj)]
  generalize strOfNums (numsOf g n) = s at *
  generalize strOfNums (numsOf f n) = t at *
  have hb : (t.toList == s.toList) = b := by
    rw [ByteArray.toList_eq, ByteArray.toList_eq]
    by_cases h : t = s
    · rw [e.1 h, h]; exact beq_self_eq_true _
    · cases b
      · refine beq_eq_false_iff_ne.mpr fun h' => h ?_
        cases t; cases s
        exact congrArg _ (Array.toList_inj.mp h')
      · exact absurd (e.2 rfl) h
  clear h1 h2 he e hf hg
  go_enter Try.func11, Try.ntmps11
  go_wp2
  go_ret
  exact ⟨by first | rfl | rw [hb], rfl⟩

set_option maxHeartbeats 1000000 in
theorem rmore_any (s : Nat) (sp : Option Addr) (n cap : Nat) (f : Nat → Nat) (w : World) (hs : s < 4294967296) (hn : n ≤ 1000000) (hf : ∀ j, j < n → f j < 256) (hsr : Src w sp n f) :
    Calls Try.prog 28 #[.int .u32 (s : Int), .slice sp n cap] w fun e w' => e = .returned (.int .u32 ((CrcMath.more s f n : Nat) : Int)) ∧ w = w' := by
  have HS := Lib.hid hsr
  have HF := Lib.hid hf
  have HN : Hid (bits .xor .u32 (s : Int) 4294967295 = ((CrcMath.no s : Nat) : Int)) := Lib.hid (nx s 4294967295 hs (by decide))
  have HL := Lib.hid (CrcMath.no_lt hs)
  have HM : Hid (CrcMath.more s f n = CrcMath.no (CrcMath.reg (CrcMath.no s) f n)) := Lib.hid rfl
  generalize CrcMath.no s = r at *
  clear hsr hf hs
  go_enter Try.func28, Try.ntmps28
  go_wp2
  go_loopw [5, 6, 7, 8, 13] (fun x _ _ _ i wr => ∃ t : Nat, t ≤ n ∧ i = .int .i64 (t : Int) ∧ x = .int .u32 ((CrcMath.reg r f t : Nat) : Int) ∧ w = wr) (fun _ _ _ _ i _ => n - (intOf i).toNat)
  case atStart => exact ⟨0, Nat.zero_le _, rfl, val_int HN.out, rfl⟩
  case round =>
    obtain ⟨t, ht, rfl, rfl, rfl⟩ := hrel
    have HT := Lib.hid (CrcMath.reg_lt r f t HL.out fun j hj => HF.out j (by omega))
    by_cases hlt : t < n
    · obtain ⟨ad, rfl, hadlt, hadc⟩ := HS.out (by omega)
      obtain ⟨b, off, spot⟩ := ad
      have h0 := hadc 0 (by omega)
      have hspot : spot = none := by simpa [Addr.add] using World.cell?_spot h0
      subst hspot
      have c1 := hadc t hlt
      rw [Go.WideShapes.add_plain] at c1
      have hy := HF.out t hlt
      have HE : Hid (CrcMath.reg r f (t + 1) = CrcMath.it 8 (CrcMath.reg r f t ^^^ f t)) := Lib.hid rfl
      generalize CrcMath.reg r f t = x at *
      generalize f t = c at *
      have HX := Lib.hid (nx x c HT.out (by omega))
      have HXL := Lib.hid (CrcMath.xor_lt32 HT.out (by omega : c < 4294967296))
      generalize x ^^^ c = y at *
      clear h0 hadc
      go_wp2
      go_loopw [5, 7, 8] (fun x i _ wr => ∃ k : Nat, k ≤ 8 ∧ i = .int .i64 (k : Int) ∧ x = .int .u32 ((CrcMath.it k y : Nat) : Int) ∧ w = wr) (fun _ i _ _ => 8 - (intOf i).toNat)
      case atStart => exact ⟨0, Nat.zero_le _, rfl, val_int HX.out, rfl⟩
      case round =>
        obtain ⟨k, hk, rfl, rfl, rfl⟩ := hrel
        have HK := Lib.hid (CrcMath.it_lt k HXL.out)
        have HKE := Lib.hid (CrcMath.it_succ' k y)
        by_cases hlt8 : k < 8
        · generalize CrcMath.it k y = z at *
          have hz := HK.out
          by_cases hodd : z % 2 = 1
          · have hodd' : (z : Int) % 2 = 1 := by omega
            have HZ : Hid (bits .xor .u32 ((z : Int) / 2) 2197175160 = ((CrcMath.fwd z : Nat) : Int)) := by
              have : (z : Int) / 2 = ((z / 2 : Nat) : Int) := by omega
              rw [this]
              refine Lib.hid ((nx (z / 2) CrcMath.P (by omega) (by decide)).trans ?_)
              unfold CrcMath.fwd; rw [if_pos hodd]
            go_wp2
            go_roundw
            case rel => exact ⟨k + 1, by omega, by go_num, val_int (by rw [HKE.out]; exact HZ.out), by first | rfl | trivial⟩
            case measure => simp [intOf]; omega
          · have hodd' : ¬ (z : Int) % 2 = 1 := by omega
            have HZ : Hid ((z : Int) / 2 = ((CrcMath.fwd z : Nat) : Int)) := by
              have : (z : Int) / 2 = ((z / 2 : Nat) : Int) := by omega
              rw [this]
              unfold CrcMath.fwd; rw [if_neg hodd, Nat.xor_zero]
              exact Lib.hid rfl
            go_wp2
            go_roundw
            case rel => exact ⟨k + 1, by omega, by go_num, val_int (by rw [HKE.out]; exact HZ.out), by first | rfl | trivial⟩
            case measure => simp [intOf]; omega
        · obtain rfl : k = 8 := by omega
          generalize CrcMath.it 8 y = z at *
          go_wp2
          go_roundw
          case rel => exact ⟨t + 1, by omega, by go_num, val_int (by rw [HE.out]), by first | rfl | trivial⟩
          case measure => simp [intOf]; omega
    · obtain rfl : t = n := by omega
      have HNO : Hid (bits .xor .u32 ((CrcMath.reg r f t : Nat) : Int) 4294967295 = ((CrcMath.no (CrcMath.reg r f t) : Nat) : Int)) := Lib.hid (nx _ 4294967295 HT.out (by decide))
      generalize CrcMath.reg r f t = x at *
      go_wp2
      go_ret
      exact ⟨ret_int (by rw [HM.out]; exact HNO.out), rfl⟩

theorem rsum_any (sp : Option Addr) (n cap : Nat) (f : Nat → Nat) (w : World) (hn : n ≤ 1000000) (hf : ∀ j, j < n → f j < 256) (hsr : Src w sp n f) :
    Calls Try.prog 26 #[.slice sp n cap] w fun e w' => e = .returned (.int .u32 ((CrcMath.more 0 f n : Nat) : Int)) ∧ w = w' := by
  have HS := Lib.hid hsr
  have HF := Lib.hid hf
  clear hsr hf
  go_enter Try.func26, Try.ntmps26
  go_wp2_with fail
  refine (rmore_any 0 sp n cap f w (by decide) hn HF.out HS.out).mono ?_
  rintro e w' ⟨rfl, rfl⟩
  go_wp2
  go_ret
  exact ⟨rfl, rfl⟩

theorem src_one (w : World) (c : Nat) : Src (w.alloc (.cells #[.int .u8 (c : Int)] 5)) (some ⟨w.heap.size, 0, none⟩) 1 (fun _ => c) := by
  intro _
  refine ⟨_, rfl, by simp, fun j hj => ?_⟩
  obtain rfl : j = 0 := by omega
  rw [Go.WideShapes.add_plain, cell_of_row _ w.heap.size _ _ 5 (0, 0) (heap_alloc_new w _)]
  rfl
theorem src_two (w : World) (o : Obj) (c : Nat) : Src ((w.alloc o).alloc (.cells #[.int .u8 (c : Int)] 5)) (some ⟨w.heap.size + 1, 0, none⟩) 1 (fun _ => c) := by
  have h := src_one (w.alloc o) c
  rwa [show (w.alloc o).heap.size = w.heap.size + 1 by simp] at h
theorem flip {f : FuncId} {args : Array Value} {w : World} {v : Value} (h : Calls Try.prog f args w fun e w' => e = .returned v ∧ w = w') : Calls Try.prog f args w fun e w' => e = .returned v ∧ w' = w := h.mono fun _ _ ⟨a, b⟩ => ⟨a, b.symm⟩
theorem below_drewN {B : Nat} {a w : World} (h : Below B a w) (n : Nat) : Below B a (w.drewN n) := ⟨h.os, h.tape, h.output, h.size, h.block⟩
theorem Src.drewN {w : World} {sp : Option Addr} {n : Nat} {f : Nat → Nat} (h : Src w sp n f) (k : Nat) : Src (w.drewN k) sp n f := h
theorem Src.front {w : World} {sp : Option Addr} {n : Nat} {f : Nat → Nat} (h : Src w sp n f) (m : Nat) (hm : m ≤ n) : Src w sp m f := by
  intro h0
  obtain ⟨ad, e, hl, hc⟩ := h (by omega)
  exact ⟨ad, e, hl, fun j hj => hc j (by omega)⟩
theorem Src.part {w : World} {b off n : Nat} {f : Nat → Nat} (h : Src w (some ⟨b, off, none⟩) n f) (m k : Nat) (hm : m + k ≤ n) : Src w (some ⟨b, off + m, none⟩) k (fun j => f (m + j)) := by
  intro h0
  obtain ⟨ad, e, hl, hc⟩ := h (by omega)
  injection e with e
  subst e
  refine ⟨_, rfl, hl, fun j hj => ?_⟩
  have := hc (m + j) (by omega)
  rw [Go.WideShapes.add_plain] at this ⊢
  rw [Nat.add_assoc]; exact this
theorem Src.behind {w : World} {ad : Addr} {n : Nat} {f : Nat → Nat} (h : Src w (some ad) n f) (m k : Nat) (hm : m + k ≤ n) : Src w (some (ad.add m)) k (fun j => f (m + j)) := by
  intro h0
  obtain ⟨ad', e, hl, hc⟩ := h (by omega)
  injection e with e
  subst e
  obtain ⟨b, off, spot⟩ := ad
  have hz := hc 0 (by omega)
  have hspot : spot = none := by simpa [Addr.add] using World.cell?_spot hz
  subst hspot
  refine ⟨_, rfl, by rw [block_add]; exact hl, fun j hj => ?_⟩
  have := hc (m + j) (by omega)
  rw [Go.WideShapes.add_plain] at this ⊢
  rw [Go.WideShapes.add_plain, Nat.add_assoc]; exact this
end Go.Proofs.Ytgplannipnceeaa
