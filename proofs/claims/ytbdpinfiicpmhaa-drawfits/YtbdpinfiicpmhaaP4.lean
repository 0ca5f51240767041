/-
  Contracts of read, write and scan.
-/
import Derived.Test.YtbdpinfiicpmhaaP3
namespace Go.Proofs.Ytbdpinfiicpmhaa
open Go.ChangeShapes Go.WideShapes Go.ChangeAt Go.RowKit RefMath

abbrev opV (x : O3) : Value := .agg #[.int .i64 x.k, .int .i64 x.key, .int .i64 x.v]
theorem cells9 {w : World} {b t : Nat} {v0 v1 v2 v3 v4 v5 v6 v7 v8 : Value} (h : w.heap[b]? = some (.cells #[v0, v1, v2, v3, v4, v5, v6, v7, v8] t (0, 0))) :
    (w.cell? ⟨b, 0, none⟩ = some v0 ∧ w.cell? ⟨b, 1, none⟩ = some v1 ∧ w.cell? ⟨b, 2, none⟩ = some v2 ∧ w.cell? ⟨b, 3, none⟩ = some v3 ∧ w.cell? ⟨b, 4, none⟩ = some v4 ∧ w.cell? ⟨b, 5, none⟩ = some v5 ∧ w.cell? ⟨b, 6, none⟩ = some v6 ∧ w.cell? ⟨b, 7, none⟩ = some v7 ∧ w.cell? ⟨b, 8, none⟩ = some v8) ∧ ∀ j, w.frozen? ⟨b, j, none⟩ = false := by
  refine ⟨⟨?_, ?_, ?_, ?_, ?_, ?_, ?_, ?_, ?_⟩, fun j => ?_⟩ <;> first | (simp [World.cell?, h]; done) | simp [World.frozen?, h]
/-- the generator alone has changed -/
def Chg (w : World) (g : Nat) (w' : World) : Prop := w.grownBy w' (some g)
theorem Chg.refl (w : World) (g : Nat) : Chg w g w := ⟨rfl, rfl, rfl, Nat.le_refl _, fun _ _ _ => rfl⟩
theorem Chg.of_below {w w' : World} {g : Nat} (h : Below w.heap.size w w') : Chg w g w' := ⟨h.os, h.tape, h.output, h.size, fun q hq _ => h.block q hq⟩
theorem Chg.trans {w w1 w2 : World} {g : Nat} (h : Chg w g w1) (h' : Chg w1 g w2) : Chg w g w2 :=
  ⟨h'.os.trans h.os, h'.tape.trans h.tape, h'.output.trans h.output, Nat.le_trans h.size h'.size, fun q hq hn => (h'.block q (Nat.lt_of_lt_of_le hq h.size) hn).trans (h.block q hq hn)⟩
theorem Chg.set {w : World} (g i : Nat) (v : Value) : Chg w g (w.setCell ⟨g, i, none⟩ v) :=
  ⟨rfl, rfl, rfl, by simp, fun q _ hn => heap_setCell_other w ⟨g, i, none⟩ q v fun e => hn (by rw [e])⟩
theorem Chg.below {w w' : World} {g B : Nat} (h : Chg w g w') (hg : B ≤ g) (hB : B ≤ w.heap.size) : Below B w w' :=
  (Below.refl _ _).grown h hB (fun q hq => by injection hq with hq; omega)
theorem GenS.below {w w' : World} {g : Nat} {p : Pl} {c : Int} {st n : Nat} (h : GenS w g p c st n) (hb : Below w.heap.size w w') : GenS w' g p c st n := (hb.block _ (heap_lt h)).trans h
theorem GenS.drawn {w : World} {g : Nat} {p : Pl} {c : Int} {st n : Nat} (h : GenS w g p c st n) (st' : Nat) : GenS (w.setCell ⟨g, 7, none⟩ (.int .u64 (st' : Int))) g p c st' n := heap_setCell_same w g 7 _ 55 _ h
theorem GenS.wrote {w : World} {g : Nat} {p : Pl} {c : Int} {st n : Nat} (h : GenS w g p c st n) (n' : Nat) : GenS (w.setCell ⟨g, 8, none⟩ (.int .i64 (n' : Int))) g p c st n' := heap_setCell_same w g 8 _ 55 _ h

theorem read_any (key : Int) (w : World) : Calls Try.prog 29 #[.int .i64 key] w (fun e w' => e = .returned (opV (rdO key)) ∧ Below w.heap.size w w') := by
  go_enter Try.func29, Try.ntmps29
  go_wp2
  refine bodyPost_ret (v := opV (rdO key)) (by simp [results, Try.results29, go_sem, rdO]) rfl ⟨rfl, ?_⟩
  have hB : Below w.heap.size w (w.alloc (.cells #[.int .i64 0, .int .i64 0, .int .i64 0] 45)) := (Below.refl _ _).alloc (Nat.le_refl _) _
  repeat' (with_reducible first | refine Below.setCell ?_ ?_ _ | refine Below.alloc ?_ ?_ _ | exact Below.refl _ _)
  all_goals (first | (simp; done) | (simp; omega))

set_option maxHeartbeats 1000000 in
theorem write_any (g : Nat) (p : Pl) (c key : Int) (st n : Nat) (w : World) (hn : n ≤ 1000000) (hc : 1 ≤ c) (hc' : c ≤ 16) (hg : GenS w g p c st n) :
    Calls Try.prog 28 #[.pointer (some ⟨g, 0, none⟩), .int .i64 key] w (fun e w' => e = .returned (opV (wrO c key (n + 1))) ∧ GenS w' g p c st (n + 1) ∧ Chg w g w') := by
  have HG := Lib.hid hg
  have hgl := heap_lt hg
  obtain ⟨⟨c0, c1, c2, c3, c4, c5, c6, c7, c8⟩, hf⟩ := cells9 hg
  have hfr := hf 8
  clear hf hg c0 c1 c2 c3 c4 c5 c7
  go_enter Try.func28, Try.ntmps28
  go_wp2
  have e1 : ((n + 1 : Nat) : Int) = (n : Int) + 1 := by omega
  have HG1 : Hid (GenS (w.setCell ⟨g, 8, none⟩ (.int .i64 ((n : Int) + 1))) g p c st (n + 1)) := Lib.hid (by rw [← e1]; exact HG.out.wrote (n + 1))
  have HC1 : Hid (Chg w g (w.setCell ⟨g, 8, none⟩ (.int .i64 ((n : Int) + 1)))) := Lib.hid (Chg.set g 8 _)
  clear e1
  have hsz : w.heap.size = (w.setCell ⟨g, 8, none⟩ (.int .i64 ((n : Int) + 1))).heap.size := by simp
  generalize w.setCell ⟨g, 8, none⟩ (.int .i64 ((n : Int) + 1)) = w1 at *
  rw [hsz]
  obtain ⟨⟨_, _, _, _, _, _, c6, _, c8⟩, _⟩ := cells9 HG1.out
  have hgl1 := heap_lt HG1.out
  rw [show ((n + 1 : Nat) : Int) = (n : Int) + 1 from by omega] at c8
  go_region
  go_wp2
  have hB : Below w1.heap.size w1 ((w1.alloc (.cells #[.int .i64 2, .int .i64 key, .int .i64 (16 * ((n : Int) + 1) + c - 1)] 45)).drew) := ((Below.refl _ _).alloc (Nat.le_refl _) _).drew
  refine bodyPost_ret (v := opV (wrO c key (n + 1))) ?_ rfl ⟨rfl, HG1.out.below hB, HC1.out.trans (Chg.of_below hB)⟩
  simp [results, Try.results28, go_sem, wrO]

/-- who answers operations, in memory of its own -/
def OpsP (l : List O3) (w : World) (e : Ending) (w' : World) : Prop :=
  ∃ sp cp, e = .returned (.slice sp l.length cp) ∧ w'.ownsRow w.heap.size 45 3 (.slice sp l.length cp) l.length (rowL l) ∧ Below w.heap.size w w'
theorem own_lit (w : World) (l : List O3) (B : Nat) (hB : B ≤ w.heap.size) (hl : l.length ≤ 1000) : (w.alloc (.cells (rowL l).toArray 45)).ownsRow B 45 3 (.slice (some ⟨w.heap.size, 0, none⟩) l.length l.length) l.length (rowL l) := by
  have h := World.ownsRow_lit (base := B) (e := 45) (size := 3) w (rowL l).toArray l.length hB (by unfold maxLen; omega) (by rw [List.size_toArray, rowL_length])
  simpa using h

theorem lit1_ops (w : World) (x : O3) : OpS (w.alloc (.cells #[.int .i64 x.k, .int .i64 x.key, .int .i64 x.v] 45)) (some ⟨w.heap.size, 0, none⟩) 1 (lf [x]) :=
  own_ops (l := [x]) (own_lit w [x] w.heap.size (Nat.le_refl _) (by simp))
theorem lit2_ops (w : World) (x y : O3) : OpS (w.alloc (.cells #[.int .i64 x.k, .int .i64 x.key, .int .i64 x.v, .int .i64 y.k, .int .i64 y.key, .int .i64 y.v] 45)) (some ⟨w.heap.size, 0, none⟩) 2 (lf [x, y]) :=
  own_ops (l := [x, y]) (own_lit w [x, y] w.heap.size (Nat.le_refl _) (by simp))
set_option maxRecDepth 100000 in
set_option maxHeartbeats 2000000 in
theorem scan_any (key : Int) (m : Nat) (w : World) (hm : m ≤ 100) (hk : 0 ≤ key) (hk' : key ≤ 100) : Calls Try.prog 30 #[.int .i64 key, .int .i64 (m : Int)] w (OpsP (scanL key m) w) := by
  have HB0 := Lib.hid (Below.refl w.heap.size w)
  have HR0 : Hid (w.ownsRow w.heap.size 45 3 (.slice none 0 0) 0 (rowL (scanL key 0))) := Lib.hid (World.ownsRow_nil w _ _ _)
  go_enter Try.func30, Try.ntmps30
  go_wp2
  go_loopw [5, 6, 8] (fun vo _ i wr => ∃ t : Nat, t ≤ m ∧ i = .int .i64 (t : Int) ∧ Hid (Below w.heap.size w wr ∧ wr.ownsRow w.heap.size 45 3 vo t (rowL (scanL key t)))) (fun _ _ i _ => m - (intOf i).toNat)
  case atStart => exact ⟨0, Nat.zero_le _, rfl, Lib.hid ⟨HB0.out, HR0.out⟩⟩
  case round =>
    obtain ⟨t, ht, rfl, HR⟩ := hrel
    by_cases hlt : t < m
    · obtain ⟨spo, cpo, evo⟩ := own_form' HR.out.2
      subst evo
      have hlt' : (t : Int) < (m : Int) := by omega
      have HB := Lib.hid HR.out.1
      have HSC0 := Lib.hid (scanL_succ key t)
      have HW := Lib.hid HR.out.2
      clear HR
      go_wp2_with fail
      refine (read_any _ _).mono ?_
      rintro e w1 ⟨rfl, hb⟩
      have HB1 := Lib.hid (HB.out.trans (hb.mono HB.out.size))
      have HW1 := Lib.hid (own_keep HW.out fun g hg => hb.block g (HW.out.lt g hg).2)
      have hsz := HB1.out.size
      clear hb HB HW
      have HL : Hid (OpS (w1.alloc (.cells #[.int .i64 (rdO (key + (t : Int))).k, .int .i64 (rdO (key + (t : Int))).key, .int .i64 (rdO (key + (t : Int))).v] 45)) (some ⟨w1.heap.size, 0, none⟩) 1 (lf [rdO (key + (t : Int))])) := Lib.hid (lit1_ops w1 _)
      have HB2 : Hid (Below w.heap.size w (w1.alloc (.cells #[.int .i64 (rdO (key + (t : Int))).k, .int .i64 (rdO (key + (t : Int))).key, .int .i64 (rdO (key + (t : Int))).v] 45))) := Lib.hid (HB1.out.alloc HB1.out.size _)
      have HW2 : Hid ((w1.alloc (.cells #[.int .i64 (rdO (key + (t : Int))).k, .int .i64 (rdO (key + (t : Int))).key, .int .i64 (rdO (key + (t : Int))).v] 45)).ownsRow w.heap.size 45 3 (.slice spo t cpo) t (rowL (scanL key t))) := Lib.hid (HW1.out.alloc _)
      generalize rdO (key + (t : Int)) = x at *
      have HSC : Hid (scanL key (t + 1) = scanL key t ++ [x]) := HSC0
      go_wp2_with (at_builtin; refine wpList_append_ops rfl _ _ rfl w.heap.size _ t (scanL key t) (scanL_len key t).symm rfl HW2.out (some ⟨w1.heap.size, 0, none⟩) 1 1 [x] rfl rfl HL.out (fun h => by cases h) (by omega) HB2.out.size ?_; intro v7 w7 ho7 hg7; have HO7 := Lib.hid ho7; have HB7 := Lib.hid (HB2.out.grown hg7 HB2.out.size (fun q hq => (HW2.out.lt q hq).1)); clear ho7 hg7)
      go_roundw
      case rel => exact ⟨t + 1, by omega, by go_num, Lib.hid ⟨HB7.out, by rw [HSC.out]; exact HO7.out⟩⟩
      case measure => simp [intOf]; omega
    · obtain rfl : m = t := by omega
      obtain ⟨spo, cpo, evo⟩ := own_form' HR.out.2
      subst evo
      have hl := scanL_len key m
      go_wp2
      go_ret
      refine ⟨spo, cpo, ?_, ?_, HR.out.1⟩
      · rw [hl]; rfl
      · rw [hl]; exact HR.out.2
end Go.Proofs.Ytbdpinfiicpmhaa
