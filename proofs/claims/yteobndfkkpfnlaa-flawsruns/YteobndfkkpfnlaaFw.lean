/-
  FlawsRuns: integers that came in, opened; its memory; its walk.
-/
import Derived.Test.YteobndfkkpfnlaaFu
import Derived.Test.YteobndfkkpfnlaaHRg
import Derived.ChangeSame
import Derived.Deep.Slices
namespace Go.Proofs.Yteobndfkkpfnlaa
open Go.ChangeShapes Go.WideShapes Go.ChangeAt Go.RowKit Go.Deep
set_option linter.unusedVariables false

/-- integers in a slice that may be anybody's -/
def IsS (w : World) (a : Option Addr) (n : Nat) (f : Nat → Int) : Prop :=
  0 < n → ∃ b off, a = some ⟨b, off, none⟩ ∧ b < w.heap.size ∧ ∀ i, i < n → w.cell? ⟨b, off + i, none⟩ = some (.int .i64 (f i))
theorem IsS.below {w w' : World} {a : Option Addr} {n : Nat} {f : Nat → Int} (h : IsS w a n f) (hb : Below w.heap.size w w') : IsS w' a n f := by
  intro hn
  obtain ⟨b, off, e, hl, hc⟩ := h hn
  exact ⟨b, off, e, Nat.lt_of_lt_of_le hl hb.size, fun i hi => (hb.cell (p := ⟨b, off + i, none⟩) hl).trans (hc i hi)⟩
section
variable {H : Type} {enc : TypeId × Value → H} {w : World} {base : Nat} {spare : Nat → Bool} {held : Bool}
theorem ints_of {fuel : Nat} {a : Option Addr} {len cap : Nat} {x : DataW H × List MemPlace} (h : DataW.trod enc Try.prog w base spare held fuel 41 [.slice a len cap] = some x) : ∃ f, IsS w a len f := by
  rcases open_slice Try.underlying41 h with ⟨e, _⟩ | ⟨ad, len', cap', m, n, D, Pl, e, _, hl, hm, hmm, _, hi⟩
  · simp at e; obtain ⟨rfl, rfl, rfl⟩ := e
    exact ⟨fun _ => 0, fun h => by omega⟩
  · simp at e; obtain ⟨rfl, rfl, rfl⟩ := e
    rw [cells3'] at hi
    have hlm : len ≤ m := by rw [hmm]; split <;> omega
    have hex : ∀ j, ∃ t : Int, j < len → w.cell? (ad.add (j * 1)) = some (.int .i64 t) := fun j => by
      by_cases hj : j < len
      · obtain ⟨cs, h1, h2⟩ := hi j (by omega)
        obtain ⟨_, hlen, hat⟩ := World.cells?_some h1
        match cs, hlen with
        | [c0], _ =>
          obtain ⟨u, e0, _, _⟩ := DataW.trod_int Try.underlying3 h2
          simp at e0
          subst e0
          have h0 := hat 0 (by decide)
          have e : ∀ a : Addr, a.add 0 = a := fun a => by unfold Addr.add; cases a; split <;> simp_all
          rw [e] at h0
          exact ⟨u, fun _ => h0⟩
      · exact ⟨0, fun h => absurd h hj⟩
    obtain ⟨T, hT⟩ := Classical.skolem.mp hex
    refine ⟨T, fun hpos => ?_⟩
    obtain ⟨b, off, spot⟩ := ad
    have h0 := hT 0 hpos
    have hspot : spot = none := by simpa [Addr.add] using World.cell?_spot h0
    subst hspot
    refine ⟨b, off, rfl, ?_, fun j hj => ?_⟩
    · have := cell_lt h0; simpa [block_add] using this
    · have := hT j hj
      rw [Go.WideShapes.add_plain, Nat.mul_one] at this
      exact this
end
/-- an array of four -/
def arr4 (f : Nat → Nat) : Array Value := #[.int .i64 (f 0 : Int), .int .i64 (f 1 : Int), .int .i64 (f 2 : Int), .int .i64 (f 3 : Int)]
theorem arr4_get (f : Nat → Nat) (k : Nat) (hk : k ≤ 3) : (arr4 f)[k]? = some (.int .i64 (f k : Int)) := by
  rcases (show k = 0 ∨ k = 1 ∨ k = 2 ∨ k = 3 by omega) with rfl | rfl | rfl | rfl <;> rfl
theorem arr4_set (f : Nat → Nat) (k v : Nat) (hk : k ≤ 3) : (arr4 f).setIfInBounds k (.int .i64 (v : Int)) = arr4 (fun x => if x = k then v else f x) := by
  rcases (show k = 0 ∨ k = 1 ∨ k = 2 ∨ k = 3 by omega) with rfl | rfl | rfl | rfl <;> rfl
/-- FlawsRuns' memory -/
structure RunS (w : World) (B N : Nat) (wr : World) (v : Value) (kf : Nat → Nat) (t : Nat) : Prop where
  low : B ≤ wr.heap.size
  bel : Below B w wr
  ro : ∃ V, RO wr B v t (Rt kf) V
  arr : wr.heap[N]? = some (.cells (arr4 (pv kf t)) 42 (0, 0))
  nlow : B ≤ N
section
variable {w wr wr' : World} {B N t : Nat} {v v' : Value} {kf : Nat → Nat}
theorem RunS.cell (h : RunS w B N wr v kf t) {k : Nat} (hk : k ≤ 3) : wr.cell? ⟨N, k, none⟩ = some (.int .i64 (pv kf t k : Int)) := by
  rw [cell_of_row _ _ _ _ _ _ h.arr]; exact arr4_get _ _ hk
theorem RunS.fz (h : RunS w B N wr v kf t) (k : Nat) : wr.frozen? ⟨N, k, none⟩ = false := by simp [World.frozen?, h.arr]
theorem RunS.form (h : RunS w B N wr v kf t) : ∃ sp cp, v = .slice sp t cp := by
  obtain ⟨V, hr⟩ := h.ro
  exact own_form' hr.row
theorem RunS.start (w : World) (kf : Nat → Nat) : RunS w w.heap.size w.heap.size ((w.alloc (.cells (arr4 (pv kf 0)) 42)).alloc (.cells #[] 47)) (.slice (some ⟨w.heap.size + 1, 0, none⟩) 0 0) kf 0 := by
  have hs : (w.alloc (.cells (arr4 (pv kf 0)) 42)).heap.size = w.heap.size + 1 := by simp
  have hb : Below w.heap.size w (w.alloc (.cells (arr4 (pv kf 0)) 42)) := (Below.refl _ _).alloc (Nat.le_refl _) _
  have hl := World.ownsRow_lit (base := w.heap.size) (e := 47) (size := 3) (w.alloc (.cells (arr4 (pv kf 0)) 42)) #[] 0 (by omega) (Nat.zero_le _) rfl
  rw [hs] at hl
  refine ⟨by simp; omega, hb.alloc (by omega) _, ⟨fun _ => .slice none 0 0, hl, fun i hi => absurd hi (Nat.not_lt_zero _)⟩, ?_, Nat.le_refl _⟩
  rw [heap_alloc_old _ _ (by omega)]
  exact heap_alloc_new w _
/-- ahead of the append -/
theorem RunS.room (h : RunS w B N wr v kf t) (o : Array Value) (x : Array Value) : Below wr.heap.size wr ((wr.alloc (.cells o 44)).alloc (.cells x 47)) :=
  ((Below.refl _ _).alloc (Nat.le_refl _) _).alloc (by simp) _
theorem RunS.step (h : RunS w B N wr v kf t) (hk : kf t ≤ 3) {o x : Array Value} (ho : o = #[.int .i64 1, .int .i64 (kf t : Int), .int .i64 (pv kf t (kf t) : Int), .int .i64 2, .int .i64 (kf t : Int), .int .i64 ((t + 1 : Nat) : Int)])
    {g c : Nat} {w7 : World} (hr : w7.ownsRow B 47 3 v' (t + 1) (rowT (Rt kf) (h.ro.choose) t ++ [.int .i64 1, .int .i64 1, .slice (some ⟨wr.heap.size, 0, none⟩) 2 2])) (hg : ((wr.alloc (.cells o 44)).alloc (.cells x 47)).grownBy w7 v.ownBlock) :
    RunS w B N (w7.setCell ⟨N, kf t, none⟩ (.int .i64 ((t + 1 : Nat) : Int))) v' kf (t + 1) := by
  have hb := h.room o x
  have hro := h.ro.choose_spec.below hb
  generalize h.ro.choose = V at *
  have hlit := World.ownsRow_lit (base := B) (e := 44) (size := 3) wr o 2 h.low (by unfold maxLen; omega) (by rw [ho]; rfl)
  have hlist : o.toList = rowO (Rt kf t).o 2 := by rw [ho]; rfl
  rw [hlist] at hlit
  have hl2 := own_keep hlit fun q hq => by
    have : q = wr.heap.size := by injection hq with hq; exact hq.symm
    exact heap_alloc_old _ (.cells x 47) (by rw [this]; simp)
  have hadd := hro.added (t := Rt kf t) hl2 (fun e => by cases e) hr hg
  have harr : ((wr.alloc (.cells o 44)).alloc (.cells x 47)).heap[N]? = some (.cells (arr4 (pv kf t)) 42 (0, 0)) := (hb.block _ (hlt_of h.arr)).trans h.arr
  have harr7 : w7.heap[N]? = some (.cells (arr4 (pv kf t)) 42 (0, 0)) := (hg.block _ (hlt_of harr) (fun e => by
    obtain ⟨cur, e1⟩ := own_cells hro.row e.symm
    rw [harr] at e1
    injection e1 with e1
    injection e1 with _ e1 _
    cases e1)).trans harr
  have hlow7 : B ≤ w7.heap.size := Nat.le_trans h.low (Nat.le_trans hb.size hg.size)
  have hbel7 : Below B w w7 := (h.bel.trans (hb.mono h.low)).grown hg (Nat.le_trans h.low hb.size) (fun q hq => (hro.row.lt q hq).1)
  have hkeep : ∀ {q : Nat} {cs : Array Value} {ty : Nat}, w7.heap[q]? = some (.cells cs ty (0, 0)) → ty ≠ 42 → (w7.setCell ⟨N, kf t, none⟩ (.int .i64 ((t + 1 : Nat) : Int))).heap[q]? = w7.heap[q]? := fun {q cs ty} e ht => heap_setCell_other _ _ _ _ (fun e2 => by
    dsimp only at e2
    rw [e2, harr7] at e
    injection e with e
    injection e with _ e _
    exact ht e.symm)
  refine ⟨by simpa [World.setCell] using hlow7, hbel7.setCell (p := ⟨N, kf t, none⟩) h.nlow _, ⟨fun i => if i = t then .slice (some ⟨wr.heap.size, 0, none⟩) 2 2 else V i, ?_⟩, ?_, h.nlow⟩
  · have h9 : RO w7 B v' (t + 1) (Rt kf) (fun i => if i = t then .slice (some ⟨wr.heap.size, 0, none⟩) 2 2 else V i) := hadd.congr fun j hj => by
      by_cases e : j = t
      · subst e; rw [if_pos rfl]
      · rw [if_neg e]
    refine ⟨own_keep h9.row fun q hq => ?_, fun i hi => ?_⟩
    · obtain ⟨cur, e⟩ := own_cells h9.row hq
      exact hkeep e (by decide)
    · obtain ⟨sp, cap, e, ho9, hp⟩ := h9.ops i hi
      exact ⟨sp, cap, e, own_keep ho9 fun q hq => by obtain ⟨cur, e⟩ := own_cells ho9 hq; exact hkeep e (by decide), hp⟩
  · rw [heap_setCell_same _ _ _ _ _ _ harr7, arr4_set _ _ _ hk]
    rfl
theorem RunS.arr7 (h : RunS w B N wr v kf t) {o x : Array Value} {w7 : World} (hg : ((wr.alloc (.cells o 44)).alloc (.cells x 47)).grownBy w7 v.ownBlock) : w7.heap[N]? = some (.cells (arr4 (pv kf t)) 42 (0, 0)) := by
  have hb := h.room o x
  have hro := h.ro.choose_spec.below hb
  have harr : ((wr.alloc (.cells o 44)).alloc (.cells x 47)).heap[N]? = some (.cells (arr4 (pv kf t)) 42 (0, 0)) := (hb.block _ (hlt_of h.arr)).trans h.arr
  exact (hg.block _ (hlt_of harr) (fun e => by
    obtain ⟨cur, e1⟩ := own_cells hro.row e.symm
    rw [harr] at e1
    injection e1 with e1
    injection e1 with _ e1 _
    cases e1)).trans harr
theorem RO.tx {w : World} {B m cp : Nat} {sp : Option Addr} {T : Nat → Tx} {V : Nat → Value} (h : RO w B (.slice sp m cp) m T V) : TxS w sp m T := by
  intro hn
  obtain ⟨g, cap', e, _, hl⟩ := h.row.form hn
  injection e with e1 e2 e3
  subst e1
  refine ⟨g, 0, rfl, hl, fun i hi => ?_⟩
  obtain ⟨g0, g1, g2⟩ := rowT_get T V m i hi
  have h0 := (h.row.cellAt (i * 3) (by omega)).trans g0
  have h1 := (h.row.cellAt (i * 3 + 1) (by omega)).trans g1
  have h2 := (h.row.cellAt (i * 3 + 2) (by omega)).trans g2
  obtain ⟨sp9, cp9, e9, ho, _⟩ := h.ops i hi
  rw [e9] at h2
  simp only [Nat.zero_add]
  exact ⟨sp9, cp9, h0, h1, h2, own38_ops ho⟩
end

/-- a key, of a number -/
theorem keys_of (f : Nat → Int) : ∃ kf : Nat → Nat, (∀ i, kf i ≤ 3) ∧ ∀ i, bits .and .i64 (f i) 3 = (kf i : Int) := by
  have h : ∀ i, ∃ k : Nat, k ≤ 3 ∧ bits .and .i64 (f i) 3 = (k : Int) := fun i => and_mask (f i) 3 3 (by decide) (by omega)
  obtain ⟨kf, hk⟩ := Classical.skolem.mp h
  exact ⟨kf, fun i => (hk i).1, fun i => (hk i).2⟩

set_option maxRecDepth 100000 in
set_option maxHeartbeats 4000000 in
theorem runs_law (a : Option Addr) (n cap : Nat) (f : Nat → Int) (which : Int) (w : World) (hs : IsS w a n f) :
    Calls Try.prog 5 #[.slice a n cap, .int .i64 which] w (fun e w' => e = .returned (.bool true) ∧ Below w.heap.size w w') := by
  obtain ⟨i8, hi8, hx0, hx1, hx2⟩ := info_parts info36
  have HS := Lib.hid hs
  have HO := Lib.hid (head_any w)
  obtain ⟨q, hq, hqv⟩ := and_mask which 1023 1023 (by decide) (by omega)
  have hqv : bits .and .i64 which 1023 = (q : Int) := hqv
  obtain ⟨kf, hkf, hkv⟩ := keys_of f
  have HKF := Lib.hid hkf
  have HKV := Lib.hid hkv
  clear hs hkf hkv
  go_enter Try.func5, Try.ntmps5
  go_wp2_with fail
  refine HO.out.mono ?_
  rintro e w1 ⟨rfl, hb⟩
  have HB1 := Lib.hid hb
  have HS1 := Lib.hid (HS.out.below hb)
  clear hb HO HS
  by_cases hn : 40 < n
  · have hn' : (40 : Int) < (n : Int) := by omega
    go_wp2
    go_ret
    exact ⟨rfl, HB1.out⟩
  · have hn' : decide ((40 : Int) < (n : Int)) = false := by simp; omega
    have hn4 : n ≤ 40 := by omega
    have HST := Lib.hid (RunS.start w1 kf)
    go_wp2
    obtain ⟨wi, ewi⟩ : ∃ wi, wi = (w1.alloc (.cells #[.int .i64 0, .int .i64 0, .int .i64 0, .int .i64 0] 42)).alloc (.cells #[] 47) := ⟨_, rfl⟩
    obtain ⟨gi, egi⟩ : ∃ gi, gi = w1.heap.size + 1 := ⟨_, rfl⟩
    obtain ⟨N, eN⟩ : ∃ N, N = w1.heap.size := ⟨_, rfl⟩
    have HST2 : Hid (RunS w1 w1.heap.size N wi (.slice (some ⟨gi, 0, none⟩) 0 0) kf 0) := Lib.hid (by rw [ewi, egi, eN]; exact HST.out)
    rw [← ewi, ← egi, ← eN]
    clear ewi egi eN HST
    go_loopw [6, 7, 8, 25] (fun vo _ _ x wr => ∃ (t : Nat) (spo : Option Addr) (cpo : Nat), t ≤ n ∧ x = .int .i64 (t : Int) ∧ vo = .slice spo t cpo ∧ Hid (RunS w1 w1.heap.size N wr (.slice spo t cpo) kf t)) (fun _ _ _ x _ => n - (intOf x).toNat)
    case atStart => exact ⟨0, _, _, Nat.zero_le _, rfl, rfl, HST2⟩
    case round =>
      obtain ⟨t, spo, cpo, ht, rfl, rfl, HT⟩ := hrel
      clear HST2
      by_cases hlt : t < n
      · obtain ⟨b, off, rfl, hbl, hci⟩ := HS1.out (by omega)
        have x0 := (HT.out.bel.cell (p := ⟨b, off + t, none⟩) hbl).trans (hci t hlt)
        have hlt' : (t : Int) < (n : Int) := by omega
        have hkt := HKF.out t
        have hkvt := HKV.out t
        have hk4 : (kf t : Int) < 4 := by omega
        have hcl := HT.out.cell hkt
        have hfz := HT.out.fz (kf t)
        have hNl := hlt_of HT.out.arr
        have hpl := pv_le kf t (kf t)
        have ht1 : ((t + 1 : Nat) : Int) = (t : Int) + 1 := by omega
        clear hci
        generalize f t = ft at *
        obtain ⟨x, hx⟩ : ∃ x : Array Value, x = #[.int .i64 1, .int .i64 1, .slice (some ⟨wr.heap.size, 0, none⟩) 2 2] := ⟨_, rfl⟩
        obtain ⟨o, ho⟩ : ∃ o : Array Value, o = #[.int .i64 1, .int .i64 (kf t : Int), .int .i64 (pv kf t (kf t) : Int), .int .i64 2, .int .i64 (kf t : Int), .int .i64 ((t : Int) + 1)] := ⟨_, rfl⟩
        have HB := Lib.hid (HT.out.room o x)
        have HRO := Lib.hid (HT.out.ro.choose_spec.below HB.out).row
        have HST := Lib.hid (fun (v' : Value) (g c : Nat) (w7 : World) => HT.out.step (v' := v') (o := o) (x := x) (g := g) (c := c) (w7 := w7) hkt (by rw [ho, ht1]))
        have HNW : Hid (∀ (i : Nat) (z : Value), [Value.int .i64 1, .int .i64 1, .slice (some ⟨wr.heap.size, 0, none⟩) 2 2][i]? = some z → ((wr.alloc (.cells o 44)).alloc (.cells x 47)).cell? ((⟨wr.heap.size + 1, 0, none⟩ : Addr).add i) = some z) := Lib.hid fun i z hj => by
          have hh := heap_alloc_new (wr.alloc (.cells o 44)) (.cells x 47)
          rw [show (wr.alloc (.cells o 44)).heap.size = wr.heap.size + 1 by simp] at hh
          rw [Go.WideShapes.add_plain, cell_of_row _ _ _ _ 47 (0, 0) hh, Nat.zero_add, hx]
          simpa using hj
        have HAR := Lib.hid (fun (w7 : World) => HT.out.arr7 (o := o) (x := x) (w7 := w7))
        generalize HT.out.ro.choose = V at *
        have HLOW := Lib.hid (Nat.le_trans HT.out.low HB.out.size)
        have HN9 := Lib.hid (hlt_of HT.out.arr)
        have HKT := Lib.hid ht1
        subst ho hx
        clear ht1 HT
        obtain ⟨kt, ekt⟩ : ∃ kt, kt = kf t := ⟨_, rfl⟩
        obtain ⟨pt, ept⟩ : ∃ pt, pt = pv kf t (kf t) := ⟨_, rfl⟩
        have HEK := Lib.hid ekt
        have HEP : Hid (pv kf t kt = pt) := Lib.hid (by rw [ept, ekt])
        rw [← ept, ← ekt] at HRO HST HNW HLOW HB HAR
        rw [← ept] at hcl hpl
        rw [← ekt] at hkvt hk4 hcl hfz hkt
        clear ekt ept
        go_wp2_with (at_builtin; refine wpList_append_lies _ rfl _ _ 25 rfl w1.heap.size 47 i8 (.agg #[.int .i64 0, .int .i64 0, .slice none 0 0]) 3 40 Try.underlying25 hi8 hx0 hx1 hx2 rfl (by decide) _ t _ rfl HRO.out ⟨wr.heap.size + 1, 0, none⟩ 1 1 [.int .i64 1, .int .i64 1, .slice (some ⟨wr.heap.size, 0, none⟩) 2 2] rfl rfl HNW.out (by intro u hu; simp at hu; rcases hu with rfl | rfl | rfl <;> rfl) (by omega) (by unfold maxLen; omega) (by omega) HLOW.out _ rfl ?_)
        intro g7 c7 w7 ho7 hg7 hat7 hl7
        have har := HAR.out w7 hg7
        have hcl7 : w7.cell? ⟨N, kt, none⟩ = some (.int .i64 (pt : Int)) := by
          rw [cell_of_row _ _ _ _ _ _ har, arr4_get _ _ hkt, HEP.out]
        have hfz7 : w7.frozen? ⟨N, kt, none⟩ = false := by simp [World.frozen?, har]
        have HN7 := HST.out _ g7 c7 w7 ho7 hg7
        rw [HKT.out] at HN7
        have HN7 := Lib.hid HN7
        clear ho7 hg7 hat7 har HAR HST HRO HNW HB HLOW hcl hfz
        go_wp2
        go_roundw
        case rel => exact ⟨t + 1, some ⟨g7, 0, none⟩, c7, by omega, by go_num, rfl, HN7⟩
        case measure => simp [intOf]; omega
      · obtain rfl : t = n := by omega
        have HB2 := Lib.hid (HB1.out.trans (HT.out.bel.mono HB1.out.size))
        obtain ⟨V, hro⟩ := HT.out.ro
        have HRO := Lib.hid hro
        have HTX := Lib.hid hro.tx
        have HSK := Lib.hid HT.out.bel
        have HOK := Lib.hid (rt_ok (n := t) (kf := kf) hn4 HKF.out)
        have hlw : w1.heap.size ≤ wr.heap.size := HT.out.low
        have hl1 : w.heap.size ≤ w1.heap.size := HB1.out.size
        clear HT HB1 hro
        obtain ⟨wz, ewz⟩ : ∃ wz, wz = wr := ⟨_, rfl⟩
        rw [← ewz] at HB2 HRO HTX HSK hlw ⊢
        clear ewz
        have HA := Lib.hid (all_any spo t cpo (Rt kf) wz HTX.out HOK.out)
        go_wp2_with fail
        refine HA.out.mono ?_
        rintro e w3 ⟨sb, cb, rfl, _, hb⟩
        have HB3 := Lib.hid (HB2.out.trans (hb.mono HB2.out.size))
        have HRO3 := Lib.hid (HRO.out.below hb)
        have HTX3 := Lib.hid (HTX.out.below hb)
        have HSK3 := Lib.hid (HSK.out.trans (hb.mono HSK.out.size))
        rw [rt_fl HKF.out]
        clear hb HA HRO HTX HSK
        have HSU := Lib.hid (sure_any spo t cpo (Rt kf) w3 HTX3.out HOK.out)
        go_wp2_with fail
        refine HSU.out.mono ?_
        rintro e w4 ⟨gs, rfl, hm4, hb⟩
        have HB4 := Lib.hid (HB3.out.trans (hb.mono HB3.out.size))
        have HRO4 := Lib.hid (HRO3.out.below hb)
        have HSK4 := Lib.hid (HSK3.out.trans (hb.mono HSK3.out.size))
        have HM4 := Lib.hid hm4
        clear hb hm4 HSU HRO3 HTX3 HSK3
        go_wp2
        go_loopw [4, 10, 58] (fun _ _ x wr => ∃ r : Nat, r ≤ t ∧ x = .int .i64 (r : Int) ∧ w4 = wr) (fun _ _ x _ => t - (intOf x).toNat)
        case atStart => exact ⟨0, Nat.zero_le _, rfl, rfl⟩
        case round =>
          obtain ⟨r, hr, rfl, rfl⟩ := hrel
          by_cases hrt : r < t
          · have hrt' : (r : Int) < (t : Int) := by omega
            have x0 := HM4.out.cell hrt
            rw [rt_su hrt] at x0
            go_wp2
            go_roundw
            case rel => exact ⟨r + 1, by omega, by go_num, trivial⟩
            case measure => simp [intOf]; omega
          · obtain rfl : r = t := by omega
            clear HM4
            by_cases hn0 : r = 0
            · subst hn0
              go_wp2
              go_ret
              exact ⟨rfl, HB4.out⟩
            · have hm0b : ((r : Int) == 0) = false := beq_eq_false_iff_ne.2 (by omega)
              have hne0 : ¬ ((r : Int) = 0) := by omega
              have hrem : (q : Int).tmod (r : Int) = ((q % r : Nat) : Int) := by rw [Int.ofNat_tmod]
              obtain ⟨F, hF⟩ : ∃ F, F = q % r := ⟨_, rfl⟩
              rw [← hF] at hrem
              have hFm : F < r := by rw [hF]; exact Nat.mod_lt _ (by omega)
              clear hF
              have hFm' : (F : Int) < (r : Int) := by omega
              obtain ⟨g, cp', e, hgl, hgs⟩ := HRO4.out.row.form (by omega)
              injection e with e1 _ _
              subst e1
              obtain ⟨g0, g1, g2⟩ := rowT_get (Rt kf) V r F hFm
              have hc1 := (HRO4.out.row.cellAt (F * 3 + 1) (by omega)).trans g1
              have hfz := HRO4.out.row.frozenAt (F * 3 + 1)
              have HR5 := Lib.hid (HRO4.out.state F 2)
              obtain ⟨w5, ew5⟩ : ∃ w5, w5 = w4.setCell ⟨g, F * 3 + 1, none⟩ (.int .i64 2) := ⟨_, rfl⟩
              rw [← ew5] at HR5
              have HT5 : Hid (TxS w5 (some ⟨g, 0, none⟩) r (gone (Rt kf) F)) := Lib.hid HR5.out.tx
              have HB5 : Hid (Below w.heap.size w w5) := Lib.hid (by rw [ew5]; exact HB4.out.setCell (p := ⟨g, F * 3 + 1, none⟩) (by dsimp only; omega) _)
              have hgw : w1.heap.size ≤ g := hgl
              have HSK5 : Hid (Below w1.heap.size w1 w5) := Lib.hid (by rw [ew5]; exact HSK4.out.setCell (p := ⟨g, F * 3 + 1, none⟩) hgw _)
              have HA2 := Lib.hid (all_any (some ⟨g, 0, none⟩) r cp' (gone (Rt kf) F) w5 HT5.out (gone_ok HOK.out))
              clear g0 g1 g2 HR5 HRO4
              go_wp2_with fail
              rw [← ew5]
              clear hfz hc1
              refine HA2.out.mono ?_
              rintro e w6 ⟨sa, ca, rfl, hoa, hb⟩
              have HB6 := Lib.hid (HB5.out.trans (hb.mono HB5.out.size))
              have HT6 := Lib.hid (HT5.out.below hb)
              have HOA := Lib.hid (own33_ops hoa)
              have HGO := Lib.hid (gone_one (kf := kf) (F := F) (n := r) HKF.out)
              have HSK6 := Lib.hid (HS1.out.below (HSK5.out.trans (hb.mono HSK5.out.size)))
              clear hoa hb HA2 HB5 HT5 ew5 HSK4 HSK5 HS1
              have hlf : (flL (gone (Rt kf) F) r).length ≤ 1 := by
                rcases HGO.out with ⟨_, h⟩ | ⟨_, t0, _, h⟩ <;> rw [h] <;> simp
              generalize flL (gone (Rt kf) F) r = la at *
              go_wp2
              go_loopw [12, 13, 14, 81] (fun rv _ _ x wr => ∃ (i : Nat) (rb : Bool), i ≤ r ∧ x = .int .i64 (i : Int) ∧ rv = .bool rb ∧ Hid ((rb = true ↔ HitF kf F i) ∧ Below w6.heap.size w6 wr)) (fun _ _ _ x _ => r - (intOf x).toNat)
              case atStart => exact ⟨0, false, Nat.zero_le _, rfl, rfl, Lib.hid ⟨⟨fun h => (by cases h), fun ⟨t, _, h, _⟩ => by omega⟩, Below.refl _ _⟩⟩
              case round =>
                obtain ⟨i, rb, hi, rfl, rfl, HI⟩ := hrel
                by_cases hir : i < r
                · obtain ⟨b, off, rfl, hbl, hci⟩ := HSK6.out (by omega)
                  have x0 := (HI.out.2.cell (p := ⟨b, off + i, none⟩) hbl).trans (hci i hir)
                  have xF := (HI.out.2.cell (p := ⟨b, off + F, none⟩) hbl).trans (hci F hFm)
                  have hir' : (i : Int) < (r : Int) := by omega
                  have hki := HKV.out i
                  have hkF := HKV.out F
                  have HNX : Hid (HitF kf F (i + 1) ↔ (HitF kf F i ∨ (F < i ∧ kf i = kf F))) := Lib.hid (by
                    constructor
                    · rintro ⟨t, h1, h2, h3⟩
                      by_cases e : t = i
                      · subst e; exact .inr ⟨h1, h3⟩
                      · exact .inl ⟨t, h1, by omega, h3⟩
                    · rintro (⟨t, h1, h2, h3⟩ | ⟨h1, h2⟩)
                      · exact ⟨t, h1, by omega, h3⟩
                      · exact ⟨i, h1, by omega, h2⟩)
                  have HRB := Lib.hid HI.out.1
                  have HBI := Lib.hid HI.out.2
                  clear hci HI
                  generalize HitF kf F i = PH at *
                  generalize f i = fi at *
                  generalize f F = fF at *
                  obtain ⟨ki, eki⟩ : ∃ ki, ki = kf i := ⟨_, rfl⟩
                  obtain ⟨kF, ekF⟩ : ∃ kF, kF = kf F := ⟨_, rfl⟩
                  rw [← eki] at hki HNX
                  rw [← ekF] at hkF HNX
                  clear eki ekF
                  cases rb with
                  | true =>
                    go_wp2
                    go_roundw
                    case rel => exact ⟨i + 1, true, by omega, by go_num, rfl, Lib.hid ⟨⟨fun _ => by rw [HNX.out]; exact .inl (HRB.out.1 rfl), fun _ => rfl⟩, HBI.out⟩⟩
                    case measure => simp [intOf]; omega
                  | false =>
                    have HNO : Hid (¬ (F < i ∧ ki = kF) → ¬ HitF kf F (i + 1)) := Lib.hid fun h h2 => by
                      rw [HNX.out] at h2
                      rcases h2 with h2 | h2
                      · have := HRB.out.2 h2; cases this
                      · exact h h2
                    by_cases hFi : F < i
                    · have hFi' : (F : Int) < (i : Int) := by omega
                      by_cases hkk : ki = kF
                      · have hkb : ((ki : Int) == (kF : Int)) = true := by rw [hkk]; simp
                        have HZ : Hid (HitF kf F (i + 1)) := Lib.hid (HNX.out.2 (.inr ⟨hFi, hkk⟩))
                        clear HNX HNO
                        subst hkk
                        go_wp2
                        go_roundw
                        case rel => exact ⟨i + 1, true, by omega, by go_num, rfl, Lib.hid ⟨⟨fun _ => HZ.out, fun _ => rfl⟩, HBI.out⟩⟩
                        case measure => simp [intOf]; omega
                      · have hkb : ((ki : Int) == (kF : Int)) = false := beq_eq_false_iff_ne.2 (by omega)
                        have hkb2 : ¬ ki = kF := hkk
                        have HZ := Lib.hid (HNO.out fun h => hkk h.2)
                        clear HNX HNO
                        go_wp2
                        go_roundw
                        case rel => exact ⟨i + 1, false, by omega, by go_num, rfl, Lib.hid ⟨⟨fun h => (by cases h), fun h => absurd h HZ.out⟩, HBI.out⟩⟩
                        case measure => simp [intOf]; omega
                    · have hFb : decide ((F : Int) < (i : Int)) = false := by simp; omega
                      have hFb2 : decide (F < i) = false := by simp; omega
                      have HZ := Lib.hid (HNO.out fun h => hFi h.1)
                      clear HNX HNO
                      go_wp2
                      go_roundw
                      case rel => exact ⟨i + 1, false, by omega, by go_num, rfl, Lib.hid ⟨⟨fun h => (by cases h), fun h => absurd h HZ.out⟩, HBI.out⟩⟩
                      case measure => simp [intOf]; omega
                · obtain rfl : i = r := by omega
                  have HBI := Lib.hid (HB6.out.trans (HI.out.2.mono HB6.out.size))
                  have HTI := Lib.hid (HT6.out.below HI.out.2)
                  have HOI := Lib.hid (HOA.out.below HI.out.2)
                  have HRB := Lib.hid HI.out.1
                  clear HI HB6 HT6 HOA HSK6
                  obtain ⟨wv, ewv⟩ : ∃ wv, wv = wr := ⟨_, rfl⟩
                  rw [← ewv] at HBI HTI HOI ⊢
                  clear ewv
                  have HS2 := Lib.hid (sure_any (some ⟨g, 0, none⟩) i cp' (gone (Rt kf) F) wv HTI.out (gone_ok HOK.out))
                  go_wp2_with fail
                  refine HS2.out.mono ?_
                  rintro e w8 ⟨gs2, rfl, hm8, hb⟩
                  have HB8 := Lib.hid (HBI.out.trans (hb.mono HBI.out.size))
                  have HO8 := Lib.hid (HOI.out.below hb)
                  have m0 := hm8.cell hFm
                  rw [gone_su] at m0
                  have hii : ((i : Int) != (i : Int)) = false := by simp
                  clear hm8 hb HS2 HBI HTI HOI
                  rcases HGO.out with ⟨h1, h2⟩ | ⟨h1, t0, h2, h3⟩
                  · obtain rfl : rb = false := by
                      cases rb with
                      | false => rfl
                      | true => exact absurd (HRB.out.1 rfl) h1
                    subst h2
                    go_wp2
                    go_ret
                    exact ⟨rfl, HB8.out⟩
                  · obtain rfl : rb = true := HRB.out.2 h1
                    subst h3
                    obtain ⟨bb, ob, rfl, hbb, hcb⟩ := HO8.out (by simp)
                    obtain ⟨d0, d1, d2⟩ := hcb 0 (by simp)
                    simp only [Nat.zero_mul, Nat.add_zero] at d0 d1 d2
                    have e0 : (lf [⟨(t0 : Int), 0, 2⟩] 0).k = (t0 : Int) := rfl
                    have e1 : (lf [⟨(t0 : Int), 0, 2⟩] 0).key = 0 := rfl
                    have e2 : (lf [⟨(t0 : Int), 0, 2⟩] 0).v = 2 := rfl
                    rw [e0] at d0
                    rw [e1] at d1
                    rw [e2] at d2
                    have ht0 : (F : Int) < (t0 : Int) := by omega
                    clear hcb e0 e1 e2
                    go_wp2
                    go_ret
                    exact ⟨rfl, HB8.out⟩
end Go.Proofs.Yteobndfkkpfnlaa
