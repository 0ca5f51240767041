/-
  What a transaction read of others: the program's Reads.
-/
import Derived.Test.YteobndfkkpfnlaaHS
import Derived.Test.YteobndfkkpfnlaaHD
namespace Go.Proofs.Yteobndfkkpfnlaa
open Go.ChangeShapes Go.WideShapes Go.ChangeAt Go.RowKit Go.Maps

/-- a list's elements -/
def lf (l : List O3) : Nat → O3 := fun i => l.getD i ⟨0, 0, 0⟩

set_option maxRecDepth 100000 in
theorem rowO_congr (o o' : Nat → O3) (n : Nat) (h : ∀ i, i < n → o i = o' i) : rowO o n = rowO o' n := by
  induction n with
  | zero => rfl
  | succ n ih => rw [rowO_succ, rowO_succ, ih fun i hi => h i (by omega), h n (by omega)]

set_option maxRecDepth 100000 in
theorem rowO_snoc (l : List O3) (x : O3) : rowO (lf (l ++ [x])) (l ++ [x]).length = rowO (lf l) l.length ++ [.int .i64 x.k, .int .i64 x.key, .int .i64 x.v] := by
  rw [List.length_append, List.length_singleton, rowO_succ]
  have e : lf (l ++ [x]) l.length = x := by unfold lf; simp
  rw [e]
  congr 1
  exact rowO_congr _ _ _ fun i hi => by unfold lf; rw [List.getD_eq_getElem?_getD, List.getD_eq_getElem?_getD, List.getElem?_append_left hi]

/-- what was read of others, of the first i operations -/
def rd (o : Nat → O3) : Nat → List O3
  | 0 => []
  | i + 1 => if (o i).k = 1 ∧ (lastW o i (o i).key).isSome = false then rd o i ++ [o i] else rd o i

set_option maxRecDepth 100000 in
theorem rd_le (o : Nat → O3) (i : Nat) : (rd o i).length ≤ i := by
  induction i with
  | zero => exact Nat.le_refl _
  | succ i ih =>
    unfold rd
    split
    · rw [List.length_append, List.length_singleton]; omega
    · omega

/-- who answers operations, in memory of its own -/
def OpsP (l : List O3) (w : World) (e : Ending) (w' : World) : Prop :=
  ∃ sp cp, e = .returned (.slice sp l.length cp) ∧ w'.ownsRow w.heap.size 44 3 (.slice sp l.length cp) l.length (rowO (lf l) l.length) ∧ Below w.heap.size w w'

set_option maxRecDepth 100000 in
set_option maxHeartbeats 4000000 in
theorem hreads_any (c st : Int) (sp : Option Addr) (n cap : Nat) (o : Nat → O3) (w : World) (hn : n ≤ 1000) (hk : ∀ i, i < n → 0 ≤ (o i).key ∧ (o i).key ≤ 15) (hv : ∀ i, i < n → -9223372036854775808 ≤ (o i).v ∧ (o i).v ≤ 9223372036854775807) (hs : OpS w sp n o) :
    Calls Try.prog 45 #[.agg #[.int .i64 c, .int .i64 st, .slice sp n cap]] w (OpsP (if st = 1 then rd o n else []) w) := by
  obtain ⟨i8, hi8, hx0, hx1, hx2⟩ := info_parts info38
  have HS := Lib.hid hs
  have HK := Lib.hid hk
  have HV := Lib.hid hv
  clear hs hk hv
  by_cases hst : st = 1
  · subst hst
    rw [if_pos rfl]
    have hmm := @run_makeMap Try.prog
    obtain ⟨wi, ewi⟩ : ∃ wi, wi = (w.alloc (.cells #[.int .i64 c, .int .i64 1, .slice sp n cap] 47)).alloc (.map #[] 0) := ⟨_, rfl⟩
    have hM : MapS wi (w.heap.size + 1) 0 (lastW o 0) := by
      have h := MapS.made (w.alloc (.cells #[.int .i64 c, .int .i64 1, .slice sp n cap] 47))
      rw [show (w.alloc (.cells #[.int .i64 c, .int .i64 1, .slice sp n cap] 47)).heap.size = w.heap.size + 1 by simp] at h
      rw [ewi]; exact h
    have hB : Below w.heap.size w wi := by rw [ewi]; exact ((Below.refl _ _).alloc (Nat.le_refl _) _).alloc (by simp) _
    obtain ⟨MB, eMB⟩ : ∃ MB, MB = w.heap.size + 1 := ⟨_, rfl⟩
    rw [← eMB] at hM
    have hMB : w.heap.size ≤ MB := by omega
    have HM := Lib.hid hM
    have HB := Lib.hid hB
    clear hM hB
    go_enter Try.func45, Try.ntmps45
    go_wp2
    rw [← ewi, ← eMB]
    clear ewi eMB hmm
    go_loopw [3, 6, 7, 8, 16] (fun vo _ _ _ x wr => ∃ (t : Nat) (spo : Option Addr) (cpo : Nat), t ≤ n ∧ x = .int .i64 (t : Int) ∧ vo = .slice spo (rd o t).length cpo ∧ Hid (Below w.heap.size w wr ∧ MapS wr MB t (lastW o t) ∧ wr.ownsRow w.heap.size 44 3 (.slice spo (rd o t).length cpo) (rd o t).length (rowO (lf (rd o t)) (rd o t).length))) (fun _ _ _ _ x _ => n - (intOf x).toNat)
    case atStart => exact ⟨0, none, 0, Nat.zero_le _, rfl, rfl, Lib.hid ⟨HB.out, HM.out, World.ownsRow_nil _ _ _ _⟩⟩
    case round =>
      obtain ⟨t, spo, cpo, ht, rfl, rfl, HT⟩ := hrel
      by_cases hlt : t < n
      · obtain ⟨b, off, rfl, hbl, hci⟩ := HS.out (by omega)
        obtain ⟨c0, c1, c2⟩ := hci t hlt
        have x0 := (HT.out.1.cell (p := ⟨b, off + t * 3, none⟩) hbl).trans c0
        have x1 := (HT.out.1.cell (p := ⟨b, off + t * 3 + 1, none⟩) hbl).trans c1
        have x2 := (HT.out.1.cell (p := ⟨b, off + t * 3 + 2, none⟩) hbl).trans c2
        have hlt' : (t : Int) < (n : Int) := by omega
        have hkr := HK.out t hlt
        have hvr := HV.out t hlt
        have HRD : Hid (rd o (t + 1) = if (o t).k = 1 ∧ (lastW o t (o t).key).isSome = false then rd o t ++ [o t] else rd o t) := Lib.hid rfl
        have HLW : Hid (lastW o (t + 1) = fun key => if (o t).k = 2 ∧ key = (o t).key then some (o t).v else lastW o t key) := Lib.hid rfl
        have hrl := rd_le o t
        have HBR := Lib.hid HT.out.1
        have HMR := Lib.hid HT.out.2.1
        have HOR := Lib.hid HT.out.2.2
        clear c0 c1 c2 hci HT
        obtain ⟨l, el⟩ : ∃ l, l = rd o t := ⟨_, rfl⟩
        rw [← el] at HRD HOR hrl ⊢
        obtain ⟨L, eL⟩ : ∃ L, L = lastW o t := ⟨_, rfl⟩
        rw [← eL] at HRD HLW HMR
        clear el eL
        generalize o t = ot at *
        obtain ⟨ok, okey, ov⟩ := ot
        dsimp only at x0 x1 x2 hkr hvr HRD HLW
        have hwx : Below wr.heap.size wr (wr.alloc (.cells #[.int .i64 ok, .int .i64 okey, .int .i64 ov] 44)) := (Below.refl _ _).alloc (Nat.le_refl _) _
        have HBX := Lib.hid (HBR.out.trans (hwx.mono HBR.out.size))
        have HMX := Lib.hid (HMR.out.kept (hwx.block _ HMR.out.lt))
        have HOX := Lib.hid (own_keep HOR.out fun g hg => hwx.block g (HOR.out.lt g hg).2)
        have hnl : l.length < 1001 := by omega
        clear hwx
        by_cases h2 : ok = 2
        · subst h2
          rw [if_neg (fun h => absurd h.1 (by decide))] at HRD
          have HL1 : Hid (lastW o (t + 1) = fun y => if y = okey then some ov else L y) := Lib.hid (by
            rw [HLW.out]; funext y
            by_cases hy : y = okey
            · rw [if_pos ⟨rfl, hy⟩, if_pos hy]
            · rw [if_neg (fun h => hy h.2), if_neg hy])
          go_wp2_with (at_mapUpdate; refine wpList_update_S rfl _ _ _ rfl MB t L rfl HMX.out (by omega) okey ov rfl rfl (by omega) (by omega) ?_)
          intro w5 hm5 hg5
          rw [← HL1.out] at hm5
          have HM5 := Lib.hid hm5
          have HB5 := Lib.hid (HBX.out.grown hg5 HBX.out.size (fun q hq => by injection hq with hq; omega))
          have HO5 : Hid (w5.ownsRow w.heap.size 44 3 (.slice spo l.length cpo) l.length (rowO (lf l) l.length)) := Lib.hid (own_keep HOX.out fun g hg => hg5.block g (HOX.out.lt g hg).2 (fun e => by
            injection e with e
            obtain ⟨cur, e1⟩ := own_cells HOX.out hg
            obtain ⟨es, cl, e2⟩ := HMX.out.isMap
            rw [e, e2] at e1; cases e1))
          clear hm5 hg5
          go_wp2
          go_roundw
          case rel => exact ⟨t + 1, spo, cpo, by omega, by go_num, by rw [HRD.out], Lib.hid ⟨HB5.out, HM5.out, by rw [HRD.out]; exact HO5.out⟩⟩
          case measure => simp [intOf]; omega
        · have h2b : (ok == 2) = false := by rw [beq_eq_false_iff_ne]; exact h2
          have HL1 : Hid (lastW o (t + 1) = L) := Lib.hid (by rw [HLW.out]; funext y; rw [if_neg (fun h => h2 h.1)])
          by_cases h1 : ok = 1
          · subst h1
            have hlook := HMX.out.look okey (by omega)
            cases hLk : L okey with
            | some x =>
              rw [hLk] at hlook HRD
              simp only [Option.getD_some, Option.isSome_some] at hlook
              rw [if_neg (fun h => by cases h.2)] at HRD
              clear hLk
              go_wp2
              go_roundw
              case rel => exact ⟨t + 1, spo, cpo, by omega, by go_num, by rw [HRD.out], Lib.hid ⟨HBX.out, by rw [HL1.out]; exact HMX.out.mono (by omega), by rw [HRD.out]; exact HOX.out⟩⟩
              case measure => simp [intOf]; omega
            | none =>
              rw [hLk] at hlook HRD
              simp only [Option.getD_none, Option.isSome_none] at hlook
              rw [if_pos ⟨rfl, rfl⟩] at HRD
              obtain ⟨wx, ewx⟩ : ∃ wx, wx = wr.alloc (.cells #[.int .i64 1, .int .i64 okey, .int .i64 ov] 44) := ⟨_, rfl⟩
              have HNW : Hid (∀ (W : World) (j : Nat) (u : Value), [Value.int .i64 1, .int .i64 okey, .int .i64 ov][j]? = some u → (W.alloc (.cells #[.int .i64 1, .int .i64 okey, .int .i64 ov] 44)).cell? ((⟨W.heap.size, 0, none⟩ : Addr).add j) = some u) := Lib.hid fun W j u hj => by
                rw [Go.WideShapes.add_plain, cell_of_row _ _ _ _ 44 (0, 0) (heap_alloc_new W _), Nat.zero_add]
                simpa using hj
              have hwy : ∀ W : World, Below W.heap.size W (W.alloc (.cells #[.int .i64 1, .int .i64 okey, .int .i64 ov] 44)) := fun W => (Below.refl _ _).alloc (Nat.le_refl _) _
              have HWY := Lib.hid hwy
              have HOY := Lib.hid (own_keep HOX.out fun g hg => (hwy _).block g (HOX.out.lt g hg).2)
              clear hLk hwy
              go_wp2_with (at_builtin; refine wpList_append_lies _ rfl _ _ 45 rfl w.heap.size 44 i8 (.agg #[.int .i64 0, .int .i64 0, .int .i64 0]) 3 24 Try.underlying45 hi8 hx0 hx1 hx2 rfl (by decide) _ l.length (rowO (lf l) l.length) rfl HOY.out ⟨(wr.alloc (.cells #[.int .i64 1, .int .i64 okey, .int .i64 ov] 44)).heap.size, 0, none⟩ 1 1 [.int .i64 1, .int .i64 okey, .int .i64 ov] (by simp [Act.eval]) rfl (HNW.out _) (by intro u hu; simp at hu; rcases hu with rfl | rfl | rfl <;> rfl) (by omega) (by unfold maxLen; omega) (by omega) (Nat.le_trans HBX.out.size (by simp)) _ rfl ?_)
              intro g7 c7 w7 ho7 hg7 hat7 hl7
              have HB7 := Lib.hid ((HBX.out.trans ((HWY.out _).mono HBX.out.size)).grown hg7 (Nat.le_trans HBX.out.size (by simp)) (fun q hq => (HOX.out.lt q hq).1))
              have HM7 : Hid (MapS w7 MB t L) := Lib.hid ((HMX.out.kept ((HWY.out _).block _ HMX.out.lt)).kept (hg7.block _ (Nat.lt_of_lt_of_le HMX.out.lt (by simp)) (fun e => by
                obtain ⟨cur, e1⟩ := own_cells HOX.out e.symm
                obtain ⟨es, cl, e2⟩ := HMX.out.isMap
                rw [e2] at e1; cases e1)))
              have HO7 : Hid (w7.ownsRow w.heap.size 44 3 (.slice (some ⟨g7, 0, none⟩) (rd o (t + 1)).length c7) (rd o (t + 1)).length (rowO (lf (rd o (t + 1))) (rd o (t + 1)).length)) := Lib.hid (by
                rw [HRD.out, rowO_snoc, List.length_append, List.length_singleton]; exact ho7)
              have HLN : Hid ((rd o (t + 1)).length = l.length + 1) := Lib.hid (by rw [HRD.out, List.length_append, List.length_singleton])
              clear ho7 hg7 hat7
              go_wp2
              go_roundw
              case rel => exact ⟨t + 1, some ⟨g7, 0, none⟩, c7, by omega, by go_num, by rw [HLN.out], Lib.hid ⟨HB7.out, by rw [HL1.out]; exact HM7.out.mono (by omega), HO7.out⟩⟩
              case measure => simp [intOf]; omega
          · have h1b : (ok == 1) = false := by rw [beq_eq_false_iff_ne]; exact h1
            rw [if_neg (fun h => h1 h.1)] at HRD
            clear h1 h2
            go_wp2
            go_roundw
            case rel => exact ⟨t + 1, spo, cpo, by omega, by go_num, by rw [HRD.out], Lib.hid ⟨HBX.out, by rw [HL1.out]; exact HMX.out.mono (by omega), by rw [HRD.out]; exact HOX.out⟩⟩
            case measure => simp [intOf]; omega
      · obtain rfl : n = t := by omega
        go_wp2
        go_ret
        exact ⟨spo, cpo, rfl, HT.out.2.2, HT.out.1⟩
  · have hsb : (st != 1) = true := by rw [bne_iff_ne]; exact hst
    rw [if_neg hst]
    clear hst
    go_enter Try.func45, Try.ntmps45
    go_wp2
    go_ret
    exact ⟨none, 0, rfl, World.ownsRow_nil _ _ _ _, (Below.refl _ _).alloc (Nat.le_refl _) _⟩

end Go.Proofs.Yteobndfkkpfnlaa
