/-
  flaw: what is wrong with a read.
  All: the reads that nothing explains.
  All's walk.
  Rows of bools; who must have been done (mathematics, memory).
  Sure's walk.
  The laws' head: the document's example.
  The laws' big; what Of answers, in one form.
  Source; the reference's Writer.
  In a history each value is written by one: mathematics.
-/
import Derived.Test.YteobndfkkpfnlaaJ08
import Derived.Test.YteobndfkkpfnlaaJ02
import Derived.Test.YteobndfkkpfnlaaJ01
import Derived.Test.YteobndfkkpfnlaaJ06
import Derived.Deep.OwnRows

namespace Go.Proofs.Yteobndfkkpfnlaa
open Go.ChangeShapes Go.WideShapes Go.ChangeAt Go.RowKit Go.Maps
set_option linter.unusedVariables false

/-- what is wrong with a read (0: nothing) -/
def flK (A L : VM) (T : Nat → Tx) (at_ : Int) (r : O3) : Int :=
  if r.v = 0 then 0 else match A r.key r.v with
    | none => 1
    | some x => if x = at_ then 1 else if (T x.toNat).st = 2 then 2 else if (L r.key r.v).isSome then 0 else 3
/-- writers are places -/
def Pl_ (m : Nat) (A : VM) : Prop := ∀ k v x, A k v = some x → ∃ j : Nat, j < m ∧ x = (j : Int)

set_option maxRecDepth 100000 in
set_option maxHeartbeats 4000000 in
theorem flaw_any (b1 b2 n1 n2 : Nat) (A L : VM) (a : Option Addr) (m cap : Nat) (T : Nat → Tx) (at_ k key v : Int) (w : World) (hs : TxS w a m T) (h1 : MapV w b1 n1 A) (h2 : MapV w b2 n2 L) (hp : Pl_ m A) (hm : m ≤ 400) (hk : In64 key) (hv : In64 v) (ha : In64 at_) :
    Calls Try.prog 46 #[.agg #[.map (some b1), .map (some b2)], .slice a m cap, .int .i64 at_, .agg #[.int .i64 k, .int .i64 key, .int .i64 v]] w (fun e w' => e = .returned (.int .i64 (flK A L T at_ ⟨k, key, v⟩)) ∧ Below w.heap.size w w') := by
  have HF : Hid (flK A L T at_ ⟨k, key, v⟩ = if v = 0 then 0 else match A key v with
    | none => 1
    | some x => if x = at_ then 1 else if (T x.toNat).st = 2 then 2 else if (L key v).isSome then 0 else 3) := Lib.hid rfl
  generalize flK A L T at_ ⟨k, key, v⟩ = res at *
  have HS0 := Lib.hid hs
  have HM10 := Lib.hid h1
  have HM20 := Lib.hid h2
  have HPL := Lib.hid hp
  clear hs h1 h2 hp
  by_cases hv0 : v = 0
  · subst hv0
    obtain rfl : res = 0 := HF.out
    go_enter Try.func46, Try.ntmps46
    go_wp2
    go_ret
    exact ⟨rfl, ((Below.refl _ _).alloc (Nat.le_refl _) _).alloc (by simp) _⟩
  · rw [if_neg hv0] at HF
    have hv0b : (v == 0) = false := beq_eq_false_iff_ne.2 hv0
    go_enter Try.func46, Try.ntmps46
    go_wp2
    obtain ⟨wx, ewx⟩ : ∃ wx, wx = w.alloc (.cells #[.map (some b1), .map (some b2)] 96) := ⟨_, rfl⟩
    obtain ⟨wy, ewy⟩ : ∃ wy, wy = wx.alloc (.cells #[.int .i64 k, .int .i64 key, .int .i64 v] 44) := ⟨_, rfl⟩
    obtain ⟨X, eX⟩ : ∃ X, X = w.heap.size := ⟨_, rfl⟩
    obtain ⟨P, eP⟩ : ∃ P, P = w.heap.size + 1 := ⟨_, rfl⟩
    have hsx : wx.heap.size = w.heap.size + 1 := by rw [ewx]; simp
    have hX0 : wx.heap[X]? = some (.cells #[.map (some b1), .map (some b2)] 96 (0, 0)) := by rw [ewx, eX]; exact heap_alloc_new w _
    have hX : wy.heap[X]? = some (.cells #[.map (some b1), .map (some b2)] 96 (0, 0)) := by rw [ewy, heap_alloc_old _ _ (hlt_of hX0)]; exact hX0
    have hP : wy.heap[P]? = some (.cells #[.int .i64 k, .int .i64 key, .int .i64 v] 44 (0, 0)) := by rw [ewy, eP, ← hsx]; exact heap_alloc_new wx _
    have hB : Below w.heap.size w wy := by rw [ewy, ewx]; exact ((Below.refl _ _).alloc (Nat.le_refl _) _).alloc (by simp) _
    have HXX := Lib.hid hX
    have HPP := Lib.hid hP
    have HB := Lib.hid hB
    have HM1 := Lib.hid (HM10.out.below hB)
    have HM2 := Lib.hid (HM20.out.below hB)
    have HS := Lib.hid (HS0.out.below hB)
    rw [← ewx, ← ewy, ← eP, ← eX]
    clear hX0 hB hsx ewx ewy eX eP hX hP HS0 HM10 HM20
    have hb00 : Below wy.heap.size wy wy := Below.refl _ _
    have hB0 : Below wy.heap.size wy wy.drew := (Below.refl _ _).drew
    have HKK : Hid (∀ W, Below wy.heap.size wy W → W.cell? ⟨X, 0, none⟩ = some (.map (some b1)) ∧ W.cell? ⟨P, 0, none⟩ = some (.int .i64 k) ∧ W.cell? ⟨P, 1, none⟩ = some (.int .i64 key) ∧ W.cell? ⟨P, 2, none⟩ = some (.int .i64 v)) := Lib.hid fun W hb => ⟨(cells2 ((hb.block _ (hlt_of HXX.out)).trans HXX.out)).1, (cells3 ((hb.block _ (hlt_of HPP.out)).trans HPP.out)).1⟩
    have HKL : Hid (∀ W, Below wy.heap.size wy W → W.cell? ⟨X, 1, none⟩ = some (.map (some b2)) ∧ W.cell? ⟨P, 0, none⟩ = some (.int .i64 k) ∧ W.cell? ⟨P, 1, none⟩ = some (.int .i64 key) ∧ W.cell? ⟨P, 2, none⟩ = some (.int .i64 v)) := Lib.hid fun W hb => ⟨(cells2 ((hb.block _ (hlt_of HXX.out)).trans HXX.out)).2, (cells3 ((hb.block _ (hlt_of HPP.out)).trans HPP.out)).1⟩
    cases hA : A key v with
    | none =>
      rw [hA] at HF
      obtain rfl : res = 1 := HF.out
      go_region_held3 (fun W => W.cell? ⟨X, 0, none⟩ = some (.map (some b1)) ∧ W.cell? ⟨P, 0, none⟩ = some (.int .i64 k) ∧ W.cell? ⟨P, 1, none⟩ = some (.int .i64 key) ∧ W.cell? ⟨P, 2, none⟩ = some (.int .i64 v))
        (first | exact HKK.out _ hb00 | exact HKK.out _ hB0 | exact HKK.out _ hB6)
        (first
          | (go_at_call 49; refine (version_any _ _ _ _).mono ?_; rintro e w6 ⟨rfl, hb6⟩; have hB6 : Below wy.heap.size wy w6 := hB0.trans hb6; have hlook := (HM1.out.below hB6).look key v hk hv; rw [hA] at hlook; simp only [Option.getD_none, Option.isSome_none] at hlook))
      have HB7 := Lib.hid (HB.out.trans (hB6.mono HB.out.size))
      go_wp2
      go_ret
      exact ⟨rfl, HB7.out⟩
    | some x =>
      rw [hA] at HF
      dsimp only at HF
      obtain ⟨j, hj, rfl⟩ := HPL.out _ _ _ hA
      rw [Int.toNat_natCast] at HF
      go_region_held3 (fun W => W.cell? ⟨X, 0, none⟩ = some (.map (some b1)) ∧ W.cell? ⟨P, 0, none⟩ = some (.int .i64 k) ∧ W.cell? ⟨P, 1, none⟩ = some (.int .i64 key) ∧ W.cell? ⟨P, 2, none⟩ = some (.int .i64 v))
        (first | exact HKK.out _ hb00 | exact HKK.out _ hB0 | exact HKK.out _ hB6)
        (first
          | (go_at_call 49; refine (version_any _ _ _ _).mono ?_; rintro e w6 ⟨rfl, hb6⟩; have hB6 : Below wy.heap.size wy w6 := hB0.trans hb6; have hlook := (HM1.out.below hB6).look key v hk hv; rw [hA] at hlook; simp only [Option.getD_some, Option.isSome_some] at hlook))
      have HB7 := Lib.hid hB6
      have HBW := Lib.hid (HB.out.trans (hB6.mono HB.out.size))
      clear hB6 hb6 hlook hb00 hB0 HKK
      by_cases hja : (j : Int) = at_
      · rw [if_pos hja] at HF
        obtain rfl : res = 1 := HF.out
        subst hja
        go_wp2
        go_ret
        exact ⟨rfl, HBW.out⟩
      · rw [if_neg hja] at HF
        have hjab : ((j : Int) == at_) = false := beq_eq_false_iff_ne.2 hja
        obtain ⟨b, off, rfl, hbl, hci⟩ := HS.out (by omega)
        obtain ⟨sp, cp, c0, c1, c2, ho⟩ := hci j hj
        have x1 := (HB7.out.cell (p := ⟨b, off + j * 3 + 1, none⟩) hbl).trans c1
        have hjm : (j : Int) < (m : Int) := by omega
        clear c0 c1 c2 ho hci
        generalize (T j).st = tst at *
        by_cases hst : tst = 2
        · rw [if_pos hst] at HF
          obtain rfl : res = 2 := HF.out
          subst hst
          go_wp2
          go_ret
          exact ⟨rfl, HBW.out⟩
        · rw [if_neg hst] at HF
          have hstb : (tst == 2) = false := beq_eq_false_iff_ne.2 hst
          have hb11 : Below wy.heap.size wy w6 := HB7.out
          have hB1 : Below wy.heap.size wy w6.drew := HB7.out.drew
          go_wp2
          cases hL : L key v with
          | none =>
            rw [hL] at HF
            obtain rfl : res = 3 := HF.out
            go_region_held3 (fun W => W.cell? ⟨X, 1, none⟩ = some (.map (some b2)) ∧ W.cell? ⟨P, 0, none⟩ = some (.int .i64 k) ∧ W.cell? ⟨P, 1, none⟩ = some (.int .i64 key) ∧ W.cell? ⟨P, 2, none⟩ = some (.int .i64 v))
              (first | exact HKL.out _ hb11 | exact HKL.out _ hB1 | exact HKL.out _ hB8)
              (first
                | (go_at_call 49; refine (version_any _ _ _ _).mono ?_; rintro e w8 ⟨rfl, hb8⟩; have hB8 : Below wy.heap.size wy w8 := hB1.trans (hb8.mono hB1.size); have hlook := (HM2.out.below hB8).look key v hk hv; rw [hL] at hlook; simp only [Option.getD_none, Option.isSome_none] at hlook))
            have HB9 := Lib.hid (HB.out.trans (hB8.mono HB.out.size))
            go_wp2
            go_ret
            exact ⟨rfl, HB9.out⟩
          | some y =>
            rw [hL] at HF
            obtain rfl : res = 0 := HF.out
            go_region_held3 (fun W => W.cell? ⟨X, 1, none⟩ = some (.map (some b2)) ∧ W.cell? ⟨P, 0, none⟩ = some (.int .i64 k) ∧ W.cell? ⟨P, 1, none⟩ = some (.int .i64 key) ∧ W.cell? ⟨P, 2, none⟩ = some (.int .i64 v))
              (first | exact HKL.out _ hb11 | exact HKL.out _ hB1 | exact HKL.out _ hB8)
              (first
                | (go_at_call 49; refine (version_any _ _ _ _).mono ?_; rintro e w8 ⟨rfl, hb8⟩; have hB8 : Below wy.heap.size wy w8 := hB1.trans (hb8.mono hB1.size); have hlook := (HM2.out.below hB8).look key v hk hv; rw [hL] at hlook; simp only [Option.getD_some, Option.isSome_some] at hlook))
            have HB9 := Lib.hid (HB.out.trans (hB8.mono HB.out.size))
            go_wp2
            go_ret
            exact ⟨rfl, HB9.out⟩
end Go.Proofs.Yteobndfkkpfnlaa

namespace Go.Proofs.Yteobndfkkpfnlaa
open Go.ChangeShapes Go.WideShapes Go.ChangeAt Go.RowKit Go.Maps
set_option linter.unusedVariables false

theorem info33 : (Try.prog.info? 33).map (fun i => (i.zero, i.size, i.bytes)) = some (some (.agg #[.int .i64 0, .int .i64 0, .int .i64 0]), 3, 24) := by kernel_rfl
/-- what a transaction has read of others -/
def rdT (t : Tx) : List O3 := if t.st = 1 then rd t.o t.n else []
/-- its first reads' flaws: whose, which, why -/
def flR (A L : VM) (T : Nat → Tx) (at_ : Nat) (rs : List O3) : Nat → List O3
  | 0 => []
  | i + 1 => if flK A L T (at_ : Int) (lf rs i) = 0 then flR A L T at_ rs i else flR A L T at_ rs i ++ [⟨(at_ : Int), (i : Int), flK A L T (at_ : Int) (lf rs i)⟩]
def flT (A L : VM) (T : Nat → Tx) : Nat → List O3
  | 0 => []
  | t + 1 => flT A L T t ++ flR A L T t (rdT (T t)) (rdT (T t)).length
def flL (T : Nat → Tx) (m : Nat) : List O3 := flT (allV T m) (endV T m) T m
theorem flR_le (A L : VM) (T : Nat → Tx) (at_ : Nat) (rs : List O3) (i : Nat) : (flR A L T at_ rs i).length ≤ i := by
  induction i with
  | zero => exact Nat.le_refl _
  | succ i ih =>
    unfold flR
    split
    · omega
    · rw [List.length_append, List.length_singleton]; omega
theorem rdT_le (t : Tx) : (rdT t).length ≤ t.n := by
  unfold rdT
  split
  · exact rd_le _ _
  · simp
theorem opsV_pl {o : Nat → O3} {t m : Nat} {A : VM} (h : Pl_ m A) (ht : t < m) : ∀ i, Pl_ m (opsV o (t : Int) A i) := by
  intro i
  induction i with
  | zero => exact h
  | succ i ih =>
    unfold opsV
    split
    · intro k v x e
      unfold updV at e
      split at e
      · injection e with e; exact ⟨t, ht, e.symm⟩
      · exact ih k v x e
    · exact ih
theorem Pl_.mono {m m' : Nat} {A : VM} (h : Pl_ m A) (hm : m ≤ m') : Pl_ m' A := fun k v x e => by
  obtain ⟨j, hj, e⟩ := h k v x e
  exact ⟨j, by omega, e⟩
theorem allV_pl (T : Nat → Tx) : ∀ m, Pl_ m (allV T m) := by
  intro m
  induction m with
  | zero => intro k v x e; cases e
  | succ m ih => exact opsV_pl (ih.mono (Nat.le_succ m)) (Nat.lt_succ_self m) _
theorem rdT_in {t : Tx} {P : O3 → Prop} (h : ∀ i, i < t.n → P (t.o i)) {i : Nat} (hi : i < (rdT t).length) : P (lf (rdT t) i) := by
  have hm : lf (rdT t) i ∈ rdT t := by
    unfold lf
    rw [List.getD_eq_getElem?_getD, List.getElem?_eq_getElem hi]
    exact List.getElem_mem hi
  generalize lf (rdT t) i = x at hm
  unfold rdT at hm
  split at hm
  · have : ∀ n, x ∈ rd t.o n → ∃ j, j < n ∧ x = t.o j := by
      intro n
      induction n with
      | zero => intro h; cases h
      | succ n ih =>
        intro h
        unfold rd at h
        split at h
        · rcases List.mem_append.1 h with h | h
          · obtain ⟨j, hj, e⟩ := ih h; exact ⟨j, by omega, e⟩
          · simp at h; exact ⟨n, by omega, h⟩
        · obtain ⟨j, hj, e⟩ := ih h; exact ⟨j, by omega, e⟩
    obtain ⟨j, hj, rfl⟩ := this _ hm
    exact h j hj
  · cases hm

/-- All's memory -/
structure AlS (w : World) (B X b1 b2 : Nat) (wr : World) (n1 n2 : Nat) (A L : VM) (v : Value) (l : List O3) : Prop where
  low : B ≤ wr.heap.size
  bel : Below B w wr
  all : MapV wr b1 n1 A
  fin : MapV wr b2 n2 L
  box : wr.heap[X]? = some (.cells #[.map (some b1), .map (some b2)] 96 (0, 0))
  row : wr.ownsRow B 33 3 v l.length (rowO (lf l) l.length)
theorem AlS.keep {w wr wr' : World} {B X b1 b2 n1 n2 : Nat} {A L : VM} {v : Value} {l : List O3} (h : AlS w B X b1 b2 wr n1 n2 A L v l) (hb : Below wr.heap.size wr wr') : AlS w B X b1 b2 wr' n1 n2 A L v l :=
  ⟨Nat.le_trans h.low hb.size, h.bel.trans (hb.mono h.low), h.all.below hb, h.fin.below hb, (hb.block _ (hlt_of h.box)).trans h.box, own_keep h.row fun g hg => hb.block g (h.row.lt g hg).2⟩
theorem AlS.push {w wr wr' : World} {B X b1 b2 n1 n2 : Nat} {A L : VM} {v v' : Value} {l : List O3} {x : O3} (h : AlS w B X b1 b2 wr n1 n2 A L v l)
    (ho : wr'.ownsRow B 33 3 v' (l.length + 1) (rowO (lf l) l.length ++ [.int .i64 x.k, .int .i64 x.key, .int .i64 x.v])) (hg : wr.grownBy wr' v.ownBlock) : AlS w B X b1 b2 wr' n1 n2 A L v' (l ++ [x]) := by
  have nm : ∀ {q : Nat}, (∃ es cl, wr.heap[q]? = some (.map es cl)) → some q ≠ v.ownBlock := fun {q} hm e => by
    obtain ⟨es, cl, hm⟩ := hm
    obtain ⟨cur, e1⟩ := own_cells h.row e.symm
    rw [hm] at e1; cases e1
  refine ⟨Nat.le_trans h.low hg.size, h.bel.grown hg h.low (fun q hq => (h.row.lt q hq).1), h.all.kept (hg.block _ h.all.lt (nm h.all.isMap)), h.fin.kept (hg.block _ h.fin.lt (nm h.fin.isMap)), (hg.block _ (hlt_of h.box) (fun e => ?_)).trans h.box, ?_⟩
  · obtain ⟨cur, e1⟩ := own_cells h.row e.symm
    rw [h.box] at e1
    injection e1 with e1
    injection e1 with _ e1 _
    cases e1
  · rw [List.length_append, List.length_singleton]
    have := rowO_snoc l x
    rw [List.length_append, List.length_singleton] at this
    rw [this]
    exact ho
theorem row_other {wr wr' : World} {B Bq n n' : Nat} {v u : Value} {xs ys : List Value} (h : wr.ownsRow Bq 44 3 u n xs) (hr : wr.ownsRow B 33 3 v n' ys) (hg : wr.grownBy wr' v.ownBlock) : wr'.ownsRow Bq 44 3 u n xs :=
  own_keep h fun g hg' => hg.block g (h.lt g hg').2 (fun e => by
    obtain ⟨c1, e1⟩ := own_cells h hg'
    obtain ⟨c2, e2⟩ := own_cells hr e.symm
    rw [e1] at e2
    injection e2 with e2
    injection e2 with _ e2 _
    cases e2)
def AlP (T : Nat → Tx) (m : Nat) (w : World) (e : Ending) (w' : World) : Prop :=
  ∃ sp cp, e = .returned (.slice sp (flL T m).length cp) ∧ w'.ownsRow w.heap.size 33 3 (.slice sp (flL T m).length cp) (flL T m).length (rowO (lf (flL T m)) (flL T m).length) ∧ Below w.heap.size w w'
end Go.Proofs.Yteobndfkkpfnlaa

namespace Go.Proofs.Yteobndfkkpfnlaa
open Go.ChangeShapes Go.WideShapes Go.ChangeAt Go.RowKit Go.Maps
set_option linter.unusedVariables false

theorem hwr67 : HWr 67 := hwrites_any
theorem flT_le (T : Nat → Tx) (m : Nat) (A L : VM) (h : ∀ j, j < m → (T j).n ≤ 100) : (flT A L T m).length ≤ 100 * m := by
  induction m with
  | zero => simp [flT]
  | succ m ih =>
    unfold flT
    rw [List.length_append]
    have h1 := ih fun j hj => h j (by omega)
    have h2 := flR_le A L T m (rdT (T m)) (rdT (T m)).length
    have h3 := rdT_le (T m)
    have h4 := h m (by omega)
    omega

set_option maxRecDepth 100000 in
set_option maxHeartbeats 4000000 in
theorem all_any (a : Option Addr) (m cap : Nat) (T : Nat → Tx) (w : World) (hs : TxS w a m T) (ok : TOk m T) :
    Calls Try.prog 16 #[.slice a m cap] w (AlP T m w) := by
  obtain ⟨i8, hi8, hx0, hx1, hx2⟩ := info_parts info33
  have HS := Lib.hid hs
  have HOK := Lib.hid ok
  have hm4 := ok.cnt
  have HCW := Lib.hid (writers_any hwr67 a m cap T w hs ok)
  have HPL := Lib.hid (allV_pl T m)
  clear hs ok
  go_enter Try.func16, Try.ntmps16
  go_wp2_with fail
  refine HCW.out.mono ?_
  rintro e w1 ⟨b1, b2, rfl, h1, h2, hb⟩
  have HM1 := Lib.hid h1
  have HM2 := Lib.hid h2
  have HB1 := Lib.hid hb
  clear h1 h2 hb HCW
  go_wp2
  obtain ⟨wx, ewx⟩ : ∃ wx, wx = w1.alloc (.cells #[.map (some b1), .map (some b2)] 96) := ⟨_, rfl⟩
  obtain ⟨X, eX⟩ : ∃ X, X = w1.heap.size := ⟨_, rfl⟩
  have HA0 : Hid (AlS w w.heap.size X b1 b2 wx (100 * m) (16 * m) (allV T m) (endV T m) (.slice none 0 0) (flT (allV T m) (endV T m) T 0)) := Lib.hid (by
    have hbx : Below w1.heap.size w1 wx := by rw [ewx]; exact (Below.refl _ _).alloc (Nat.le_refl _) _
    refine ⟨Nat.le_trans HB1.out.size hbx.size, HB1.out.trans (hbx.mono HB1.out.size), HM1.out.below hbx, HM2.out.below hbx, by rw [ewx, eX]; exact heap_alloc_new w1 _, World.ownsRow_nil _ _ _ _⟩)
  rw [← ewx, ← eX]
  clear ewx eX HB1 HM1 HM2
  have HFL : Hid (flL T m = flT (allV T m) (endV T m) T m) := Lib.hid rfl
  have HLE : Hid (∀ t, t ≤ m → (flT (allV T m) (endV T m) T t).length ≤ 100 * t) := Lib.hid fun t ht => flT_le T t _ _ fun j hj => HOK.out.n j (by omega)
  generalize allV T m = A at *
  generalize endV T m = L at *
  go_loopw [4, 5, 6, 7, 8, 9, 14] (fun vo _ _ _ _ _ x wr => ∃ (t : Nat) (spo : Option Addr) (cpo : Nat), t ≤ m ∧ x = .int .i64 (t : Int) ∧ vo = .slice spo (flT A L T t).length cpo ∧ Hid (AlS w w.heap.size X b1 b2 wr (100 * m) (16 * m) A L (.slice spo (flT A L T t).length cpo) (flT A L T t))) (fun _ _ _ _ _ _ x _ => m - (intOf x).toNat)
  case atStart => exact ⟨0, none, 0, Nat.zero_le _, rfl, rfl, HA0⟩
  case round =>
    obtain ⟨t, spo, cpo, ht, rfl, rfl, HT⟩ := hrel
    clear HA0
    by_cases hlt : t < m
    · obtain ⟨b, off, rfl, hbl, hci⟩ := HS.out (by omega)
      obtain ⟨sp, cp, c0, c1, c2, ho⟩ := hci t hlt
      have x0 := (HT.out.bel.cell (p := ⟨b, off + t * 3, none⟩) hbl).trans c0
      have x1 := (HT.out.bel.cell (p := ⟨b, off + t * 3 + 1, none⟩) hbl).trans c1
      have x2 := (HT.out.bel.cell (p := ⟨b, off + t * 3 + 2, none⟩) hbl).trans c2
      have hlt' : (t : Int) < (m : Int) := by omega
      have hn1 := HOK.out.n t hlt
      have HKR := Lib.hid (HOK.out.key t hlt)
      have HVR := Lib.hid (HOK.out.val t hlt)
      have HOPB := Lib.hid ho
      have HNX : Hid (flT A L T (t + 1) = flT A L T t ++ flR A L T t (rdT (T t)) (rdT (T t)).length) := Lib.hid rfl
      have hfle := HLE.out t ht
      have HRD : Hid (rdT (T t) = if (T t).st = 1 then rd (T t).o (T t).n else []) := Lib.hid rfl
      have hrle := rdT_le (T t)
      have HKL := Lib.hid (fun (j : Nat) (hj : j < (rdT (T t)).length) => rdT_in (P := fun o => 0 ≤ o.key ∧ o.key ≤ 15) HKR.out hj)
      have HVL := Lib.hid (fun (j : Nat) (hj : j < (rdT (T t)).length) => rdT_in (P := fun o => In64 o.v) HVR.out hj)
      clear c0 c1 c2 ho hci
      generalize rdT (T t) = rs at *
      generalize (T t).c = tc at *
      generalize (T t).st = tst at *
      generalize (T t).n = tn at *
      generalize (T t).o = to_ at *
      generalize flT A L T t = fl at *
      obtain ⟨wx, ewx⟩ : ∃ wx, wx = wr.alloc (.cells #[.int .i64 tc, .int .i64 tst, .slice sp tn cp] 47) := ⟨_, rfl⟩
      have hbx : Below wr.heap.size wr wx := by rw [ewx]; exact (Below.refl _ _).alloc (Nat.le_refl _) _
      have HWX := Lib.hid (HT.out.keep hbx)
      have HCR := Lib.hid (hreads_any tc tst sp tn cp to_ wx (by omega) HKR.out HVR.out ((HOPB.out.below HT.out.bel).below hbx))
      rw [← HRD.out] at HCR
      clear hbx HT
      go_wp2_with fail
      rw [← ewx]
      refine HCR.out.mono ?_
      rintro e w5 ⟨sp2, cp2, rfl, ho2, hb2⟩
      obtain ⟨Q, eQ⟩ : ∃ Q, Q = wr.heap.size := ⟨_, rfl⟩
      obtain ⟨Bq, eBq⟩ : ∃ Bq, Bq = wx.heap.size := ⟨_, rfl⟩
      rw [← eBq] at ho2
      rw [← eQ]
      have HA1 : Hid (AlS w w.heap.size X b1 b2 w5 (100 * m) (16 * m) A L (.slice spo (fl ++ flR A L T t rs 0).length cpo) (fl ++ flR A L T t rs 0) ∧ w5.ownsRow Bq 44 3 (.slice sp2 rs.length cp2) rs.length (rowO (lf rs) rs.length)) := Lib.hid (by
        rw [show fl ++ flR A L T t rs 0 = fl from List.append_nil _]
        exact ⟨HWX.out.keep hb2, ho2⟩)
      have hf0 : (fl ++ flR A L T t rs 0).length = fl.length := by rw [show fl ++ flR A L T t rs 0 = fl from List.append_nil _]
      clear ewx eQ eBq ho2 hb2 HCR HWX x0 x1 x2 HOPB HKR HVR HRD
      go_wp2
      go_loopw [4, 7, 8, 9, 22] (fun vo _ _ _ x ws => ∃ (j nl : Nat) (spo : Option Addr) (cpo : Nat), j ≤ rs.length ∧ nl ≤ fl.length + j ∧ x = .int .i64 (j : Int) ∧ vo = .slice spo nl cpo ∧ Hid (nl = (fl ++ flR A L T t rs j).length ∧ AlS w w.heap.size X b1 b2 ws (100 * m) (16 * m) A L (.slice spo nl cpo) (fl ++ flR A L T t rs j) ∧ ws.ownsRow Bq 44 3 (.slice sp2 rs.length cp2) rs.length (rowO (lf rs) rs.length))) (fun _ _ _ _ x _ => rs.length - (intOf x).toNat)
      case atStart => exact ⟨0, fl.length, spo, cpo, Nat.zero_le _, by omega, rfl, rfl, Lib.hid ⟨hf0.symm, by rw [← hf0]; exact HA1.out.1, HA1.out.2⟩⟩
      case round =>
        obtain ⟨j, nl, spo, cpo, hj, hnl, rfl, rfl, HJ⟩ := hrel
        clear HA1 hf0
        have HAJ := Lib.hid HJ.out.2.1
        have HRJ := Lib.hid HJ.out.2.2
        have HNL := Lib.hid HJ.out.1
        clear HJ
        by_cases hjl : j < rs.length
        · obtain ⟨b3, off3, e3, hb3, hc3⟩ := (own38_ops HRJ.out) (by omega)
          subst e3
          obtain ⟨d0, d1, d2⟩ := hc3 j hjl
          have hjl' : (j : Int) < (rs.length : Int) := by omega
          have hkr := HKL.out j hjl
          have hvr := HVL.out j hjl
          have HFR : Hid (flR A L T t rs (j + 1) = if flK A L T (t : Int) (lf rs j) = 0 then flR A L T t rs j else flR A L T t rs j ++ [⟨(t : Int), (j : Int), flK A L T (t : Int) (lf rs j)⟩]) := Lib.hid rfl
          clear hc3
          generalize flR A L T t rs j = fr at *
          generalize lf rs j = oj at *
          obtain ⟨ok, okey, ov⟩ := oj
          dsimp only at d0 d1 d2 hkr hvr
          obtain ⟨wy, ewy⟩ : ∃ wy, wy = wr.alloc (.cells #[.int .i64 ok, .int .i64 okey, .int .i64 ov] 44) := ⟨_, rfl⟩
          have hwx : Below wr.heap.size wr wy := by rw [ewy]; exact (Below.refl _ _).alloc (Nat.le_refl _) _
          have HAY := Lib.hid (HAJ.out.keep hwx)
          have HRY := Lib.hid (own_keep HRJ.out fun g hg => hwx.block g (HRJ.out.lt g hg).2)
          obtain ⟨y0, y1⟩ := cells2 HAY.out.box
          rw [ewy] at y0 y1
          have HCF := Lib.hid (flaw_any b1 b2 (100 * m) (16 * m) A L (some ⟨b, off, none⟩) m cap T (t : Int) ok okey ov wy (HS.out.below HAY.out.bel) HAY.out.all HAY.out.fin HPL.out hm4 (by unfold In64; omega) hvr (by unfold In64; omega))
          clear hwx HAJ HRJ
          generalize flK A L T (t : Int) ⟨ok, okey, ov⟩ = kk at *
          go_wp2_with fail
          rw [← ewy]
          refine HCF.out.mono ?_
          rintro e w6 ⟨rfl, hb6⟩
          have HA6 := Lib.hid (HAY.out.keep hb6)
          have HR6 := Lib.hid (own_keep HRY.out fun g hg => hb6.block g (HRY.out.lt g hg).2)
          obtain ⟨P, eP⟩ : ∃ P, P = wr.heap.size := ⟨_, rfl⟩
          rw [← eP]
          clear ewy eP hb6 HCF HAY HRY y0 y1 d0 d1 d2
          by_cases hkk : kk = 0
          · subst hkk
            rw [if_pos rfl] at HFR
            go_wp2
            go_roundw
            case rel => exact ⟨j + 1, nl, spo, cpo, by omega, by omega, by go_num, rfl, Lib.hid ⟨by rw [HFR.out]; exact HNL.out, by rw [HFR.out]; exact HA6.out, HR6.out⟩⟩
            case measure => simp [intOf]; omega
          · rw [if_neg hkk] at HFR
            have hkb : (kk != 0) = true := bne_iff_ne.2 hkk
            have HNW : Hid (∀ (W : World) (i : Nat) (z : Value), [Value.int .i64 (t : Int), .int .i64 (j : Int), .int .i64 kk][i]? = some z → (W.alloc (.cells #[.int .i64 (t : Int), .int .i64 (j : Int), .int .i64 kk] 33)).cell? ((⟨W.heap.size, 0, none⟩ : Addr).add i) = some z) := Lib.hid fun W i z hj => by
              rw [Go.WideShapes.add_plain, cell_of_row _ _ _ _ 33 (0, 0) (heap_alloc_new W _), Nat.zero_add]
              simpa using hj
            have hwx : Below w6.heap.size w6 (w6.alloc (.cells #[.int .i64 (t : Int), .int .i64 (j : Int), .int .i64 kk] 33)) := (Below.refl _ _).alloc (Nat.le_refl _) _
            have HA7 := Lib.hid (HA6.out.keep hwx)
            have HR7 := Lib.hid (own_keep HR6.out fun g hg => hwx.block g (HR6.out.lt g hg).2)
            have HRW := HA7.out.row
            rw [← HNL.out] at HRW
            have HRW := Lib.hid HRW
            clear hwx
            go_wp2_with (at_builtin; refine wpList_append_lies _ rfl _ _ 28 rfl w.heap.size 33 i8 (.agg #[.int .i64 0, .int .i64 0, .int .i64 0]) 3 24 Try.underlying28 hi8 hx0 hx1 hx2 rfl (by decide) _ nl _ rfl HRW.out ⟨w6.heap.size, 0, none⟩ 1 1 [.int .i64 (t : Int), .int .i64 (j : Int), .int .i64 kk] rfl rfl (HNW.out _) (by intro u hu; simp at hu; rcases hu with rfl | rfl | rfl <;> rfl) (by omega) (by unfold maxLen; omega) (by omega) HA7.out.low _ rfl ?_)
            intro g7 c7 w7 ho7 hg7 hat7 hl7
            have HR8 := Lib.hid (row_other HR7.out HRW.out hg7)
            have HA8 : Hid (AlS w w.heap.size X b1 b2 w7 (100 * m) (16 * m) A L (.slice (some ⟨g7, 0, none⟩) (nl + 1) c7) (fl ++ flR A L T t rs (j + 1))) := Lib.hid (by
              rw [HFR.out, ← List.append_assoc]
              refine HA7.out.push (x := ⟨(t : Int), (j : Int), kk⟩) ?_ hg7
              rw [← HNL.out]
              exact ho7)
            have HN8 : Hid (nl + 1 = (fl ++ flR A L T t rs (j + 1)).length) := Lib.hid (by
              rw [HFR.out, ← List.append_assoc, List.length_append, List.length_singleton, ← HNL.out])
            clear ho7 hg7 hat7 HRW HNW
            go_wp2
            go_roundw
            case rel => exact ⟨j + 1, nl + 1, some ⟨g7, 0, none⟩, c7, by omega, by omega, by go_num, rfl, Lib.hid ⟨HN8.out, HA8.out, HR8.out⟩⟩
            case measure => simp [intOf]; omega
        · obtain rfl : j = rs.length := by omega
          have HLN : Hid (nl = (flT A L T (t + 1)).length) := Lib.hid (by rw [HNX.out]; exact HNL.out)
          have HAN : Hid (AlS w w.heap.size X b1 b2 wr (100 * m) (16 * m) A L (.slice spo nl cpo) (flT A L T (t + 1))) := Lib.hid (by rw [HNX.out]; exact HAJ.out)
          clear HAJ HRJ HNL HNX
          obtain rfl : nl = (flT A L T (t + 1)).length := HLN.out
          go_wp2
          go_roundw
          case rel => exact ⟨t + 1, spo, cpo, by omega, by go_num, rfl, HAN⟩
          case measure => simp [intOf]; omega
    · obtain rfl : t = m := by omega
      go_wp2
      go_ret
      refine ⟨spo, cpo, ?_, ?_, HT.out.bel⟩
      · rw [HFL.out]; rfl
      · rw [HFL.out]; exact HT.out.row
end Go.Proofs.Yteobndfkkpfnlaa

namespace Go.Proofs.Yteobndfkkpfnlaa
open Go.ChangeShapes Go.WideShapes Go.ChangeAt Go.RowKit Go.Maps
set_option linter.unusedVariables false

def rowW (V : Nat → Value) (N : Nat) : List Value := (List.range N).map V
theorem rowW_length (V : Nat → Value) (N : Nat) : (rowW V N).length = N := by unfold rowW; simp
theorem rowW_get (V : Nat → Value) (N i : Nat) (h : i < N) : (rowW V N)[i]? = some (V i) := by unfold rowW; simp [h]
theorem rowW_set (V : Nat → Value) (N i : Nat) (u : Value) : (rowW V N).set i u = rowW (fun x => if x = i then u else V x) N := by
  apply List.ext_getElem?
  intro j
  by_cases hj : j < N
  · rw [List.getElem?_set, rowW_length, rowW_get _ _ _ hj, rowW_get _ _ _ hj]
    by_cases h : i = j
    · subst h; rw [if_pos rfl, if_pos hj, if_pos rfl]
    · rw [if_neg h, if_neg (fun e => h e.symm)]
  · rw [List.getElem?_eq_none (by rw [List.length_set, rowW_length]; omega), List.getElem?_eq_none (by rw [rowW_length]; omega)]
/-- bools as cells -/
def rowB (M : Nat → Bool) (N : Nat) : List Value := rowW (fun i => .bool (M i)) N
theorem rowB_set (M : Nat → Bool) (N i : Nat) (u : Bool) : (rowB M N).set i (.bool u) = rowB (fun x => if x = i then u else M x) N := by
  unfold rowB
  rw [rowW_set]
  unfold rowW
  apply List.map_congr_left
  intro x _
  by_cases h : x = i
  · show _ = Value.bool (if x = i then u else M x)
    rw [if_pos h, if_pos h]
  · show _ = Value.bool (if x = i then u else M x)
    rw [if_neg h, if_neg h]
theorem made_bools (N : Nat) : (madeCells #[Value.bool false] N).toList = rowB (fun _ => false) N := by
  rw [toList_madeCells_one]; unfold rowB rowW; rw [List.map_const', List.length_range]
/-- a row of bools of our own -/
def MetS (w : World) (base g N : Nat) (M : Nat → Bool) : Prop := w.ownsRow base 4 1 (.slice (some ⟨g, 0, none⟩) N N) N (rowB M N)
theorem MetS.made {w : World} {base N : Nat} (hN : N ≤ 400) (hb : base ≤ w.heap.size) : MetS (w.alloc (.cells (madeCells #[.bool false] N) 4)) base w.heap.size N (fun _ => false) :=
  ⟨by unfold rowB; rw [rowW_length]; omega, .inr ⟨w.heap.size, N, _, rfl, hb, heap_alloc_new _ _, Nat.le_refl _, by unfold maxLen; omega, by rw [size_madeCells]; omega, by rw [made_bools, List.take_of_length_le]; unfold rowB; rw [rowW_length]; omega⟩⟩
theorem MetS.cell {w : World} {base g N : Nat} {M : Nat → Bool} (h : MetS w base g N M) {i : Nat} (hi : i < N) : w.cell? ⟨g, i, none⟩ = some (.bool (M i)) :=
  (World.ownsRow.cellAt h i (by omega)).trans (rowW_get _ _ _ hi)
theorem MetS.fz {w : World} {base g N : Nat} {M : Nat → Bool} (h : MetS w base g N M) (i : Nat) : w.frozen? ⟨g, i, none⟩ = false := World.ownsRow.frozenAt h i
theorem MetS.set {w : World} {base g N : Nat} {M : Nat → Bool} (h : MetS w base g N M) (i : Nat) (u : Bool) : MetS (w.setCell ⟨g, i, none⟩ (.bool u)) base g N (fun x => if x = i then u else M x) := by
  have := (World.ownsRow.stored h i (.bool u)).1
  rw [rowB_set] at this
  exact this
theorem MetS.lt {w : World} {base g N : Nat} {M : Nat → Bool} (h : MetS w base g N M) : base ≤ g ∧ g < w.heap.size := World.ownsRow.lt h g rfl
theorem MetS.keep {w w' : World} {base g N : Nat} {M : Nat → Bool} (h : MetS w base g N M) (hk : w'.heap[g]? = w.heap[g]?) : MetS w' base g N M :=
  own_keep h fun q e => by
    have : g = q := Option.some.inj e
    rw [← this]; exact hk


theorem info4 : (Try.prog.info? 4).map (fun i => (i.zero, i.size, i.bytes)) = some (some (.bool false), 1, 1) := by kernel_rfl
theorem makeB (M : Nat) (hM : M ≤ 1000000) (mc : Array Value) (hmc : mc = madeCells #[.bool false] M) (w : World) :
    (Instr.makeSlice 35 (.int .i64 (M : Int)) (.int .i64 (M : Int))).run Try.prog w = .ok (.slice (some ⟨w.heap.size, 0, none⟩) M M) (w.alloc (.cells mc 4)) := by
  subst hmc
  exact run_make_row' (P := Try.prog) 35 4 (.bool false) 1 Try.underlying35 info4 rfl .i64 .i64 M (by omega) (by omega) w


/-- one is done -/
def setB (S : Nat → Bool) (i : Nat) : Nat → Bool := fun x => if x = i then true else S x
def suR (A : VM) (T : Nat → Tx) (rs : List O3) (S : Nat → Bool) : Nat → (Nat → Bool)
  | 0 => S
  | i + 1 => match A (lf rs i).key (lf rs i).v with
    | none => suR A T rs S i
    | some x => if (T x.toNat).st = 0 then setB (suR A T rs S i) x.toNat else suR A T rs S i
def suT (A : VM) (T : Nat → Tx) : Nat → (Nat → Bool)
  | 0 => fun _ => false
  | t + 1 => if (T t).st = 1 then suR A T (rdT (T t)) (setB (suT A T t) t) (rdT (T t)).length else suT A T t
def suL (T : Nat → Tx) (m : Nat) : Nat → Bool := suT (allV T m) T m
/-- Sure's memory -/
structure SuS (w : World) (B X b1 b2 g m : Nat) (wr : World) (n1 : Nat) (A : VM) (S : Nat → Bool) : Prop where
  low : B ≤ wr.heap.size
  bel : Below B w wr
  all : MapV wr b1 n1 A
  box : wr.heap[X]? = some (.cells #[.map (some b1), .map (some b2)] 96 (0, 0))
  met : MetS wr B g m S
section
variable {w wr wr' : World} {B X b1 b2 g m n1 : Nat} {A : VM} {S : Nat → Bool}
theorem SuS.keep (h : SuS w B X b1 b2 g m wr n1 A S) (hb : Below wr.heap.size wr wr') : SuS w B X b1 b2 g m wr' n1 A S :=
  ⟨Nat.le_trans h.low hb.size, h.bel.trans (hb.mono h.low), h.all.below hb, (hb.block _ (hlt_of h.box)).trans h.box, h.met.keep (hb.block _ h.met.lt.2)⟩
theorem MetS.isCells (h : MetS wr B g m S) : ∃ cur, wr.heap[g]? = some (.cells cur 4 (0, 0)) := own_cells h rfl
theorem SuS.set (h : SuS w B X b1 b2 g m wr n1 A S) (i : Nat) : SuS w B X b1 b2 g m (wr.setCell ⟨g, i, none⟩ (.bool true)) n1 A (setB S i) := by
  obtain ⟨cur, hc⟩ := h.met.isCells
  refine ⟨by simpa [World.setCell] using h.low, h.bel.setCell (p := ⟨g, i, none⟩) h.met.lt.1 _, h.all.kept (heap_setCell_other _ _ _ _ (fun e => ?_)), (heap_setCell_other _ _ _ _ (fun e => ?_)).trans h.box, h.met.set i true⟩
  · obtain ⟨es, cl, e1⟩ := h.all.isMap
    dsimp only at e
    rw [e, hc] at e1; cases e1
  · have e1 := h.box
    dsimp only at e
    rw [e, hc] at e1
    injection e1 with e1
    injection e1 with _ e1 _
    cases e1
theorem row_setB {Bq n i : Nat} {u : Value} {xs : List Value} (h : wr.ownsRow Bq 44 3 u n xs) (hm : MetS wr B g m S) : (wr.setCell ⟨g, i, none⟩ (.bool true)).ownsRow Bq 44 3 u n xs :=
  own_keep h fun q hq => heap_setCell_other _ _ _ _ (fun e => by
    obtain ⟨c1, e1⟩ := own_cells h hq
    obtain ⟨c2, e2⟩ := hm.isCells
    dsimp only at e
    rw [e, e2] at e1
    injection e1 with e1
    injection e1 with _ e1 _
    cases e1)
end
def SuP (T : Nat → Tx) (m : Nat) (w : World) (e : Ending) (w' : World) : Prop :=
  ∃ g, e = .returned (.slice (some ⟨g, 0, none⟩) m m) ∧ MetS w' w.heap.size g m (suL T m) ∧ Below w.heap.size w w'
end Go.Proofs.Yteobndfkkpfnlaa

namespace Go.Proofs.Yteobndfkkpfnlaa
open Go.ChangeShapes Go.WideShapes Go.ChangeAt Go.RowKit Go.Maps
set_option linter.unusedVariables false

set_option maxRecDepth 100000 in
set_option maxHeartbeats 4000000 in
theorem sure_any (a : Option Addr) (m cap : Nat) (T : Nat → Tx) (w : World) (hs : TxS w a m T) (ok : TOk m T) :
    Calls Try.prog 18 #[.slice a m cap] w (SuP T m w) := by
  have HS := Lib.hid hs
  have HOK := Lib.hid ok
  have hm4 := ok.cnt
  have HCW := Lib.hid (writers_any hwr67 a m cap T w hs ok)
  have HPL := Lib.hid (allV_pl T m)
  obtain ⟨mc, hmc⟩ : ∃ mc, mc = madeCells #[.bool false] m := ⟨_, rfl⟩
  have hmk := makeB m (by omega) mc hmc
  have HMC := Lib.hid hmc
  clear hs ok hmc
  go_enter Try.func18, Try.ntmps18
  go_wp2_with fail
  refine HCW.out.mono ?_
  rintro e w1 ⟨b1, b2, rfl, h1, _, hb⟩
  have HM1 := Lib.hid h1
  have HB1 := Lib.hid hb
  clear h1 hb HCW
  go_wp2
  obtain ⟨wx, ewx⟩ : ∃ wx, wx = w1.alloc (.cells #[.map (some b1), .map (some b2)] 96) := ⟨_, rfl⟩
  obtain ⟨wy, ewy⟩ : ∃ wy, wy = wx.alloc (.cells mc 4) := ⟨_, rfl⟩
  obtain ⟨X, eX⟩ : ∃ X, X = w1.heap.size := ⟨_, rfl⟩
  obtain ⟨g, eg⟩ : ∃ g, g = X + 1 := ⟨_, rfl⟩
  have HA0 : Hid (SuS w w.heap.size X b1 b2 g m wy (100 * m) (allV T m) (suT (allV T m) T 0)) := Lib.hid (by
    have hbx : Below w1.heap.size w1 wx := by rw [ewx]; exact (Below.refl _ _).alloc (Nat.le_refl _) _
    have hby : Below wx.heap.size wx wy := by rw [ewy]; exact (Below.refl _ _).alloc (Nat.le_refl _) _
    have hbw := HB1.out.trans (hbx.mono HB1.out.size)
    have hX : wx.heap[X]? = some (.cells #[.map (some b1), .map (some b2)] 96 (0, 0)) := by rw [ewx, eX]; exact heap_alloc_new w1 _
    refine ⟨Nat.le_trans HB1.out.size (Nat.le_trans hbx.size hby.size), hbw.trans (hby.mono hbw.size), (HM1.out.below hbx).below hby, (hby.block _ (hlt_of hX)).trans hX, ?_⟩
    rw [ewy, show g = wx.heap.size by rw [eg, eX, ewx]; simp, HMC.out]
    exact MetS.made (by omega) hbw.size)
  rw [← ewx, ← ewy, ← eX, ← eg]
  clear ewx ewy eX eg HB1 HM1 hmk HMC
  have HFL : Hid (suL T m = suT (allV T m) T m) := Lib.hid rfl
  generalize allV T m = A at *
  go_loopw [5, 6, 8, 9, 10, 18] (fun _ _ _ _ _ x wr => ∃ t : Nat, t ≤ m ∧ x = .int .i64 (t : Int) ∧ Hid (SuS w w.heap.size X b1 b2 g m wr (100 * m) A (suT A T t))) (fun _ _ _ _ _ x _ => m - (intOf x).toNat)
  case atStart => exact ⟨0, Nat.zero_le _, rfl, HA0⟩
  case round =>
    obtain ⟨t, ht, rfl, HT⟩ := hrel
    clear HA0
    by_cases hlt : t < m
    · obtain ⟨b, off, rfl, hbl, hci⟩ := HS.out (by omega)
      have HCI := Lib.hid hci
      obtain ⟨sp, cp, c0, c1, c2, ho⟩ := hci t hlt
      have x0 := (HT.out.bel.cell (p := ⟨b, off + t * 3, none⟩) hbl).trans c0
      have x1 := (HT.out.bel.cell (p := ⟨b, off + t * 3 + 1, none⟩) hbl).trans c1
      have x2 := (HT.out.bel.cell (p := ⟨b, off + t * 3 + 2, none⟩) hbl).trans c2
      have hlt' : (t : Int) < (m : Int) := by omega
      have hn1 := HOK.out.n t hlt
      have HKR := Lib.hid (HOK.out.key t hlt)
      have HVR := Lib.hid (HOK.out.val t hlt)
      have HOPB := Lib.hid ho
      have HNX : Hid (suT A T (t + 1) = if (T t).st = 1 then suR A T (rdT (T t)) (setB (suT A T t) t) (rdT (T t)).length else suT A T t) := Lib.hid rfl
      have HRD : Hid (rdT (T t) = if (T t).st = 1 then rd (T t).o (T t).n else []) := Lib.hid rfl
      have hrle := rdT_le (T t)
      have HKL := Lib.hid (fun (j : Nat) (hj : j < (rdT (T t)).length) => rdT_in (P := fun o => 0 ≤ o.key ∧ o.key ≤ 15) HKR.out hj)
      have HVL := Lib.hid (fun (j : Nat) (hj : j < (rdT (T t)).length) => rdT_in (P := fun o => In64 o.v) HVR.out hj)
      clear c0 c1 c2 ho hci
      generalize rdT (T t) = rs at *
      generalize (T t).c = tc at *
      generalize (T t).st = tst at *
      generalize (T t).n = tn at *
      generalize (T t).o = to_ at *
      generalize suT A T t = S at *
      by_cases hst : tst = 1
      · subst hst
        rw [if_pos rfl] at HNX HRD
        obtain ⟨wx, ewx⟩ : ∃ wx, wx = (wr.setCell ⟨g, t, none⟩ (.bool true)).alloc (.cells #[.int .i64 tc, .int .i64 1, .slice sp tn cp] 47) := ⟨_, rfl⟩
        have hfz := HT.out.met.fz t
        have hcl := HT.out.met.cell hlt
        have hgl : g < wr.heap.size := HT.out.met.lt.2
        have HWX : Hid (SuS w w.heap.size X b1 b2 g m wx (100 * m) A (setB S t)) := Lib.hid (by
          rw [ewx]
          exact (HT.out.set t).keep ((Below.refl _ _).alloc (Nat.le_refl _) _))
        have HCR := Lib.hid (hreads_any tc 1 sp tn cp to_ wx (by omega) HKR.out HVR.out (HOPB.out.below HWX.out.bel))
        rw [if_pos rfl, ← HRD.out] at HCR
        clear HT
        go_wp2_with fail
        rw [← ewx]
        refine HCR.out.mono ?_
        rintro e w5 ⟨sp2, cp2, rfl, ho2, hb2⟩
        obtain ⟨Q, eQ⟩ : ∃ Q, Q = wr.heap.size := ⟨_, rfl⟩
        obtain ⟨Bq, eBq⟩ : ∃ Bq, Bq = wx.heap.size := ⟨_, rfl⟩
        rw [← eBq] at ho2
        rw [← eQ]
        have HA1 : Hid (SuS w w.heap.size X b1 b2 g m w5 (100 * m) A (suR A T rs (setB S t) 0) ∧ w5.ownsRow Bq 44 3 (.slice sp2 rs.length cp2) rs.length (rowO (lf rs) rs.length)) := Lib.hid ⟨HWX.out.keep hb2, ho2⟩
        clear ewx eQ eBq ho2 hb2 HCR HWX x0 x1 x2 HOPB HKR HVR HRD hfz hcl hgl
        go_wp2
        go_loopw [8, 9, 10, 32] (fun _ _ _ x ws => ∃ j : Nat, j ≤ rs.length ∧ x = .int .i64 (j : Int) ∧ Hid (SuS w w.heap.size X b1 b2 g m ws (100 * m) A (suR A T rs (setB S t) j) ∧ ws.ownsRow Bq 44 3 (.slice sp2 rs.length cp2) rs.length (rowO (lf rs) rs.length))) (fun _ _ _ x _ => rs.length - (intOf x).toNat)
        case atStart => exact ⟨0, Nat.zero_le _, rfl, HA1⟩
        case round =>
          obtain ⟨j, hj, rfl, HJ⟩ := hrel
          clear HA1
          have HAJ := Lib.hid HJ.out.1
          have HRJ := Lib.hid HJ.out.2
          clear HJ
          by_cases hjl : j < rs.length
          · obtain ⟨b3, off3, e3, hb3, hc3⟩ := (own38_ops HRJ.out) (by omega)
            subst e3
            obtain ⟨d0, d1, d2⟩ := hc3 j hjl
            have hjl' : (j : Int) < (rs.length : Int) := by omega
            have hkr := HKL.out j hjl
            have hvr := HVL.out j hjl
            have HFR : Hid (suR A T rs (setB S t) (j + 1) = match A (lf rs j).key (lf rs j).v with
              | none => suR A T rs (setB S t) j
              | some x => if (T x.toNat).st = 0 then setB (suR A T rs (setB S t) j) x.toNat else suR A T rs (setB S t) j) := Lib.hid rfl
            clear hc3
            generalize suR A T rs (setB S t) j = fr at *
            generalize lf rs j = oj at *
            obtain ⟨ok, okey, ov⟩ := oj
            dsimp only at d0 d1 d2 hkr hvr HFR
            obtain ⟨wy, ewy⟩ : ∃ wy, wy = wr.alloc (.cells #[.int .i64 ok, .int .i64 okey, .int .i64 ov] 44) := ⟨_, rfl⟩
            have hwx : Below wr.heap.size wr wy := by rw [ewy]; exact (Below.refl _ _).alloc (Nat.le_refl _) _
            have HAY := Lib.hid (HAJ.out.keep hwx)
            have HRY := Lib.hid (own_keep HRJ.out fun g hg => hwx.block g (HRJ.out.lt g hg).2)
            obtain ⟨P, eP⟩ : ∃ P, P = wr.heap.size := ⟨_, rfl⟩
            have HPP : Hid (wy.heap[P]? = some (.cells #[.int .i64 ok, .int .i64 okey, .int .i64 ov] 44 (0, 0))) := Lib.hid (by rw [ewy, eP]; exact heap_alloc_new wr _)
            have hb00 : Below wy.heap.size wy wy := Below.refl _ _
            have hB0 : Below wy.heap.size wy wy.drew := (Below.refl _ _).drew
            have HKK : Hid (∀ W, Below wy.heap.size wy W → W.cell? ⟨X, 0, none⟩ = some (.map (some b1)) ∧ W.cell? ⟨P, 0, none⟩ = some (.int .i64 ok) ∧ W.cell? ⟨P, 1, none⟩ = some (.int .i64 okey) ∧ W.cell? ⟨P, 2, none⟩ = some (.int .i64 ov)) := Lib.hid fun W hb => ⟨(cells2 ((hb.block _ (hlt_of HAY.out.box)).trans HAY.out.box)).1, (cells3 ((hb.block _ (hlt_of HPP.out)).trans HPP.out)).1⟩
            have hk64 : In64 okey := by unfold In64; omega
            go_wp2
            rw [← ewy, ← eP]
            clear ewy eP hwx HAJ HRJ d0 d1 d2
            cases hA : A okey ov with
            | none =>
              rw [hA] at HFR
              dsimp only at HFR
              go_region_held3 (fun W => W.cell? ⟨X, 0, none⟩ = some (.map (some b1)) ∧ W.cell? ⟨P, 0, none⟩ = some (.int .i64 ok) ∧ W.cell? ⟨P, 1, none⟩ = some (.int .i64 okey) ∧ W.cell? ⟨P, 2, none⟩ = some (.int .i64 ov))
                (first | exact HKK.out _ hb00 | exact HKK.out _ hB0 | exact HKK.out _ hB6)
                (first
                  | (go_at_call 49; refine (version_any _ _ _ _).mono ?_; rintro e w6 ⟨rfl, hb6⟩; have hB6 : Below wy.heap.size wy w6 := hB0.trans hb6; have hlook := (HAY.out.all.below hB6).look okey ov hk64 hvr; rw [hA] at hlook; simp only [Option.getD_none, Option.isSome_none] at hlook))
              have HA6 := Lib.hid (HAY.out.keep hB6)
              have HR6 := Lib.hid (own_keep HRY.out fun g hg => hB6.block g (HRY.out.lt g hg).2)
              clear hlook hB6 hb6 hB0 hb00 HKK
              go_wp2
              go_roundw
              case rel => exact ⟨j + 1, by omega, by go_num, Lib.hid ⟨by rw [HFR.out]; exact HA6.out, HR6.out⟩⟩
              case measure => simp [intOf]; omega
            | some x =>
              rw [hA] at HFR
              dsimp only at HFR
              obtain ⟨i, hi, rfl⟩ := HPL.out _ _ _ hA
              rw [Int.toNat_natCast] at HFR
              go_region_held3 (fun W => W.cell? ⟨X, 0, none⟩ = some (.map (some b1)) ∧ W.cell? ⟨P, 0, none⟩ = some (.int .i64 ok) ∧ W.cell? ⟨P, 1, none⟩ = some (.int .i64 okey) ∧ W.cell? ⟨P, 2, none⟩ = some (.int .i64 ov))
                (first | exact HKK.out _ hb00 | exact HKK.out _ hB0 | exact HKK.out _ hB6)
                (first
                  | (go_at_call 49; refine (version_any _ _ _ _).mono ?_; rintro e w6 ⟨rfl, hb6⟩; have hB6 : Below wy.heap.size wy w6 := hB0.trans hb6; have hlook := (HAY.out.all.below hB6).look okey ov hk64 hvr; rw [hA] at hlook; simp only [Option.getD_some, Option.isSome_some] at hlook))
              have HA6 := Lib.hid (HAY.out.keep hB6)
              have HR6 := Lib.hid (own_keep HRY.out fun g hg => hB6.block g (HRY.out.lt g hg).2)
              clear hlook hB6 hb6 hB0 hb00 HKK
              obtain ⟨sp9, cp9, c0, c1, c2, ho9⟩ := HCI.out i hi
              have x1 := (HA6.out.bel.cell (p := ⟨b, off + i * 3 + 1, none⟩) hbl).trans c1
              have him : (i : Int) < (m : Int) := by omega
              clear c0 c1 c2 ho9
              generalize (T i).st = ist at *
              by_cases h0 : ist = 0
              · subst h0
                rw [if_pos rfl] at HFR
                have hfz := HA6.out.met.fz i
                have hcl := HA6.out.met.cell hi
                have HA7 := Lib.hid (HA6.out.set i)
                have HR7 := Lib.hid (row_setB (i := i) HR6.out HA6.out.met)
                go_wp2
                go_roundw
                case rel => exact ⟨j + 1, by omega, by go_num, Lib.hid ⟨by rw [HFR.out]; exact HA7.out, HR7.out⟩⟩
                case measure => simp [intOf]; omega
              · rw [if_neg h0] at HFR
                have h0b : (ist == 0) = false := beq_eq_false_iff_ne.2 h0
                go_wp2
                go_roundw
                case rel => exact ⟨j + 1, by omega, by go_num, Lib.hid ⟨by rw [HFR.out]; exact HA6.out, HR6.out⟩⟩
                case measure => simp [intOf]; omega
          · obtain rfl : j = rs.length := by omega
            have HAN : Hid (SuS w w.heap.size X b1 b2 g m wr (100 * m) A (suT A T (t + 1))) := Lib.hid (by rw [HNX.out]; exact HAJ.out)
            clear HAJ HRJ HNX
            go_wp2
            go_roundw
            case rel => exact ⟨t + 1, by omega, by go_num, HAN⟩
            case measure => simp [intOf]; omega
      · have hsb : (tst != 1) = true := bne_iff_ne.2 hst
        rw [if_neg hst] at HNX
        have HAN : Hid (SuS w w.heap.size X b1 b2 g m (wr.alloc (.cells #[.int .i64 tc, .int .i64 tst, .slice sp tn cp] 47)) (100 * m) A (suT A T (t + 1))) := Lib.hid (by rw [HNX.out]; exact HT.out.keep ((Below.refl _ _).alloc (Nat.le_refl _) _))
        go_wp2
        go_roundw
        case rel => exact ⟨t + 1, by omega, by go_num, HAN⟩
        case measure => simp [intOf]; omega
    · obtain rfl : t = m := by omega
      go_wp2
      go_ret
      refine ⟨g, rfl, ?_, HT.out.bel⟩
      rw [HFL.out]; exact HT.out.met
end Go.Proofs.Yteobndfkkpfnlaa

namespace Go.Proofs.Yteobndfkkpfnlaa
open Go.ChangeShapes Go.WideShapes Go.ChangeAt Go.RowKit Go.Maps
set_option linter.unusedVariables false

/-- one that writes, one that reads it -/
def Tp (st : Int) (i : Nat) : Tx := if i = 0 then ⟨1, st, 1, fun _ => ⟨2, 0, 5⟩⟩ else ⟨2, 1, 1, fun _ => ⟨1, 0, 5⟩⟩
theorem tp_ok (st : Int) : TOk 2 (Tp st) := by
  refine ⟨by omega, fun j hj => ?_, fun j hj x hx => ?_, fun j hj x hx => ?_⟩
  · unfold Tp; split <;> simp
  · unfold Tp; split <;> simp
  · unfold Tp In64; split <;> simp
theorem fl_tp : flL (Tp 2) 2 = [⟨1, 0, 2⟩] := by rfl
theorem su_tp0 : suL (Tp 0) 2 0 = true := by rfl
theorem su_tp1 : suL (Tp 0) 2 1 = true := by rfl
def PairP (st : Int) (w : World) (e : Ending) (w' : World) : Prop :=
  ∃ a cp, e = .returned (.slice a 2 cp) ∧ TxS w' a 2 (Tp st) ∧ Below w.heap.size w w'

theorem tp_mem (st : Int) (w : World) : PairP st w (.returned (.slice (some ⟨w.heap.size + 1 + 1, 0, none⟩) 2 2)) (((w.alloc (.cells #[.int .i64 2, .int .i64 0, .int .i64 5] 44)).alloc (.cells #[.int .i64 1, .int .i64 0, .int .i64 5] 44)).alloc (.cells #[.int .i64 1, .int .i64 st, .slice (some ⟨w.heap.size, 0, none⟩) 1 1, .int .i64 2, .int .i64 1, .slice (some ⟨w.heap.size + 1, 0, none⟩) 1 1] 47)) := by
  obtain ⟨w1, e1⟩ : ∃ w1, w1 = w.alloc (.cells #[.int .i64 2, .int .i64 0, .int .i64 5] 44) := ⟨_, rfl⟩
  obtain ⟨w2, e2⟩ : ∃ w2, w2 = w1.alloc (.cells #[.int .i64 1, .int .i64 0, .int .i64 5] 44) := ⟨_, rfl⟩
  obtain ⟨w3, e3⟩ : ∃ w3, w3 = w2.alloc (.cells #[.int .i64 1, .int .i64 st, .slice (some ⟨w.heap.size, 0, none⟩) 1 1, .int .i64 2, .int .i64 1, .slice (some ⟨w.heap.size + 1, 0, none⟩) 1 1] 47) := ⟨_, rfl⟩
  rw [← e1, ← e2, ← e3]
  have s1 : w1.heap.size = w.heap.size + 1 := by rw [e1]; simp
  have s2 : w2.heap.size = w.heap.size + 1 + 1 := by rw [e2]; simp [s1]
  have s3 : w3.heap.size = w.heap.size + 1 + 1 + 1 := by rw [e3]; simp [s2]
  have h1 : w1.heap[w.heap.size]? = some (.cells #[.int .i64 2, .int .i64 0, .int .i64 5] 44 (0, 0)) := by rw [e1]; exact heap_alloc_new w _
  have h2 : w2.heap[w.heap.size + 1]? = some (.cells #[.int .i64 1, .int .i64 0, .int .i64 5] 44 (0, 0)) := by rw [e2, ← s1]; exact heap_alloc_new w1 _
  have h3 : w3.heap[w.heap.size + 1 + 1]? = some (.cells #[.int .i64 1, .int .i64 st, .slice (some ⟨w.heap.size, 0, none⟩) 1 1, .int .i64 2, .int .i64 1, .slice (some ⟨w.heap.size + 1, 0, none⟩) 1 1] 47 (0, 0)) := by rw [e3, ← s2]; exact heap_alloc_new w2 _
  have b1 : Below w1.heap.size w1 w2 := by rw [e2]; exact (Below.refl _ _).alloc (Nat.le_refl _) _
  have b2 : Below w2.heap.size w2 w3 := by rw [e3]; exact (Below.refl _ _).alloc (Nat.le_refl _) _
  have b0 : Below w.heap.size w w1 := by rw [e1]; exact (Below.refl _ _).alloc (Nat.le_refl _) _
  have k1 := (b2.block _ (by omega : w.heap.size < w2.heap.size)).trans ((b1.block _ (by omega)).trans h1)
  have k2 := (b2.block _ (by omega : w.heap.size + 1 < w2.heap.size)).trans h2
  refine ⟨_, _, rfl, fun _ => ⟨_, 0, rfl, by omega, fun j hj => ?_⟩, (b0.trans (b1.mono (by omega))).trans (b2.mono (by omega))⟩
  have c3 : ∀ i, w3.cell? ⟨w.heap.size + 1 + 1, i, none⟩ = #[Value.int .i64 1, .int .i64 st, .slice (some ⟨w.heap.size, 0, none⟩) 1 1, .int .i64 2, .int .i64 1, .slice (some ⟨w.heap.size + 1, 0, none⟩) 1 1][i]? := fun i => cell_of_row _ _ _ _ _ _ h3
  rcases (show j = 0 ∨ j = 1 by omega) with rfl | rfl
  · refine ⟨some ⟨w.heap.size, 0, none⟩, 1, by rw [c3]; rfl, by rw [c3]; rfl, by rw [c3]; rfl, fun _ => ⟨_, 0, rfl, by omega, fun i hi => ?_⟩⟩
    obtain rfl : i = 0 := by have : i < 1 := hi; omega
    exact (cells3 k1).1
  · refine ⟨some ⟨w.heap.size + 1, 0, none⟩, 1, by rw [c3]; rfl, by rw [c3]; rfl, by rw [c3]; rfl, fun _ => ⟨_, 0, rfl, by omega, fun i hi => ?_⟩⟩
    obtain rfl : i = 0 := by have : i < 1 := hi; omega
    exact (cells3 k2).1

set_option maxRecDepth 100000 in
set_option maxHeartbeats 4000000 in
theorem pair_any (st : Int) (w : World) : Calls Try.prog 39 #[.int .i64 st] w (PairP st w) := by
  have HP := Lib.hid (tp_mem st w)
  go_enter Try.func39, Try.ntmps39
  go_wp2
  go_ret
  exact HP.out
set_option maxRecDepth 100000 in
theorem str33 : Try.prog.underlying 33 = some (.struct (Try.prog.fieldsOf 33)) := by kernel_rfl
set_option maxRecDepth 100000 in
theorem held33 : Try.prog.stoodInHeld 33 = false := by kernel_rfl
set_option maxRecDepth 100000 in
theorem eqF (k key v k' key' v' : Int) (w : World) : (Op.equalIn 10000 33 (.agg #[.int .i64 k, .int .i64 key, .int .i64 v]) (.agg #[.int .i64 k', .int .i64 key', .int .i64 v'])).run Try.prog w = .ok (k == k' && (key == key' && v == v')) w := by
  refine (run_equalIn_struct (P := Try.prog) w 9999 33 _ _ str33 held33).trans ?_
  have hfs := TypeDesc.struct.inj (Option.some.inj (str33.symm.trans Try.underlying33))
  rw [hfs]
  have e : ∀ (a b : Int) (w : World), (Op.equalIn 9999 3 (.int .i64 a) (.int .i64 b)).run Try.prog w = .ok (a == b) w := fun a b w => run_equalIn_int w 9998 3 .i64 .i64 _ _ Try.underlying3
  have q0 : ∀ (a b c : Int) (w : World), (part 3 #[.int .i64 a, .int .i64 b, .int .i64 c] 0).run Try.prog w = .ok (.int .i64 a) w := fun a b c w => by simp [part, go_sem]
  have q1 : ∀ (a b c : Int) (w : World), (part 3 #[.int .i64 a, .int .i64 b, .int .i64 c] 1).run Try.prog w = .ok (.int .i64 b) w := fun a b c w => by simp [part, go_sem]
  have q2 : ∀ (a b c : Int) (w : World), (part 3 #[.int .i64 a, .int .i64 b, .int .i64 c] 2).run Try.prog w = .ok (.int .i64 c) w := fun a b c w => by simp [part, go_sem]
  by_cases h0 : k = k' <;> by_cases h1 : key = key' <;> by_cases h2 : v = v' <;> simp [Op.eqFields, q0, q1, q2, e, h0, h1, h2]
set_option maxRecDepth 100000 in
theorem eqlF (k key v k' key' v' : Int) (u : World) : (binOp .eql 33 (.agg #[.int .i64 k, .int .i64 key, .int .i64 v]) (.agg #[.int .i64 k', .int .i64 key', .int .i64 v'])).run Try.prog u = .ok (.bool (k == k' && (key == key' && v == v'))) u := by
  rw [run_eql_struct, eqF]; rfl
set_option maxRecDepth 100000 in
theorem guardF (u : World) (x y : Operand) (xs ys : Array Value) : (eqGuard .eql 33 x y (.agg xs) (.agg ys)).run Try.prog u = .ok () u := run_eqGuard_agg u .eql 33 x y xs ys (by kernel_rfl)
theorem own33_ops {w : World} {base n cap : Nat} {sp : Option Addr} {o : Nat → O3} (h : w.ownsRow base 33 3 (.slice sp n cap) n (rowO o n)) : OpS w sp n o := by
  intro hn
  obtain ⟨g, cap', e, _, hl⟩ := h.form hn
  injection e with e1 e2 e3
  subst e1
  refine ⟨g, 0, rfl, hl, fun i hi => ?_⟩
  obtain ⟨g0, g1, g2⟩ := rowO_get o n i hi
  have h0 := (h.cellAt (i * 3) (by omega)).trans g0
  have h1 := (h.cellAt (i * 3 + 1) (by omega)).trans g1
  have h2 := (h.cellAt (i * 3 + 2) (by omega)).trans g2
  simp only [Nat.zero_add]
  exact ⟨h0, h1, h2⟩

set_option maxRecDepth 100000 in
set_option maxHeartbeats 4000000 in
theorem head_any (w : World) : Calls Try.prog 13 #[] w (fun e w' => e = .returned (.bool true) ∧ Below w.heap.size w w') := by
  have HP := Lib.hid (pair_any 2 w)
  have hgu := @guardF
  have heq := @eqlF
  go_enter Try.func13, Try.ntmps13
  go_wp2_with fail
  refine HP.out.mono ?_
  rintro e w1 ⟨a, cp, rfl, ht, hb⟩
  have HB := Lib.hid hb
  have HA := Lib.hid (all_any a 2 cp (Tp 2) w1 ht (tp_ok 2))
  clear ht hb HP
  go_wp2_with fail
  refine HA.out.mono ?_
  rintro e w2 ⟨sp, cpf, rfl, ho, hb⟩
  rw [fl_tp] at ho ⊢
  have HB2 := Lib.hid (HB.out.trans (hb.mono HB.out.size))
  obtain ⟨bf, off, rfl, hbf, hcf⟩ := (own33_ops ho) (by decide)
  obtain ⟨c0, c1, c2⟩ := hcf 0 (by decide)
  have C0 := Lib.hid c0
  have C1 := Lib.hid c1
  have C2 := Lib.hid c2
  have HP2 := Lib.hid (pair_any 0 w2)
  clear ho hb HA HB c0 c1 c2 hcf
  go_wp2_with fail
  refine HP2.out.mono ?_
  rintro e w3 ⟨a3, cp3, rfl, ht, hb⟩
  have HB3 := Lib.hid (HB2.out.trans (hb.mono HB2.out.size))
  have HX3 := Lib.hid hb
  have HA2 := Lib.hid (sure_any a3 2 cp3 (Tp 0) w3 ht (tp_ok 0))
  clear ht hb HP2
  go_wp2_with fail
  refine HA2.out.mono ?_
  rintro e w4 ⟨g, rfl, hm, hb⟩
  have HB4 := Lib.hid (HB3.out.trans (hb.mono HB3.out.size))
  have hx := HX3.out.trans (hb.mono HX3.out.size)
  have m0 := hm.cell (i := 0) (by omega)
  have m1 := hm.cell (i := 1) (by omega)
  rw [su_tp0] at m0
  rw [su_tp1] at m1
  have d0 := (hx.cell (p := ⟨bf, off + 0 * 3, none⟩) hbf).trans C0.out
  have d1 := (hx.cell (p := ⟨bf, off + 0 * 3 + 1, none⟩) hbf).trans C1.out
  have d2 := (hx.cell (p := ⟨bf, off + 0 * 3 + 2, none⟩) hbf).trans C2.out
  simp only [Nat.zero_mul, Nat.add_zero] at d0 d1 d2
  clear hx hm hb HA2
  go_wp2
  go_ret
  exact ⟨rfl, HB4.out⟩
end Go.Proofs.Yteobndfkkpfnlaa

namespace Go.Proofs.Yteobndfkkpfnlaa
open Go.ChangeShapes Go.WideShapes Go.ChangeAt Go.RowKit
set_option linter.unusedVariables false

def Big (len : Nat) (E : Nat → Ev) : Prop := 120 < len ∨ ∃ j, j < len ∧ 12 < (E j).n

set_option maxRecDepth 100000 in
theorem big_any (a : Option Addr) (len cap : Nat) (E : Nat → Ev) (w : World) (hs : EvS w a len E) : Calls Try.prog 14 #[.slice a len cap] w (Tells (Big len E) w) := by
  have HS := Lib.hid hs
  clear hs
  by_cases h5 : 120 < len
  · have h5' : (120 : Int) < (len : Int) := by omega
    have HBG : Hid (Big len E) := Lib.hid (.inl h5)
    clear h5
    go_enter Try.func14, Try.ntmps14
    go_wp2
    go_ret
    exact ⟨true, rfl, ⟨fun _ => HBG.out, fun _ => rfl⟩, Below.refl _ _⟩
  · have h5' : ¬ (120 : Int) < (len : Int) := by omega
    have hl5 : len ≤ 120 := by omega
    clear h5
    go_enter Try.func14, Try.ntmps14
    go_wp2
    go_loopw [4, 10] (fun _ i wr => ∃ t : Nat, t ≤ len ∧ i = .int .i64 (t : Int) ∧ Hid (Below w.heap.size w wr ∧ ∀ j, j < t → ¬ 12 < (E j).n)) (fun _ i _ => len - (intOf i).toNat)
    case atStart => exact ⟨0, Nat.zero_le _, rfl, Lib.hid ⟨Below.refl _ _, fun i hi => absurd hi (Nat.not_lt_zero _)⟩⟩
    case round =>
      obtain ⟨t, ht, rfl, HT⟩ := hrel
      by_cases hlt : t < len
      · obtain ⟨b, off, rfl, hbl, hci⟩ := HS.out (by omega)
        obtain ⟨sp, cp, c0, c1, c2, _⟩ := hci t hlt
        have x0 := (HT.out.1.cell (p := ⟨b, off + t * 3, none⟩) hbl).trans c0
        have x1 := (HT.out.1.cell (p := ⟨b, off + t * 3 + 1, none⟩) hbl).trans c1
        have x2 := (HT.out.1.cell (p := ⟨b, off + t * 3 + 2, none⟩) hbl).trans c2
        have hlt' : (t : Int) < (len : Int) := by omega
        have HPN : Hid (¬ 12 < (E t).n → ∀ j, j < t + 1 → ¬ 12 < (E j).n) := Lib.hid fun h j hj => by
          by_cases hh : j < t
          · exact HT.out.2 j hh
          · obtain rfl : j = t := by omega
            exact h
        have HBG : Hid (12 < (E t).n → Big len E) := Lib.hid fun h => .inr ⟨t, hlt, h⟩
        have HB1 : Hid (∀ ob, Below w.heap.size w (wr.alloc ob)) := Lib.hid fun ob => HT.out.1.alloc HT.out.1.size _
        clear c0 c1 c2 hci
        generalize E t = et at *
        obtain ⟨ek, ec, en, eo⟩ := et
        dsimp only at *
        by_cases h3 : 12 < en
        · have h3' : (12 : Int) < (en : Int) := by omega
          go_wp2
          go_ret
          exact ⟨true, rfl, ⟨fun _ => HBG.out h3, fun _ => rfl⟩, HB1.out _⟩
        · have h3' : ¬ (12 : Int) < (en : Int) := by omega
          go_wp2
          go_roundw
          case rel => exact ⟨t + 1, by omega, by go_num, Lib.hid ⟨HB1.out _, HPN.out h3⟩⟩
          case measure => simp [intOf]; omega
      · obtain rfl : len = t := by omega
        have HNB : Hid (¬ Big len E) := Lib.hid fun h => by
          rcases h with h | ⟨j, hj, h⟩
          · omega
          · exact HT.out.2 j hj h
        go_wp2
        go_ret
        exact ⟨false, rfl, ⟨fun h => (by cases h), fun h => absurd h HNB.out⟩, HT.out.1⟩


/-- transactions of a history -/
structure HTx (m : Nat) (T : Nat → Tx) : Prop where
  ok : TOk m T
  n : ∀ j, j < m → (T j).n ≤ 12
  op : ∀ j, j < m → ∀ x, x < (T j).n → HOp ((T j).o x)
theorem htx_of {E : Nat → Ev} {len : Nat} (hl : len ≤ 400) (h : Good E len) : HTx (stateAt E len).m (stateAt E len).T := by
  have hi := inv_at E len h
  have ho := hops_at E len h
  refine ⟨⟨Nat.le_trans hi.m hl, fun j hj => Nat.le_trans (hi.tn j hj) (by omega), fun j hj x hx => (ho j hj x hx).1.2, fun j hj x hx => ?_⟩, hi.tn, ho⟩
  have := (ho j hj x hx).2
  unfold In64
  omega
theorem tx_row {w' : World} {base m cap : Nat} {sp : Option Addr} {T : Nat → Tx} {V : Nat → Value} (h : w'.ownsRow base 47 3 (.slice sp m cap) m (rowT T V m))
    (hv : ∀ j, j < m → ∃ sp cap, V j = .slice sp (T j).n cap ∧ OpS w' sp (T j).n (T j).o ∧ (T j).n ≤ 1000) : TxS w' sp m T := by
  intro hn
  obtain ⟨g, cap', e, _, hl⟩ := h.form hn
  injection e with e1 e2 e3
  subst e1
  refine ⟨g, 0, rfl, hl, fun i hi => ?_⟩
  obtain ⟨g0, g1, g2⟩ := rowT_get T V m i hi
  have h0 := (h.cellAt (i * 3) (by omega)).trans g0
  have h1 := (h.cellAt (i * 3 + 1) (by omega)).trans g1
  have h2 := (h.cellAt (i * 3 + 2) (by omega)).trans g2
  obtain ⟨sp9, cp9, e9, ho, _⟩ := hv i hi
  rw [e9] at h2
  simp only [Nat.zero_add]
  exact ⟨sp9, cp9, h0, h1, h2, ho⟩
/-- what Of answers: an error, or transactions -/
def OfR (E : Nat → Ev) (len : Nat) (w : World) (e : Ending) (w' : World) : Prop :=
  ∃ (m : Nat) (sp : Option Addr) (cp i : Nat) (er : Int), e = .returned (.tuple #[.slice sp m cp, .int .i64 (i : Int), .int .i64 er]) ∧ Below w.heap.size w w' ∧
    (er = 0 → Good E len ∧ m = (stateAt E len).m ∧ HTx m (stateAt E len).T ∧ TxS w' sp m (stateAt E len).T ∧ ∃ V, w'.ownsRow w.heap.size 47 3 (.slice sp m cp) m (rowT (stateAt E len).T V m) ∧ ∀ j, j < m → ∃ sp cap, V j = .slice sp ((stateAt E len).T j).n cap)
theorem of_r (a : Option Addr) (len cap : Nat) (E : Nat → Ev) (w : World) (hn : ∀ i, i < len → (E i).n ≤ 1000) (hs : EvS w a len E) : Calls Try.prog 15 #[.slice a len cap] w (OfR E len w) := by
  refine (refof_any a len cap E w hn hs).mono ?_
  rintro e w' ⟨m, sp, cp, i, er, T, V, rfl, hm, hi, ho, hv, hb, hf⟩
  refine ⟨m, sp, cp, i, er, rfl, hb, fun h0 => ?_⟩
  subst h0
  rcases hf with ⟨_, _, _, h⟩ | ⟨hl, ⟨_, _, _, h, _⟩ | ⟨hg, _, _, rfl, rfl⟩⟩
  · omega
  · exact absurd rfl h
  · exact ⟨hg, rfl, htx_of hl hg, tx_row ho hv, V, ho, fun j hj => by obtain ⟨s, c, e, _⟩ := hv j hj; exact ⟨s, c, e⟩⟩
end Go.Proofs.Yteobndfkkpfnlaa

namespace Go.Proofs.Yteobndfkkpfnlaa
open Go.ChangeShapes Go.WideShapes Go.ChangeAt Go.RowKit
set_option linter.unusedVariables false

/-- a transaction writes a value to a key -/
def Has (t : Tx) (k v : Int) : Prop := ∃ x, x < t.n ∧ (t.o x).k = 2 ∧ (t.o x).key = k ∧ (t.o x).v = v
/-- the first one that does -/
def FirstW (T : Nat → Tx) (m : Nat) (k v : Int) (r : Option Nat) : Prop :=
  (r = none ∧ ∀ i, i < m → ¬ Has (T i) k v) ∨ ∃ i, i < m ∧ r = some i ∧ Has (T i) k v ∧ ∀ j, j < i → ¬ Has (T j) k v
theorem FirstW.one {T : Nat → Tx} {m : Nat} {k v : Int} {r q : Option Nat} (h : FirstW T m k v r) (h' : FirstW T m k v q) : r = q := by
  rcases h with ⟨rfl, h⟩ | ⟨i, hi, rfl, h1, h2⟩
  · rcases h' with ⟨rfl, _⟩ | ⟨j, hj, rfl, k1, _⟩
    · rfl
    · exact absurd k1 (h j hj)
  · rcases h' with ⟨rfl, h'⟩ | ⟨j, hj, rfl, k1, k2⟩
    · exact absurd h1 (h' i hi)
    · rcases Nat.lt_trichotomy i j with e | e | e
      · exact absurd h1 (k2 i e)
      · rw [e]
      · exact absurd k1 (h2 j e)
def SrcP (T : Nat → Tx) (m : Nat) (k v : Int) (w : World) (e : Ending) (w' : World) : Prop :=
  ∃ r, FirstW T m k v r ∧ e = .returned (.tuple #[.int .i64 ((r.getD 0 : Nat) : Int), .bool r.isSome]) ∧ Below w.heap.size w w'
def WrtP (T : Nat → Tx) (m : Nat) (k v : Int) (w : World) (e : Ending) (w' : World) : Prop :=
  ∃ r : Option Nat, FirstW T m k v r ∧ e = .returned (.int .i64 (match r with | some i => (i : Int) | none => -1)) ∧ Below w.heap.size w w'
theorem source_zero (a : Option Addr) (m cap : Nat) (k : Int) (w : World) :
    Calls Try.prog 20 #[.slice a m cap, .int .i64 k, .int .i64 0] w (fun e w' => e = .returned (.tuple #[.int .i64 (-1), .bool true]) ∧ Below w.heap.size w w') := by
  go_enter Try.func20, Try.ntmps20
  go_wp2
  go_ret2
  exact ⟨rfl, Below.refl _ _⟩

set_option maxRecDepth 100000 in
set_option maxHeartbeats 4000000 in
theorem source_any (a : Option Addr) (m cap : Nat) (T : Nat → Tx) (k v : Int) (w : World) (hv : ¬ v = 0) (hs : TxS w a m T) (ok : TOk m T) :
    Calls Try.prog 20 #[.slice a m cap, .int .i64 k, .int .i64 v] w (SrcP T m k v w) := by
  have HS := Lib.hid hs
  have HOK := Lib.hid ok
  have hm4 := ok.cnt
  have hvb : (v == 0) = false := beq_eq_false_iff_ne.2 hv
  clear hs ok
  go_enter Try.func20, Try.ntmps20
  go_wp2
  go_loopw [6, 7, 8, 9, 11, 16] (fun r1 r2 _ _ _ x wr => ∃ t : Nat, t ≤ m ∧ x = .int .i64 (t : Int) ∧ Hid (Below w.heap.size w wr ∧ ∀ i, i < t → ¬ Has (T i) k v)) (fun _ _ _ _ _ x _ => m - (intOf x).toNat)
  case atStart => exact ⟨0, Nat.zero_le _, rfl, Lib.hid ⟨Below.refl _ _, fun i hi => absurd hi (Nat.not_lt_zero _)⟩⟩
  case round =>
    obtain ⟨t, ht, rfl, HT⟩ := hrel
    by_cases hlt : t < m
    · obtain ⟨b, off, rfl, hbl, hci⟩ := HS.out (by omega)
      obtain ⟨sp, cp, c0, c1, c2, ho⟩ := hci t hlt
      have x0 := (HT.out.1.cell (p := ⟨b, off + t * 3, none⟩) hbl).trans c0
      have x1 := (HT.out.1.cell (p := ⟨b, off + t * 3 + 1, none⟩) hbl).trans c1
      have x2 := (HT.out.1.cell (p := ⟨b, off + t * 3 + 2, none⟩) hbl).trans c2
      have hlt' : (t : Int) < (m : Int) := by omega
      have HOPB := Lib.hid ho
      have hn1 := HOK.out.n t hlt
      have HYES : Hid (Has (T t) k v → FirstW T m k v (some t)) := Lib.hid fun h => .inr ⟨t, hlt, rfl, h, HT.out.2⟩
      have HNO : Hid (¬ Has (T t) k v → ∀ i, i < t + 1 → ¬ Has (T i) k v) := Lib.hid fun h i hi => by
        by_cases e : i < t
        · exact HT.out.2 i e
        · obtain rfl : i = t := by omega
          exact h
      have HIN : Hid (∀ x, x < (T t).n → ((T t).o x).k = 2 → ((T t).o x).key = k → ((T t).o x).v = v → Has (T t) k v) := Lib.hid fun x h1 h2 h3 h4 => ⟨x, h1, h2, h3, h4⟩
      have HOUT : Hid (Has (T t) k v → ∃ x, x < (T t).n ∧ ((T t).o x).k = 2 ∧ ((T t).o x).key = k ∧ ((T t).o x).v = v) := Lib.hid fun h => h
      clear c0 c1 c2 ho hci
      generalize Has (T t) k v = HH at *
      generalize (T t).c = tc at *
      generalize (T t).st = tst at *
      generalize (T t).n = tn at *
      generalize (T t).o = to_ at *
      obtain ⟨wx, ewx⟩ : ∃ wx, wx = wr.alloc (.cells #[.int .i64 tc, .int .i64 tst, .slice sp tn cp] 47) := ⟨_, rfl⟩
      have HBX : Hid (Below w.heap.size w wx) := Lib.hid (by rw [ewx]; exact HT.out.1.alloc HT.out.1.size _)
      obtain ⟨Q, eQ⟩ : ∃ Q, Q = wr.heap.size := ⟨_, rfl⟩
      go_wp2
      rw [← ewx, ← eQ]
      clear ewx eQ HT x0 x1 x2
      go_loopw [6, 7, 11, 24] (fun _ _ _ x ws => ∃ j : Nat, j ≤ tn ∧ x = .int .i64 (j : Int) ∧ Hid (Below w.heap.size w ws ∧ ∀ i, i < j → ¬ ((to_ i).k = 2 ∧ (to_ i).key = k ∧ (to_ i).v = v))) (fun _ _ _ x _ => tn - (intOf x).toNat)
      case atStart => exact ⟨0, Nat.zero_le _, rfl, Lib.hid ⟨HBX.out, fun i hi => absurd hi (Nat.not_lt_zero _)⟩⟩
      case round =>
        obtain ⟨j, hj, rfl, HJ⟩ := hrel
        by_cases hjl : j < tn
        · obtain ⟨b3, off3, rfl, hb3, hc3⟩ := HOPB.out (by omega)
          obtain ⟨d0, d1, d2⟩ := hc3 j hjl
          have x0 := (HJ.out.1.cell (p := ⟨b3, off3 + j * 3, none⟩) hb3).trans d0
          have x1 := (HJ.out.1.cell (p := ⟨b3, off3 + j * 3 + 1, none⟩) hb3).trans d1
          have x2 := (HJ.out.1.cell (p := ⟨b3, off3 + j * 3 + 2, none⟩) hb3).trans d2
          have hjl' : (j : Int) < (tn : Int) := by omega
          have HY := Lib.hid (HIN.out j hjl)
          have HN : Hid (¬ ((to_ j).k = 2 ∧ (to_ j).key = k ∧ (to_ j).v = v) → ∀ i, i < j + 1 → ¬ ((to_ i).k = 2 ∧ (to_ i).key = k ∧ (to_ i).v = v)) := Lib.hid fun h i hi => by
            by_cases e : i < j
            · exact HJ.out.2 i e
            · obtain rfl : i = j := by omega
              exact h
          have HBA : Hid (∀ ob, Below w.heap.size w (wr.alloc ob)) := Lib.hid fun ob => HJ.out.1.alloc HJ.out.1.size _
          clear d0 d1 d2 hc3 HJ
          generalize to_ j = oj at *
          obtain ⟨ok, okey, ov⟩ := oj
          dsimp only at x0 x1 x2 HY HN
          by_cases h1 : ok = 2
          · have h1b : (ok == 2) = true := beq_iff_eq.2 h1
            by_cases h2 : okey = k
            · have h2b : (okey == k) = true := beq_iff_eq.2 h2
              by_cases h3 : ov = v
              · have h3b : (ov == v) = true := beq_iff_eq.2 h3
                have HF := Lib.hid (HYES.out (HY.out h1 h2 h3))
                subst h1 h2 h3
                go_wp2
                go_ret2
                exact ⟨some t, HF.out, rfl, HBA.out _⟩
              · have h3b : (ov == v) = false := beq_eq_false_iff_ne.2 h3
                have HN2 := Lib.hid (HN.out fun h => h3 h.2.2)
                subst h1 h2
                clear h3
                go_wp2
                go_roundw
                case rel => exact ⟨j + 1, by omega, by go_num, Lib.hid ⟨HBA.out _, HN2.out⟩⟩
                case measure => simp [intOf]; omega
            · have h2b : (okey == k) = false := beq_eq_false_iff_ne.2 h2
              have HN2 := Lib.hid (HN.out fun h => h2 h.2.1)
              subst h1
              clear h2
              go_wp2
              go_roundw
              case rel => exact ⟨j + 1, by omega, by go_num, Lib.hid ⟨HBA.out _, HN2.out⟩⟩
              case measure => simp [intOf]; omega
          · have h1b : (ok == 2) = false := beq_eq_false_iff_ne.2 h1
            have HN2 := Lib.hid (HN.out fun h => h1 h.1)
            clear h1
            go_wp2
            go_roundw
            case rel => exact ⟨j + 1, by omega, by go_num, Lib.hid ⟨HBA.out _, HN2.out⟩⟩
            case measure => simp [intOf]; omega
        · obtain rfl : j = tn := by omega
          have HNN := Lib.hid (HNO.out fun h => by obtain ⟨x, h1, h2⟩ := HOUT.out h; exact HJ.out.2 x h1 h2)
          have HBJ := Lib.hid HJ.out.1
          clear HJ
          go_wp2
          go_roundw
          case rel => exact ⟨t + 1, by omega, by go_num, Lib.hid ⟨HBJ.out, HNN.out⟩⟩
          case measure => simp [intOf]; omega
    · obtain rfl : t = m := by omega
      go_wp2
      go_ret2
      exact ⟨none, .inl ⟨rfl, HT.out.2⟩, rfl, HT.out.1⟩
set_option maxRecDepth 100000 in
set_option maxHeartbeats 4000000 in
theorem writer_any (a : Option Addr) (m cap : Nat) (T : Nat → Tx) (k v : Int) (w : World) (hs : TxS w a m T) (ok : TOk m T) :
    Calls Try.prog 21 #[.slice a m cap, .int .i64 k, .int .i64 v] w (WrtP T m k v w) := by
  have HS := Lib.hid hs
  have HOK := Lib.hid ok
  have hm4 := ok.cnt
  clear hs ok
  go_enter Try.func21, Try.ntmps21
  go_wp2
  go_loopw [6, 7, 9, 12] (fun _ _ _ x wr => ∃ t : Nat, t ≤ m ∧ x = .int .i64 (t : Int) ∧ Hid (Below w.heap.size w wr ∧ ∀ i, i < t → ¬ Has (T i) k v)) (fun _ _ _ x _ => m - (intOf x).toNat)
  case atStart => exact ⟨0, Nat.zero_le _, rfl, Lib.hid ⟨Below.refl _ _, fun i hi => absurd hi (Nat.not_lt_zero _)⟩⟩
  case round =>
    obtain ⟨t, ht, rfl, HT⟩ := hrel
    by_cases hlt : t < m
    · obtain ⟨b, off, rfl, hbl, hci⟩ := HS.out (by omega)
      obtain ⟨sp, cp, c0, c1, c2, ho⟩ := hci t hlt
      have x0 := (HT.out.1.cell (p := ⟨b, off + t * 3, none⟩) hbl).trans c0
      have x1 := (HT.out.1.cell (p := ⟨b, off + t * 3 + 1, none⟩) hbl).trans c1
      have x2 := (HT.out.1.cell (p := ⟨b, off + t * 3 + 2, none⟩) hbl).trans c2
      have hlt' : (t : Int) < (m : Int) := by omega
      have HOPB := Lib.hid ho
      have hn1 := HOK.out.n t hlt
      have HYES : Hid (Has (T t) k v → FirstW T m k v (some t)) := Lib.hid fun h => .inr ⟨t, hlt, rfl, h, HT.out.2⟩
      have HNO : Hid (¬ Has (T t) k v → ∀ i, i < t + 1 → ¬ Has (T i) k v) := Lib.hid fun h i hi => by
        by_cases e : i < t
        · exact HT.out.2 i e
        · obtain rfl : i = t := by omega
          exact h
      have HIN : Hid (∀ x, x < (T t).n → ((T t).o x).k = 2 → ((T t).o x).key = k → ((T t).o x).v = v → Has (T t) k v) := Lib.hid fun x h1 h2 h3 h4 => ⟨x, h1, h2, h3, h4⟩
      have HOUT : Hid (Has (T t) k v → ∃ x, x < (T t).n ∧ ((T t).o x).k = 2 ∧ ((T t).o x).key = k ∧ ((T t).o x).v = v) := Lib.hid fun h => h
      clear c0 c1 c2 ho hci
      generalize Has (T t) k v = HH at *
      generalize (T t).c = tc at *
      generalize (T t).st = tst at *
      generalize (T t).n = tn at *
      generalize (T t).o = to_ at *
      have HBX := Lib.hid HT.out.1
      clear HT
      go_wp2
      clear x0 x1 x2
      go_loopw [6, 9, 21] (fun _ _ x ws => ∃ j : Nat, j ≤ tn ∧ x = .int .i64 (j : Int) ∧ Hid (Below w.heap.size w ws ∧ ∀ i, i < j → ¬ ((to_ i).k = 2 ∧ (to_ i).key = k ∧ (to_ i).v = v))) (fun _ _ x _ => tn - (intOf x).toNat)
      case atStart => exact ⟨0, Nat.zero_le _, rfl, Lib.hid ⟨HBX.out, fun i hi => absurd hi (Nat.not_lt_zero _)⟩⟩
      case round =>
        obtain ⟨j, hj, rfl, HJ⟩ := hrel
        by_cases hjl : j < tn
        · obtain ⟨b3, off3, rfl, hb3, hc3⟩ := HOPB.out (by omega)
          obtain ⟨d0, d1, d2⟩ := hc3 j hjl
          have x0 := (HJ.out.1.cell (p := ⟨b3, off3 + j * 3, none⟩) hb3).trans d0
          have x1 := (HJ.out.1.cell (p := ⟨b3, off3 + j * 3 + 1, none⟩) hb3).trans d1
          have x2 := (HJ.out.1.cell (p := ⟨b3, off3 + j * 3 + 2, none⟩) hb3).trans d2
          have hjl' : (j : Int) < (tn : Int) := by omega
          have HY := Lib.hid (HIN.out j hjl)
          have HN : Hid (¬ ((to_ j).k = 2 ∧ (to_ j).key = k ∧ (to_ j).v = v) → ∀ i, i < j + 1 → ¬ ((to_ i).k = 2 ∧ (to_ i).key = k ∧ (to_ i).v = v)) := Lib.hid fun h i hi => by
            by_cases e : i < j
            · exact HJ.out.2 i e
            · obtain rfl : i = j := by omega
              exact h
          have HBA : Hid (∀ ob, Below w.heap.size w (wr.alloc ob)) := Lib.hid fun ob => HJ.out.1.alloc HJ.out.1.size _
          clear d0 d1 d2 hc3 HJ
          generalize to_ j = oj at *
          obtain ⟨ok, okey, ov⟩ := oj
          dsimp only at x0 x1 x2 HY HN
          by_cases h1 : ok = 2
          · have h1b : (ok == 2) = true := beq_iff_eq.2 h1
            by_cases h2 : okey = k
            · have h2b : (okey == k) = true := beq_iff_eq.2 h2
              by_cases h3 : ov = v
              · have h3b : (ov == v) = true := beq_iff_eq.2 h3
                have HF := Lib.hid (HYES.out (HY.out h1 h2 h3))
                subst h1 h2 h3
                go_wp2
                go_ret
                exact ⟨some t, HF.out, rfl, HBA.out _⟩
              · have h3b : (ov == v) = false := beq_eq_false_iff_ne.2 h3
                have HN2 := Lib.hid (HN.out fun h => h3 h.2.2)
                subst h1 h2
                clear h3
                go_wp2
                go_roundw
                case rel => exact ⟨j + 1, by omega, by go_num, Lib.hid ⟨HBA.out _, HN2.out⟩⟩
                case measure => simp [intOf]; omega
            · have h2b : (okey == k) = false := beq_eq_false_iff_ne.2 h2
              have HN2 := Lib.hid (HN.out fun h => h2 h.2.1)
              subst h1
              clear h2
              go_wp2
              go_roundw
              case rel => exact ⟨j + 1, by omega, by go_num, Lib.hid ⟨HBA.out _, HN2.out⟩⟩
              case measure => simp [intOf]; omega
          · have h1b : (ok == 2) = false := beq_eq_false_iff_ne.2 h1
            have HN2 := Lib.hid (HN.out fun h => h1 h.1)
            clear h1
            go_wp2
            go_roundw
            case rel => exact ⟨j + 1, by omega, by go_num, Lib.hid ⟨HBA.out _, HN2.out⟩⟩
            case measure => simp [intOf]; omega
        · obtain rfl : j = tn := by omega
          have HNN := Lib.hid (HNO.out fun h => by obtain ⟨x, h1, h2⟩ := HOUT.out h; exact HJ.out.2 x h1 h2)
          have HBJ := Lib.hid HJ.out.1
          clear HJ
          go_wp2
          go_roundw
          case rel => exact ⟨t + 1, by omega, by go_num, Lib.hid ⟨HBJ.out, HNN.out⟩⟩
          case measure => simp [intOf]; omega
    · obtain rfl : t = m := by omega
      go_wp2
      go_ret
      exact ⟨none, .inl ⟨rfl, HT.out.2⟩, rfl, HT.out.1⟩
end Go.Proofs.Yteobndfkkpfnlaa

namespace Go.Proofs.Yteobndfkkpfnlaa
set_option linter.unusedVariables false

theorem wmI_new {o : Nat → O3} {m : Nat} {wm : Int → Option Int} : ∀ n, ∀ x, x < n → (o x).k = 2 → wmI o m wm n (o x).v = some (m : Int) := by
  intro n
  induction n with
  | zero => intro x hx; omega
  | succ n ih =>
    intro x hx hk
    unfold wmI
    by_cases hn : (o n).k = 2
    · rw [if_pos hn]
      by_cases hv : (o x).v = (o n).v
      · rw [if_pos hv]
      · rw [if_neg hv]
        exact ih x (by
          rcases Nat.lt_or_ge x n with h | h
          · exact h
          · exact absurd (by rw [show x = n by omega]) hv) hk
    · rw [if_neg hn]
      exact ih x (by
        rcases Nat.lt_or_ge x n with h | h
        · exact h
        · exact absurd (by rw [← show x = n by omega]; exact hk) hn) hk
theorem wmI_old {o : Nat → O3} {m : Nat} {wm : Int → Option Int} {v j : Int} (hw : wm v = some j) : ∀ n, (∀ i, i < n → ¬ Dup o m wm i) → wmI o m wm n v = some j := by
  intro n
  induction n with
  | zero => intro _; exact hw
  | succ n ih =>
    intro hd
    have h := ih fun i hi => hd i (by omega)
    unfold wmI
    by_cases hn : (o n).k = 2
    · rw [if_pos hn]
      by_cases hv : v = (o n).v
      · exact absurd ⟨hn, by rw [← hv, h]; rfl⟩ (hd n (by omega))
      · rw [if_neg hv]; exact h
    · rw [if_neg hn]; exact h
/-- each value that is written is written by one -/
def UqI (s : St) : Prop := ∀ j, j < s.m → ∀ x, x < (s.T j).n → ((s.T j).o x).k = 2 → 0 < ((s.T j).o x).v ∧ s.wm ((s.T j).o x).v = some (j : Int)
theorem uq_at (E : Nat → Ev) : ∀ i, Good E i → UqI (stateAt E i) := by
  intro i
  induction i with
  | zero => intro _ j hj; exact absurd hj (Nat.not_lt_zero _)
  | succ i ih =>
    intro hg
    have hu := ih fun j hj => hg j (by omega)
    have he := hg i (by omega)
    show UqI (nextS (stateAt E i) (E i))
    generalize stateAt E i = s at *
    generalize E i = e at *
    rcases he with ⟨_, h⟩ | ⟨_, _, h⟩ | ⟨_, _, _, _, h⟩ | ⟨hs, hk, _, hd, _⟩ | ⟨hs, hk, _, h | ⟨_, hf⟩⟩
    · exact absurd h (by decide)
    · exact absurd h (by decide)
    · exact absurd h (by decide)
    · unfold nextS
      rw [if_pos hk]
      intro j hj x hx h2
      dsimp only at hj hx h2 ⊢
      by_cases hjm : j = s.m
      · subst hjm
        rw [if_pos rfl] at hx h2 ⊢
        dsimp only at hx h2 ⊢
        refine ⟨?_, wmI_new _ x hx h2⟩
        rcases (hs.2.2.2.2.2.2 x hx).2.2.2.2 with h | h
        · rw [h.1] at h2; exact absurd h2 (by decide)
        · exact h.2
      · rw [if_neg hjm] at hx h2 ⊢
        obtain ⟨u1, u2⟩ := hu j (by omega) x hx h2
        exact ⟨u1, wmI_old u2 _ hd⟩
    · exact absurd rfl h.1
    · unfold nextS
      rw [if_neg hk]
      intro j hj x hx h2
      dsimp only at hj hx h2 ⊢
      by_cases hji : j = idx s e
      · rw [if_pos hji] at hx h2 ⊢
        rw [← hji] at hx h2 ⊢
        unfold endT at hx h2 ⊢
        by_cases k2 : e.k = 2
        · rw [if_pos k2] at hx h2 ⊢
          dsimp only at hx h2 ⊢
          rcases hf with ⟨_, ha⟩ | ⟨h, _⟩
          · rcases ha with ⟨_, h⟩ | ⟨hn, ⟨_, h⟩ | ⟨i, _, _, h, _⟩⟩
            · exact absurd h (by decide)
            · have hx' := h x hx
              unfold errAt at hx'
              split at hx'
              · exact absurd hx' (by decide)
              · rename_i hkk
                split at hx'
                · rename_i hv
                  rw [hv]
                  rw [← hji] at hkk hv hn
                  have hka : (e.o x).k = ((s.T j).o x).k := by
                    rcases Classical.em ((e.o x).k = ((s.T j).o x).k) with h | h
                    · exact h
                    · exact absurd (.inl h) hkk
                  rw [← hji]
                  exact hu j hj x (by omega) (by rw [← hka]; exact h2)
                · exact absurd hx' (by decide)
            · exact absurd rfl h
          · exact absurd k2 h
        · rw [if_neg k2] at hx h2 ⊢
          by_cases k3 : e.k = 3
          · rw [if_pos k3] at hx h2 ⊢
            exact hu j hj x hx h2
          · rw [if_neg k3] at hx h2 ⊢
            exact hu j hj x hx h2
      · rw [if_neg hji] at hx h2 ⊢
        exact hu j hj x hx h2
/-- .. so -/
structure Uq (m : Nat) (T : Nat → Tx) : Prop where
  pos : ∀ j, j < m → ∀ x, x < (T j).n → ((T j).o x).k = 2 → 0 < ((T j).o x).v
  one : ∀ i j k k' v, i < m → j < m → Has (T i) k v → Has (T j) k' v → i = j
theorem uq_of {E : Nat → Ev} {len : Nat} (h : Good E len) : Uq (stateAt E len).m (stateAt E len).T := by
  have hu := uq_at E len h
  refine ⟨fun j hj x hx h2 => (hu j hj x hx h2).1, fun i j k k' v hi hj ⟨x, hx, h2, _, hv⟩ ⟨y, hy, k2, _, kv⟩ => ?_⟩
  have a := (hu i hi x hx h2).2
  have b := (hu j hj y hy k2).2
  rw [hv] at a
  rw [kv, a] at b
  injection b with b
  omega
theorem opsV_iff {o : Nat → O3} {at_ : Int} {A : VM} {k v x : Int} : ∀ n, opsV o at_ A n k v = some x → (x = at_ ∧ ∃ y, y < n ∧ (o y).k = 2 ∧ (o y).key = k ∧ (o y).v = v) ∨ A k v = some x := by
  intro n
  induction n with
  | zero => exact fun h => .inr h
  | succ n ih =>
    intro h
    unfold opsV at h
    by_cases h2 : (o n).k = 2
    · rw [if_pos h2] at h
      unfold updV at h
      split at h
      · rename_i he
        injection h with h
        exact .inl ⟨h.symm, n, by omega, h2, he.1.symm, he.2.symm⟩
      · rcases ih h with ⟨e, y, hy, r⟩ | r
        · exact .inl ⟨e, y, by omega, r⟩
        · exact .inr r
    · rw [if_neg h2] at h
      rcases ih h with ⟨e, y, hy, r⟩ | r
      · exact .inl ⟨e, y, by omega, r⟩
      · exact .inr r
theorem opsV_some {o : Nat → O3} {at_ : Int} {A : VM} {k v : Int} : ∀ n, ((∃ y, y < n ∧ (o y).k = 2 ∧ (o y).key = k ∧ (o y).v = v) ∨ (A k v).isSome = true) → (opsV o at_ A n k v).isSome = true := by
  intro n
  induction n with
  | zero =>
    intro h
    rcases h with ⟨y, hy, _⟩ | h
    · omega
    · exact h
  | succ n ih =>
    intro h
    unfold opsV
    by_cases h2 : (o n).k = 2
    · rw [if_pos h2]
      unfold updV
      split
      · rfl
      · rename_i he
        refine ih ?_
        rcases h with ⟨y, hy, r⟩ | h
        · refine .inl ⟨y, ?_, r⟩
          rcases Nat.lt_or_ge y n with h | h
          · exact h
          · have : y = n := by omega
            subst this
            exact absurd ⟨r.2.1.symm, r.2.2.symm⟩ he
        · exact .inr h
    · rw [if_neg h2]
      refine ih ?_
      rcases h with ⟨y, hy, r⟩ | h
      · refine .inl ⟨y, ?_, r⟩
        rcases Nat.lt_or_ge y n with h | h
        · exact h
        · have : y = n := by omega
          subst this
          exact absurd r.1 h2
      · exact .inr h
theorem allV_has {T : Nat → Tx} {k v x : Int} : ∀ m, allV T m k v = some x → ∃ j, j < m ∧ x = (j : Int) ∧ Has (T j) k v := by
  intro m
  induction m with
  | zero => intro h; cases h
  | succ m ih =>
    intro h
    unfold allV at h
    rcases opsV_iff _ h with ⟨e, h⟩ | h
    · exact ⟨m, by omega, e, h⟩
    · obtain ⟨j, hj, r⟩ := ih h
      exact ⟨j, by omega, r⟩
theorem allV_some {T : Nat → Tx} {k v : Int} : ∀ m j, j < m → Has (T j) k v → (allV T m k v).isSome = true := by
  intro m
  induction m with
  | zero => intro j hj; omega
  | succ m ih =>
    intro j hj h
    unfold allV
    refine opsV_some _ ?_
    by_cases hjm : j = m
    · subst hjm; exact .inl h
    · exact .inr (ih j (by omega) h)
theorem first_all {T : Nat → Tx} {m : Nat} {k v : Int} {r : Option Nat} (hu : Uq m T) (h : FirstW T m k v r) : allV T m k v = r.map fun i => (i : Int) := by
  rcases h with ⟨rfl, h⟩ | ⟨i, hi, rfl, h, _⟩
  · cases hA : allV T m k v with
    | none => rfl
    | some x =>
      obtain ⟨j, hj, _, hh⟩ := allV_has m hA
      exact absurd hh (h j hj)
  · have hs := allV_some m i hi h
    cases hA : allV T m k v with
    | none => rw [hA] at hs; cases hs
    | some x =>
      obtain ⟨j, hj, e, hh⟩ := allV_has m hA
      rw [e, hu.one j i k k v hj hi hh h]
      rfl
/-- a transaction's last write of a key -/
def Fin_ (t : Tx) (k v : Int) : Prop := ∃ r ∈ wrl t.o t.n 16, r.key = k ∧ r.v = v
theorem lstV_iff {l : List O3} {at_ : Int} {A : VM} {k v : Int} : ∀ n, n ≤ l.length → ((lstV l at_ A n k v).isSome = true ↔ ((∃ y, y < n ∧ (lf l y).key = k ∧ (lf l y).v = v) ∨ (A k v).isSome = true)) := by
  intro n
  induction n with
  | zero =>
    intro _
    exact ⟨fun h => .inr h, fun h => by rcases h with ⟨y, hy, _⟩ | h; omega; exact h⟩
  | succ n ih =>
    intro hn
    unfold lstV updV
    split
    · rename_i he
      exact ⟨fun _ => .inl ⟨n, by omega, he.1.symm, he.2.symm⟩, fun _ => rfl⟩
    · rename_i he
      rw [ih (by omega)]
      constructor
      · rintro (⟨y, hy, r⟩ | h)
        · exact .inl ⟨y, by omega, r⟩
        · exact .inr h
      · rintro (⟨y, hy, r⟩ | h)
        · refine .inl ⟨y, ?_, r⟩
          rcases Nat.lt_or_ge y n with h | h
          · exact h
          · have : y = n := by omega
            subst this
            exact absurd ⟨r.1.symm, r.2.symm⟩ he
        · exact .inr h
theorem endV_iff {T : Nat → Tx} {k v : Int} : ∀ m, (endV T m k v).isSome = true ↔ ∃ j, j < m ∧ Fin_ (T j) k v := by
  intro m
  induction m with
  | zero => exact ⟨fun h => (by cases h), fun ⟨j, hj, _⟩ => by omega⟩
  | succ m ih =>
    unfold endV
    rw [lstV_iff _ (Nat.le_refl _), ih]
    have hf : (∃ y, y < (wrl (T m).o (T m).n 16).length ∧ (lf (wrl (T m).o (T m).n 16) y).key = k ∧ (lf (wrl (T m).o (T m).n 16) y).v = v) ↔ Fin_ (T m) k v := by
      constructor
      · rintro ⟨y, hy, r⟩
        exact ⟨_, lf_mem hy, r⟩
      · rintro ⟨r, hr, e⟩
        obtain ⟨y, hy, rfl⟩ := List.getElem_of_mem hr
        refine ⟨y, hy, ?_⟩
        have : lf (wrl (T m).o (T m).n 16) y = (wrl (T m).o (T m).n 16)[y] := by unfold lf; rw [List.getD_eq_getElem?_getD, List.getElem?_eq_getElem hy]; rfl
        rw [this]; exact e
    rw [hf]
    constructor
    · rintro (h | ⟨j, hj, h⟩)
      · exact ⟨m, by omega, h⟩
      · exact ⟨j, by omega, h⟩
    · rintro ⟨j, hj, h⟩
      by_cases e : j = m
      · subst e; exact .inl h
      · exact .inr ⟨j, by omega, h⟩
theorem Fin_.has {t : Tx} {k v : Int} (h : Fin_ t k v) : Has t k v := by
  obtain ⟨r, hr, e1, e2⟩ := h
  obtain ⟨i, hi, he, hk⟩ := wrl_mem hr
  exact ⟨i, hi, hk, by rw [he]; exact e1, by rw [he]; exact e2⟩
theorem end_fin {T : Nat → Tx} {m i : Nat} {k v : Int} (hu : Uq m T) (hi : i < m) (h : Has (T i) k v) : (endV T m k v).isSome = true ↔ Fin_ (T i) k v := by
  rw [endV_iff]
  constructor
  · rintro ⟨j, hj, hf⟩
    rw [← hu.one j i k k v hj hi hf.has h]; exact hf
  · exact fun hf => ⟨i, hi, hf⟩
end Go.Proofs.Yteobndfkkpfnlaa

