/-
  The reference's Read: what it has in memory.
  The reference's Inside.
-/
import Derived.Test.YtccpfoimedjdgaaJ13
import Derived.Test.YtccpfoimedjdgaaJ06
import Derived.Deep.CutRange
import Derived.Deep.CutBlock

namespace Go.Proofs.Ytccpfoimedjdgaa
open Go.ChangeShapes Go.WideShapes Go.ChangeAt Go.RowKit

/-- all blocks but those of type T have stayed -/
def Kp (T : Nat) (w w' : World) : Prop := ∀ (k : Nat) (cs : Array Value) (T' : Nat), w.heap[k]? = some (.cells cs T' (0, 0)) → T' ≠ T → w'.heap[k]? = some (.cells cs T' (0, 0))
theorem Kp.below {T : Nat} {w w' : World} (h : Below w.heap.size w w') : Kp T w w' := fun k _ _ hk _ => (h.block k (EnS.lt hk)).trans hk
theorem Kp.set {w : World} {b j T : Nat} {cs : Array Value} (h : w.heap[b]? = some (.cells cs T (0, 0))) (v : Value) : Kp T w (w.setCell ⟨b, j, none⟩ v) := fun k cs' T' hk hT => (Below.heap_setCell w ⟨b, j, none⟩ v k (fun e => by
  dsimp only at e
  subst e
  rw [h] at hk
  injection hk with hk
  injection hk with _ hk
  exact hT hk.symm)).trans hk
theorem Kp.app {w w' : World} {base e size n : Nat} {v : Value} {xs : List Value} (h : w.ownsRow base e size v n xs) (hg : w.grownBy w' v.ownBlock) : Kp e w w' := fun k cs' T' hk hT => (hg.block k (EnS.lt hk) (fun e' => by
  obtain ⟨cur, hc⟩ := own_cells h e'.symm
  rw [hk] at hc
  injection hc with hc
  injection hc with _ hc
  exact hT hc)).trans hk
theorem Kp.own {T : Nat} {w w' : World} (hk : Kp T w w') {base e size n : Nat} {v : Value} {xs : List Value} (h : w.ownsRow base e size v n xs) (he : e ≠ T) : w'.ownsRow base e size v n xs := own_keep h fun q e' => by
  obtain ⟨cur, hc⟩ := own_cells h e'
  exact (hk _ _ _ hc he).trans hc.symm
theorem Kp.rm {T : Nat} {w w' : World} (hk : Kp T w w') {b : Nat} {N : Nat → Int} {la da : Value} (h : RmC w b N la da) (he : 35 ≠ T) : RmC w' b N la da := hk _ _ _ h he

theorem RmC.store {w : World} {b : Nat} {N : Nat → Int} {la da : Value} {t : Nat} (h : RmC w b (preN N t) la da) (ht : t < 9) : RmC (w.setCell ⟨b, t, none⟩ (.int .i64 (N t))) b (preN N (t + 1)) la da := by
  unfold RmC at *
  rw [heap_setCell_same _ b t _ 35 _ h]
  have : t = 0 ∨ t = 1 ∨ t = 2 ∨ t = 3 ∨ t = 4 ∨ t = 5 ∨ t = 6 ∨ t = 7 ∨ t = 8 := by omega
  rcases this with rfl | rfl | rfl | rfl | rfl | rfl | rfl | rfl | rfl <;> rfl
theorem RmC.num {w : World} {b : Nat} {N : Nat → Int} {la da : Value} (h : RmC w b N la da) (j : Nat) (hj : j < 9) : w.cell? ⟨b, j, none⟩ = some (.int .i64 (N j)) := by
  refine h.cell j ?_
  have : j = 0 ∨ j = 1 ∨ j = 2 ∨ j = 3 ∨ j = 4 ∨ j = 5 ∨ j = 6 ∨ j = 7 ∨ j = 8 := by omega
  rcases this with rfl | rfl | rfl | rfl | rfl | rfl | rfl | rfl | rfl <;> rfl
theorem RmC.mix {w : World} {b : Nat} {N' N : Nat → Int} {la da : Value} {t : Nat} (h : RmC w b (mixN N' N t) la da) (ht : t < 9) : RmC (w.setCell ⟨b, t, none⟩ (.int .i64 (N' t))) b (mixN N' N (t + 1)) la da := by
  unfold RmC at *
  rw [heap_setCell_same _ b t _ 35 _ h]
  have : t = 0 ∨ t = 1 ∨ t = 2 ∨ t = 3 ∨ t = 4 ∨ t = 5 ∨ t = 6 ∨ t = 7 ∨ t = 8 := by omega
  rcases this with rfl | rfl | rfl | rfl | rfl | rfl | rfl | rfl | rfl <;> rfl
theorem RmC.list {w : World} {b : Nat} {N : Nat → Int} {la da : Value} (h : RmC w b N la da) (la' : Value) : RmC (w.setCell ⟨b, 9, none⟩ la') b N la' da := by
  unfold RmC at *
  rw [heap_setCell_same _ b 9 _ 35 _ h]
  rfl
theorem RmC.data {w : World} {b : Nat} {N : Nat → Int} {la da : Value} (h : RmC w b N la da) (da' : Value) : RmC (w.setCell ⟨b, 10, none⟩ da') b N la da' := by
  unfold RmC at *
  rw [heap_setCell_same _ b 10 _ 35 _ h]
  rfl
theorem RmC.set11 {w : World} {b : Nat} {N : Nat → Int} {la da : Value} (h : RmC w b N la da) (N' : Nat → Int) (la' da' : Value) {W : World}
    (eW : W = ((((((((((w.setCell ⟨b, 0, none⟩ (.int .i64 (N' 0))).setCell ⟨b, 1, none⟩ (.int .i64 (N' 1))).setCell ⟨b, 2, none⟩ (.int .i64 (N' 2))).setCell ⟨b, 3, none⟩ (.int .i64 (N' 3))).setCell ⟨b, 4, none⟩ (.int .i64 (N' 4))).setCell ⟨b, 5, none⟩ (.int .i64 (N' 5))).setCell ⟨b, 6, none⟩ (.int .i64 (N' 6))).setCell ⟨b, 7, none⟩ (.int .i64 (N' 7))).setCell ⟨b, 8, none⟩ (.int .i64 (N' 8))).setCell ⟨b, 9, none⟩ la').setCell ⟨b, 10, none⟩ da') : RmC W b N' la' da' ∧ w.grownBy W (some b) := by
  subst eW
  have g0 := grown_setCell (grown_refl w (some b)) 0 (.int .i64 (N' 0))
  have g1 := grown_setCell g0 1 (.int .i64 (N' 1))
  have g2 := grown_setCell g1 2 (.int .i64 (N' 2))
  have g3 := grown_setCell g2 3 (.int .i64 (N' 3))
  have g4 := grown_setCell g3 4 (.int .i64 (N' 4))
  have g5 := grown_setCell g4 5 (.int .i64 (N' 5))
  have g6 := grown_setCell g5 6 (.int .i64 (N' 6))
  have g7 := grown_setCell g6 7 (.int .i64 (N' 7))
  have g8 := grown_setCell g7 8 (.int .i64 (N' 8))
  have g9 := grown_setCell g8 9 la'
  have g10 := grown_setCell g9 10 da'
  refine ⟨?_, g10⟩
  have h0 : RmC w b (mixN N' N 0) la da := h
  have h1 := (((((((((h0.mix (by decide)).mix (by decide)).mix (by decide)).mix (by decide)).mix (by decide)).mix (by decide)).mix (by decide)).mix (by decide)).mix (by decide))
  exact (h1.list la').data da'

/-- an entry of its own -/
def EnT (w : World) (B : Nat) (u : Value) (b : Bs) : Prop := ∃ q cap, u = .slice (some ⟨q, 0, none⟩) b.n cap ∧ w.ownsRow B 5 1 u b.n (rowB b.f b.n)
theorem Kp.en {T : Nat} {w w' : World} (hk : Kp T w w') {B : Nat} {u : Value} {b : Bs} (h : EnT w B u b) (he : 5 ≠ T) : EnT w' B u b := by
  obtain ⟨q, cap, e, h⟩ := h
  exact ⟨q, cap, e, hk.own h he⟩
theorem EnT.bs {w : World} {B : Nat} {u : Value} {b : Bs} (h : EnT w B u b) (hn : b.n ≤ 4000) (hf : ∀ j, b.f j < 256) : BsS w u b := by
  obtain ⟨q, cap, e, h⟩ := h
  subst e
  exact ⟨some ⟨q, 0, none⟩, cap, rfl, own_src h, fun h => (by cases h), by omega, hf⟩
def LiT (w : World) (B : Nat) (v : Value) (j : Nat) (P : Nat → Bs) : Prop := ∃ us : List Value, w.ownsRow B 23 1 v j us ∧ us.length = j ∧ ∀ i u, us[i]? = some u → EnT w B u (P i)
theorem Kp.li {T : Nat} {w w' : World} (hk : Kp T w w') {B j : Nat} {v : Value} {P : Nat → Bs} (h : LiT w B v j P) (he : 5 ≠ T) (he' : 23 ≠ T) : LiT w' B v j P := by
  obtain ⟨us, h1, h2, h3⟩ := h
  exact ⟨us, hk.own h1 he', h2, fun i u hi => hk.en (h3 i u hi) he⟩
theorem LiT.ls {w : World} {B cap j : Nat} {sp : Option Addr} {P : Nat → Bs} (h : LiT w B (.slice sp j cap) j P) (hn : ∀ i, i < j → (P i).n ≤ 4000) (hf : ∀ i, i < j → ∀ q, (P i).f q < 256) : LsS w sp j P := by
  obtain ⟨us, ho, hl, he⟩ := h
  intro hj
  obtain ⟨g, cp, e, h1, h2⟩ := ho.form hj
  injection e with e _ _
  subst e
  refine ⟨g, 0, rfl, h2, fun i hi => ?_⟩
  have hc := ho.cellAt i (by omega)
  obtain ⟨u, hu⟩ : ∃ u, us[i]? = some u := ⟨us[i]'(by omega), List.getElem?_eq_getElem (by omega)⟩
  exact ⟨u, by rw [Nat.zero_add]; exact hc.trans hu, (he i u hu).bs (hn i hi) (hf i hi)⟩
theorem LiT.nil (w : World) (B : Nat) (P : Nat → Bs) : LiT w B (.slice none 0 0) 0 P := ⟨[], World.ownsRow_nil _ _ _ _, rfl, fun i u h => by simp at h⟩
theorem LiT.step {w w8 : World} {B j g8 c8 : Nat} {v u : Value} {P : Nat → Bs} {us : List Value} (ho : w.ownsRow B 23 1 v j us) (hl : us.length = j) (he : ∀ i u, us[i]? = some u → EnT w B u (P i)) (hu : EnT w B u (P j))
    (ho8 : w8.ownsRow B 23 1 (.slice (some ⟨g8, 0, none⟩) (j + 1) c8) (j + 1) (us ++ [u])) (hg8 : w.grownBy w8 v.ownBlock) : LiT w8 B (.slice (some ⟨g8, 0, none⟩) (j + 1) c8) (j + 1) P := by
  have hk := Kp.app ho hg8
  refine ⟨us ++ [u], ho8, by rw [List.length_append, hl]; rfl, fun i u' hi => ?_⟩
  by_cases hij : i < j
  · rw [List.getElem?_append_left (by omega)] at hi
    exact hk.en (he i u' hi) (by decide)
  · have hij' : i = j := by
      rcases Nat.lt_or_ge i (j + 1) with h | h
      · omega
      · rw [List.getElem?_eq_none (by rw [List.length_append, hl]; exact h)] at hi; cases hi
    subst hij'
    rw [List.getElem?_append_right (by omega), hl, Nat.sub_self] at hi
    have hi' : u = u' := by simpa using hi
    subst hi'
    exact hk.en hu (by decide)
/-- the bits that are left -/
def Rst (q n : Nat) (cq : Array Value) (f : Nat → Nat) : Prop := ∀ (W : World) (a o : Nat), W.heap[q]? = some (.cells cq 5 (0, 0)) → a ≤ 8 * n → (a < 8 * n → o = a) → BS W q o (8 * n - a) a f
theorem rst_of {w1 : World} {q n base cap : Nat} {f : Nat → Nat} (h : w1.ownsRow base 5 1 (.slice (some ⟨q, 0, none⟩) (8 * n) cap) (8 * n) (rowB (bitAt f) (8 * n))) : ∃ cq, w1.heap[q]? = some (.cells cq 5 (0, 0)) ∧ Rst q n cq f := by
  obtain ⟨cq, hq⟩ := own_cells h rfl
  refine ⟨cq, hq, fun W a o hW ha ho => ⟨EnS.lt hW, fun j hj => ?_⟩⟩
  have ho := ho (by omega)
  subst ho
  rw [cell_of_row W q _ _ 5 (0, 0) hW, ← cell_of_row w1 q _ _ 5 (0, 0) hq]
  rw [h.cellAt (o + j) (by omega)]
  exact rowB_get _ _ _ (by omega)
end Go.Proofs.Ytccpfoimedjdgaa

namespace Go.Proofs.Ytccpfoimedjdgaa
open Go.ChangeShapes Go.WideShapes Go.ChangeAt Go.RowKit

def InP (N : Nat → Int) (n : Nat) (P : Nat → Bs) (D : Bs) (F : Nat → Nat) (w : World) (e : Ending) (w' : World) : Prop :=
  Below w.heap.size w w' ∧ ((¬ mErr 1 N n P D = 0 ∧ e = .returned (.tuple #[.slice none 0 0, .int .i64 (mErr 1 N n P D)])) ∨
    (mErr 1 N n P D = 0 ∧ ∃ g cap nb, e = .returned (.tuple #[.slice (some ⟨g, 0, none⟩) nb cap, .int .i64 0]) ∧ nb = ((msgL N n P D).length + 7) / 8 ∧ Src w' (some ⟨g, 0, none⟩) nb F))
theorem numsL_le' (N : Nat → Int) : ∀ t, (∀ j, j < t → NOk (N j)) → (numsL N t).length ≤ 129 * t := by
  intro t
  induction t with
  | zero => intro _; exact Nat.le_refl _
  | succ t ih =>
    intro h
    have h1 := ih fun j hj => h j (by omega)
    have h2 := h t (by omega)
    have h3 := numL_le (N t).toNat (by unfold NOk at h2; omega)
    show (numsL N t ++ numL (N t).toNat).length ≤ _
    rw [List.length_append]; omega
theorem KOk1 : KOk 1 := ⟨by decide, by decide⟩

set_option maxRecDepth 100000 in
set_option maxHeartbeats 8000000 in
theorem inside_any (N : Nat → Int) (la : Option Addr) (n lc : Nat) (P : Nat → Bs) (da : Value) (D : Bs) (F : Nat → Nat) (w : World) (hn : n ≤ 1000000) (hl : LsS w la n P) (hla : la = none → n = 0 ∧ lc = 0) (hd : BsS w da D)
    (hM : (∀ j, j < 9 → NOk (N j)) → (msgL N n P D).length ≤ 500000) (hF : mErr 1 N n P D = 0 → Sp F 0 (msgL N n P D) ∧ Ends F (msgL N n P D).length) :
    Calls Try.prog 10 #[rmV N (.slice la n lc) da] w (InP N n P D F w) := by
  have HL := Lib.hid hl
  have HA := Lib.hid hla
  have HD := Lib.hid hd
  have HMM := Lib.hid hM
  have HFF := Lib.hid hF
  obtain ⟨dsp, dcap, eda, _⟩ := hd
  obtain ⟨dn, edn⟩ : ∃ dn, dn = D.n := ⟨_, rfl⟩
  rw [← edn] at eda
  subst eda
  clear hl hla hM hF edn
  obtain ⟨wb, ewb⟩ : ∃ wb, wb = w.alloc (.cells (rmL N (.slice la n lc) (.slice dsp dn dcap)).toArray 35) := ⟨_, rfl⟩
  have hbx : RmC wb w.heap.size N (.slice la n lc) (.slice dsp dn dcap) := by rw [ewb]; exact heap_alloc_new w _
  have hbs : wb.heap.size = w.heap.size + 1 := by rw [ewb]; simp
  have HB0 : Hid (Below w.heap.size w wb) := Lib.hid (by rw [ewb]; exact (Below.refl _ _).alloc (Nat.le_refl _) _)
  obtain ⟨wi, ewi⟩ : ∃ wi, wi = wb.alloc (.cells #[] 5) := ⟨_, rfl⟩
  have HBI : Hid (Below wb.heap.size wb wi) := Lib.hid (by rw [ewi]; exact (Below.refl _ _).alloc (Nat.le_refl _) _)
  have HRI : Hid (RowS wi wb.heap.size [] wb.heap.size 0) := Lib.hid (by rw [ewi]; exact World.ownsRow_lit wb #[] 0 (Nat.le_refl _) (Nat.zero_le _) rfl)
  have hil : wi.heap.size = wb.heap.size + 1 := by rw [ewi]; simp
  obtain ⟨B, eB⟩ : ∃ B, B = w.heap.size + 1 := ⟨_, rfl⟩
  rw [hbs, ← eB] at HBI HRI hil
  have HBX : Hid (RmC wb w.heap.size N (.slice la n lc) (.slice dsp dn dcap)) := Lib.hid hbx
  have HEB : Hid (B = wb.heap.size ∧ w.heap.size < B) := Lib.hid (by omega)
  have hBi : B ≤ wi.heap.size := by omega
  obtain ⟨r0, r1, r2, r3, r4, r5, r6, r7, r8, r9, r10⟩ := (hbx.below HBI.out (by omega)).all
  go_enter Try.func10, Try.ntmps10
  go_wp2_with fail
  rw [← ewb, ← ewi, ← eB]
  clear ewb ewi eB hbs hbx hil
  go_loopw [4, 13] (fun v x wr => ∃ t g cap l : Nat, t ≤ 9 ∧ x = .int .i64 (t : Int) ∧ v = .slice (some ⟨g, 0, none⟩) l cap ∧ Hid (l = (numsL N t).length ∧ RowS wr B (numsL N t) g cap ∧ Below B wb wr ∧ B ≤ wr.heap.size ∧ ∀ j, j < t → NOk (N j))) (fun _ x _ => 9 - (intOf x).toNat)
  case atStart => exact ⟨0, B, 0, 0, Nat.zero_le _, rfl, rfl, Lib.hid ⟨rfl, HRI.out, HBI.out, hBi, fun j hj => absurd hj (Nat.not_lt_zero _)⟩⟩
  case round =>
    obtain ⟨t, g, cap, l, ht, rfl, rfl, HT⟩ := hrel
    clear r0 r1 r2 r3 r4 r5 r6 r7 r8 r9 r10
    by_cases hlt : t < 9
    · have hlt' : (t : Int) < 9 := by omega
      have hidx := idx9 N t hlt
      have HBR : Hid (Below w.heap.size w wr) := Lib.hid (HB0.out.trans (HT.out.2.2.1.mono (by have := HEB.out; omega)))
      have HNO : Hid (¬ NOk (N t) → mErr 1 N n P D = 1) := Lib.hid fun hh => mErr_num KOk1 t hlt hh
      have HPR : Hid (NOk (N t) → ∀ j, j < t + 1 → NOk (N j)) := Lib.hid fun hh j hj => by
        by_cases h : j < t
        · exact HT.out.2.2.2.2 j h
        · obtain rfl : j = t := by omega
          exact hh
      have HNX : Hid (numsL N (t + 1) = numsL N t ++ numL (N t).toNat) := Lib.hid rfl
      generalize N t = z at *
      by_cases hx : z < 0
      · have hcn := HNO.out (by unfold NOk; omega)
        go_wp2
        go_ret2
        exact ⟨HBR.out, .inl ⟨by rw [hcn]; decide, by rw [hcn]; rfl⟩⟩
      · by_cases hx' : 1099511627776 < z
        · have hcn := HNO.out (by unfold NOk; omega)
          go_wp2
          go_ret2
          exact ⟨HBR.out, .inl ⟨by rw [hcn]; decide, by rw [hcn]; rfl⟩⟩
        · have HPR' := Lib.hid (HPR.out (by unfold NOk; omega))
          obtain ⟨x, rfl⟩ : ∃ x : Nat, z = (x : Int) := ⟨z.toNat, by omega⟩
          rw [show ((x : Int)).toNat = x from rfl] at HNX
          have hx5 : x ≤ 1099511627776 := by omega
          have hnl := numsL_le' N t HT.out.2.2.2.2
          have hxl := numL_le x (by omega)
          have HLN := Lib.hid HT.out.1
          have HRW := Lib.hid HT.out.2.1
          have HBW := Lib.hid HT.out.2.2.1
          have hBw := HT.out.2.2.2.1
          clear HT
          go_wp2_with fail
          refine (rnum_L x wr (by omega)).mono ?_
          rintro e w3 ⟨g3, c3, rfl, hr3, hb3⟩
          have HR3 := Lib.hid (HRW.out.below hb3)
          have HB3 := Lib.hid (HBW.out.trans (hb3.mono hBw))
          have HN3 := Lib.hid hr3
          have hB3 : B ≤ w3.heap.size := Nat.le_trans hBw hb3.size
          clear hr3 hb3
          go_wp2_with (at_builtin; refine wpList_append_L2 rfl _ _ rfl B wr.heap.size (numsL N t) (numL x) g cap g3 c3 l (numL x).length HLN.out rfl rfl HR3.out rfl HN3.out (by omega) (by omega) hB3 ?_)
          intro g4 c4 l4 w4 hl4 hr4 hg4
          have HRE : Hid (l4 = (numsL N (t + 1)).length ∧ RowS w4 B (numsL N (t + 1)) g4 c4 ∧ Below B wb w4 ∧ B ≤ w4.heap.size ∧ ∀ j, j < t + 1 → NOk (N j)) := Lib.hid ⟨by rw [HNX.out, List.length_append]; exact hl4, by rw [HNX.out]; exact hr4, HB3.out.grown hg4 hB3 (fun q hq => by injection hq with hq; have := (HR3.out.lt g rfl).1; omega), Nat.le_trans hB3 hg4.size, HPR'.out⟩
          clear hr4 hg4 hidx hl4
          go_wp2
          go_roundw
          case rel => exact ⟨t + 1, g4, c4, _, by omega, by go_num, rfl, HRE⟩
          case measure => simp [intOf]; omega
    · obtain rfl : t = 9 := by omega
      have HLN := Lib.hid HT.out.1
      have HRW := Lib.hid HT.out.2.1
      have HBW := Lib.hid HT.out.2.2.1
      have hBw := HT.out.2.2.2.1
      have HNN := Lib.hid HT.out.2.2.2.2
      have hnl := numsL_le' N 9 HT.out.2.2.2.2
      have hML := HMM.out HT.out.2.2.2.2
      rw [msgL_length] at hML
      have HBR : Hid (Below w.heap.size w wr) := Lib.hid (HB0.out.trans (HBW.out.mono (by have := HEB.out; omega)))
      have HXR : Hid (RmC wr w.heap.size N (.slice la n lc) (.slice dsp dn dcap)) := Lib.hid (HBX.out.below HBW.out HEB.out.2)
      have c9 := HXR.out.cell 9 rfl
      clear HT HMM
      by_cases h2 : 2000 < n
      · have h2' : (2000 : Int) < (n : Int) := by omega
        have hcn : mErr 1 N n P D = 4 := mErr_many KOk1 HNN.out h2
        go_wp2
        go_ret2
        exact ⟨HBR.out, .inl ⟨by rw [hcn]; decide, by rw [hcn]; rfl⟩⟩
      · have h2' : ¬ (2000 : Int) < (n : Int) := by omega
        have hnn := numL_le n (by omega)
        go_wp2_with fail
        refine (rnum_L n wr (by omega)).mono ?_
        rintro e w3 ⟨g3, c3, rfl, hr3, hb3⟩
        have HR3 := Lib.hid (HRW.out.below hb3)
        have HB3 := Lib.hid (HBW.out.trans (hb3.mono hBw))
        have HN3 := Lib.hid hr3
        have hB3 : B ≤ w3.heap.size := Nat.le_trans hBw hb3.size
        clear hr3 hb3 c9
        go_wp2_with (at_builtin; refine wpList_append_L2 rfl _ _ rfl B wr.heap.size (numsL N 9) (numL n) g cap g3 c3 l (numL n).length HLN.out rfl rfl HR3.out rfl HN3.out (by omega) (by omega) hB3 ?_)
        intro g4 c4 al w4 hl4 hr4 hg4
        have HB4 : Hid (Below B wb w4) := Lib.hid (HB3.out.grown hg4 hB3 (fun q hq => by injection hq with hq; have := (HR3.out.lt g rfl).1; omega))
        have hB4 : B ≤ w4.heap.size := Nat.le_trans hB3 hg4.size
        have hal : (numsL N 9 ++ numL n).length ≤ 1300 := by rw [List.length_append]; omega
        have HR4 := Lib.hid hr4
        have HX4 : Hid (RmC w4 w.heap.size N (.slice la n lc) (.slice dsp dn dcap)) := Lib.hid (HBX.out.below HB4.out HEB.out.2)
        have HW4 : Hid (Below w.heap.size w w4) := Lib.hid (HB0.out.trans (HB4.out.mono (by have := HEB.out; omega)))
        obtain ⟨A, eA⟩ : ∃ A, A = numsL N 9 ++ numL n := ⟨_, rfl⟩
        have HAL : Hid (al = A.length) := Lib.hid (by rw [eA, List.length_append]; exact hl4)
        rw [← eA] at HR4 hal
        have HAE := Lib.hid eA
        clear eA hr4 hg4 hl4 HR3 HB3 HN3 HRW HBW HXR HBR HBX HBI HRI hBi
        go_upto_region 12 with (fail)
        go_cut [7] from 39 (fun v wc => ∃ q c : Nat, v = .slice (some ⟨q, 0, none⟩) (n + 1) c ∧ Hid (Below w4.heap.size w4 wc ∧ PqS w wc q (n + 1) (prt n P D)))
        case first =>
          obtain ⟨olds, ho1, ho2, ho3⟩ := HL.out.row
          have H1 := Lib.hid ho1
          have HOC : Hid (∀ u ∈ olds, u.oneCell' = true) := Lib.hid fun u hu => by
            obtain ⟨i, hi⟩ := List.mem_iff_getElem?.1 hu
            exact (ho3 i u hi).one
          have HOL : Hid (∀ W, Below w4.heap.size w4 W → ∀ b, la = some b → ∀ j u, olds[j]? = some u → W.cell? (b.add j) = some u) := Lib.hid fun W hW b e j u hj => by
            have h := ho2 b e j u hj
            exact ((HW4.out.trans (hW.mono HW4.out.size)).cell (cell_lt h)).trans h
          have HM : Hid (∀ W, Below w4.heap.size w4 W → W.cell? ⟨w.heap.size, 9, none⟩ = some (.slice la n lc) ∧ W.cell? ⟨w.heap.size, 10, none⟩ = some (.slice dsp dn dcap)) := Lib.hid fun W hW => ⟨(HX4.out.below hW HX4.out.lt).cell 9 rfl, (HX4.out.below hW HX4.out.lt).cell 10 rfl⟩
          have HFN : Hid (∀ (W : World) (v : Value), Below w4.heap.size w4 W → W.ownsRow w4.heap.size 23 1 v (n + 1) (olds ++ [.slice dsp dn dcap]) → ∃ q c : Nat, v = .slice (some ⟨q, 0, none⟩) (n + 1) c ∧ Hid (Below w4.heap.size w4 W ∧ PqS w W q (n + 1) (prt n P D))) := Lib.hid fun W v hW ho => by
            obtain ⟨q, c, e, hq, hql⟩ := ho.form (by omega)
            refine ⟨q, c, e, Lib.hid ⟨hW, hql, own_cells ho (by rw [e]; rfl), fun i hi => ?_⟩⟩
            subst e
            have hc := ho.cellAt i (by omega)
            by_cases hin : i < n
            · rw [List.getElem?_append_left (by have := H1.out; omega)] at hc
              obtain ⟨u, hu⟩ : ∃ u, olds[i]? = some u := ⟨olds[i]'(by have := H1.out; omega), List.getElem?_eq_getElem (by have := H1.out; omega)⟩
              refine ⟨u, hc.trans hu, ?_⟩
              unfold prt
              rw [if_pos hin]
              exact ho3 i u hu
            · obtain rfl : i = n := by omega
              rw [List.getElem?_append_right (by have := H1.out; omega), H1.out, Nat.sub_self] at hc
              refine ⟨_, hc, ?_⟩
              unfold prt
              rw [if_neg hin]
              exact HD.out
          have hA0 : w.heap.size < w4.heap.size := HX4.out.lt
          have hB1 : Below w4.heap.size w4 ((w4.alloc (.cells #[] 23)).drew) := ((Below.refl _ _).alloc (Nat.le_refl _) _).drew
          have hB2 : Below w4.heap.size w4 (((w4.alloc (.cells #[] 23)).alloc (.cells #[.slice dsp dn dcap] 23)).drew) := (((Below.refl _ _).alloc (Nat.le_refl _) _).alloc (by simp) _).drew
          have hB3 : Below w4.heap.size w4 (((w4.alloc (.cells #[.slice dsp dn dcap] 23)).alloc (.cells #[] 23)).drew) := (((Below.refl _ _).alloc (Nat.le_refl _) _).alloc (by simp) _).drew
          have HLA : Hid (la = none → n = 0 ∧ lc = 0) := HA
          obtain ⟨m9, m10⟩ := HM.out w4 (Below.refl _ _)
          obtain ⟨x9, x10⟩ := HM.out _ hB1
          obtain ⟨v9, v10⟩ := HM.out _ hB2
          obtain ⟨u9, u10⟩ := HM.out _ hB3
          have HO1 : Hid (((w4.alloc (.cells #[] 23)).drew).ownsRow w4.heap.size 23 1 (.slice (some ⟨w4.heap.size, 0, none⟩) 0 0) 0 []) := Lib.hid (by
            have h := World.ownsRow_lit (base := w4.heap.size) (e := 23) (size := 1) w4 #[] 0 (Nat.le_refl _) (Nat.zero_le _) rfl
            exact own_keep h fun _ _ => rfl)
          have HO2 : Hid ((((w4.alloc (.cells #[] 23)).alloc (.cells #[.slice dsp dn dcap] 23)).drew).ownsRow w4.heap.size 23 1 (.slice (some ⟨w4.heap.size, 0, none⟩) 0 0) 0 []) := Lib.hid (by
            have h := World.ownsRow_lit (base := w4.heap.size) (e := 23) (size := 1) w4 #[] 0 (Nat.le_refl _) (Nat.zero_le _) rfl
            exact own_keep (h.alloc (.cells #[.slice dsp dn dcap] 23)) fun _ _ => rfl)
          have HO3 : Hid ((((w4.alloc (.cells #[.slice dsp dn dcap] 23)).alloc (.cells #[] 23)).drew).ownsRow w4.heap.size 23 1 (.slice (some ⟨w4.heap.size + 1, 0, none⟩) 0 0) 0 []) := Lib.hid (by
            have h := World.ownsRow_lit (base := w4.heap.size) (e := 23) (size := 1) (w4.alloc (.cells #[.slice dsp dn dcap] 23)) #[] 0 (by simp) (Nat.zero_le _) rfl
            rw [show (w4.alloc (.cells #[.slice dsp dn dcap] 23)).heap.size = w4.heap.size + 1 by simp] at h
            exact own_keep h fun _ _ => rfl)
          have HZ : Hid (n ≤ 2000) := Lib.hid (by omega)
          have HNW : Hid (∀ (W : World) (j : Nat) (u : Value), [Value.slice dsp dn dcap][j]? = some u → (W.alloc (.cells #[.slice dsp dn dcap] 23)).cell? ((⟨W.heap.size, 0, none⟩ : Addr).add j) = some u) := Lib.hid fun W j u hj => by
            rw [Go.WideShapes.add_plain, cell_of_row _ _ _ _ 23 (0, 0) (heap_alloc_new W _), Nat.zero_add]
            simpa using hj
          have HO1C : Hid (∀ u ∈ [Value.slice dsp dn dcap], u.oneCell' = true) := Lib.hid fun u hu => by
            simp at hu; subst hu; rfl
          have HL2 : Hid (∀ W, (((w4.alloc (.cells #[] 23)).alloc (.cells #[.slice dsp dn dcap] 23)).drew).grownBy W (Value.ownBlock (.slice (some ⟨w4.heap.size, 0, none⟩) 0 0)) → ∀ (j : Nat) (u : Value), [Value.slice dsp dn dcap][j]? = some u → W.cell? ((⟨w4.heap.size + 1, 0, none⟩ : Addr).add j) = some u) := Lib.hid fun W hW j u hj => by
            have h0 := heap_alloc_new (w4.alloc (.cells #[] 23)) (.cells #[.slice dsp dn dcap] 23)
            rw [show (w4.alloc (.cells #[] 23)).heap.size = w4.heap.size + 1 by simp] at h0
            have h0' : (((w4.alloc (.cells #[] 23)).alloc (.cells #[.slice dsp dn dcap] 23)).drew).heap[w4.heap.size + 1]? = some (.cells #[.slice dsp dn dcap] 23 (0, 0)) := h0
            have h1 := (hW.block (w4.heap.size + 1) (EnS.lt h0') (fun e => by simp [Value.ownBlock] at e)).trans h0'
            rw [Go.WideShapes.add_plain, cell_of_row _ _ _ _ 23 (0, 0) h1, Nat.zero_add]
            simpa using hj
          have HL3 : Hid (∀ W, (((w4.alloc (.cells #[.slice dsp dn dcap] 23)).alloc (.cells #[] 23)).drew).grownBy W (Value.ownBlock (.slice (some ⟨w4.heap.size + 1, 0, none⟩) 0 0)) → ∀ (j : Nat) (u : Value), [Value.slice dsp dn dcap][j]? = some u → W.cell? ((⟨w4.heap.size, 0, none⟩ : Addr).add j) = some u) := Lib.hid fun W hW j u hj => by
            have h0 : (w4.alloc (.cells #[.slice dsp dn dcap] 23)).heap[w4.heap.size]? = some (.cells #[.slice dsp dn dcap] 23 (0, 0)) := heap_alloc_new w4 _
            have h0' : (((w4.alloc (.cells #[.slice dsp dn dcap] 23)).alloc (.cells #[] 23)).drew).heap[w4.heap.size]? = some (.cells #[.slice dsp dn dcap] 23 (0, 0)) := (Below.heap_alloc (w4.alloc (.cells #[.slice dsp dn dcap] 23)) (.cells #[] 23) w4.heap.size (EnS.lt h0)).trans h0
            have h1 := (hW.block w4.heap.size (EnS.lt h0') (fun e => by simp [Value.ownBlock] at e)).trans h0'
            rw [Go.WideShapes.add_plain, cell_of_row _ _ _ _ 23 (0, 0) h1, Nat.zero_add]
            simpa using hj
          go_wp2_with fail
          go_region_law (first
            | (refine step_append_vs (by rfl) _ _ (by rfl) w4.heap.size _ 0 [] (by rfl) HO1.out la n lc olds H1.out (by rfl) (HOL.out _ hB1) HOC.out HLA.out (by have := HZ.out; omega) hB1.size ?_; intro v6 w6 ho6 hg6; rw [Nat.zero_add, List.nil_append] at ho6; obtain ⟨s6, c6, e6⟩ := own_form' ho6; subst e6; have hB6 : Below w4.heap.size w4 w6 := hB1.grown hg6 hB1.size (fun q hq => (HO1.out.lt q hq).1); obtain ⟨y9, y10⟩ := HM.out _ hB6; have hA6 : w.heap.size < w6.heap.size := Nat.lt_of_lt_of_le HX4.out.lt hB6.size)
            | (refine step_append_vs (by rfl) _ _ (by rfl) w4.heap.size _ 0 [] (by rfl) HO2.out la n lc olds H1.out (by rfl) (HOL.out _ hB2) HOC.out HLA.out (by have := HZ.out; omega) hB2.size ?_; intro v6 w6 ho6 hg6; rw [Nat.zero_add, List.nil_append] at ho6; obtain ⟨s6, c6, e6⟩ := own_form' ho6; subst e6; have hB6 : Below w4.heap.size w4 w6 := hB2.grown hg6 hB2.size (fun q hq => (HO2.out.lt q hq).1); obtain ⟨y9, y10⟩ := HM.out _ hB6; have hA6 : w.heap.size < w6.heap.size := Nat.lt_of_lt_of_le HX4.out.lt hB6.size; have hlit : ∀ (j : Nat) (u : Value), [Value.slice dsp dn dcap][j]? = some u → w6.cell? ((⟨w4.heap.size + 1, 0, none⟩ : Addr).add j) = some u := HL2.out w6 hg6)
            | (refine step_append_vs (by rfl) _ _ (by rfl) w4.heap.size _ 0 [] (by rfl) HO3.out la n lc olds H1.out (by rfl) (HOL.out _ hB3) HOC.out HLA.out (by have := HZ.out; omega) hB3.size ?_; intro v6 w6 ho6 hg6; rw [Nat.zero_add, List.nil_append] at ho6; obtain ⟨s6, c6, e6⟩ := own_form' ho6; subst e6; have hB6 : Below w4.heap.size w4 w6 := hB3.grown hg6 hB3.size (fun q hq => (HO3.out.lt q hq).1); obtain ⟨y9, y10⟩ := HM.out _ hB6; have hA6 : w.heap.size < w6.heap.size := Nat.lt_of_lt_of_le HX4.out.lt hB6.size; have hlit : ∀ (j : Nat) (u : Value), [Value.slice dsp dn dcap][j]? = some u → w6.cell? ((⟨w4.heap.size, 0, none⟩ : Addr).add j) = some u := HL3.out w6 hg6)
            | (refine step_append_vs (by rfl) _ _ (by rfl) w4.heap.size _ n olds (by rfl) ho6 (some ⟨_, 0, none⟩) 1 1 [.slice dsp dn dcap] rfl (by rfl) (fun b e => by injection e with e; subst e; exact hlit) HO1C.out (fun h => by cases h) (by have := HZ.out; omega) hB6.size ?_; intro v7 w7 ho7 hg7; have HR7 := Lib.hid (HFN.out w7 v7 (hB6.grown hg7 hB6.size (fun q hq => (ho6.lt q hq).1)) ho7))
            | (refine step_append_vs (by rfl) _ _ (by rfl) w4.heap.size _ n olds (by rfl) (ho6.alloc (.cells #[.slice dsp dn dcap] 23)) (some ⟨w6.heap.size, 0, none⟩) 1 1 [.slice dsp dn dcap] rfl (by rfl) (fun b e => by injection e with e; subst e; exact HNW.out w6) HO1C.out (fun h => by cases h) (by have := HZ.out; omega) (Nat.le_trans hB6.size (by simp)) ?_; intro v7 w7 ho7 hg7; have HR7 := Lib.hid (HFN.out w7 v7 ((hB6.alloc hB6.size _).grown hg7 (Nat.le_trans hB6.size (by simp)) (fun q hq => (ho6.lt q hq).1)) ho7)))
          all_goals
            clear HM HOL HOC HFN HO1 HO2 HO3 HL2 HL3 HNW HO1C hB1 hB2 hB3 m9 m10 x9 x10 v9 v10 u9 u10 ho6 hg6 hB6 y9 y10 ho7 hg7
            go_wp2
            go_meet
            exact HR7.out
        case rest =>
          obtain ⟨q, c, rfl, HQ⟩ := hcut
          have HR5 := Lib.hid (HR4.out.below HQ.out.1)
          have HB5 : Hid (Below B wb wc) := Lib.hid (HB4.out.trans (HQ.out.1.mono hB4))
          have hB5 : B ≤ wc.heap.size := Nat.le_trans hB4 HQ.out.1.size
          have HPQ := Lib.hid HQ.out.2
          have HLE : Hid (∀ t, t < n + 1 → (prtL (prt n P D) t).length + 8 * (prt n P D t).n ≤ 500000) := Lib.hid fun t h => by
            have := prtL_next (prt n P D) t (n + 1) h; omega
          have HGO : Hid (∀ t, t ≤ n + 1 → (prtL (prt n P D) t).length ≤ 500000) := Lib.hid fun t h => by
            have := prtL_mono (prt n P D) t (n + 1) h; omega
          have HER : Hid (∀ i, i < n + 1 → 4000 < (prt n P D i).n → mErr 1 N n P D = 3) := Lib.hid fun i hi h => mErr_long KOk1 HNN.out h2 i hi h
          have HEO : Hid ((∀ i, i < n + 1 → (prt n P D i).n ≤ 4000) → mErr 1 N n P D = 0) := Lib.hid fun h => mErr_ok KOk1 HNN.out h2 h
          have HLQ : Hid (msgL N n P D = A ++ prtL (prt n P D) (n + 1)) := Lib.hid (by unfold msgL; rw [HAE.out, List.append_assoc])
          clear HQ HR4 HB4 HX4 HW4 hML
          obtain ⟨n1, en1⟩ : ∃ n1, n1 = n + 1 := ⟨_, rfl⟩
          rw [← en1] at HPQ HLE HGO HER HEO HLQ ⊢
          have hn1 : n1 ≤ 2001 := by omega
          clear en1
          go_wp2_with fail
          go_loopw [4, 49] (fun v x wr => ∃ t g cap l : Nat, t ≤ n1 ∧ x = .int .i64 (t : Int) ∧ v = .slice (some ⟨g, 0, none⟩) l cap ∧ Hid (l = (A ++ prtL (prt n P D) t).length ∧ RowS wr B (A ++ prtL (prt n P D) t) g cap ∧ Below B wb wr ∧ B ≤ wr.heap.size ∧ Kp 5 wc wr ∧ ∀ i, i < t → (prt n P D i).n ≤ 4000)) (fun _ x _ => n1 - (intOf x).toNat)
          case atStart => exact ⟨0, g4, c4, al, Nat.zero_le _, rfl, rfl, Lib.hid ⟨by rw [show prtL (prt n P D) 0 = [] from rfl, List.append_nil]; exact HAL.out, by rw [show prtL (prt n P D) 0 = [] from rfl, List.append_nil]; exact HR5.out, HB5.out, hB5, fun _ _ _ h _ => h, fun i hi => absurd hi (Nat.not_lt_zero _)⟩⟩
          case round =>
            obtain ⟨t, g, cap, l, ht, rfl, rfl, HT⟩ := hrel
            have HLN := Lib.hid HT.out.1
            have HRW := Lib.hid HT.out.2.1
            have HBW := Lib.hid HT.out.2.2.1
            have hBw := HT.out.2.2.2.1
            have HKP := Lib.hid HT.out.2.2.2.2.1
            have HOK := Lib.hid HT.out.2.2.2.2.2
            have HBR : Hid (Below w.heap.size w wr) := Lib.hid (HB0.out.trans (HBW.out.mono (by have := HEB.out; omega)))
            clear HT HR5 HB5
            by_cases hlt : t < n1
            · have hlt' : (t : Int) < (n1 : Int) := by omega
              obtain ⟨ev, c0, hbs⟩ := PqS.kept HPQ.out (fun cs hcs => HKP.out _ _ _ hcs (by decide)) t hlt
              have HBS := Lib.hid (hbs.below HBR.out)
              have HBW0 : Hid (∀ W, Below w.heap.size w W → BsS W ev (prt n P D t)) := Lib.hid fun W hW => hbs.below hW
              obtain ⟨esp, ecap, eev, _⟩ := hbs
              have HNX : Hid (prtL (prt n P D) (t + 1) = prtL (prt n P D) t ++ (numL (prt n P D t).n ++ bytL (prt n P D t).f (prt n P D t).n)) := Lib.hid rfl
              have hle := HLE.out t hlt
              have hgo := HGO.out t ht
              have HRR := Lib.hid (HER.out t hlt)
              have HPR : Hid ((prt n P D t).n ≤ 4000 → ∀ i, i < t + 1 → (prt n P D i).n ≤ 4000) := Lib.hid fun hh j hj => by
                by_cases h : j < t
                · exact HOK.out j h
                · obtain rfl : j = t := by omega
                  exact hh
              obtain ⟨M, eM⟩ : ∃ M, M = A ++ prtL (prt n P D) t := ⟨_, rfl⟩
              rw [← eM] at HLN HRW
              have hMl : M.length ≤ 501300 := by rw [eM, List.length_append]; omega
              have HME := Lib.hid eM
              clear eM
              generalize prt n P D t = bt at *
              obtain ⟨bn, bf⟩ := bt
              dsimp only at *
              subst eev
              by_cases hx : 4000 < bn
              · have hcn := HRR.out hx
                have hx' : (4000 : Int) < (bn : Int) := by omega
                go_wp2
                go_ret2
                exact ⟨HBR.out, .inl ⟨by rw [hcn]; decide, by rw [hcn]; rfl⟩⟩
              · have hx' : ¬ (4000 : Int) < (bn : Int) := by omega
                have HPR' := Lib.hid (HPR.out (by omega))
                have hxl := numL_le bn (by omega)
                have hby : (bytL bf bn).length = 8 * bn := bytL_length bf bn
                go_wp2_with fail
                refine (rnum_L bn wr (by omega)).mono ?_
                rintro e w5 ⟨g5, c5, rfl, hr5, hb5⟩
                have HR5 := Lib.hid (HRW.out.below hb5)
                have HB5 := Lib.hid (HBW.out.trans (hb5.mono hBw))
                have HN5 := Lib.hid hr5
                have hB5 : B ≤ w5.heap.size := Nat.le_trans hBw hb5.size
                have HK5 : Hid (Kp 5 wr w5) := Lib.hid (Kp.below hb5)
                have HS5 := Lib.hid (HBS.out.below hb5)
                clear hr5 hb5 c0
                go_wp2_with (at_builtin; refine wpList_append_L2 rfl _ _ rfl B wr.heap.size M (numL bn) g cap g5 c5 l (numL bn).length HLN.out rfl rfl HR5.out rfl HN5.out (by omega) (by omega) hB5 ?_)
                intro g6 c6 l6 w6 hl6 hr6 hg6
                have HL6 : Hid (l6 = (M ++ numL bn).length) := Lib.hid (by rw [List.length_append]; exact hl6)
                have HB6 : Hid (Below B wb w6) := Lib.hid (HB5.out.grown hg6 hB5 (fun q hq => by injection hq with hq; have := (HR5.out.lt g rfl).1; omega))
                have HR6 := Lib.hid hr6
                have hB6 : B ≤ w6.heap.size := Nat.le_trans hB5 hg6.size
                have HK6 : Hid (Kp 5 w5 w6) := Lib.hid (Kp.app HR5.out hg6)
                have HBR6 : Hid (Below w.heap.size w w6) := Lib.hid (HB0.out.trans (HB6.out.mono (by have := HEB.out; omega)))
                have hl7 : (M ++ numL bn).length ≤ 502000 := by rw [List.length_append]; omega
                clear hl6 hr6 hg6 HS5
                go_wp2_with fail
                refine (rbits_L (.slice esp bn ecap) ⟨bn, bf⟩ w6 (by dsimp only; omega) (HBW0.out w6 HBR6.out)).mono ?_
                rintro e w7 ⟨g7, c7, rfl, hr7, hb7⟩
                dsimp only at hr7 ⊢
                have HR7 := Lib.hid (HR6.out.below hb7)
                have HB7 := Lib.hid (HB6.out.trans (hb7.mono hB6))
                have HN7 := Lib.hid hr7
                have hB7 : B ≤ w7.heap.size := Nat.le_trans hB6 hb7.size
                have HK7 : Hid (Kp 5 w6 w7) := Lib.hid (Kp.below hb7)
                clear hr7 hb7
                go_wp2_with (at_builtin; refine wpList_append_L2 rfl _ _ rfl B w6.heap.size (M ++ numL bn) (bytL bf bn) g6 c6 g7 c7 l6 _ HL6.out rfl rfl HR7.out rfl HN7.out (by omega) (by omega) hB7 ?_)
                intro g8 c8 l8 w8 hl8 hr8 hg8
                have HK8 : Hid (Kp 5 w7 w8) := Lib.hid (Kp.app HR7.out hg8)
                have HEQ : Hid (M ++ numL bn ++ bytL bf bn = A ++ prtL (prt n P D) (t + 1)) := Lib.hid (by rw [HNX.out, HME.out, List.append_assoc, List.append_assoc])
                have HRE : Hid (l8 = (A ++ prtL (prt n P D) (t + 1)).length ∧ RowS w8 B (A ++ prtL (prt n P D) (t + 1)) g8 c8 ∧ Below B wb w8 ∧ B ≤ w8.heap.size ∧ Kp 5 wc w8 ∧ ∀ i, i < t + 1 → (prt n P D i).n ≤ 4000) := Lib.hid ⟨by rw [← HEQ.out, List.length_append, List.length_append, hby]; omega, by rw [← HEQ.out, List.append_assoc]; exact hr8, HB7.out.grown hg8 hB7 (fun q hq => by injection hq with hq; have := (HR7.out.lt g6 rfl).1; omega), Nat.le_trans hB7 hg8.size, fun k cs T' h hT => HK8.out _ _ _ (HK7.out _ _ _ (HK6.out _ _ _ (HK5.out _ _ _ (HKP.out _ _ _ h hT) hT) hT) hT) hT, HPR'.out⟩
                clear hl8 hr8 hg8
                go_wp2
                go_roundw
                case rel => exact ⟨t + 1, g8, c8, _, by omega, by go_num, rfl, HRE⟩
                case measure => simp [intOf]; omega
            · obtain rfl : n1 = t := by omega
              have h0 := HEO.out HOK.out
              obtain ⟨hsp, hen⟩ := HFF.out h0
              rw [HLQ.out] at hsp hen
              have hll : (A ++ prtL (prt n P D) n1).length ≤ 501300 := by have := HGO.out n1 (Nat.le_refl _); rw [List.length_append]; omega
              have HBS := Lib.hid (rowS_bs HRW.out hsp)
              have HEN := Lib.hid hen
              have HL8 : Hid ((msgL N n P D).length = l) := Lib.hid (by rw [HLQ.out]; exact HLN.out.symm)
              have HLL := Lib.hid HLN.out
              rw [← HLN.out] at hll
              have HBT : Hid (BS wr g 0 l 0 F) := Lib.hid (by rw [HLN.out]; exact HBS.out)
              have HET : Hid (Ends F l) := Lib.hid (by rw [HLN.out]; exact HEN.out)
              clear hsp hen
              go_wp2_with fail
              refine (rbytes_any g l cap F wr HBT.out HET.out (by omega)).mono ?_
              rintro e w5 ⟨g5, c5, rfl, _, ho5, hb5⟩
              have HS5 := Lib.hid (own_src ho5)
              have HB5 := Lib.hid (HBR.out.trans (hb5.mono HBR.out.size))
              clear ho5 hb5
              go_wp2
              go_ret2
              exact ⟨HB5.out, .inr ⟨h0, g5, c5, _, rfl, by rw [HL8.out], HS5.out⟩⟩
end Go.Proofs.Ytccpfoimedjdgaa

