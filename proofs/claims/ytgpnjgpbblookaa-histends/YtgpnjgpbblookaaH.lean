/-
  Contract of end.
-/
import Derived.Test.YtgpnjgpbblookaaG
namespace Go.Proofs.Ytgpnjgpbblookaa
open Go.ChangeShapes Go.WideShapes Go.ChangeAt Go.RowKit Go.Maps

/-- what becomes of a transaction -/
def endT (t : Tx) (k : Int) (n : Nat) (o : Nat → O3) : Tx := if k = 2 then ⟨t.c, 1, n, o⟩ else if k = 3 then ⟨t.c, 2, t.n, t.o⟩ else t
/-- an end that may be -/
def FinP (k : Int) (n : Nat) (p : Prop) : Prop := (k = 2 ∧ p) ∨ (¬ k = 2 ∧ n = 0)
def EndP (B hb mb mw m nb nw : Nat) (T : Nat → Tx) (bz wm : Int → Option Int) (i : Nat) (k c : Int) (n : Nat) (o : Nat → O3) (w : World) (e : Ending) (w' : World) : Prop :=
  ∃ er : Int, e = .returned (.int .i64 er) ∧ Below B w w' ∧
    ((¬ er = 0 ∧ ((k = 2 ∧ AnsP (T i).n n (T i).o o er) ∨ (¬ k = 2 ∧ 0 < n ∧ er = 22))) ∨
     (er = 0 ∧ FinP k n (AnsP (T i).n n (T i).o o 0) ∧ ∃ v', (∃ V', HSt w' B hb mb mw m v' (fun x => if x = i then endT (T i) k n o else T x) V' nb nw (fun y => if y = c then none else bz y) wm)))

set_option maxRecDepth 100000 in
set_option maxHeartbeats 4000000 in
theorem end_any (w0 : World) (B hb mb mw m : Nat) (v : Value) (T : Nat → Tx) (V : Nat → Value) (nb nw : Nat) (bz wm : Int → Option Int) (i : Nat) (k c : Int) (sp : Option Addr) (n cap : Nat) (o : Nat → O3) (w : World)
    (hB : w0.heap.size = B) (hb0 : Below B w0 w) (hs : OpS w0 sp n o) (hsp : sp = none → n = 0 ∧ cap = 0) (hn : n ≤ 12) (hm : m ≤ 400) (hi : i < m) (hTi : (T i).n ≤ 12) (hk : 2 ≤ k ∧ k ≤ 4) (hc : 1 ≤ c ∧ c ≤ 16) (hsn : ∀ i, i < n → SOp (o i) k) (hst : HSt w B hb mb mw m v T V nb nw bz wm) :
    Calls Try.prog 33 #[.pointer (some ⟨hb, 0, none⟩), .agg #[.int .i64 k, .int .i64 c, .slice sp n cap], .int .i64 (i : Int)] w (EndP B hb mb mw m nb nw T bz wm i k c n o w) := by
  obtain ⟨g, cpv, ev, hgB, hgl⟩ := hst.row.form (by omega)
  subst ev
  have HS := Lib.hid hs
  have HSP := Lib.hid hsp
  have HSN := Lib.hid hsn
  have HB0 := Lib.hid hb0
  have HBS := Lib.hid hB
  have hBw2 : B ≤ w.heap.size := by have := hb0.size; omega
  have hlow := hst.low
  have HX : Hid (HSt (w.alloc (.cells #[.int .i64 k, .int .i64 c, .slice sp n cap] 43)) B hb mb mw m (.slice (some ⟨g, 0, none⟩) m cpv) T V nb nw bz wm) := Lib.hid (hst.below ((Below.refl _ _).alloc (Nat.le_refl _) _))
  have HBX : Hid (Below B w (w.alloc (.cells #[.int .i64 k, .int .i64 c, .slice sp n cap] 43))) := Lib.hid ((Below.refl _ _).alloc hBw2 _)
  have HQ : Hid ((w.alloc (.cells #[.int .i64 k, .int .i64 c, .slice sp n cap] 43)).heap[w.heap.size]? = some (.cells #[.int .i64 k, .int .i64 c, .slice sp n cap] 43 (0, 0))) := Lib.hid (heap_alloc_new w _)
  obtain ⟨⟨c0, c1, c2⟩, _⟩ := cells3 HX.out.blk
  obtain ⟨⟨d0, d1, d2⟩, _⟩ := cells3 HQ.out
  have hi' : (i : Int) < (m : Int) := by omega
  have HWS := Lib.hid hst
  clear hs hsp hsn hb0 hst hB
  by_cases hk2 : k = 2
  · subst hk2
    obtain ⟨sT, cT, eV, hoT, hpT⟩ := HX.out.ops i hi
    have hrT := (HX.out.row.cellAt (i * 3 + 2) (by omega)).trans (rowT_get T V m i hi).2.2
    rw [eV] at hrT
    have hlg : g < (w.alloc (.cells #[.int .i64 2, .int .i64 c, .slice sp n cap] 43)).heap.size := (HX.out.row.lt g rfl).2
    have HOT := Lib.hid hoT
    go_enter Try.func33, Try.ntmps33
    go_wp2
    obtain ⟨wx, ewx⟩ : ∃ wx, wx = w.alloc (.cells #[.int .i64 2, .int .i64 c, .slice sp n cap] 43) := ⟨_, rfl⟩
    rw [← ewx] at HX HBX HQ HOT hlg hrT c0 d2 ⊢
    obtain ⟨Q, eQ⟩ : ∃ Q, Q = w.heap.size := ⟨_, rfl⟩
    have hQl : w.heap.size < wx.heap.size := by rw [ewx]; simp
    rw [← eQ] at HQ hQl d2 ⊢
    clear ewx eQ c1 c2 d0 d1 hoT
    have HAN : Hid (∀ W, Below wx.heap.size wx W → Calls Try.prog 40 #[.slice sT (T i).n cT, .slice sp n cap] W (AnsPost (T i).n n (T i).o o W)) := Lib.hid fun W hbw => answers_any sT (T i).n cT (T i).o sp n cap o 2 W hn hTi ((own38_ops HOT.out).below hbw) (HS.out.below (by rw [HBS.out]; exact (HB0.out.trans HBX.out).trans (hbw.mono (Nat.le_trans hBw2 HBX.out.size)))) HSN.out
    have HKK : Hid (∀ W, Below wx.heap.size wx W → W.cell? ⟨g, i * 3 + 2, none⟩ = some (.slice sT (T i).n cT) ∧ W.cell? ⟨Q, 2, none⟩ = some (.slice sp n cap)) := Lib.hid fun W hbw => ⟨(hbw.cell (p := ⟨g, i * 3 + 2, none⟩) hlg).trans hrT, (hbw.cell (p := ⟨Q, 2, none⟩) hQl).trans d2⟩
    have hB0 : Below wx.heap.size wx wx := Below.refl _ _
    have hBB : Below wx.heap.size wx wx.drew := (Below.refl _ _).drew
    clear hrT d2 c0
    go_region_held3 (fun W => W.cell? ⟨g, i * 3 + 2, none⟩ = some (.slice sT (T i).n cT) ∧ W.cell? ⟨Q, 2, none⟩ = some (.slice sp n cap))
      (first | exact HKK.out _ hBB | exact HKK.out _ hB0)
      (first | (go_at_call 40; refine (HAN.out _ hBB).mono ?_; rintro e w6 ⟨er, rfl, hans, hb6⟩; replace hBB := hBB.trans (hb6.mono hBB.size)))
    have HANS := Lib.hid hans
    have HW6 := Lib.hid hBB
    clear hans hb6 hBB hB0 HAN HKK
    have HS6 := Lib.hid (HX.out.below HW6.out)
    have HQ6 := Lib.hid ((HW6.out.block _ hQl).trans HQ.out)
    have HB6 := Lib.hid (HBX.out.trans (HW6.out.mono (Nat.le_trans hBw2 HBX.out.size)))
    by_cases her : er = 0
    · subst her
      have HFA : Hid (FinP 2 n (AnsP (T i).n n (T i).o o 0)) := Lib.hid (.inl ⟨rfl, HANS.out⟩)
      obtain ⟨⟨d0, d1, d2⟩, _⟩ := cells3 HQ6.out
      clear d0 d1
      go_wp2_with fail
      refine (clone_any sp n cap o w6 (by omega) (HS.out.below (by rw [HBS.out]; exact HB0.out.trans HB6.out)) HSP.out).mono ?_
      rintro e w7 ⟨s7, c7, rfl, ho7, hp7, hb7⟩
      have HS7 := Lib.hid (HS6.out.below hb7)
      have hQ6 : Q < w6.heap.size := Nat.lt_of_lt_of_le hQl HW6.out.size
      have HQ7 := Lib.hid ((hb7.block _ hQ6).trans HQ6.out)
      have HB7 := Lib.hid (HB6.out.trans (hb7.mono (Nat.le_trans hBw2 HB6.out.size)))
      have HO7 := Lib.hid (own_mono' ho7 (Nat.le_trans hBw2 HB6.out.size))
      have HP7 := Lib.hid hp7
      have f1 := HS7.out.row.frozenAt (i * 3 + 1)
      have f2 := HS7.out.row.frozenAt (i * 3 + 2)
      have r1 := (HS7.out.row.cellAt (i * 3 + 1) (by omega)).trans (rowT_get T V m i hi).2.1
      have r2 := (HS7.out.row.cellAt (i * 3 + 2) (by omega)).trans (rowT_get T V m i hi).2.2
      clear ho7 hb7 hp7 d2
      go_wp2
      obtain ⟨WD, eWD⟩ : ∃ WD, WD = (w7.setCell ⟨g, i * 3 + 1, none⟩ (.int .i64 1)).setCell ⟨g, i * 3 + 2, none⟩ (.slice s7 n c7) := ⟨_, rfl⟩
      rw [← eWD]
      obtain ⟨cur7, hcur7⟩ := own_cells HS7.out.row (g := g) rfl
      have HSD : Hid (HSt WD B hb mb mw m (.slice (some ⟨g, 0, none⟩) m cpv) (fun x => if x = i then endT (T i) 2 n o else T x) (fun x => if x = i then .slice s7 n c7 else V x) nb nw bz wm) := Lib.hid (by
        have h1 := HS7.out.state i 1
        have h2 := h1.opsed i s7 n c7 o (own_keep HO7.out fun q hq => heap_setCell_other w7 ⟨g, i * 3 + 1, none⟩ q _ (fun e => by
          obtain ⟨cur, e3⟩ := own_cells HO7.out hq
          have e' : q = g := e
          rw [e', hcur7] at e3
          injection e3 with e3
          injection e3 with _ e3 _
          cases e3)) HP7.out
        rw [← eWD] at h2
        have eT : (fun x => if x = i then endT (T i) 2 n o else T x) = (fun x => if x = i then (⟨((fun x => if x = i then { T i with st := 1 } else T x) i).c, ((fun x => if x = i then { T i with st := 1 } else T x) i).st, n, o⟩ : Tx) else (fun x => if x = i then { T i with st := 1 } else T x) x) := by
          funext x
          by_cases hx : x = i
          · rw [if_pos hx, if_pos hx]; simp [endT]
          · rw [if_neg hx, if_neg hx]; simp [hx]
        rw [eT]
        exact h2)
      have hQg : Q ≠ g := fun e => by have h := HQ7.out; rw [e, hcur7] at h; injection h with h; injection h with _ h _; cases h
      have HQD : Hid (WD.heap[Q]? = some (.cells #[.int .i64 2, .int .i64 c, .slice sp n cap] 43 (0, 0))) := Lib.hid (by
        rw [eWD]
        exact (heap_setCell_other _ ⟨g, i * 3 + 2, none⟩ Q _ (fun e => hQg e)).trans ((heap_setCell_other w7 ⟨g, i * 3 + 1, none⟩ Q _ (fun e => hQg e)).trans HQ7.out))
      have HBD : Hid (Below B w WD) := Lib.hid (by rw [eWD]; exact (HB7.out.setCell hgB _).setCell hgB _)
      clear eWD f1 f2 r1 r2 hcur7
      obtain ⟨es, cl, hmap⟩ := HSD.out.busy.isMap
      have HKG : Hid (∀ W, WD.drew.grownBy W (some mb) → W.cell? ⟨hb, 1, none⟩ = some (.map (some mb)) ∧ W.cell? ⟨Q, 1, none⟩ = some (.int .i64 c)) := Lib.hid fun W hg => by
        have hk : ∀ {q : Nat} {cs : Array Value} {t : Nat}, WD.heap[q]? = some (.cells cs t (0, 0)) → W.heap[q]? = some (.cells cs t (0, 0)) := fun {q cs t} e => by
          have hq : q < WD.heap.size := by
            rcases Nat.lt_or_ge q WD.heap.size with h' | h'
            · exact h'
            · rw [Array.getElem?_eq_none h'] at e; cases e
          exact (hg.block q hq (fun e' => by injection e' with e'; rw [e', hmap] at e; cases e)).trans e
        exact ⟨(cells3 (hk HSD.out.blk)).1.2.1, (cells3 (hk HQD.out)).1.2.1⟩
      have HKK : Hid (∀ W : World, W.heap = WD.heap → W.cell? ⟨hb, 1, none⟩ = some (.map (some mb)) ∧ W.cell? ⟨Q, 1, none⟩ = some (.int .i64 c)) := Lib.hid fun W hW => ⟨(cells3 (by rw [hW]; exact HSD.out.blk)).1.2.1, (cells3 (by rw [hW]; exact HQD.out)).1.2.1⟩
      have HMZ : Hid (MapS WD.drew mb nb bz) := Lib.hid (HSD.out.busy.kept rfl)
      clear hmap
      go_region_held3 (fun W => W.cell? ⟨hb, 1, none⟩ = some (.map (some mb)) ∧ W.cell? ⟨Q, 1, none⟩ = some (.int .i64 c))
        (first | exact HKK.out _ rfl | exact HKG.out _ hg9)
        (first | (refine step_delete_S (by rfl) _ _ (by rfl) mb nb bz (by rfl) HMZ.out c (by rfl) (by omega) ?_; intro w9 hm9 hg9))
      have HS9 := Lib.hid (HSt.busied (w := WD.drew) (HSD.out.keep (fun _ _ => rfl)) hg9 hm9)
      have HB9 := Lib.hid (HBD.out.drew.grown hg9 (Nat.le_trans hBw2 HBD.out.size) (fun q hq => by injection hq with hq; omega))
      clear hm9 hg9 HKK HKG HMZ HSD HQD HBD
      go_wp2
      go_ret
      exact ⟨0, rfl, HB9.out, .inr ⟨rfl, HFA.out, _, _, HS9.out⟩⟩
    · have hq : (er == 0) = false := by rw [beq_eq_false_iff_ne]; exact her
      have hq2 : (er != 0) = true := by rw [bne_iff_ne]; exact her
      have HNE := Lib.hid her
      clear her
      go_wp2
      go_ret
      exact ⟨er, rfl, HB6.out, .inl ⟨HNE.out, .inl ⟨rfl, HANS.out⟩⟩⟩
  · have hkb : (k == 2) = false := by rw [beq_eq_false_iff_ne]; exact hk2
    by_cases hn0 : 0 < n
    · have hn0' : (0 : Int) < (n : Int) := by omega
      have HK2 := Lib.hid hk2
      have HN0 := Lib.hid hn0
      clear hk2 hn0
      go_enter Try.func33, Try.ntmps33
      go_wp2
      go_ret
      exact ⟨22, rfl, HBX.out, .inl ⟨by decide, .inr ⟨HK2.out, HN0.out, rfl⟩⟩⟩
    · obtain rfl : n = 0 := by omega
      have HFA : Hid (FinP k 0 (AnsP (T i).n 0 (T i).o o 0)) := Lib.hid (.inr ⟨hk2, rfl⟩)
      by_cases hk3 : k = 3
      · subst hk3
        have f1 := HX.out.row.frozenAt (i * 3 + 1)
        have r1 := (HX.out.row.cellAt (i * 3 + 1) (by omega)).trans (rowT_get T V m i hi).2.1
        clear hn0 hk2 hkb
        go_enter Try.func33, Try.ntmps33
        go_wp2
        obtain ⟨WD, eWD⟩ : ∃ WD, WD = (w.setCell ⟨g, i * 3 + 1, none⟩ (.int .i64 2)).alloc (.cells #[.int .i64 3, .int .i64 c, .slice sp 0 cap] 43) := ⟨_, rfl⟩
        rw [← eWD]
        have HSD : Hid (HSt WD B hb mb mw m (.slice (some ⟨g, 0, none⟩) m cpv) (fun x => if x = i then endT (T i) 3 0 o else T x) V nb nw bz wm) := Lib.hid (by
          rw [eWD]
          exact (HWS.out.state i 2).below ((Below.refl _ _).alloc (Nat.le_refl _) _))
        obtain ⟨Q, eQ⟩ : ∃ Q, Q = w.heap.size := ⟨_, rfl⟩
        have HQD : Hid (WD.heap[Q]? = some (.cells #[.int .i64 3, .int .i64 c, .slice sp 0 cap] 43 (0, 0))) := Lib.hid (by
          have h := heap_alloc_new (w.setCell ⟨g, i * 3 + 1, none⟩ (.int .i64 2)) (.cells #[.int .i64 3, .int .i64 c, .slice sp 0 cap] 43)
          rw [show (w.setCell ⟨g, i * 3 + 1, none⟩ (.int .i64 2)).heap.size = w.heap.size by simp, ← eWD, ← eQ] at h
          exact h)
        have HBD : Hid (Below B w WD) := Lib.hid (by rw [eWD]; exact ((Below.refl _ _).setCell hgB _).alloc (by simp; exact hBw2) _)
        rw [← eQ]
        clear eWD f1 r1 eQ c0 c1 c2 d0 d1 d2
        obtain ⟨es, cl, hmap⟩ := HSD.out.busy.isMap
        have HKG : Hid (∀ W, WD.drew.grownBy W (some mb) → W.cell? ⟨hb, 1, none⟩ = some (.map (some mb)) ∧ W.cell? ⟨Q, 1, none⟩ = some (.int .i64 c)) := Lib.hid fun W hg => by
          have hk : ∀ {q : Nat} {cs : Array Value} {t : Nat}, WD.heap[q]? = some (.cells cs t (0, 0)) → W.heap[q]? = some (.cells cs t (0, 0)) := fun {q cs t} e => by
            have hq : q < WD.heap.size := by
              rcases Nat.lt_or_ge q WD.heap.size with h' | h'
              · exact h'
              · rw [Array.getElem?_eq_none h'] at e; cases e
            exact (hg.block q hq (fun e' => by injection e' with e'; rw [e', hmap] at e; cases e)).trans e
          exact ⟨(cells3 (hk HSD.out.blk)).1.2.1, (cells3 (hk HQD.out)).1.2.1⟩
        have HKK : Hid (∀ W : World, W.heap = WD.heap → W.cell? ⟨hb, 1, none⟩ = some (.map (some mb)) ∧ W.cell? ⟨Q, 1, none⟩ = some (.int .i64 c)) := Lib.hid fun W hW => ⟨(cells3 (by rw [hW]; exact HSD.out.blk)).1.2.1, (cells3 (by rw [hW]; exact HQD.out)).1.2.1⟩
        have HMZ : Hid (MapS WD.drew mb nb bz) := Lib.hid (HSD.out.busy.kept rfl)
        clear hmap
        go_region_held3 (fun W => W.cell? ⟨hb, 1, none⟩ = some (.map (some mb)) ∧ W.cell? ⟨Q, 1, none⟩ = some (.int .i64 c))
          (first | exact HKK.out _ rfl | exact HKG.out _ hg9)
          (first | (refine step_delete_S (by rfl) _ _ (by rfl) mb nb bz (by rfl) HMZ.out c (by rfl) (by omega) ?_; intro w9 hm9 hg9))
        have HS9 := Lib.hid (HSt.busied (w := WD.drew) (HSD.out.keep (fun _ _ => rfl)) hg9 hm9)
        have HB9 := Lib.hid (HBD.out.drew.grown hg9 (Nat.le_trans hBw2 HBD.out.size) (fun q hq => by injection hq with hq; omega))
        clear hm9 hg9 HKK HKG HMZ HSD HQD HBD
        go_wp2
        go_ret
        exact ⟨0, rfl, HB9.out, .inr ⟨rfl, HFA.out, _, _, HS9.out⟩⟩
      · have hkb3 : (k == 3) = false := by rw [beq_eq_false_iff_ne]; exact hk3
        have HEN : Hid (endT (T i) k 0 o = T i) := Lib.hid (by unfold endT; rw [if_neg hk2, if_neg hk3])
        clear hn0 hk2 hk3
        go_enter Try.func33, Try.ntmps33
        go_wp2
        obtain ⟨WD, eWD⟩ : ∃ WD, WD = w.alloc (.cells #[.int .i64 k, .int .i64 c, .slice sp 0 cap] 43) := ⟨_, rfl⟩
        rw [← eWD] at HX HBX HQ ⊢
        obtain ⟨Q, eQ⟩ : ∃ Q, Q = w.heap.size := ⟨_, rfl⟩
        rw [← eQ] at HQ ⊢
        have HSD : Hid (HSt WD B hb mb mw m (.slice (some ⟨g, 0, none⟩) m cpv) (fun x => if x = i then endT (T i) k 0 o else T x) V nb nw bz wm) := Lib.hid (by
          have e : (fun x => if x = i then endT (T i) k 0 o else T x) = T := by
            funext x
            by_cases hx : x = i
            · rw [if_pos hx, HEN.out, hx]
            · rw [if_neg hx]
          rw [e]; exact HX.out)
        have HQD := HQ
        have HBD := HBX
        clear eWD eQ c0 c1 c2 d0 d1 d2
        obtain ⟨es, cl, hmap⟩ := HSD.out.busy.isMap
        have HKG : Hid (∀ W, WD.drew.grownBy W (some mb) → W.cell? ⟨hb, 1, none⟩ = some (.map (some mb)) ∧ W.cell? ⟨Q, 1, none⟩ = some (.int .i64 c)) := Lib.hid fun W hg => by
          have hk : ∀ {q : Nat} {cs : Array Value} {t : Nat}, WD.heap[q]? = some (.cells cs t (0, 0)) → W.heap[q]? = some (.cells cs t (0, 0)) := fun {q cs t} e => by
            have hq : q < WD.heap.size := by
              rcases Nat.lt_or_ge q WD.heap.size with h' | h'
              · exact h'
              · rw [Array.getElem?_eq_none h'] at e; cases e
            exact (hg.block q hq (fun e' => by injection e' with e'; rw [e', hmap] at e; cases e)).trans e
          exact ⟨(cells3 (hk HSD.out.blk)).1.2.1, (cells3 (hk HQD.out)).1.2.1⟩
        have HKK : Hid (∀ W : World, W.heap = WD.heap → W.cell? ⟨hb, 1, none⟩ = some (.map (some mb)) ∧ W.cell? ⟨Q, 1, none⟩ = some (.int .i64 c)) := Lib.hid fun W hW => ⟨(cells3 (by rw [hW]; exact HSD.out.blk)).1.2.1, (cells3 (by rw [hW]; exact HQD.out)).1.2.1⟩
        have HMZ : Hid (MapS WD.drew mb nb bz) := Lib.hid (HSD.out.busy.kept rfl)
        clear hmap
        go_region_held3 (fun W => W.cell? ⟨hb, 1, none⟩ = some (.map (some mb)) ∧ W.cell? ⟨Q, 1, none⟩ = some (.int .i64 c))
          (first | exact HKK.out _ rfl | exact HKG.out _ hg9)
          (first | (refine step_delete_S (by rfl) _ _ (by rfl) mb nb bz (by rfl) HMZ.out c (by rfl) (by omega) ?_; intro w9 hm9 hg9))
        have HS9 := Lib.hid (HSt.busied (w := WD.drew) (HSD.out.keep (fun _ _ => rfl)) hg9 hm9)
        have HB9 := Lib.hid (HBD.out.drew.grown hg9 (Nat.le_trans hBw2 HBD.out.size) (fun q hq => by injection hq with hq; omega))
        clear hm9 hg9 HKK HKG HMZ HSD HQD HBD
        go_wp2
        go_ret
        exact ⟨0, rfl, HB9.out, .inr ⟨rfl, HFA.out, _, _, HS9.out⟩⟩
end Go.Proofs.Ytgpnjgpbblookaa
