/-
  The library's contract of maps.Clone, laid at this program (the text comes of the kit's lay-plain).
  chains: unsaid.
  chains: Next.
  chains: facts as a map and as a list; who is done; mathematics.
  chains: With.
  ChainsFacts' walk.
  Picks that came in, opened.
-/
import Derived.Test.YteobndfkkpfnlaaJ15
import Derived.Test.YteobndfkkpfnlaaJ13
import Derived.Shelf.SlMaps.Clone
import Derived.Ground.SlmcProg
import Derived.Test.YteobndfkkpfnlaaProg
import Derived.ChangeSame
import Derived.Deep.Slices

namespace Go.Proofs
open Go.Shelf
def Try.cloneF_ren : Go.Shelf.Ren := ⟨fun | 5 => 62 | 7 => 77 | n => n, fun | 23 => 62 | 25 => 58 | 3 => 4 | 4 => 4 | 20 => 20 | n => n, fun | n => n⟩
theorem Try.cloneF : Go.Proofs.SlLaysW.n5 Try.prog Try.cloneF_ren := {
  mixed := by kernel_rfl
  f5 := ⟨Try.f62.name, by decide, Try.func62.trans (congrArg some (by kernel_rfl))⟩
  f7 := Try.func77.trans (congrArg some (by kernel_rfl))
  t4 := Try.underlying4
  a4 := Try.isAgg4
  z4 := Try.sizeOf4
  v4 := Try.zeroValue4
  t20 := Try.underlying20
  a20 := Try.isAgg20
  z20 := Try.sizeOf20
  v20 := Try.zeroValue20
  t23 := Try.underlying62
  a23 := Try.isAgg62
  z23 := Try.sizeOf62
  v23 := Try.zeroValue62 }
end Go.Proofs

namespace Go.Proofs.Yteobndfkkpfnlaa
open Go.RowKit Go.Shelf
set_option linter.unusedVariables false
variable {n0 : Nat}

attribute [local go_sem] Oper.semAt_some

def UnP (F : CM) (tot : List C4) (w : World) (e : Ending) (w' : World) : Prop :=
  ∃ (c : C4) (is : Bool), e = .returned (.tuple #[.agg #[.int .i64 c.k, .int .i64 c.y, .int .i64 c.a, .int .i64 c.b], .bool is]) ∧ NxG tot (fun c => F c.k c.y c.a c.b = none) c is ∧ Below w.heap.size w w'

theorem KeptX.setCell' {X : Nat → Prop} {W : World} {b i : Nat} {v : Value} (hx : ¬ X b) : KeptX n0 X W (W.setCell ⟨b, i, none⟩ v) :=
  ⟨rfl, rfl, rfl, by rw [World.size_setCell]; exact Nat.le_refl _, fun k o hk ho _ => by
    rw [heap_setCell_other W ⟨b, i, none⟩ k v (fun e => hx (by dsimp only at e; first | (rw [e]; exact hk) | (rw [← e]; exact hk)))]
    exact ho, fun k hk _ _ => heap_setCell_other W ⟨b, i, none⟩ k v (fun e => hx (by dsimp only at e; first | (rw [e]; exact hk) | (rw [← e]; exact hk)))⟩
theorem setH4 {w : World} {Q t : Nat} {x0 x1 x2 x3 A B C D : Value} (h : w.heap[Q]? = some (.cells #[x0, x1, x2, x3] t (0, 0))) :
    ((((w.setCell ⟨Q, 0, none⟩ A).setCell ⟨Q, 1, none⟩ B).setCell ⟨Q, 2, none⟩ C).setCell ⟨Q, 3, none⟩ D).heap[Q]? = some (.cells #[A, B, C, D] t (0, 0)) := by
  have h1 := heap_setCell_same w Q 0 _ t A h
  have h2 := heap_setCell_same _ Q 1 _ t B h1
  have h3 := heap_setCell_same _ Q 2 _ t C h2
  exact heap_setCell_same _ Q 3 _ t D h3
theorem setH1 {w : World} {Q t : Nat} {x0 A : Value} (h : w.heap[Q]? = some (.cells #[x0] t (0, 0))) : (w.setCell ⟨Q, 0, none⟩ A).heap[Q]? = some (.cells #[A] t (0, 0)) := heap_setCell_same w Q 0 _ t A h
theorem frz {W : World} {b t : Nat} {cs : Array Value} (h : W.heap[b]? = some (.cells cs t (0, 0))) (j : Nat) : W.frozen? ⟨b, j, none⟩ = false := by simp [World.frozen?, h]
/-- between two rounds -/
structure UnI (F : CM) (w : World) (mb : Option Nat) (pre : List C4) (W : World) : Prop where
  said : ∀ x ∈ pre, F x.k x.y x.a x.b ≠ none
  bel : Below w.heap.size w W
  fb : W.heap[w.heap.size]? = some (.cells #[.map mb] 62 (0, 0))
  rc : W.heap[w.heap.size + 1]? = some (.cells #[.int .i64 0, .int .i64 0, .int .i64 0, .int .i64 0] 58 (0, 0))
  rb : W.heap[w.heap.size + 1 + 1]? = some (.cells #[.bool false] 4 (0, 0))
theorem UnI.keep {F : CM} {w : World} {mb : Option Nat} {pre : List C4} {W W' : World} (h : UnI F w mb pre W) (hs : Below w.heap.size w W') (hb : ∀ k, k < w.heap.size + 3 → W'.heap[k]? = W.heap[k]?) : UnI F w mb pre W' :=
  ⟨h.said, hs, (hb _ (by omega)).trans h.fb, (hb _ (by omega)).trans h.rc, (hb _ (by omega)).trans h.rb⟩
/-- one that is not said -/
structure UnX (F : CM) (w : World) (pre : List C4) (W : World) : Prop where
  hit : ∃ q x, pre = q ++ [x] ∧ (∀ z ∈ q, F z.k z.y z.a z.b ≠ none) ∧ F x.k x.y x.a x.b = none ∧ W.heap[w.heap.size + 1]? = some (.cells #[.int .i64 x.k, .int .i64 x.y, .int .i64 x.a, .int .i64 x.b] 58 (0, 0))
  bel : Below w.heap.size w W
  rb : W.heap[w.heap.size + 1 + 1]? = some (.cells #[.bool true] 4 (0, 0))
theorem UnX.keep {F : CM} {w : World} {pre : List C4} {W W' : World} (h : UnX F w pre W) (hs : Below w.heap.size w W') (hb : ∀ k, k < w.heap.size + 3 → W'.heap[k]? = W.heap[k]?) : UnX F w pre W' := by
  obtain ⟨q, x, h1, h2, h3, h4⟩ := h.hit
  exact ⟨⟨q, x, h1, h2, h3, (hb _ (by omega)).trans h4⟩, hs, (hb _ (by omega)).trans h.rb⟩

set_option maxRecDepth 100000 in
set_option maxHeartbeats 8000000 in
theorem unsaid_any (g : Nat) (eg : ∀ args w, (callFunc g args).run Try.prog w = .ok (.enter g args) w) (lb : Array Value) (tot : List C4) (f : Value) (F : CM) (w : World) (hF : FacS w f F) (hin : ∀ c ∈ tot, InC c.k c.y c.a c.b)
    (hseq : ∀ (X : Nat → Prop) (W : World), (∀ k, k < w.heap.size → X k) → Below w.heap.size w W → SeqL w.heap.size g lb X tot W) :
    Calls Try.prog 57 #[f, .func (.func g) #[] lb] w (UnP F tot w) := by
  obtain ⟨mb, rfl⟩ : ∃ mb, f = .map mb := by
    rcases hF with ⟨rfl, _⟩ | ⟨b, n, rfl, _⟩
    · exact ⟨_, rfl⟩
    · exact ⟨_, rfl⟩
  refine (callsIn_wide (n := 5)).1 ?_
  refine callsIn_of_wp_marks Try.func57 rfl trivial ?_ rfl
  simp only [Try.ntmps57, List.size_toArray, List.length_cons, List.length_nil, Nat.reduceAdd, Nat.reduceSub, Array.replicate_succ, Array.replicate_zero, List.push_toArray, List.append_toArray, List.nil_append, List.cons_append]
  gi_wp2
  obtain ⟨W0, eW0⟩ : ∃ W0, W0 = ((w.alloc (.cells #[.map mb] 62)).alloc (.cells #[.int .i64 0, .int .i64 0, .int .i64 0, .int .i64 0] 58)).alloc (.cells #[.bool false] 4) := ⟨_, rfl⟩
  have hz0 : W0.heap.size = w.heap.size + 3 := by rw [eW0]; simp
  have hI0 : UnI F w mb [] W0 := by
    rw [eW0]
    refine ⟨fun x hx => absurd hx (by simp), (((Below.refl _ _).alloc (Nat.le_refl _) _).alloc (by simp) _).alloc (by simp; omega) _, ?_, ?_, ?_⟩
    · exact (Below.heap_alloc _ _ _ (by simp; omega)).trans ((Below.heap_alloc _ _ _ (by simp)).trans (World.alloc_heap_new w _))
    · have := World.alloc_heap_new (w.alloc (.cells #[.map mb] 62)) (.cells #[.int .i64 0, .int .i64 0, .int .i64 0, .int .i64 0] 58)
      rw [World.size_alloc] at this
      exact (Below.heap_alloc _ _ _ (by simp)).trans this
    · have := World.alloc_heap_new ((w.alloc (.cells #[.map mb] 62)).alloc (.cells #[.int .i64 0, .int .i64 0, .int .i64 0, .int .i64 0] 58)) (.cells #[.bool false] 4)
      rw [World.size_alloc, World.size_alloc] at this
      exact this
  rw [← eW0]
  have HSQ := Lib.hid (hseq (fun k => (k ≠ w.heap.size + 1 ∧ k ≠ w.heap.size + 1 + 1) ∧ k ≠ W0.heap.size ∧ k ≠ W0.heap.size + 1) W0 (fun k hk => ⟨⟨by omega, by omega⟩, by omega, by omega⟩) hI0.bel)
  have HI0 := Lib.hid hI0
  have HF := Lib.hid hF
  have HIN := Lib.hid hin
  have keepI : ∀ {A C : World} {row : Option Nat}, A.grownBy C row → (∀ r, row = some r → W0.heap.size ≤ r ∧ ∃ o : Obj, A.heap[r]? = some o ∧ o.isCells = false) → Below w.heap.size w A → w.heap.size + 3 ≤ A.heap.size → Below w.heap.size w C ∧ ∀ k, k < w.heap.size + 3 → C.heap[k]? = A.heap[k]? := fun {A C row} hg hr hb hs =>
    ⟨hb.grown hg hb.size (fun k e => by have := (hr k e).1; omega), fun k hk => hg.block k (by omega) (fun e => by have := (hr k e.symm).1; omega)⟩
  have szI : ∀ {k : Nat} {o : Obj} {A : World}, A.heap[k]? = some o → k < A.heap.size := fun h => (Array.getElem?_eq_some_iff.1 h).1
  clear eW0 hI0 hseq hF hin
  refine range_o (n0 := w.heap.size) (gf := g) (lb := lb) rfl eg (fun k => k ≠ w.heap.size + 1 ∧ k ≠ w.heap.size + 1 + 1) HSQ.out (KeptX.refl _ _) (fun k hk => ⟨by omega, by omega⟩) (fun _ => rfl)
    (UnI F w mb) (fun c pre W => c = .ret ∧ UnX F w pre W)
    (fun s A C row hs hg hr => by
      have := szI hs.rb
      obtain ⟨h1, h2⟩ := keepI hg hr hs.bel (by omega)
      exact hs.keep h1 h2)
    (fun c s A C row hs hg hr => by
      have := szI hs.2.rb
      obtain ⟨h1, h2⟩ := keepI hg hr hs.2.bel (by omega)
      exact ⟨hs.1, hs.2.keep h1 h2⟩)
    HI0.out
    (fun x a' Wx => ∃ Bx, W0.heap.size ≤ Bx ∧ Wx.heap[Bx]? = some (.cells #[.int .i64 x.k, .int .i64 x.y, .int .i64 x.a, .int .i64 x.b] 58 (0, 0)) ∧
      a' = { tmps := #[.map mb, .func (.func g) #[] lb, .pointer (some ⟨w.heap.size, 0, none⟩), undef, .pointer (some ⟨w.heap.size + 1, 0, none⟩), .pointer (some ⟨w.heap.size + 1 + 1, 0, none⟩), .pointer (some ⟨Bx, 0, none⟩), undef, undef, .func (.func g) #[] lb, .agg #[.int .i64 x.k, .int .i64 x.y, .int .i64 x.a, .int .i64 x.b], undef, undef, undef, undef, undef, undef, undef, undef, undef, undef], defers := [] })
    (fun x a' => own_box _ _ _ _) ?assign ?body ?done ?stop
  case assign =>
    rintro l pre x Wx K hI hK
    have hal : Below Wx.heap.size Wx (Wx.alloc (.cells #[.int .i64 x.k, .int .i64 x.y, .int .i64 x.a, .int .i64 x.b] 58)) := (Below.refl _ _).alloc (Nat.le_refl _) _
    have hsz := szI hI.rb
    unfold encC
    gi_wp2
    exact hK _ _ (KeptX.all hal) (hI.keep (hI.bel.trans (hal.mono hI.bel.size)) (fun k hk => hal.block k (by omega))) ⟨Wx.heap.size, by omega, World.alloc_heap_new Wx _, rfl⟩
  case body =>
    rintro l pre x a' Wx hl ⟨r, hr⟩ hI ⟨Bx, hBx, hXX, rfl⟩ hlen
    obtain ⟨z0, z1, z2, z3⟩ := cells4' hXX
    have hfb := cells1 hI.fb
    have hxt : x ∈ tot := hlen.subset (by simp)
    have hlook := (HF.out.below hI.bel).look x.k x.y x.a x.b (HIN.out x hxt)
    unfold cho at hlook
    have HI := Lib.hid hI
    obtain ⟨fx, efx⟩ : ∃ fx, fx = F x.k x.y x.a x.b := ⟨_, rfl⟩
    rw [← efx] at hlook
    have HFX := Lib.hid efx
    clear efx hxt hI
    cases fx with
    | some v =>
      have HSD : Hid (F x.k x.y x.a x.b ≠ none) := Lib.hid (by rw [← HFX.out]; simp)
      simp only [Option.getD_some, Option.isSome_some] at hlook
      gi_wp2
      refine ⟨KeptX.refl _ _, ?_, HI.out.bel, HI.out.fb, HI.out.rc, HI.out.rb⟩
      intro z hz
      rcases List.mem_append.1 hz with hz | hz
      · exact HI.out.said z hz
      · obtain rfl := List.mem_singleton.1 hz
        exact HSD.out
    | none =>
      simp only [Option.getD_none, Option.isSome_none] at hlook
      have HR := Lib.hid HI.out.rc
      have HB := Lib.hid HI.out.rb
      obtain ⟨r0, r1, r2, r3⟩ := cells4' HR.out
      have f0 := frz HR.out 0
      have f1 := frz HR.out 1
      have f2 := frz HR.out 2
      have f3 := frz HR.out 3
      have hrb := cells1 HB.out
      have fb := frz HB.out 0
      gi_wp2
      refine ⟨((((KeptX.setCell' (fun h => h.1 rfl)).trans (KeptX.setCell' (fun h => h.1 rfl))).trans (KeptX.setCell' (fun h => h.1 rfl))).trans (KeptX.setCell' (fun h => h.1 rfl))).trans (KeptX.setCell' (fun h => h.2 rfl)), rfl, ⟨pre, x, rfl, HI.out.said, HFX.out.symm, ?_⟩, ?_, ?_⟩
      · rw [heap_setCell_other _ ⟨w.heap.size + 1 + 1, 0, none⟩ (w.heap.size + 1) _ (fun e => by dsimp only at e; omega)]
        exact setH4 HR.out
      · exact ((((HI.out.bel.setCell (p := ⟨w.heap.size + 1, 0, none⟩) (by dsimp only; omega) _).setCell (p := ⟨w.heap.size + 1, 1, none⟩) (by dsimp only; omega) _).setCell (p := ⟨w.heap.size + 1, 2, none⟩) (by dsimp only; omega) _).setCell (p := ⟨w.heap.size + 1, 3, none⟩) (by dsimp only; omega) _).setCell (p := ⟨w.heap.size + 1 + 1, 0, none⟩) (by dsimp only; omega) _
      · refine setH1 (x0 := .bool false) ?_
        rw [heap_setCell_other _ ⟨w.heap.size + 1, 3, none⟩ (w.heap.size + 1 + 1) _ (fun e => by dsimp only at e; omega), heap_setCell_other _ ⟨w.heap.size + 1, 2, none⟩ (w.heap.size + 1 + 1) _ (fun e => by dsimp only at e; omega), heap_setCell_other _ ⟨w.heap.size + 1, 1, none⟩ (w.heap.size + 1 + 1) _ (fun e => by dsimp only at e; omega), heap_setCell_other _ ⟨w.heap.size + 1, 0, none⟩ (w.heap.size + 1 + 1) _ (fun e => by dsimp only at e; omega)]
        exact HB.out
  case done =>
    rintro D xs Wx hD hxs hI hopen
    rw [show xs = tot from hxs] at hI
    have HI := Lib.hid hI
    have HO := Lib.hid hopen
    obtain ⟨r0, r1, r2, r3⟩ := cells4' hI.rc
    have f0 := frz hI.rc 0
    have f1 := frz hI.rc 1
    have f2 := frz hI.rc 2
    have f3 := frz hI.rc 3
    have hrb := cells1 hI.rb
    have fb := frz hI.rb 0
    clear hI hopen
    gi_wp2
    obtain ⟨Wz, ez⟩ : ∃ Wz, Wz = (((((Wx.setCell ⟨w.heap.size + 1, 0, none⟩ (.int .i64 0)).setCell ⟨w.heap.size + 1, 1, none⟩ (.int .i64 0)).setCell ⟨w.heap.size + 1, 2, none⟩ (.int .i64 0)).setCell ⟨w.heap.size + 1, 3, none⟩ (.int .i64 0)).setCell ⟨w.heap.size + 1 + 1, 0, none⟩ (.bool false)) := ⟨_, rfl⟩
    have oth : ∀ k, k ≠ w.heap.size + 1 → k ≠ w.heap.size + 1 + 1 → Wz.heap[k]? = Wx.heap[k]? := fun k h1 h2 => by
      rw [ez, heap_setCell_other _ ⟨w.heap.size + 1 + 1, 0, none⟩ k _ (fun e => by dsimp only at e; omega), heap_setCell_other _ ⟨w.heap.size + 1, 3, none⟩ k _ (fun e => by dsimp only at e; omega), heap_setCell_other _ ⟨w.heap.size + 1, 2, none⟩ k _ (fun e => by dsimp only at e; omega), heap_setCell_other _ ⟨w.heap.size + 1, 1, none⟩ k _ (fun e => by dsimp only at e; omega), heap_setCell_other _ ⟨w.heap.size + 1, 0, none⟩ k _ (fun e => by dsimp only at e; omega)]
    have hz1 : Wz.heap[w.heap.size + 1]? = some (.cells #[.int .i64 0, .int .i64 0, .int .i64 0, .int .i64 0] 58 (0, 0)) := by
      rw [ez, heap_setCell_other _ ⟨w.heap.size + 1 + 1, 0, none⟩ (w.heap.size + 1) _ (fun e => by dsimp only at e; omega)]
      exact setH4 HI.out.rc
    have hz2 : Wz.heap[w.heap.size + 1 + 1]? = some (.cells #[.bool false] 4 (0, 0)) := by
      rw [ez]
      refine setH1 (x0 := .bool false) ?_
      rw [heap_setCell_other _ ⟨w.heap.size + 1, 3, none⟩ (w.heap.size + 1 + 1) _ (fun e => by dsimp only at e; omega), heap_setCell_other _ ⟨w.heap.size + 1, 2, none⟩ (w.heap.size + 1 + 1) _ (fun e => by dsimp only at e; omega), heap_setCell_other _ ⟨w.heap.size + 1, 1, none⟩ (w.heap.size + 1 + 1) _ (fun e => by dsimp only at e; omega), heap_setCell_other _ ⟨w.heap.size + 1, 0, none⟩ (w.heap.size + 1 + 1) _ (fun e => by dsimp only at e; omega)]
      exact HI.out.rb
    have hbz : Below w.heap.size w Wz := by
      rw [ez]
      exact ((((HI.out.bel.setCell (p := ⟨w.heap.size + 1, 0, none⟩) (by dsimp only; omega) _).setCell (p := ⟨w.heap.size + 1, 1, none⟩) (by dsimp only; omega) _).setCell (p := ⟨w.heap.size + 1, 2, none⟩) (by dsimp only; omega) _).setCell (p := ⟨w.heap.size + 1, 3, none⟩) (by dsimp only; omega) _).setCell (p := ⟨w.heap.size + 1 + 1, 0, none⟩) (by dsimp only; omega) _
    have hoz := (oth D (by omega) (by omega)).trans HO.out
    rw [← ez]
    clear ez oth
    obtain ⟨p0, p1, p2, p3⟩ := cells4' ((World.putObj_heap_other (w := Wz) (r := D) (o := .deferred none) (k := w.heap.size + 1) (by omega)).trans hz1)
    have pb := cells1 ((World.putObj_heap_other (w := Wz) (r := D) (o := .deferred none) (k := w.heap.size + 1 + 1) (by omega)).trans hz2)
    refine ⟨by simp, .inl ⟨_, _, rfl, run_takeDeferred hoz, ?_⟩⟩
    refine ⟨.tuple #[.agg #[.int .i64 0, .int .i64 0, .int .i64 0, .int .i64 0], .bool false], by simp [results, Try.results57, go_sem, p0, p1, p2, p3, pb], c40, false, rfl, .inr ⟨rfl, rfl, fun j hj => HI.out.said _ ?_⟩, hbz.trans (belowK_b (w := w) (Nat.le_refl _) Wz D _ _ (by omega) hoz rfl rfl)⟩
    rw [List.getD_eq_getElem?_getD, List.getElem?_eq_getElem hj]
    exact List.getElem_mem _
  case stop =>
    rintro D c pre Wx hD hSp ⟨rfl, hX⟩ hopen
    obtain ⟨q, x, rfl, hq, hx, hc⟩ := hX.hit
    have HX := Lib.hid hX
    have HO := Lib.hid hopen
    have HC := Lib.hid hc
    have HQ := Lib.hid hq
    have HN := Lib.hid hx
    have HSP := Lib.hid hSp
    clear hX hopen hc hq hx hSp
    gi_wp2
    obtain ⟨p0, p1, p2, p3⟩ := cells4' ((World.putObj_heap_other (w := Wx) (r := D) (o := .deferred none) (k := w.heap.size + 1) (by omega)).trans HC.out)
    have pb := cells1 ((World.putObj_heap_other (w := Wx) (r := D) (o := .deferred none) (k := w.heap.size + 1 + 1) (by omega)).trans HX.out.rb)
    refine ⟨by simp, .inl ⟨_, _, rfl, run_takeDeferred HO.out, ?_⟩⟩
    refine ⟨.tuple #[.agg #[.int .i64 x.k, .int .i64 x.y, .int .i64 x.a, .int .i64 x.b], .bool true], by simp [results, Try.results57, go_sem, p0, p1, p2, p3, pb], x, true, rfl, .inl ⟨rfl, q.length, ?_, ?_, HN.out, fun j hj => ?_⟩, HX.out.bel.trans (belowK_b (w := w) (Nat.le_refl _) Wx D _ _ (by omega) HO.out rfl rfl)⟩
    · have := HSP.out.length_le
      simp at this
      omega
    · obtain ⟨r, hr⟩ := HSP.out
      rw [← hr, List.getD_eq_getElem?_getD, List.getElem?_append_left (by simp), List.getElem?_append_right (Nat.le_refl _)]
      simp
    · obtain ⟨r, hr⟩ := HSP.out
      refine HQ.out _ ?_
      rw [← hr, List.getD_eq_getElem?_getD, List.getElem?_append_left (by simp; omega), List.getElem?_append_left hj, List.getElem?_eq_getElem hj]
      exact List.getElem_mem _
end Go.Proofs.Yteobndfkkpfnlaa

namespace Go.Proofs.Yteobndfkkpfnlaa
open Go.ChangeShapes Go.WideShapes Go.ChangeAt Go.RowKit Go.Maps
set_option linter.unusedVariables false

/-- counts and writes a key -/
def cdT (T : Nat → Tx) (c : Nat → Bool) (y i : Nat) : Prop := c i = true ∧ wkT (T i) (y : Int)
theorem prK_rowc {T : Nat → Tx} {c : Nat → Bool} {y m t : Nat} (hc : cdT T c y m) : prK (cdT T c) y m t = rwP (y : Int) (wlF T c t (y : Int)) (m : Int) := by
  induction t with
  | zero => rw [prK_zero, wlF_zero]; rfl
  | succ t ih =>
    obtain ⟨h1, h2⟩ := prK_succ (c := cdT T c) y m t
    obtain ⟨h3, h4⟩ := wlF_succ (T := T) (c := c) (t := t) (y : Int)
    by_cases hh : cdT T c y t
    · rw [h1 ⟨hh, hc⟩, h3 hh, ih]
      unfold rwP
      rw [List.map_append]; rfl
    · rw [h2 (fun h => hh h.1), h4 hh, ih]
theorem prK_nonec {c : Nat → Nat → Prop} {y m t : Nat} (hc : ¬ c y m) : prK c y m t = [] := by
  induction t with
  | zero => exact prK_zero _ _
  | succ t ih => rw [(prK_succ (c := c) y m t).2 (fun h => hc h.2), ih]
theorem prs_rowc {T : Nat → Tx} {c : Nat → Bool} {y m : Nat} : prs (cdT T c) y m = prP (y : Int) (wlF T c m (y : Int)) (wlF T c m (y : Int)).length := by
  induction m with
  | zero => rw [wlF_zero]; rfl
  | succ m ih =>
    obtain ⟨h3, h4⟩ := wlF_succ (T := T) (c := c) (t := m) (y : Int)
    rw [prs_succ, ih]
    by_cases hh : cdT T c y m
    · rw [h3 hh, prP_snoc, prK_rowc hh]
    · rw [h4 hh, prK_nonec hh, List.append_nil]
theorem bfL_allc (T : Nat → Tx) (c : Nat → Bool) (m : Nat) : bfL (wlF T c m) (kyF (wlF T c m)).length = prA (cdT T c) m 16 := by
  unfold bfL prA
  rw [List.take_length]
  unfold kyF kyN
  rw [List.flatMap_map, flat_filter]
  · exact fm_congr _ fun y _ => prs_rowc.symm
  · intro y h
    have h0 : wlF T c m (y : Int) = [] := by
      cases hh : wlF T c m (y : Int) with
      | nil => rfl
      | cons a l => rw [hh] at h; cases h
    unfold prM
    rw [h0]
    rfl
theorem wl16 {T : Nat → Tx} {c : Nat → Bool} {m : Nat} (ok : TOk m T) (x : Int) (h : wlF T c m x ≠ []) : 0 ≤ x ∧ x ≤ 15 := by
  obtain ⟨z, hz⟩ := List.exists_mem_of_ne_nil _ h
  obtain ⟨i, _, hi, _, j, hj, _, rfl⟩ := wlF_lt hz
  exact ok.key i hi j hj
theorem prA_in {c : Nat → Nat → Prop} {m k : Nat} {x : C4} (h : x ∈ prA c m k) : ∃ y a b : Nat, x = ⟨2, y, a, b⟩ ∧ y < k ∧ a < b ∧ b < m ∧ c y a ∧ c y b := by
  unfold prA at h
  obtain ⟨y, hy, h⟩ := List.mem_flatMap.1 h
  unfold prs at h
  obtain ⟨b, hb, h⟩ := List.mem_flatMap.1 h
  unfold prK at h
  obtain ⟨a, ha, rfl⟩ := List.mem_map.1 h
  obtain ⟨h1, h2⟩ := List.mem_filter.1 ha
  have h3 := @of_decide_eq_true _ (_) h2
  exact ⟨y, a, b, rfl, List.mem_range.1 hy, List.mem_range.1 h1, List.mem_range.1 hb, h3.1, h3.2⟩
theorem NxG.first {l1 l2 : List C4} {ok : C4 → Prop} {c : C4} (h : NxG l1 ok c true) : NxG (l1 ++ l2) ok c true := by
  rcases h with ⟨_, t, ht, rfl, h1, h2⟩ | ⟨h, _⟩
  · have e : ∀ j, j < l1.length → (l1 ++ l2).getD j c40 = l1.getD j c40 := fun j hj => by
      rw [List.getD_eq_getElem?_getD, List.getD_eq_getElem?_getD, List.getElem?_append_left hj]
    exact .inl ⟨rfl, t, by rw [List.length_append]; omega, (e t ht).symm, h1, fun j hj => by rw [e j (by omega)]; exact h2 j hj⟩
  · cases h
theorem NxG.then {l1 l2 : List C4} {ok : C4 → Prop} {c1 c : C4} {is : Bool} (h1 : NxG l1 ok c1 false) (h : NxG l2 ok c is) : NxG (l1 ++ l2) ok c is := by
  have e1 : ∀ j, j < l1.length → (l1 ++ l2).getD j c40 = l1.getD j c40 := fun j hj => by
    rw [List.getD_eq_getElem?_getD, List.getD_eq_getElem?_getD, List.getElem?_append_left hj]
  have e2 : ∀ j, (l1 ++ l2).getD (l1.length + j) c40 = l2.getD j c40 := fun j => by
    rw [List.getD_eq_getElem?_getD, List.getD_eq_getElem?_getD, List.getElem?_append_right (by omega)]
    congr 2
    omega
  rcases h1 with ⟨h, _⟩ | ⟨_, _, n1⟩
  · cases h
  have pre : ∀ j, j < l1.length → ¬ ok ((l1 ++ l2).getD j c40) := fun j hj => by rw [e1 j hj]; exact n1 j hj
  rcases h with ⟨rfl, t, ht, hc, hk, h2⟩ | ⟨rfl, hc, n2⟩
  · refine .inl ⟨rfl, l1.length + t, by rw [List.length_append]; omega, by rw [e2]; exact hc, hk, fun j hj => ?_⟩
    by_cases h3 : j < l1.length
    · exact pre j h3
    · obtain ⟨d, rfl⟩ : ∃ d, j = l1.length + d := ⟨j - l1.length, by omega⟩
      rw [e2]; exact h2 d (by omega)
  · refine .inr ⟨rfl, hc, fun j hj => ?_⟩
    by_cases h3 : j < l1.length
    · exact pre j h3
    · obtain ⟨d, rfl⟩ : ∃ d, j = l1.length + d := ⟨j - l1.length, by omega⟩
      rw [List.length_append] at hj
      rw [e2]; exact n2 d (by omega)

open Classical in
/-- who is done by the facts -/
noncomputable def dnB (T : Nat → Tx) (m : Nat) (F : CM) (i : Nat) : Bool := decide (dnF T m F i)
theorem dnB_iff {T : Nat → Tx} {m : Nat} {F : CM} {i : Nat} : dnB T m F i = true ↔ dnF T m F i := by
  unfold dnB
  exact ⟨fun h => @of_decide_eq_true _ (_) h, fun h => @decide_eq_true _ (_) h⟩
/-- all that may be next, in order -/
noncomputable def nxA (T : Nat → Tx) (m : Nat) (F : CM) : List C4 := chC T m m ++ prA (cdT T (dnB T m F)) m 16
def unsF (F : CM) (c : C4) : Prop := F c.k c.y c.a c.b = none
def NxP (T : Nat → Tx) (m : Nat) (F : CM) (w : World) (e : Ending) (w' : World) : Prop :=
  ∃ (c : C4) (is : Bool), e = .returned (.tuple #[.agg #[.int .i64 c.k, .int .i64 c.y, .int .i64 c.a, .int .i64 c.b], .bool is]) ∧ NxG (nxA T m F) (unsF F) c is ∧ Below w.heap.size w w'
theorem chC_in {T : Nat → Tx} {m : Nat} (hm : m ≤ 400) : ∀ c ∈ chC T m m, InC c.k c.y c.a c.b := by
  intro c h
  unfold chC at h
  obtain ⟨i, hi, rfl⟩ := List.mem_map.1 h
  have := List.mem_range.1 (List.mem_filter.1 hi).1
  unfold InC In64
  dsimp only
  omega

theorem commits_at {T : Nat → Tx} {a : Option Addr} {m cap g : Nat} {wt w2 : World} (hs : TxS wt a m T) (ok : TOk m T) (hb : Below wt.heap.size wt w2) (hM : MetS w2 wt.heap.size g m (suL T m)) (X : Nat → Prop) (W : World)
    (hX : ∀ k, k < ((w2.alloc (.cells #[.slice a m cap] 25)).alloc (.cells #[.slice (some ⟨g, 0, none⟩) m m] 35)).heap.size → X k)
    (hW : Below ((w2.alloc (.cells #[.slice a m cap] 25)).alloc (.cells #[.slice (some ⟨g, 0, none⟩) m m] 35)).heap.size ((w2.alloc (.cells #[.slice a m cap] 25)).alloc (.cells #[.slice (some ⟨g, 0, none⟩) m m] 35)) W) :
    SeqL ((w2.alloc (.cells #[.slice a m cap] 25)).alloc (.cells #[.slice (some ⟨g, 0, none⟩) m m] 35)).heap.size 73 #[.pointer (some ⟨w2.heap.size, 0, none⟩), .pointer (some ⟨w2.heap.size + 1, 0, none⟩)] X (chC T m m) W := by
  have hb3 : Below w2.heap.size w2 ((w2.alloc (.cells #[.slice a m cap] 25)).alloc (.cells #[.slice (some ⟨g, 0, none⟩) m m] 35)) := ((Below.refl _ _).alloc (Nat.le_refl _) _).alloc (by simp) _
  have h1 : ((w2.alloc (.cells #[.slice a m cap] 25)).alloc (.cells #[.slice (some ⟨g, 0, none⟩) m m] 35)).heap[w2.heap.size]? = some (.cells #[.slice a m cap] 25 (0, 0)) := (Below.heap_alloc _ _ _ (by simp)).trans (World.alloc_heap_new w2 _)
  have h2 : ((w2.alloc (.cells #[.slice a m cap] 25)).alloc (.cells #[.slice (some ⟨g, 0, none⟩) m m] 35)).heap[w2.heap.size + 1]? = some (.cells #[.slice (some ⟨g, 0, none⟩) m m] 35 (0, 0)) := by
    have := World.alloc_heap_new (w2.alloc (.cells #[.slice a m cap] 25)) (.cells #[.slice (some ⟨g, 0, none⟩) m m] 35)
    rw [World.size_alloc] at this
    exact this
  have hz : ((w2.alloc (.cells #[.slice a m cap] 25)).alloc (.cells #[.slice (some ⟨g, 0, none⟩) m m] 35)).heap.size = w2.heap.size + 2 := by simp
  generalize ((w2.alloc (.cells #[.slice a m cap] 25)).alloc (.cells #[.slice (some ⟨g, 0, none⟩) m m] 35)) = w3 at *
  have hgl := hM.lt
  have hsz := hb.size
  obtain ⟨cur, ho⟩ := own_cells hM (g := g) rfl
  exact commits_stops X w2.heap.size (w2.heap.size + 1) g a m cap T wt W ⟨hX _ (by omega), by decide, (0, 0), (hW.block _ (by omega)).trans h1⟩ ⟨hX _ (by omega), by decide, (0, 0), (hW.block _ (by omega)).trans h2⟩
    ⟨hX _ (by omega), cur, (0, 0), (hW.block _ (by omega)).trans ((hb3.block g hgl.2).trans ho), fun i hi => (hW.cell (p := ⟨g, i, none⟩) (by show g < _; omega)).trans ((hb3.cell (p := ⟨g, i, none⟩) hgl.2).trans (hM.cell hi))⟩
    hs ok ((hb.trans (hb3.mono hsz)).trans (hW.mono (by omega))) (by omega) (fun k hk => hX k (by omega))
theorem befores_at {T : Nat → Tx} {c : Nat → Bool} {m b q : Nat} {w6 : World} (ok : TOk m T) (hm : MapG w6 b q (wlF T c m)) (X : Nat → Prop) (W : World)
    (hX : ∀ k, k < (w6.alloc (.cells #[.map (some b)] 82)).heap.size → X k) (hW : Below (w6.alloc (.cells #[.map (some b)] 82)).heap.size (w6.alloc (.cells #[.map (some b)] 82)) W) :
    SeqL (w6.alloc (.cells #[.map (some b)] 82)).heap.size 74 #[.pointer (some ⟨w6.heap.size, 0, none⟩)] X (prA (cdT T c) m 16) W := by
  have hb3 : Below w6.heap.size w6 (w6.alloc (.cells #[.map (some b)] 82)) := (Below.refl _ _).alloc (Nat.le_refl _) _
  have h1 := World.alloc_heap_new w6 (.cells #[.map (some b)] 82)
  have hz : (w6.alloc (.cells #[.map (some b)] 82)).heap.size = w6.heap.size + 1 := by simp
  have hm4 := ok.cnt
  rw [← bfL_allc]
  generalize (w6.alloc (.cells #[.map (some b)] 82)) = w7 at *
  have h := befores_stops (n0 := w7.heap.size) X w6.heap.size b q (wlF T c m) w7 (fun x => wl16 ok x) (fun y => Nat.le_trans (wlF_le y) (by omega)) ⟨hX _ (by omega), by decide, (0, 0), h1⟩ (hm.below hb3) (fun k _ hk => hX k hk)
  exact fun l J Jx W' hW' => h l J Jx W' ((KeptX.all hW).trans hW')

set_option maxRecDepth 100000 in
set_option maxHeartbeats 8000000 in
theorem next_any (a : Option Addr) (m cap : Nat) (T : Nat → Tx) (f : Value) (F : CM) (w : World) (hs : TxS w a m T) (ok : TOk m T) (hF : FacS w f F) :
    Calls Try.prog 30 #[.slice a m cap, f] w (NxP T m F w) := by
  obtain ⟨mb, rfl⟩ : ∃ mb, f = .map mb := by
    rcases hF with ⟨rfl, _⟩ | ⟨b, n, rfl, _⟩
    · exact ⟨_, rfl⟩
    · exact ⟨_, rfl⟩
  have HS := Lib.hid hs
  have HF := Lib.hid hF
  have HOK := Lib.hid ok
  have hm4 := ok.cnt
  obtain ⟨W1, e1⟩ : ∃ W1, W1 = w.alloc (.cells #[.int .i64 0, .int .i64 0, .int .i64 0, .int .i64 0] 58) := ⟨_, rfl⟩
  have HB1 : Hid (Below w.heap.size w W1) := Lib.hid (by rw [e1]; exact (Below.refl _ _).alloc (Nat.le_refl _) _)
  have HR1 : Hid (W1.heap[w.heap.size]? = some (.cells #[.int .i64 0, .int .i64 0, .int .i64 0, .int .i64 0] 58 (0, 0))) := Lib.hid (by rw [e1]; exact World.alloc_heap_new w _)
  have HS1 := Lib.hid (hs.below HB1.out)
  have HSU := Lib.hid (sure_any a m cap T W1 HS1.out ok)
  clear hs ok hF
  go_enter Try.func30, Try.ntmps30
  go_wp2_with fail
  rw [← e1]
  clear e1
  refine HSU.out.mono ?_
  rintro e w2 ⟨g, rfl, hM, hb2⟩
  have HM := Lib.hid hM
  have HB2 := Lib.hid hb2
  have HU := Lib.hid (unsaid_any 73 (enters_of Try.func73 (by kernel_rfl) rfl) _ (chC T m m) (.map mb) F _ ((HF.out.below HB1.out).below (hb2.trans (((Below.refl w2.heap.size w2).alloc (Nat.le_refl _) (.cells #[.slice a m cap] 25)).alloc (by simp) (.cells #[.slice (some ⟨g, 0, none⟩) m m] 35) |>.mono hb2.size))) (chC_in hm4) (fun X W hX hW => commits_at HS1.out HOK.out hb2 hM X W hX hW))
  clear hM hb2 HSU
  go_wp2_with fail
  refine (commits_any a (some ⟨g, 0, none⟩) m cap m m w2).mono ?_
  rintro e w3 ⟨rfl, rfl⟩
  go_wp2_with fail
  refine HU.out.mono ?_
  rintro e w4 ⟨c, is, rfl, hnx, hb4⟩
  have HNX := Lib.hid hnx
  have HB24 : Hid (Below w2.heap.size w2 w4) := Lib.hid (((Below.refl w2.heap.size w2).alloc (Nat.le_refl _) (.cells #[.slice a m cap] 25)).alloc (by simp) (.cells #[.slice (some ⟨g, 0, none⟩) m m] 35) |>.trans (hb4.mono (by simp only [World.size_alloc]; omega)))
  have HB4 : Hid (Below W1.heap.size W1 w4) := Lib.hid (HB2.out.trans (HB24.out.mono HB2.out.size))
  have HR4 := Lib.hid ((HB4.out.block _ (by have := (Array.getElem?_eq_some_iff.1 HR1.out).1; exact this)).trans HR1.out)
  clear hnx hb4 HU
  have HAL : Hid (Below w4.heap.size w4 (w4.alloc (.cells #[.int .i64 c.k, .int .i64 c.y, .int .i64 c.a, .int .i64 c.b] 58))) := Lib.hid ((Below.refl _ _).alloc (Nat.le_refl _) _)
  have HRA := Lib.hid ((HAL.out.block _ (Array.getElem?_eq_some_iff.1 HR4.out).1).trans HR4.out)
  have HBA := Lib.hid (HB4.out.trans (HAL.out.mono HB4.out.size))
  cases is with
  | true =>
    obtain ⟨r0, r1, r2, r3⟩ := cells4' HRA.out
    have f0 := frz HRA.out 0
    have f1 := frz HRA.out 1
    have f2 := frz HRA.out 2
    have f3 := frz HRA.out 3
    go_wp2
    obtain ⟨Wz, ez⟩ : ∃ Wz, Wz = ((((w4.alloc (.cells #[.int .i64 c.k, .int .i64 c.y, .int .i64 c.a, .int .i64 c.b] 58)).setCell ⟨w.heap.size, 0, none⟩ (.int .i64 c.k)).setCell ⟨w.heap.size, 1, none⟩ (.int .i64 c.y)).setCell ⟨w.heap.size, 2, none⟩ (.int .i64 c.a)).setCell ⟨w.heap.size, 3, none⟩ (.int .i64 c.b) := ⟨_, rfl⟩
    have hbz : Below w.heap.size w Wz := by
      rw [ez]
      exact ((((HB1.out.trans (HBA.out.mono HB1.out.size)).setCell (p := ⟨w.heap.size, 0, none⟩) (Nat.le_refl _) _).setCell (p := ⟨w.heap.size, 1, none⟩) (Nat.le_refl _) _).setCell (p := ⟨w.heap.size, 2, none⟩) (Nat.le_refl _) _).setCell (p := ⟨w.heap.size, 3, none⟩) (Nat.le_refl _) _
    obtain ⟨p0, p1, p2, p3⟩ := cells4' (show Wz.heap[w.heap.size]? = _ from by rw [ez]; exact setH4 HRA.out)
    rw [← ez]
    clear ez r0 r1 r2 r3 f0 f1 f2 f3
    refine bodyPost_ret (v := .tuple #[.agg #[.int .i64 c.k, .int .i64 c.y, .int .i64 c.a, .int .i64 c.b], .bool true]) (by simp [results, Try.results30, go_sem, p0, p1, p2, p3]) rfl ?_
    exact ⟨c, true, rfl, HNX.out.first, hbz⟩
  | false =>
    obtain ⟨W5, e5⟩ : ∃ W5, W5 = w4.alloc (.cells #[.int .i64 c.k, .int .i64 c.y, .int .i64 c.a, .int .i64 c.b] 58) := ⟨_, rfl⟩
    rw [← e5] at HRA HBA HAL
    have HS5 := Lib.hid (HS1.out.below HBA.out)
    have HF5 := Lib.hid ((HF.out.below HB1.out).below HBA.out)
    have HBO : Hid (BoS W5 g m (suL T m)) := Lib.hid (HM.out.bools.below (HB24.out.trans (HAL.out.mono HB24.out.size)))
    have HD := Lib.hid (done_any a m cap T (.map mb) F g (suL T m) (dnB T m F) W5 HS5.out HOK.out HF5.out HBO.out (fun i hi => by rw [dnB_iff]; rfl))
    go_wp2_with fail
    rw [← e5]
    refine HD.out.mono ?_
    rintro e w6 ⟨g6, rfl, hM6, hb6⟩
    have HW := Lib.hid (writersOf_any a m cap T g6 (dnB T m F) w6 (HS5.out.below hb6) HOK.out (hM6.bools.congr fun i hi => upT_all hi))
    have HB6 := Lib.hid (HBA.out.trans (hb6.mono HBA.out.size))
    clear hM6 hb6 HD
    go_wp2_with fail
    refine HW.out.mono ?_
    rintro e w7 ⟨rfl, q7, hq7, hm7, hb7⟩
    have HB7 := Lib.hid (HB6.out.trans (hb7.mono HB6.out.size))
    have HB8 := Lib.hid (HB7.out.alloc HB7.out.size (.cells #[.map (some w6.heap.size)] 82))
    have HU := Lib.hid (unsaid_any 74 (enters_of Try.func74 (by kernel_rfl) rfl) _ (prA (cdT T (dnB T m F)) m 16) (.map mb) F _ ((HF.out.below HB1.out).below HB8.out) (fun c hc => by
      obtain ⟨y, a, b, rfl, h1, h2, h3, _⟩ := prA_in hc
      unfold InC In64
      dsimp only
      omega) (fun X W hX hW => befores_at HOK.out hm7 X W hX hW))
    clear hm7 hb7 HW
    go_wp2_with fail
    refine (befores_any _ w7).mono ?_
    rintro e w8 ⟨rfl, rfl⟩
    go_wp2_with fail
    refine HU.out.mono ?_
    rintro e w9 ⟨c9, is9, rfl, hn9, hb9⟩
    have HN9 := Lib.hid hn9
    have HB9 := Lib.hid (HB8.out.trans (hb9.mono HB8.out.size))
    have HR9 := Lib.hid ((HB9.out.block _ (by have := (Array.getElem?_eq_some_iff.1 HR1.out).1; exact this)).trans HR1.out)
    clear hn9 hb9 HU
    obtain ⟨r0, r1, r2, r3⟩ := cells4' HR9.out
    have f0 := frz HR9.out 0
    have f1 := frz HR9.out 1
    have f2 := frz HR9.out 2
    have f3 := frz HR9.out 3
    go_wp2
    obtain ⟨Wz, ez⟩ : ∃ Wz, Wz = (((w9.setCell ⟨w.heap.size, 0, none⟩ (.int .i64 c9.k)).setCell ⟨w.heap.size, 1, none⟩ (.int .i64 c9.y)).setCell ⟨w.heap.size, 2, none⟩ (.int .i64 c9.a)).setCell ⟨w.heap.size, 3, none⟩ (.int .i64 c9.b) := ⟨_, rfl⟩
    have hbz : Below w.heap.size w Wz := by
      rw [ez]
      exact ((((HB1.out.trans (HB9.out.mono HB1.out.size)).setCell (p := ⟨w.heap.size, 0, none⟩) (Nat.le_refl _) _).setCell (p := ⟨w.heap.size, 1, none⟩) (Nat.le_refl _) _).setCell (p := ⟨w.heap.size, 2, none⟩) (Nat.le_refl _) _).setCell (p := ⟨w.heap.size, 3, none⟩) (Nat.le_refl _) _
    obtain ⟨p0, p1, p2, p3⟩ := cells4' (show Wz.heap[w.heap.size]? = _ from by rw [ez]; exact setH4 HR9.out)
    rw [← ez]
    clear ez r0 r1 r2 r3 f0 f1 f2 f3
    refine bodyPost_ret (v := .tuple #[.agg #[.int .i64 c9.k, .int .i64 c9.y, .int .i64 c9.a, .int .i64 c9.b], .bool is9]) (by simp [results, Try.results30, go_sem, p0, p1, p2, p3]) rfl ?_
    exact ⟨c9, is9, rfl, HNX.out.then HN9.out, hbz⟩
end Go.Proofs.Yteobndfkkpfnlaa

namespace Go.Proofs.Yteobndfkkpfnlaa
set_option linter.unusedVariables false

/-- a history's transactions are open, done or gone -/
def StI (s : St) : Prop := ∀ j, j < s.m → (s.T j).st = 0 ∨ (s.T j).st = 1 ∨ (s.T j).st = 2
theorem st_at (E : Nat → Ev) : ∀ i, StI (stateAt E i)
  | 0 => fun j hj => absurd hj (Nat.not_lt_zero _)
  | i + 1 => by
    have ih := st_at E i
    show StI (nextS (stateAt E i) (E i))
    unfold nextS
    by_cases hk : (E i).k = 1
    · rw [if_pos hk]
      intro j hj
      dsimp only at hj ⊢
      by_cases e : j = (stateAt E i).m
      · rw [if_pos e]; exact .inl rfl
      · rw [if_neg e]; exact ih j (by omega)
    · rw [if_neg hk]
      intro j hj
      dsimp only at hj ⊢
      by_cases e : j = idx (stateAt E i) (E i)
      · rw [if_pos e]
        unfold endT
        by_cases h2 : (E i).k = 2
        · rw [if_pos h2]; exact .inr (.inl rfl)
        · rw [if_neg h2]
          by_cases h3 : (E i).k = 3
          · rw [if_pos h3]; exact .inr (.inr rfl)
          · rw [if_neg h3, ← e]; exact ih j hj
      · rw [if_neg e]; exact ih j hj

/-- no choice is there twice -/
theorem prA_nodup (c : Nat → Nat → Prop) (m k : Nat) : (prA c m k).Pairwise (fun x y => x ≠ y) := by
  unfold prA
  refine List.pairwise_flatMap.2 ⟨fun y _ => ?_, List.pairwise_lt_range.imp fun {a b} hab x hx z hz => ?_⟩
  · unfold prs
    refine List.pairwise_flatMap.2 ⟨fun b _ => ?_, List.pairwise_lt_range.imp fun {a b} hab x hx z hz => ?_⟩
    · unfold prK
      rw [List.pairwise_map]
      exact (List.Pairwise.filter _ List.pairwise_lt_range).imp fun {i j} h e => by injection e; omega
    · unfold prK at hx hz
      obtain ⟨i, _, rfl⟩ := List.mem_map.1 hx
      obtain ⟨j, _, rfl⟩ := List.mem_map.1 hz
      intro e
      injection e
      omega
  · unfold prs at hx hz
    obtain ⟨i, _, hx⟩ := List.mem_flatMap.1 hx
    obtain ⟨j, _, hz⟩ := List.mem_flatMap.1 hz
    unfold prK at hx hz
    obtain ⟨i', _, rfl⟩ := List.mem_map.1 hx
    obtain ⟨j', _, rfl⟩ := List.mem_map.1 hz
    intro e
    injection e
    omega
theorem chA_nodup (T : Nat → Tx) (m : Nat) : (chA T m).Pairwise (fun x y => x ≠ y) := by
  unfold chA
  refine List.pairwise_append.2 ⟨?_, prA_nodup _ _ _, fun x hx y hy e => ?_⟩
  · unfold chC
    rw [List.pairwise_map]
    exact (List.Pairwise.filter _ List.pairwise_lt_range).imp fun {i j} h e => by injection e; omega
  · subst e
    unfold chC at hx
    obtain ⟨i, _, rfl⟩ := List.mem_map.1 hx
    obtain ⟨_, _, _, e, _⟩ := prA_in hy
    cases e

def dS : C4 × Bool := (c40, false)
def lfG (L : List (C4 × Bool)) : Nat → C4 × Bool := fun i => L.getD i dS
theorem gtS_congr {f g : Nat → C4 × Bool} {c : C4} : ∀ n, (∀ i, i < n → f i = g i) → gtS f c n = gtS g c n
  | 0, _ => rfl
  | n + 1, h => by unfold gtS; rw [gtS_congr n (fun i hi => h i (by omega)), h n (by omega)]
theorem gtS_mem {f : Nat → C4 × Bool} {c : C4} {b : Bool} : ∀ n, gtS f c n = some b → ∃ i, i < n ∧ (f i).1 = c
  | 0, h => by cases h
  | n + 1, h => by
    unfold gtS at h
    cases h0 : gtS f c n with
    | some b' =>
      obtain ⟨i, hi, e⟩ := gtS_mem n h0
      exact ⟨i, by omega, e⟩
    | none =>
      rw [h0] at h
      by_cases e : (f n).1 = c
      · exact ⟨n, by omega, e⟩
      · simp only [if_neg e] at h
        cases h
theorem smL_mem {l : List C4} {p : Nat → Int} : ∀ t, ∀ x ∈ smL l p t, ∃ i, i < t ∧ x.1 = l.getD i c40
  | 0, x, h => by cases h
  | t + 1, x, h => by
    unfold smL at h
    split at h
    · rcases List.mem_append.1 h with h | h
      · obtain ⟨i, hi, e⟩ := smL_mem t x h
        exact ⟨i, by omega, e⟩
      · obtain rfl := List.mem_singleton.1 h
        exact ⟨t, by omega, rfl⟩
    · obtain ⟨i, hi, e⟩ := smL_mem t x h
      exact ⟨i, by omega, e⟩
/-- what the map has the list has -/
theorem sm_eq {l : List C4} {p : Nat → Int} (hn : l.Pairwise (fun x y => x ≠ y)) (c : C4) : ∀ t, t ≤ l.length → smF l p t c.k c.y c.a c.b = gtS (lfG (smL l p t)) c (smL l p t).length
  | 0, _ => rfl
  | t + 1, ht => by
    have ih := sm_eq (p := p) hn c t (by omega)
    unfold smF smL
    by_cases hp : p t < 2
    · rw [if_pos hp, if_pos hp]
      rw [List.length_append, List.length_singleton]
      have h1 : gtS (lfG (smL l p t ++ [(l.getD t c40, p t == 1)])) c (smL l p t).length = gtS (lfG (smL l p t)) c (smL l p t).length := gtS_congr _ fun i hi => by
        unfold lfG
        rw [List.getD_eq_getElem?_getD, List.getElem?_append_left hi, List.getD_eq_getElem?_getD]
      have h2 : lfG (smL l p t ++ [(l.getD t c40, p t == 1)]) (smL l p t).length = (l.getD t c40, p t == 1) := by
        unfold lfG
        rw [List.getD_eq_getElem?_getD, List.getElem?_append_right (Nat.le_refl _)]
        simp
      unfold gtS
      rw [h1, h2, ← ih]
      unfold updC
      by_cases hc : l.getD t c40 = c
      · subst hc
        rw [if_pos ⟨rfl, rfl, rfl, rfl⟩]
        have h0 : smF l p t (l.getD t c40).k (l.getD t c40).y (l.getD t c40).a (l.getD t c40).b = none := by
          rw [ih]
          cases hg : gtS (lfG (smL l p t)) (l.getD t c40) (smL l p t).length with
          | none => rfl
          | some b =>
            obtain ⟨i, hi, e⟩ := gtS_mem _ hg
            have hm : lfG (smL l p t) i ∈ smL l p t := by
              unfold lfG
              rw [List.getD_eq_getElem?_getD, List.getElem?_eq_getElem hi]
              exact List.getElem_mem _
            obtain ⟨j, hj, e2⟩ := smL_mem t _ hm
            rw [e] at e2
            rw [List.getD_eq_getElem?_getD, List.getElem?_eq_getElem (by omega), List.getD_eq_getElem?_getD, List.getElem?_eq_getElem (by omega)] at e2
            exact absurd e2.symm (List.pairwise_iff_getElem.1 hn j t (by omega) (by omega) hj)
        rw [h0]
        simp
      · generalize l.getD t c40 = d at hc ⊢
        rw [if_neg (fun ⟨e1, e2, e3, e4⟩ => hc (by cases c; cases d; dsimp only at e1 e2 e3 e4; rw [e1, e2, e3, e4]))]
        cases smF l p t c.k c.y c.a c.b with
        | some b => rfl
        | none => exact (if_neg hc).symm
    · rw [if_neg hp, if_neg hp]
      exact ih

open Classical in
/-- the first one, found -/
theorem NxG.find {l : List C4} {ok : C4 → Prop} {c : C4} {is : Bool} (h : NxG l ok c is) : l.find? (fun x => decide (ok x)) = (if is = true then some c else none) ∧ (is = false → c = c40) := by
  rcases h with ⟨rfl, t, ht, hc, hk, hn⟩ | ⟨rfl, hc, hn⟩
  · refine ⟨?_, fun h => by cases h⟩
    rw [if_pos rfl, List.find?_eq_some_iff_getElem]
    have e : ∀ (j : Nat) (hj : j < l.length), l.getD j c40 = l[j] := fun j hj => by rw [List.getD_eq_getElem?_getD, List.getElem?_eq_getElem hj]; rfl
    refine ⟨by simp [hk], t, ht, by rw [hc, e t ht], fun j hj => ?_⟩
    have := hn j hj
    rw [e j (by omega)] at this
    simp [this]
  · refine ⟨?_, fun _ => hc⟩
    rw [if_neg (by simp), List.find?_eq_none]
    intro x hx
    obtain ⟨j, hj, e⟩ := List.getElem_of_mem hx
    have := hn j hj
    rw [List.getD_eq_getElem?_getD, List.getElem?_eq_getElem hj] at this
    simp only [Option.getD_some, e] at this
    simp [this]

theorem gd_un {T : Nat → Tx} {m i : Nat} {r : O3} (h : Gd (allV T m) T i r) : unT (T i) := by
  obtain ⟨_, h1, h2⟩ := h
  obtain ⟨j, hj, e, y, hy, hk, _⟩ := allV_has m h2
  obtain rfl : i = j := by omega
  exact ⟨h1, y, hy, hk⟩
/-- who is sure is done, or open and writes -/
theorem su_cases {T : Nat → Tx} {m i : Nat} (hu : Uq m T) (hi : i < m) : suL T m i = true → (T i).st = 1 ∨ unT (T i) := fun h => by
  rcases (su_iff hu hi).1 h with h | ⟨k, _, y, _, h⟩
  · exact .inl h
  · exact .inr (gd_un h)
theorem su_done {T : Nat → Tx} {m i : Nat} (hu : Uq m T) (hi : i < m) (h : (T i).st = 1) : suL T m i = true := (su_iff hu hi).2 (.inl h)

section
variable {T : Nat → Tx} {m n i : Nat} {f : Nat → C4 × Bool} {F : CM}
/-- the reference's word and the program's -/
theorem isG_one (hu : Uq m T) (hi : i < m) (hst : (T i).st = 0 ∨ (T i).st = 1 ∨ (T i).st = 2) (hF : F 1 0 (i : Int) 0 = gtS f ⟨1, 0, (i : Int), 0⟩ n) :
    isG T m n f i = 1 ↔ dnF T m F i := by
  unfold isG dnF
  by_cases hs : suL T m i = true
  · rw [if_pos hs]
    exact ⟨fun _ => .inl hs, fun _ => rfl⟩
  · rw [if_neg hs]
    have h1 : (T i).st ≠ 1 := fun h => hs (su_done hu hi h)
    by_cases hg : (T i).st = 2 ∨ ¬ wrT (T i)
    · rw [if_pos hg]
      refine ⟨fun h => (by cases h), fun h => ?_⟩
      rcases h with h | ⟨h, _⟩
      · exact absurd h hs
      · rcases hg with hg | hg
        · rw [h.1] at hg; cases hg
        · exact absurd h.2 hg
    · rw [if_neg hg, ← hF]
      have hun : unT (T i) := ⟨hst.resolve_right (fun h => h.elim h1 (fun h => hg (.inl h))), Classical.byContradiction fun h => hg (.inr h)⟩
      rcases hv : F 1 0 (i : Int) 0 with _ | _ | _
      · exact ⟨fun h => (by cases h), fun h => (by rcases h with h | ⟨_, h⟩; exact absurd h hs; cases h)⟩
      · exact ⟨fun h => (by cases h), fun h => (by rcases h with h | ⟨_, h⟩; exact absurd h hs; cases h)⟩
      · exact ⟨fun _ => .inr ⟨hun, rfl⟩, fun _ => rfl⟩
theorem isG_ge (hu : Uq m T) (hi : i < m) (hst : (T i).st = 0 ∨ (T i).st = 1 ∨ (T i).st = 2) (hF : F 1 0 (i : Int) 0 = gtS f ⟨1, 0, (i : Int), 0⟩ n) :
    0 ≤ isG T m n f i ↔ (¬ unT (T i) ∨ suL T m i = true ∨ (F 1 0 (i : Int) 0).isSome = true) := by
  unfold isG
  by_cases hs : suL T m i = true
  · rw [if_pos hs]
    exact ⟨fun _ => .inr (.inl hs), fun _ => by omega⟩
  · rw [if_neg hs]
    have h1 : (T i).st ≠ 1 := fun h => hs (su_done hu hi h)
    by_cases hg : (T i).st = 2 ∨ ¬ wrT (T i)
    · rw [if_pos hg]
      refine ⟨fun _ => .inl fun h => ?_, fun _ => by omega⟩
      rcases hg with hg | hg
      · rw [h.1] at hg; cases hg
      · exact absurd h.2 hg
    · rw [if_neg hg, ← hF]
      have hun : unT (T i) := ⟨hst.resolve_right (fun h => h.elim h1 (fun h => hg (.inl h))), Classical.byContradiction fun h => hg (.inr h)⟩
      rcases hv : F 1 0 (i : Int) 0 with _ | _ | _
      · exact ⟨fun h => by have : (0 : Int) ≤ -1 := h; omega, fun h => by rcases h with h | h | h; exact absurd hun h; exact absurd h hs; cases h⟩
      · exact ⟨fun _ => .inr (.inr rfl), fun _ => by show (0 : Int) ≤ 0; omega⟩
      · exact ⟨fun _ => .inr (.inr rfl), fun _ => by show (0 : Int) ≤ 1; omega⟩
theorem isG_so (hu : Uq m T) (hi : i < m) (hst : (T i).st = 0 ∨ (T i).st = 1 ∨ (T i).st = 2) (hF : F 1 0 (i : Int) 0 = gtS f ⟨1, 0, (i : Int), 0⟩ n) :
    isG T m n f i = 1 ↔ ((T i).st = 1 ∨ unT (T i) ∧ (suL T m i = true ∨ F 1 0 (i : Int) 0 = some true)) := by
  rw [isG_one hu hi hst hF]
  unfold dnF
  constructor
  · rintro (h | ⟨h1, h2⟩)
    · rcases su_cases hu hi h with h3 | h3
      · exact .inl h3
      · exact .inr ⟨h3, .inl h⟩
    · exact .inr ⟨h1, .inr h2⟩
  · rintro (h | ⟨h1, h2 | h2⟩)
    · exact .inl (su_done hu hi h)
    · exact .inl h2
    · exact .inr ⟨h1, h2⟩
end

open Classical in
/-- does it count -/
noncomputable def cntG (T : Nat → Tx) (m n : Nat) (f : Nat → C4 × Bool) (c : C4) : Bool := decide (c.k = 1 ∨ isG T m n f c.a.toNat = 1 ∧ isG T m n f c.b.toNat = 1)
theorem filter_congr' {α : Type} {p q : α → Bool} : ∀ l : List α, (∀ x, x ∈ l → p x = q x) → l.filter p = l.filter q
  | [], _ => rfl
  | x :: l, h => by
    have h1 := h x (List.mem_cons_self ..)
    have h2 := filter_congr' l (fun y hy => h y (List.mem_cons_of_mem _ hy))
    rw [List.filter_cons, List.filter_cons, h1, h2]
theorem filter_flat {α β : Type} {p : β → Bool} {f : α → List β} : ∀ l : List α, (l.flatMap f).filter p = l.flatMap fun x => (f x).filter p
  | [] => rfl
  | x :: l => by rw [List.flatMap_cons, List.flatMap_cons, List.filter_append, filter_flat l]
theorem fm_congr' {α β : Type} {f g : α → List β} : ∀ l : List α, (∀ x, x ∈ l → f x = g x) → l.flatMap f = l.flatMap g
  | [], _ => rfl
  | y :: l, h => by rw [List.flatMap_cons, List.flatMap_cons, h y (List.mem_cons_self ..), fm_congr' l (fun x hx => h x (List.mem_cons_of_mem _ hx))]
open Classical in
/-- of all choices those that count are those that may be next -/
theorem nxA_filter {T : Nat → Tx} {m n : Nat} {f : Nat → C4 × Bool} {F : CM} (h : ∀ i, i < m → (isG T m n f i = 1 ↔ dnF T m F i)) (hng : ∀ i, i < m → dnF T m F i → (T i).st ≠ 2) : nxA T m F = (chA T m).filter (cntG T m n f) := by
  unfold nxA chA
  rw [List.filter_append]
  congr 1
  · symm
    rw [List.filter_eq_self]
    intro c hc
    unfold chC at hc
    obtain ⟨i, _, rfl⟩ := List.mem_map.1 hc
    unfold cntG
    exact @decide_eq_true _ (_) (.inl rfl)
  · unfold prA
    rw [filter_flat]
    refine fm_congr' _ fun y _ => ?_
    unfold prs
    rw [filter_flat]
    refine fm_congr' _ fun b hb => ?_
    have hb' := List.mem_range.1 hb
    unfold prK
    rw [List.filter_map, List.filter_filter]
    congr 1
    refine filter_congr' _ fun a ha => ?_
    have ha' := List.mem_range.1 ha
    rw [Bool.eq_iff_iff, Bool.and_eq_true]
    unfold cntG
    simp only [Function.comp, decide_eq_true_eq, Int.toNat_natCast]
    rw [h a (by omega), h b hb']
    unfold cdT cand
    rw [dnB_iff, dnB_iff]
    constructor
    · rintro ⟨⟨h1, h2⟩, h3, h4⟩
      exact ⟨.inr ⟨h1, h3⟩, ⟨hng a (by omega) h1, h2⟩, hng b hb' h3, h4⟩
    · rintro ⟨h1, ⟨_, h2⟩, _, h4⟩
      rcases h1 with h1 | ⟨h1, h3⟩
      · cases h1
      · exact ⟨⟨h1, h2⟩, h3, h4⟩
theorem find_congr' {α : Type} {p q : α → Bool} {l : List α} (h : ∀ x, p x = q x) : l.find? p = l.find? q := by rw [show p = q from funext h]
/-- the program's next one is the reference's -/
theorem next_same {T : Nat → Tx} {m n : Nat} {f : Nat → C4 × Bool} {F : CM} (h : ∀ i, i < m → (isG T m n f i = 1 ↔ dnF T m F i)) (hng : ∀ i, i < m → dnF T m F i → (T i).st ≠ 2) (hF : ∀ c : C4, F c.k c.y c.a c.b = gtS f c n)
    {c d : C4} {is js : Bool} (h1 : NxG (nxA T m F) (unsF F) c is) (h2 : NxG (chA T m) (okN T m n f) d js) : c = d ∧ is = js := by
  obtain ⟨e1, z1⟩ := h1.find
  obtain ⟨e2, z2⟩ := h2.find
  rw [nxA_filter h hng, List.find?_filter] at e1
  have e5 : (chA T m).find? (fun x => @decide (okN T m n f x) (Classical.propDecidable _)) = (if is = true then some c else none) := by
    refine (find_congr' fun x => ?_).symm.trans e1
    rw [Bool.eq_iff_iff]
    unfold cntG okN unsF
    simp only [decide_eq_true_eq]
    rw [hF x]
    exact And.comm
  rw [e2] at e5
  replace e1 := e5
  cases is <;> cases js
  · exact ⟨(z1 rfl).trans (z2 rfl).symm, rfl⟩
  · simp at e1
  · simp at e1
  · simp at e1
    exact ⟨e1.symm, rfl⟩
end Go.Proofs.Yteobndfkkpfnlaa

namespace Go.Proofs.Yteobndfkkpfnlaa
open Go.ChangeShapes Go.WideShapes Go.ChangeAt Go.RowKit Go.Maps Go.Shelf
set_option linter.unusedVariables false

/-- block b is a map that reads as D: m's entries, at most n -/
def OwC (w : World) (b n : Nat) (D : DataW Unit) (m : CM) : Prop :=
  w.ownsMap Try.prog 58 (plainElem Try.prog 4) b n D ∧ ∀ k y i j, InC k y i j → Maps.has D (choL k y i j) = (m k y i j).isSome ∧ D.atKey (choL k y i j) (.lit (.bool false)) = .lit (.bool ((m k y i j).getD false))
section
variable {w w' : World} {b n : Nat} {D : DataW Unit} {m : CM}
theorem OwC.map (h : OwC w b n D m) : MapC w b n m := ⟨D, h.1, h.2⟩
theorem OwC.kept (h : OwC w b n D m) (hb : w'.heap[b]? = w.heap[b]?) : OwC w' b n D m := by
  obtain ⟨⟨es, clock, hb', F, hs, hD⟩, hv⟩ := h
  exact ⟨⟨es, clock, hb.trans hb', F, hs, hD⟩, hv⟩
theorem OwC.lt (h : OwC w b n D m) : b < w.heap.size := h.1.lt
theorem OwC.below (h : OwC w b n D m) (hb : Below w.heap.size w w') : OwC w' b n D m := h.kept (hb.block _ h.lt)
theorem OwC.facs (h : OwC w b n D m) : FacS w (.map (some b)) m := .inr ⟨b, n, rfl, h.map⟩
theorem OwC.len (h : OwC w b n D m) (ty : TypeId) : (Builtin.len_ #[62] ty #[.map (some b)]).run Try.prog w = .ok (.int .i64 (Maps.size D)) w := h.1.len Try.underlying62 ty
theorem OwC.update (h : OwC w b n D m) (k y i j : Int) (v : Bool) (hn : n < 1000000) (hc : InC k y i j) :
    ∃ w', (Instr.mapUpdate 62 (.map (some b)) (cho k y i j) (.bool v)).run Try.prog w = .ok () w' ∧ OwC w' b (n + 1) (D.put (choL k y i j) (.lit (.bool v))) (updC m k y i j v) ∧ w.grownBy w' (some b) := by
  obtain ⟨ho, hD⟩ := h
  obtain ⟨w', hrun, ho', hg⟩ := ho.update keyedC Try.underlying62 (by unfold maxLen; omega) (keyOf_cho hc) (plainElem_bool Try.underlying4 v)
  refine ⟨w', hrun, ⟨ho', fun k' y' i' j' hc' => ?_⟩, hg⟩
  unfold updC
  by_cases he : k' = k ∧ y' = y ∧ i' = i ∧ j' = j
  · obtain ⟨rfl, rfl, rfl, rfl⟩ := he
    rw [if_pos ⟨rfl, rfl, rfl, rfl⟩]
    exact ⟨has_put_same (k := choL k' y' i' j') ho.isMap (keyedC.key (keyOf_cho hc)) _, atKey_put_same (k := choL k' y' i' j') ho.isMap (keyedC.key (keyOf_cho hc)) _ _⟩
  · rw [if_neg he]
    have hne : choL k' y' i' j' ≠ choL k y i j := fun e => he (choL_inj hc' hc e)
    rw [has_put_other hne, atKey_put_other hne]
    exact hD k' y' i' j' hc'
theorem OwC.more (h : OwC w b n D m) {k y i j : Int} (hc : InC k y i j) (hn : m k y i j = none) (v : Bool) : Maps.size (D.put (choL k y i j) (.lit (.bool v))) = Maps.size D + 1 := by
  rw [size_put (h.1.tidy keyedC), (h.2 k y i j hc).1, hn]
  rfl
end
def WiP (b n : Nat) (D : DataW Unit) (m : CM) (c : C4) (so : Bool) (w : World) (e : Ending) (w' : World) : Prop :=
  ∃ b', e = .returned (.map (some b')) ∧ OwC w' b' (n + 1) (D.put (choL c.k c.y c.a c.b) (.lit (.bool so))) (updC m c.k c.y c.a c.b so) ∧ Below w.heap.size w w'

set_option maxRecDepth 100000 in
set_option maxHeartbeats 4000000 in
theorem with_any (b n : Nat) (D : DataW Unit) (m : CM) (c : C4) (so : Bool) (w : World) (h : OwC w b n D m) (hn : n < 1000000) (hc : InC c.k c.y c.a c.b) :
    Calls Try.prog 32 #[.map (some b), .agg #[.int .i64 c.k, .int .i64 c.y, .int .i64 c.a, .int .i64 c.b], .bool so] w (WiP b n D m c so w) := by
  have hal : Below w.heap.size w (w.alloc (.cells #[.int .i64 c.k, .int .i64 c.y, .int .i64 c.a, .int .i64 c.b] 58)) := (Below.refl _ _).alloc (Nat.le_refl _) _
  have HC := Lib.hid (AnyW.maps_Clone_owns Try.cloneF 58 (plainElem Try.prog 4) b n D _ (h.below hal).1)
  have HD := Lib.hid h.2
  have HX := Lib.hid (heap_alloc_new w (.cells #[.int .i64 c.k, .int .i64 c.y, .int .i64 c.a, .int .i64 c.b] 58))
  have hq := fun (bb : Nat) w => run_eql_map_nil_sl (P := Try.prog) w 62 _ _ (some bb) Try.underlying62
  clear h
  go_enter Try.func32, Try.ntmps32
  go_wp2_with fail
  obtain ⟨W1, e1⟩ : ∃ W1, W1 = w.alloc (.cells #[.int .i64 c.k, .int .i64 c.y, .int .i64 c.a, .int .i64 c.b] 58) := ⟨_, rfl⟩
  rw [← e1] at HC HX hal ⊢
  clear e1
  have HAL := Lib.hid hal
  clear hal
  refine HC.out.mono ?_
  rintro e w2 ⟨rfl, ho2, _, hb2⟩
  have hlt : w.heap.size < W1.heap.size := (Array.getElem?_eq_some_iff.1 HX.out).1
  have hX2 := (hb2.block _ hlt).trans HX.out
  obtain ⟨p0, p1, p2, p3⟩ := cells4' hX2
  have hO2 : OwC w2 W1.heap.size n D m := ⟨ho2, HD.out⟩
  obtain ⟨w3, hrun, hO3, hg3⟩ := hO2.update c.k c.y c.a c.b so hn hc
  unfold cho at hrun
  have hB3 : Below w.heap.size w w3 := (HAL.out.trans (hb2.mono HAL.out.size)).grown hg3 (Nat.le_trans HAL.out.size hb2.size) (fun k e => by injection e with e; rw [← e]; exact HAL.out.size)
  have HO3 := Lib.hid hO3
  have HB3 := Lib.hid hB3
  clear ho2 hb2 hX2 hO2 hO3 hg3 hB3 HC HX
  go_wp2
  go_ret
  exact ⟨_, rfl, HO3.out, HB3.out⟩
end Go.Proofs.Yteobndfkkpfnlaa

namespace Go.Proofs.Yteobndfkkpfnlaa
open Go.ChangeShapes Go.WideShapes Go.ChangeAt Go.RowKit Go.Maps Go.Shelf Go.MapKept Go.ChangeMaps
set_option linter.unusedVariables false

theorem own_said {w : World} {B n cp : Nat} {sp : Option Addr} {L : List (C4 × Bool)} (h : w.ownsRow B 110 5 (.slice sp n cp) n (rowG L)) (hn : n = L.length) : SaS w sp n (lfG L) := by
  subst hn
  intro h0
  obtain ⟨g, cap', e, hB, hl⟩ := h.form h0
  injection e with e1 _ _
  have hrow : ∀ (L : List (C4 × Bool)) (i j : Nat), i < L.length → j < 5 → (rowG L)[i * 5 + j]? = (cells5 (lfG L i))[j]? := by
    intro L
    induction L with
    | nil => intro i j hi; cases hi
    | cons c L ih =>
      intro i j hi hj
      have h5 : (cells5 c).length = 5 := rfl
      cases i with
      | zero =>
        show (cells5 c ++ rowG L)[0 * 5 + j]? = _
        rw [List.getElem?_append_left (by omega)]
        unfold lfG
        simp
      | succ i =>
        show (cells5 c ++ rowG L)[(i + 1) * 5 + j]? = _
        rw [List.getElem?_append_right (by omega), h5, show (i + 1) * 5 + j - 5 = i * 5 + j by omega]
        rw [ih i j (by simpa using hi) hj]
        unfold lfG
        simp
  subst e1
  refine ⟨g, 0, rfl, hl, fun i hi => ?_⟩
  have cl : ∀ j, j < 5 → w.cell? ⟨g, i * 5 + j, none⟩ = (cells5 (lfG L i))[j]? := fun j hj => by
    rw [h.cellAt (i * 5 + j) (by omega), hrow L i j hi hj]
  simp only [Nat.zero_add]
  exact ⟨(cl 0 (by omega)).trans rfl, (cl 1 (by omega)).trans rfl, (cl 2 (by omega)).trans rfl, (cl 3 (by omega)).trans rfl, (cl 4 (by omega)).trans rfl⟩

theorem nx_true {l : List C4} {ok : C4 → Prop} {c : C4} (h : NxG l ok c true) : c ∈ l ∧ ok c := by
  rcases h with ⟨_, t, ht, rfl, h1, _⟩ | ⟨h, _⟩
  · refine ⟨?_, h1⟩
    rw [List.getD_eq_getElem?_getD, List.getElem?_eq_getElem ht]
    exact List.getElem_mem _
  · cases h
theorem updC_same (F : CM) (c : C4) (v : Bool) : updC F c.k c.y c.a c.b v c.k c.y c.a c.b = some v := if_pos ⟨rfl, rfl, rfl, rfl⟩

set_option maxRecDepth 100000 in
set_option maxHeartbeats 16000000 in
theorem facts_law (a : Option Addr) (len cap : Nat) (E : Nat → Ev) (ap : Option Addr) (np capp : Nat) (P : Nat → Int) (w : World) (hs : EvS w a len E) (hp : PkS w ap np P) :
    Calls Try.prog 9 #[.slice a len cap, .slice ap np capp] w (fun e w' => e = .returned (.bool true) ∧ Below w.heap.size w w') := by
  have HS := Lib.hid hs
  have HP := Lib.hid hp
  have HH := Lib.hid (head9_any w)
  have hgu := @guardK'
  have heq := @neqK
  clear hs hp
  go_enter Try.func9, Try.ntmps9
  go_wp2_with fail
  refine HH.out.mono ?_
  rintro e w1 ⟨rfl, hb1⟩
  have HB1 := Lib.hid hb1
  have HM := Lib.hid (made_any a len cap E w1 (HS.out.below hb1))
  clear hb1 HH
  go_wp2_with fail
  refine HM.out.mono ?_
  rintro e w2 ⟨sp, m, cp, ok, rfl, hb2, hok⟩
  have HB2 := Lib.hid (HB1.out.trans (hb2.mono HB1.out.size))
  have HOK := Lib.hid hok
  clear hb2 hok HM HB1
  cases ok with
  | false =>
    go_wp2
    go_ret
    exact ⟨rfl, HB2.out⟩
  | true =>
    obtain ⟨-, hme, hm60, hx, hu, ht⟩ := HOK.out rfl
    have hst : ∀ i, i < m → ((stateAt E len).T i).st = 0 ∨ ((stateAt E len).T i).st = 1 ∨ ((stateAt E len).T i).st = 2 := fun i hi => st_at E len i (by rw [← hme]; exact hi)
    clear hme
    generalize (stateAt E len).T = T at *
    have HT := Lib.hid ht
    have HX := Lib.hid hx
    have HU := Lib.hid hu
    have HST := Lib.hid hst
    have HSO := Lib.hid (some_any sp m cp T ap np capp P w2 (by omega) ht hx hu (HP.out.below HB2.out))
    clear ht hx hu HOK hst
    go_wp2_with fail
    refine HSO.out.mono ?_
    rintro e w3 ⟨bm, n, sg, cg, rfl, ⟨D, ho3, hv3⟩, hrow3, hb3, hn3⟩
    have HO3 : Hid (OwC w3 bm n D (smF (chA T m) (pkN P np) (chA T m).length)) := Lib.hid ⟨ho3, hv3⟩
    have HSA := Lib.hid (own_said hrow3 rfl)
    have HB3 := Lib.hid (HB2.out.trans (hb3.mono HB2.out.size))
    have HT3 := Lib.hid (HT.out.below hb3)
    have HLE := Lib.hid (chA_le T m (by omega))
    have hn9 : n < 1000000 := by have := HLE.out; omega
    have hsl := smL_le (chA T m) (pkN P np) (chA T m).length
    have hnb : (smL (chA T m) (pkN P np) (chA T m).length).length ≤ 1000000 := by have := HLE.out; omega
    have HEQ := Lib.hid (fun c => sm_eq (p := pkN P np) (chA_nodup T m) c (chA T m).length (Nat.le_refl _))
    clear ho3 hv3 hrow3 hb3 hsl hn3 HSO
    generalize smF (chA T m) (pkN P np) (chA T m).length = F at *
    generalize lfG (smL (chA T m) (pkN P np) (chA T m).length) = f at *
    generalize (smL (chA T m) (pkN P np) (chA T m).length).length = k at *
    have HFI : Hid (∀ i : Nat, F 1 0 (i : Int) 0 = gtS f ⟨1, 0, (i : Int), 0⟩ k) := Lib.hid fun i => HEQ.out ⟨1, 0, (i : Int), 0⟩
    have hlen := HO3.out.len 3
    go_wp2
    clear hlen
    go_loopw [10, 11, 12, 13, 42] (fun _ _ _ _ x wr => ∃ t : Nat, t ≤ m ∧ x = .int .i64 (t : Int) ∧ Hid (Below w3.heap.size w3 wr)) (fun _ _ _ _ x _ => m - (intOf x).toNat)
    case atStart => exact ⟨0, Nat.zero_le _, rfl, Lib.hid (Below.refl _ _)⟩
    case round =>
      obtain ⟨t, ht, rfl, HW⟩ := hrel
      by_cases hlt : t < m
      · have hlt' : (t : Int) < (m : Int) := by omega
        have hso := isG_so (n := k) (f := f) HU.out hlt (HST.out t hlt) (HFI.out t)
        have hge := isG_ge (n := k) (f := f) HU.out hlt (HST.out t hlt) (HFI.out t)
        have HI := Lib.hid (is_any sp m cp T (.map (some bm)) F (t : Int) (isG T m k f t == 1) (decide (0 ≤ isG T m k f t)) wr (HT3.out.below HW.out) HX.out.ok (HO3.out.below HW.out).facs
          (by
            rw [beq_iff_eq, hso]
            exact ⟨fun h => ⟨t, rfl, hlt, h⟩, fun ⟨k', e, _, h⟩ => by obtain rfl : t = k' := by omega
                                                                      exact h⟩)
          (by
            rw [decide_eq_true_eq, hge]
            exact ⟨fun h => ⟨t, rfl, hlt, h⟩, fun ⟨k', e, _, h⟩ => by obtain rfl : t = k' := by omega
                                                                      exact h⟩))
        have HR := Lib.hid (fun W (hW : Below w3.heap.size w3 W) => ris_any sp m cp T sg k cg f t W hlt hnb (HT3.out.below hW) HX.out HU.out (HSA.out.below hW))
        clear hso hge
        generalize isG T m k f t = ig at *
        go_wp2_with fail
        refine HI.out.mono ?_
        rintro e w4 ⟨rfl, hb4⟩
        have HB4 := Lib.hid (HW.out.trans (hb4.mono HW.out.size))
        have HR4 := Lib.hid (HR.out w4 HB4.out)
        clear hb4 HI HR
        go_wp2_with fail
        refine HR4.out.mono ?_
        rintro e w5 ⟨rfl, hb5⟩
        have HB5 := Lib.hid (HB4.out.trans (hb5.mono HB4.out.size))
        clear hb5 HR4
        go_wp2_with fail
        go_roundw
        case rel => exact ⟨t + 1, by omega, by go_num, HB5⟩
        case measure => simp [intOf]; omega
      · obtain rfl : t = m := by omega
        have HN := Lib.hid (next_any sp t cp T (.map (some bm)) F wr (HT3.out.below HW.out) HX.out.ok (HO3.out.below HW.out).facs)
        go_wp2_with fail
        refine HN.out.mono ?_
        rintro e w4 ⟨c, is, rfl, hnx, hb4⟩
        have HNX := Lib.hid hnx
        have HB4 := Lib.hid (HW.out.trans (hb4.mono HW.out.size))
        have HAL : Hid (∀ o, Below w3.heap.size w3 (w4.alloc o)) := Lib.hid fun o => HB4.out.trans (((Below.refl _ _).alloc (Nat.le_refl _) o).mono HB4.out.size)
        have HRN := Lib.hid (rnext_any sp t cp T sg k cg f _ (by omega) hnb (HT3.out.below (HAL.out (.cells #[.int .i64 c.k, .int .i64 c.y, .int .i64 c.a, .int .i64 c.b] 58))) HX.out HU.out (HSA.out.below (HAL.out _)))
        have HXW := Lib.hid (heap_alloc_new w4 (.cells #[.int .i64 c.k, .int .i64 c.y, .int .i64 c.a, .int .i64 c.b] 58))
        clear hnx hb4 HN
        go_wp2_with fail
        obtain ⟨W5, e5⟩ : ∃ W5, W5 = w4.alloc (.cells #[.int .i64 c.k, .int .i64 c.y, .int .i64 c.a, .int .i64 c.b] 58) := ⟨_, rfl⟩
        have HB5 : Hid (Below w3.heap.size w3 W5) := Lib.hid (by rw [e5]; exact HAL.out _)
        rw [← e5] at HRN HXW ⊢
        obtain ⟨P, eP⟩ : ∃ P, P = w4.heap.size := ⟨_, rfl⟩
        rw [← eP] at HXW ⊢
        clear e5 eP HAL
        refine HRN.out.mono ?_
        rintro e w6 ⟨d, js, rfl, hd, hb6⟩
        obtain ⟨rfl, rfl⟩ := next_same (fun i hi => isG_one HU.out hi (HST.out i hi) (HFI.out i)) (fun i hi h => by
          rcases h with h | ⟨h, _⟩
          · rcases su_cases HU.out hi h with h | h
            · rw [h]; decide
            · rw [h.1]; decide
          · rw [h.1]; decide) HEQ.out HNX.out hd
        have HB6 := Lib.hid (HB5.out.trans (hb6.mono HB5.out.size))
        have HX6 := Lib.hid ((hb6.block _ (Array.getElem?_eq_some_iff.1 HXW.out).1).trans HXW.out)
        have HDD := Lib.hid hd
        clear hb6 HRN HXW hd
        have hb7 : Below w6.heap.size w6 (w6.alloc (.cells #[.int .i64 c.k, .int .i64 c.y, .int .i64 c.a, .int .i64 c.b] 59)) := (Below.refl _ _).alloc (Nat.le_refl _) _
        have HB7 := Lib.hid (HB6.out.trans (hb7.mono HB6.out.size))
        have HX7 := Lib.hid ((hb7.block _ (Array.getElem?_eq_some_iff.1 HX6.out).1).trans HX6.out)
        obtain ⟨x0, x1, x2, x3⟩ := cells4' HX7.out
        clear hb7
        cases is with
        | false =>
          go_wp2
          go_ret
          exact ⟨rfl, HB3.out.trans (HB7.out.mono HB3.out.size)⟩
        | true =>
          have hmem := (nx_true HDD.out).1
          have hin := chA_in T t (by omega) c hmem
          have hun : F c.k c.y c.a c.b = none := (nx_true HNX.out).2
          have HWI := Lib.hid (with_any bm n D F c true _ (HO3.out.below HB7.out) hn9 hin)
          have HIN := Lib.hid hin
          have HUN := Lib.hid hun
          have HMO := Lib.hid (HO3.out.more hin hun true)
          clear hmem hin hun
          go_wp2_with fail
          obtain ⟨W7, e7⟩ : ∃ W7, W7 = w6.alloc (.cells #[.int .i64 c.k, .int .i64 c.y, .int .i64 c.a, .int .i64 c.b] 59) := ⟨_, rfl⟩
          rw [← e7] at HWI HB7 HX7 ⊢
          clear e7 x0 x1 x2 x3
          refine HWI.out.mono ?_
          rintro e w8 ⟨b', rfl, ho8, hb8⟩
          have HO8 := Lib.hid ho8
          have HB8 := Lib.hid (HB7.out.trans (hb8.mono HB7.out.size))
          have HX8 := Lib.hid ((hb8.block _ (Array.getElem?_eq_some_iff.1 HX7.out).1).trans HX7.out)
          have HN := Lib.hid (next_any sp t cp T (.map (some b')) (updC F c.k c.y c.a c.b true) w8 (HT3.out.below HB8.out) HX.out.ok ho8.facs)
          clear ho8 hb8 HWI
          go_wp2_with fail
          refine HN.out.mono ?_
          rintro e w9 ⟨c9, is9, rfl, hn9', hb9⟩
          have hal : Below w9.heap.size w9 (w9.alloc (.cells #[.int .i64 c9.k, .int .i64 c9.y, .int .i64 c9.a, .int .i64 c9.b] 58)) := (Below.refl _ _).alloc (Nat.le_refl _) _
          have HB9 := Lib.hid (HB8.out.trans (hb9.mono HB8.out.size))
          have HBA := Lib.hid (HB9.out.trans (hal.mono HB9.out.size))
          have HXA := Lib.hid ((hal.block _ (Nat.lt_of_lt_of_le (Array.getElem?_eq_some_iff.1 HX8.out).1 hb9.size)).trans ((hb9.block _ (Array.getElem?_eq_some_iff.1 HX8.out).1).trans HX8.out))
          have HOA : Hid (OwC (w9.alloc (.cells #[.int .i64 c9.k, .int .i64 c9.y, .int .i64 c9.a, .int .i64 c9.b] 58)) b' (n + 1) (D.put (choL c.k c.y c.a c.b) (.lit (.bool true))) (updC F c.k c.y c.a c.b true)) := Lib.hid ((HO8.out.below hb9).below hal)
          have HFA := Lib.hid (HO3.out.below HBA.out)
          have hl1 := HFA.out.map.look c.k c.y c.a c.b HIN.out
          have hl2 := HOA.out.map.get c.k c.y c.a c.b HIN.out
          rw [HUN.out] at hl1
          rw [updC_same] at hl2
          unfold cho at hl1 hl2
          simp only [Option.getD_none, Option.isSome_none, Option.getD_some] at hl1 hl2
          have hne : is9 = true → (c9.k == c.k && (c9.y == c.y && (c9.a == c.a && c9.b == c.b))) = false := fun h9 => by
            rw [h9] at hn9'
            have h1 : updC F c.k c.y c.a c.b true c9.k c9.y c9.a c9.b = none := (nx_true hn9').2
            cases he : (c9.k == c.k && (c9.y == c.y && (c9.a == c.a && c9.b == c.b))) with
            | false => rfl
            | true =>
              have h2 := (eqC_iff c9 c).1 he
              rw [h2, updC_same] at h1
              cases h1
          obtain ⟨x0, x1, x2, x3⟩ := cells4' HXA.out
          have hsl : (Maps.size D : Int) ≤ 1000000 := by have := HO3.out.1.size_le; omega
          have hs1 : (Maps.size (D.put (choL c.k c.y c.a c.b) (.lit (.bool true))) : Int) = (Maps.size D : Int) + 1 := by rw [HMO.out]; rfl
          obtain ⟨s1, es1⟩ : ∃ s1 : Nat, s1 = Maps.size (D.put (choL c.k c.y c.a c.b) (.lit (.bool true))) := ⟨_, rfl⟩
          obtain ⟨s0, es0⟩ : ∃ s0 : Nat, s0 = Maps.size D := ⟨_, rfl⟩
          rw [← es1, ← es0] at hs1
          rw [← es0] at hsl
          have hw1 : IntKind.i64.wrap ((s0 : Int) + 1) = (s0 : Int) + 1 := IntWalk.i64_in _ (by omega)
          have HE1 := Lib.hid es1
          have HE0 := Lib.hid es0
          have hg0 := HFA.out.len 3
          have hg1 := HOA.out.len 3
          rw [← es0] at hg0 ⊢
          rw [← es1] at hg1
          clear es1 es0 hn9' hb9 hal HN
          cases is9 with
          | false =>
            clear hne
            go_wp2
            go_ret
            exact ⟨rfl, HB3.out.trans (HBA.out.mono HB3.out.size)⟩
          | true =>
            have hne1 := hne rfl
            clear hne
            go_wp2
            go_ret
            exact ⟨rfl, HB3.out.trans (HBA.out.mono HB3.out.size)⟩
end Go.Proofs.Yteobndfkkpfnlaa

namespace Go.Proofs.Yteobndfkkpfnlaa
open Go.ChangeShapes Go.WideShapes Go.ChangeAt Go.RowKit Go.Deep
set_option linter.unusedVariables false

section
variable {H : Type} {enc : TypeId × Value → H} {w : World} {base : Nat} {spare : Nat → Bool} {held : Bool}
theorem picks_of {fuel : Nat} {a : Option Addr} {len cap : Nat} {x : DataW H × List MemPlace} (h : DataW.trod enc Try.prog w base spare held fuel 41 [.slice a len cap] = some x) : ∃ f, PkS w a len f := by
  rcases open_slice Try.underlying41 h with ⟨e, _⟩ | ⟨ad, len', cap', m, n, D, Pl, e, _, hl, hm, hmm, _, hi⟩
  · simp at e; obtain ⟨rfl, rfl, rfl⟩ := e
    exact ⟨fun _ => 0, fun h => by omega⟩
  · simp at e; obtain ⟨rfl, rfl, rfl⟩ := e
    rw [cells3'] at hi
    have hlm : len ≤ m := by rw [hmm]; split <;> omega
    have hex : ∀ j, ∃ t : Int, j < len → w.cell? (ad.add (j * 1)) = some (.int .i64 t) := fun j => by
      by_cases hj : j < len
      · obtain ⟨cs, h1, h2⟩ := hi j (by omega)
        obtain ⟨_, hlen, hat⟩ := World.cells?_some h1
        match cs, hlen with
        | [c0], _ =>
          obtain ⟨u, e0, _, _⟩ := DataW.trod_int Try.underlying3 h2
          simp at e0
          subst e0
          have h0 := hat 0 (by decide)
          have e : ∀ a : Addr, a.add 0 = a := fun a => by unfold Addr.add; cases a; split <;> simp_all
          rw [e] at h0
          exact ⟨u, fun _ => h0⟩
      · exact ⟨0, fun h => absurd h hj⟩
    obtain ⟨T, hT⟩ := Classical.skolem.mp hex
    refine ⟨T, fun hpos => ?_⟩
    obtain ⟨b, off, spot⟩ := ad
    have h0 := hT 0 hpos
    have hspot : spot = none := by simpa [Addr.add] using World.cell?_spot h0
    subst hspot
    refine ⟨b, off, rfl, ?_, fun j hj => ?_⟩
    · have := cell_lt h0; simpa [block_add] using this
    · have := hT j hj
      rw [Go.WideShapes.add_plain, Nat.mul_one] at this
      exact this
end
end Go.Proofs.Yteobndfkkpfnlaa

