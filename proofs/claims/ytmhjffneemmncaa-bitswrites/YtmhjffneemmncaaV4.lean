/-
  Contract of the laws' function text, and the writer beside the bits that are wanted.
-/
import Derived.Test.YtmhjffneemmncaaV3
import Derived.Test.YtmhjffneemmncaaK
import Derived.Maps.AppendAt
namespace Go.Proofs.Ytmhjffneemmncaa
open Go.ChangeShapes Go.WideShapes Go.ChangeAt Go.RowKit

theorem own_mono {w : World} {b b' e size n : Nat} {v : Value} {xs : List Value} (h : w.ownsRow b e size v n xs) (hb : b' ≤ b) : w.ownsRow b' e size v n xs := by
  refine ⟨h.1, ?_⟩
  rcases h.2 with h0 | ⟨g, cap, cur, hv, hg, hh, hrest⟩
  · exact .inl h0
  · exact .inr ⟨g, cap, cur, hv, Nat.le_trans hb hg, hh, hrest⟩

theorem ListPost.up {h : Nat → Nat} {m : Nat} {w w1 w' : World} {e : Ending} (hp : ListPost h m w1 e w') (hb : Below w.heap.size w w1) : ListPost h m w e w' := by
  obtain ⟨g, cap, he, hg, hown, hbel⟩ := hp
  exact ⟨g, cap, he, Nat.le_trans hb.size hg, own_mono hown hb.size, hb.trans (hbel.mono hb.size)⟩

theorem text_any (t : Item) (w : World) (ht : Fits t) :
    Calls Try.prog 14 #[.agg #[.int .i64 t.k, .int .u64 (t.x : Int), .int .i64 t.n, .int .i64 t.i]] w (ListPost (ibit t) (ilen t) w) := by
  have HT := Lib.hid ht
  clear ht
  have HB : Hid (Below w.heap.size w (w.alloc (.cells #[.int .i64 t.k, .int .u64 (t.x : Int), .int .i64 t.n, .int .i64 t.i] 30))) := Lib.hid ((Below.refl _ _).alloc (Nat.le_refl _) _)
  by_cases k0 : t.k = 0
  · have HL : Hid (ilen t = wn t.n ∧ ibit t = pb t.x (wn t.n)) := Lib.hid ⟨by unfold ilen; rw [if_pos k0], by funext i; unfold ibit pb; rw [if_pos k0]⟩
    have q0 : (t.k == 0) = true := by rw [k0]; rfl
    rw [HL.out.1, HL.out.2]
    clear k0
    go_enter Try.func14, Try.ntmps14
    go_wp2_with fail
    refine (rput_any t.x t.n (wn t.n) _ HT.out.1 rfl).mono ?_
    rintro e w' hp
    obtain ⟨g, cap, rfl, hp2⟩ := ListPost.up (h := pb t.x (wn t.n)) hp HB.out
    have HP := Lib.hid hp2
    clear hp2 hp
    go_wp2
    go_ret
    exact ⟨g, cap, rfl, HP.out⟩
  · have q0 : (t.k == 0) = false := by rw [beq_eq_false_iff_ne]; exact k0
    by_cases k1 : t.k = 1
    · have HL : Hid (ilen t = 2 * nz t.x + 1 ∧ ibit t = numBits t.x) := Lib.hid ⟨by unfold ilen; rw [if_neg k0, if_pos k1], by funext i; unfold ibit; rw [if_neg k0, if_pos k1]⟩
      have q1 : (t.k == 1) = true := by rw [k1]; rfl
      rw [HL.out.1, HL.out.2]
      clear k0 k1
      go_enter Try.func14, Try.ntmps14
      go_wp2_with fail
      refine (rnumw t.x _ HT.out.1).mono ?_
      rintro e w' hp
      obtain ⟨g, cap, rfl, hp2⟩ := hp.up HB.out
      have HP := Lib.hid hp2
      clear hp2 hp
      go_wp2
      go_ret
      exact ⟨g, cap, rfl, HP.out⟩
    · have HL : Hid (ilen t = 2 * nz (zig t.i) + 1 ∧ ibit t = numBits (zig t.i)) := Lib.hid ⟨by unfold ilen; rw [if_neg k0, if_neg k1], by funext i; unfold ibit; rw [if_neg k0, if_neg k1]⟩
      have q1 : (t.k == 1) = false := by rw [beq_eq_false_iff_ne]; exact k1
      rw [HL.out.1, HL.out.2]
      clear k0 k1
      go_enter Try.func14, Try.ntmps14
      go_wp2_with fail
      refine (rintw t.i _ HT.out.2.1 HT.out.2.2).mono ?_
      rintro e w' hp
      obtain ⟨g, cap, rfl, hp2⟩ := hp.up HB.out
      have HP := Lib.hid hp2
      clear hp2 hp
      go_wp2
      go_ret
      exact ⟨g, cap, rfl, HP.out⟩

theorem rowB_congr (f h : Nat → Nat) (n : Nat) (e : ∀ j, j < n → f j = h j) : rowB f n = rowB h n := by
  unfold rowB; apply List.map_congr_left; intro j hj; rw [e j (by simpa using hj)]

/-- the writer beside the bits that are wanted -/
structure WW (w wr : World) (base wb : Nat) (v : Value) (F : Nat → Nat) (c g cap : Nat) : Prop where
  wri : WR wr base wb v F c
  own : wr.ownsRow base 5 1 (.slice (some ⟨g, 0, none⟩) c cap) c (rowB (bitAt F) c)
  ng : g ≠ wb
  nv : v.ownBlock ≠ some g
  bel : Below w.heap.size w wr

/-- a step of the writer's: what is wanted is behind it -/
structure WV (w wr : World) (base wb : Nat) (v : Value) (F : Nat → Nat) (c m g cap : Nat) (B : Nat → Nat) : Prop where
  wri : WR wr base wb v F (c + m)
  own : wr.ownsRow base 5 1 (.slice (some ⟨g, 0, none⟩) c cap) c (rowB (bitAt F) c)
  ng : g ≠ wb
  nv : v.ownBlock ≠ some g
  bel : Below w.heap.size w wr
  new : ∀ i, i < m → bitAt F (c + i) = B i

theorem WW.below {w wr w' : World} {base wb c g cap : Nat} {v : Value} {F : Nat → Nat} (h : WW w wr base wb v F c g cap) (hb : Below wr.heap.size wr w') : WW w w' base wb v F c g cap :=
  ⟨h.wri.below hb, own_below h.own hb, h.ng, h.nv, h.bel.trans (hb.mono h.bel.size)⟩
theorem WV.below {w wr w' : World} {base wb c m g cap : Nat} {v : Value} {F B : Nat → Nat} (h : WV w wr base wb v F c m g cap B) (hb : Below wr.heap.size wr w') : WV w w' base wb v F c m g cap B :=
  ⟨h.wri.below hb, own_below h.own hb, h.ng, h.nv, h.bel.trans (hb.mono h.bel.size), h.new⟩

theorem WW.wrote {w wr w2 : World} {base wb c m g cap : Nat} {v : Value} {F B : Nat → Nat} (h : WW w wr base wb v F c g cap) (hw : Wrote wr base wb v F c m B w2) (h1 : w.heap.size ≤ base) (h2 : w.heap.size ≤ wb) :
    ∃ v' F', WV w w2 base wb v' F' c m g cap B ∧ WStep wb wr v.ownBlock w2 v'.ownBlock := by
  obtain ⟨v', F', g1, g2, g3, g4⟩ := hw
  have hlt := (h.own.lt g rfl).2
  refine ⟨v', F', ⟨g1, ?_, h.ng, ?_, h.bel.trans (g4.below h2 h.bel.size (fun q hq => Nat.le_trans h1 (h.wri.own.lt q hq).1)), g3⟩, g4⟩
  · rw [rowB_congr (bitAt F') (bitAt F) c g2]
    refine ⟨h.own.1, ?_⟩
    rcases h.own.2 with h0 | ⟨g', cp, cur, hv, hg, hh, hrest⟩
    · exact .inl h0
    · have e : g = g' := by injection hv with e1; injection e1 with e1; injection e1
      subst e
      exact .inr ⟨g, cp, cur, hv, hg, (g4.block g hlt h.ng (fun e => h.nv e.symm)).trans hh, hrest⟩
  · rcases g4.row with e | ⟨q, e, hq⟩
    · rw [e]; exact h.nv
    · rw [e]; intro e'; injection e' with e'; omega

theorem WV.app {w wr w' : World} {base wb c m g cap : Nat} {v v' : Value} {F B : Nat → Nat} (h : WV w wr base wb v F c m g cap B) (h1 : w.heap.size ≤ base)
    (hown : w'.ownsRow base 5 1 v' (c + m) (rowB (bitAt F) c ++ rowB B m)) (hgr : wr.grownBy w' (some g)) (hnn : ¬ v' = .slice none 0 0) (hat : v'.ownBlock = some g ∨ v'.ownBlock = some wr.heap.size) :
    ∃ g' cap', v' = .slice (some ⟨g', 0, none⟩) (c + m) cap' ∧ WW w w' base wb v F (c + m) g' cap' := by
  rw [rowB_app (bitAt F) B c m (bitAt F) (fun _ _ => rfl) h.new] at hown
  rcases hown.2 with ⟨e, _⟩ | ⟨g', cap', cur, rfl, hrest⟩
  · exact absurd e hnn
  · have hg' : g' = g ∨ g' = wr.heap.size := hat.imp (fun e => Option.some.inj e) (fun e => Option.some.inj e)
    have hvl := h.wri.own.lt
    have s : WStep g wr none w' none := ⟨hgr.os, hgr.tape, hgr.output, hgr.size, fun k hk hne _ => hgr.block k hk (fun e => hne (Option.some.inj e)), .inl rfl⟩
    refine ⟨g', cap', rfl, ⟨h.wri.kept s (fun e => h.ng e.symm) (fun e => by cases e) (fun k hk => ⟨fun e => h.nv (by rw [hk, e]), fun e => by cases e⟩), hown, ?_, ?_, ?_⟩⟩
    · rcases hg' with e | e
      · rw [e]; exact h.ng
      · have := h.wri.lt; omega
    · rcases hg' with e | e
      · rw [e]; exact h.nv
      · intro e'; have := (hvl g' e').2; omega
    · exact h.bel.grown hgr h.bel.size (fun q hq => by have hq' : g = q := Option.some.inj hq; have := (h.own.lt g rfl).1; omega)
end Go.Proofs.Ytmhjffneemmncaa
