/-
  Contract of take.
-/
import Derived.Test.YtgpnjgpbblookaaH
namespace Go.Proofs.Ytgpnjgpbblookaa
open Go.ChangeShapes Go.WideShapes Go.ChangeAt Go.RowKit Go.Maps

/-- an event -/
structure Ev where
  k : Int
  c : Int
  n : Nat
  o : Nat → O3
/-- what the events so far tell -/
structure St where
  m : Nat
  T : Nat → Tx
  nb : Nat
  nw : Nat
  bz : Int → Option Int
  wm : Int → Option Int

/-- whose end an event is -/
def idx (s : St) (e : Ev) : Nat := ((s.bz e.c).getD 0).toNat
/-- what is told behind an event that may be -/
def nextS (s : St) (e : Ev) : St :=
  if e.k = 1 then ⟨s.m + 1, fun i => if i = s.m then ⟨e.c, 0, e.n, e.o⟩ else s.T i, s.nb + 1, s.nw + e.n, fun y => if y = e.c then some (s.m : Int) else s.bz y, wmI e.o s.m s.wm e.n⟩
  else ⟨s.m, fun x => if x = idx s e then endT (s.T (idx s e)) e.k e.n e.o else s.T x, s.nb, s.nw, fun y => if y = e.c then none else s.bz y, s.wm⟩
/-- what is wrong with an event (0: nothing) -/
def ErrOf (s : St) (e : Ev) (er : Int) : Prop :=
  (¬ Snd e.k e.c e.n e.o ∧ er = 20) ∨
  (Snd e.k e.c e.n e.o ∧ (e.k = 1 ↔ (s.bz e.c).isSome = true) ∧ er = 21) ∨
  (Snd e.k e.c e.n e.o ∧ e.k = 1 ∧ s.bz e.c = none ∧ (∃ i, i < e.n ∧ Dup e.o s.m s.wm i) ∧ er = 23) ∨
  (Snd e.k e.c e.n e.o ∧ e.k = 1 ∧ s.bz e.c = none ∧ (∀ i, i < e.n → ¬ Dup e.o s.m s.wm i) ∧ er = 0) ∨
  (Snd e.k e.c e.n e.o ∧ ¬ e.k = 1 ∧ (s.bz e.c).isSome = true ∧
    ((¬ er = 0 ∧ ((e.k = 2 ∧ AnsP (s.T (idx s e)).n e.n (s.T (idx s e)).o e.o er) ∨ (¬ e.k = 2 ∧ 0 < e.n ∧ er = 22))) ∨ (er = 0 ∧ FinP e.k e.n (AnsP (s.T (idx s e)).n e.n (s.T (idx s e)).o e.o 0))))
/-- the state in memory -/
def InMem (w : World) (B hb mb mw : Nat) (s : St) : Prop := ∃ v V, HSt w B hb mb mw s.m v s.T V s.nb s.nw s.bz s.wm
/-- what always holds of it -/
structure Inv (s : St) (i : Nat) : Prop where
  m : s.m ≤ i
  nb : s.nb ≤ i
  nw : s.nw ≤ 12 * i
  bz : ∀ c x, s.bz c = some x → ∃ j : Nat, x = (j : Int) ∧ j < s.m
  tn : ∀ j, j < s.m → (s.T j).n ≤ 12

def TakeP (B hb mb mw : Nat) (s : St) (ev : Ev) (w : World) (e : Ending) (w' : World) : Prop :=
  ∃ er : Int, e = .returned (.int .i64 er) ∧ Below B w w' ∧ ErrOf s ev er ∧ (er = 0 → InMem w' B hb mb mw (nextS s ev))

theorem Inv.next {s : St} {i : Nat} (h : Inv s i) {e : Ev} (hs : Snd e.k e.c e.n e.o) : Inv (nextS s e) (i + 1) := by
  have hn : e.n ≤ 12 := hs.2.2.2.2.1
  unfold nextS
  by_cases hk : e.k = 1
  · rw [if_pos hk]
    refine ⟨by have := h.m; simp only; omega, by have := h.nb; simp only; omega, by have := h.nw; simp only; omega, fun c x hx => ?_, fun j hj => ?_⟩
    · simp only at hx
      split at hx
      · injection hx with hx
        exact ⟨s.m, hx.symm, Nat.lt_succ_self _⟩
      · obtain ⟨j, e1, e2⟩ := h.bz c x hx
        exact ⟨j, e1, Nat.lt_succ_of_lt e2⟩
    · simp only at hj ⊢
      split
      · exact hn
      · exact h.tn j (by omega)
  · rw [if_neg hk]
    refine ⟨Nat.le_succ_of_le h.m, Nat.le_succ_of_le h.nb, by have := h.nw; simp only; omega, fun c x hx => ?_, fun j hj => ?_⟩
    · simp only at hx
      split at hx
      · cases hx
      · exact h.bz c x hx
    · simp only at hj ⊢
      split
      · rename_i hji
        unfold endT
        split
        · exact hn
        · split
          · exact h.tn _ (by rw [← hji]; exact hj)
          · exact h.tn _ (by rw [← hji]; exact hj)
      · exact h.tn j hj

set_option maxRecDepth 100000 in
set_option maxHeartbeats 4000000 in
theorem take_any (w0 : World) (B hb mb mw i : Nat) (s : St) (ev : Ev) (sp : Option Addr) (cap : Nat) (w : World)
    (hB : w0.heap.size = B) (hb0 : Below B w0 w) (hs : OpS w0 sp ev.n ev.o) (hsp : sp = none → ev.n = 0 ∧ cap = 0) (hnn : ev.n ≤ 9223372036854775807) (hi : i < 400) (hinv : Inv s i) (hmem : InMem w B hb mb mw s) :
    Calls Try.prog 22 #[.pointer (some ⟨hb, 0, none⟩), .agg #[.int .i64 ev.k, .int .i64 ev.c, .slice sp ev.n cap]] w (TakeP B hb mb mw s ev w) := by
  obtain ⟨v, V, hst⟩ := hmem
  have HS := Lib.hid hs
  have HSP := Lib.hid hsp
  have HB0 := Lib.hid hb0
  have HBS := Lib.hid hB
  have HINV := Lib.hid hinv
  have hBw2 : B ≤ w.heap.size := by have := hb0.size; omega
  have hm400 : s.m ≤ 400 := by have := hinv.m; omega
  have hnb : s.nb ≤ 1000 := by have := hinv.nb; omega
  have hnw : s.nw ≤ 10000 := by have := hinv.nw; omega
  have hevo : ∃ k c n o, ev = ⟨k, c, n, o⟩ := ⟨_, _, _, _, rfl⟩
  obtain ⟨k, c, n, o, rfl⟩ := hevo
  obtain ⟨m, T, nb, nw, bz, wm⟩ := s
  dsimp only at *
  have HX : Hid (HSt (w.alloc (.cells #[.int .i64 k, .int .i64 c, .slice sp n cap] 43)) B hb mb mw m v T V nb nw bz wm) := Lib.hid (hst.below ((Below.refl _ _).alloc (Nat.le_refl _) _))
  have HBX : Hid (Below B w (w.alloc (.cells #[.int .i64 k, .int .i64 c, .slice sp n cap] 43))) := Lib.hid ((Below.refl _ _).alloc hBw2 _)
  have HQ : Hid ((w.alloc (.cells #[.int .i64 k, .int .i64 c, .slice sp n cap] 43)).heap[w.heap.size]? = some (.cells #[.int .i64 k, .int .i64 c, .slice sp n cap] 43 (0, 0))) := Lib.hid (heap_alloc_new w _)
  have hQl : w.heap.size < (w.alloc (.cells #[.int .i64 k, .int .i64 c, .slice sp n cap] 43)).heap.size := by simp
  clear hs hsp hb0 hst hB hinv
  go_enter Try.func22, Try.ntmps22
  go_wp2_with fail
  refine (sound_any k c sp n cap o _ hnn (HS.out.below (by rw [HBS.out]; exact HB0.out.trans HBX.out))).mono ?_
  rintro e w2 ⟨bb, rfl, hiff, hb2⟩
  have HIF := Lib.hid hiff
  have HS2 := Lib.hid (HX.out.below hb2)
  have HQ2 := Lib.hid ((hb2.block _ hQl).trans HQ.out)
  have HB2 := Lib.hid (HBX.out.trans (hb2.mono (Nat.le_trans hBw2 HBX.out.size)))
  clear hiff hb2 HX HQ HBX hQl
  cases bb
  · have HE : Hid (ErrOf ⟨m, T, nb, nw, bz, wm⟩ ⟨k, c, n, o⟩ 20) := Lib.hid (.inl ⟨fun h => (by have := HIF.out.2 h; cases this), rfl⟩)
    clear HIF
    go_wp2
    go_ret
    exact ⟨20, rfl, HB2.out, HE.out, fun h => absurd h (by decide)⟩
  · have HSD : Hid (Snd k c n o) := Lib.hid (HIF.out.1 (by first | rfl | trivial))
    clear HIF
    have hcr : 1 ≤ c ∧ c ≤ 16 := ⟨HSD.out.2.2.1, HSD.out.2.2.2.1⟩
    have hn12 : n ≤ 12 := HSD.out.2.2.2.2.1
    have hkr : 1 ≤ k ∧ k ≤ 4 := ⟨HSD.out.1, HSD.out.2.1⟩
    obtain ⟨⟨c0, c1, c2⟩, _⟩ := cells3 HS2.out.blk
    obtain ⟨⟨d0, d1, d2⟩, _⟩ := cells3 HQ2.out
    obtain ⟨Q, eQ⟩ : ∃ Q, Q = w.heap.size := ⟨_, rfl⟩
    rw [← eQ] at HQ2 d0 d1 d2 ⊢
    clear eQ
    have hlook : ∀ q, (Instr.lookup 47 (.map (some mb)) (.int .i64 c) true).run Try.prog (w2.drewN q) = .ok (.tuple #[.int .i64 ((bz c).getD 0), .bool (bz c).isSome]) (w2.drewN q) := fun q => (HS2.out.busy.drewN q).look c (by omega)
    have HSq : Hid (∀ q, HSt (w2.drewN q) B hb mb mw m v T V nb nw bz wm) := Lib.hid fun q => HS2.out.keep (fun _ _ => rfl)
    have HBq : Hid (∀ q, Below B w (w2.drewN q)) := Lib.hid fun q => below_drewN HB2.out q
    cases hbz : bz c with
    | none =>
      rw [hbz] at hlook
      simp only [Option.getD_none, Option.isSome_none] at hlook
      by_cases hk : k = 1
      · subst hk
        have HBE : Hid (∀ W, Below B w W → HSt W B hb mb mw m v T V nb nw bz wm → Calls Try.prog 32 #[.pointer (some ⟨hb, 0, none⟩), .agg #[.int .i64 1, .int .i64 c, .slice sp n cap]] W (BegP B hb mb mw m nb nw T bz wm c n o W)) := Lib.hid fun W hbw hsW => begin_any w0 B hb mb mw m v T V nb nw bz wm 1 c sp n cap o W HBS.out (HB0.out.trans hbw) HS.out HSP.out hn12 hm400 hnb hnw hcr HSD.out.2.2.2.2.2.2 hsW
        have HE1 : Hid ((∃ i, i < n ∧ Dup o m wm i) → ErrOf ⟨m, T, nb, nw, bz, wm⟩ ⟨1, c, n, o⟩ 23) := Lib.hid fun h => .inr (.inr (.inl ⟨HSD.out, rfl, hbz, h, rfl⟩))
        have HE2 : Hid ((∀ i, i < n → ¬ Dup o m wm i) → ErrOf ⟨m, T, nb, nw, bz, wm⟩ ⟨1, c, n, o⟩ 0) := Lib.hid fun h => .inr (.inr (.inr (.inl ⟨HSD.out, rfl, hbz, h, rfl⟩)))
        clear hbz
        go_wp2
        go_quiet (fail)
        go_wp2_with fail
        refine (HBE.out _ (HBq.out _) (HSq.out _)).mono ?_
        rintro e w5 ⟨hb5, hres⟩
        have HB5 := Lib.hid ((HBq.out _).trans hb5)
        clear hb5
        rcases hres with ⟨hd, rfl⟩ | ⟨hd, rfl, v', V', hs'⟩
        · have HD := Lib.hid (HE1.out hd)
          clear hd
          go_wp2
          go_ret
          exact ⟨23, rfl, HB5.out, HD.out, fun h => absurd h (by decide)⟩
        · have HD := Lib.hid (HE2.out hd)
          have HS' := Lib.hid hs'
          clear hd hs'
          go_wp2
          go_ret
          exact ⟨0, rfl, HB5.out, HD.out, fun _ => ⟨v', V', HS'.out⟩⟩
      · have HE : Hid (ErrOf ⟨m, T, nb, nw, bz, wm⟩ ⟨k, c, n, o⟩ 21) := Lib.hid (.inr (.inl ⟨HSD.out, ⟨fun h => absurd h hk, fun h => by simp [hbz] at h⟩, rfl⟩))
        have hkb : (k == 1) = false := by rw [beq_eq_false_iff_ne]; exact hk
        clear hbz hk
        go_wp2
        go_quiet (fail)
        go_wp2
        go_ret
        exact ⟨21, rfl, HBq.out _, HE.out, fun h => absurd h (by decide)⟩
    | some x =>
      rw [hbz] at hlook
      simp only [Option.getD_some, Option.isSome_some] at hlook
      by_cases hk : k = 1
      · have HE : Hid (ErrOf ⟨m, T, nb, nw, bz, wm⟩ ⟨k, c, n, o⟩ 21) := Lib.hid (.inr (.inl ⟨HSD.out, ⟨fun _ => by simp [hbz], fun _ => hk⟩, rfl⟩))
        subst hk
        clear hbz
        go_wp2
        go_quiet (fail)
        go_wp2
        go_ret
        exact ⟨21, rfl, HBq.out _, HE.out, fun h => absurd h (by decide)⟩
      · obtain ⟨j, rfl, hjm⟩ := HINV.out.bz c x hbz
        have hkb : (k == 1) = false := by rw [beq_eq_false_iff_ne]; exact hk
        have HIX : Hid (idx ⟨m, T, nb, nw, bz, wm⟩ ⟨k, c, n, o⟩ = j) := Lib.hid (by unfold idx; simp [hbz])
        have HEN : Hid (∀ W, Below B w W → HSt W B hb mb mw m v T V nb nw bz wm → Calls Try.prog 33 #[.pointer (some ⟨hb, 0, none⟩), .agg #[.int .i64 k, .int .i64 c, .slice sp n cap], .int .i64 (j : Int)] W (EndP B hb mb mw m nb nw T bz wm j k c n o W)) := Lib.hid fun W hbw hsW => end_any w0 B hb mb mw m v T V nb nw bz wm j k c sp n cap o W HBS.out (HB0.out.trans hbw) HS.out HSP.out hn12 hm400 hjm (HINV.out.tn j hjm) (by omega) hcr HSD.out.2.2.2.2.2.2 hsW
        have HE1 : Hid (∀ er, ((¬ er = 0 ∧ ((k = 2 ∧ AnsP (T j).n n (T j).o o er) ∨ (¬ k = 2 ∧ 0 < n ∧ er = 22))) ∨ (er = 0 ∧ FinP k n (AnsP (T j).n n (T j).o o 0))) → ErrOf ⟨m, T, nb, nw, bz, wm⟩ ⟨k, c, n, o⟩ er) := Lib.hid fun er h => .inr (.inr (.inr (.inr ⟨HSD.out, hk, by simp [hbz], by rw [HIX.out]; exact h⟩)))
        have HNX : Hid (nextS ⟨m, T, nb, nw, bz, wm⟩ ⟨k, c, n, o⟩ = ⟨m, fun x => if x = j then endT (T j) k n o else T x, nb, nw, fun y => if y = c then none else bz y, wm⟩) := Lib.hid (by unfold nextS; rw [if_neg hk, HIX.out])
        clear hbz hk
        go_wp2
        go_quiet (fail)
        go_wp2_with fail
        refine (HEN.out _ (HBq.out _) (HSq.out _)).mono ?_
        rintro e w5 ⟨er, rfl, hb5, hres⟩
        have HB5 := Lib.hid ((HBq.out _).trans hb5)
        have HER : Hid (ErrOf ⟨m, T, nb, nw, bz, wm⟩ ⟨k, c, n, o⟩ er) := Lib.hid (HE1.out er (by
          rcases hres with h | ⟨h1, h2, _⟩
          · exact .inl h
          · exact .inr ⟨h1, h2⟩))
        have HNS : Hid (er = 0 → InMem w5 B hb mb mw (nextS ⟨m, T, nb, nw, bz, wm⟩ ⟨k, c, n, o⟩)) := Lib.hid fun h0 => by
          rcases hres with ⟨h, _⟩ | ⟨_, _, v', V', hs'⟩
          · exact absurd h0 h
          · rw [HNX.out]; exact ⟨v', V', hs'⟩
        clear hb5 hres
        go_wp2
        go_ret
        exact ⟨er, rfl, HB5.out, HER.out, HNS.out⟩
end Go.Proofs.Ytgpnjgpbblookaa
