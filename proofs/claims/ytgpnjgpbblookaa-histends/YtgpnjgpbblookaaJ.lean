/-
  Contract of Of.
-/
import Derived.Test.YtgpnjgpbblookaaI
namespace Go.Proofs.Ytgpnjgpbblookaa
open Go.ChangeShapes Go.WideShapes Go.ChangeAt Go.RowKit Go.Maps

/-- events in a slice that may be anybody's -/
def EvS (w : World) (a : Option Addr) (len : Nat) (E : Nat → Ev) : Prop :=
  0 < len → ∃ b off, a = some ⟨b, off, none⟩ ∧ b < w.heap.size ∧ ∀ j, j < len → ∃ sp cap, w.cell? ⟨b, off + j * 3, none⟩ = some (.int .i64 (E j).k) ∧ w.cell? ⟨b, off + j * 3 + 1, none⟩ = some (.int .i64 (E j).c) ∧ w.cell? ⟨b, off + j * 3 + 2, none⟩ = some (.slice sp (E j).n cap) ∧ OpS w sp (E j).n (E j).o ∧ (sp = none → (E j).n = 0 ∧ cap = 0) ∧ (E j).n ≤ 9223372036854775807
theorem EvS.below {w w' : World} {a : Option Addr} {len : Nat} {E : Nat → Ev} (h : EvS w a len E) (hb : Below w.heap.size w w') : EvS w' a len E := by
  intro hl
  obtain ⟨b, off, e, hbl, hc⟩ := h hl
  refine ⟨b, off, e, Nat.lt_of_lt_of_le hbl hb.size, fun j hj => ?_⟩
  obtain ⟨sp, cap, c0, c1, c2, ho, hp, hn⟩ := hc j hj
  exact ⟨sp, cap, (hb.cell hbl).trans c0, (hb.cell hbl).trans c1, (hb.cell hbl).trans c2, ho.below hb, hp, hn⟩

def init : St := ⟨0, fun _ => ⟨0, 0, 0, fun _ => ⟨0, 0, 0⟩⟩, 0, 0, fun _ => none, fun _ => none⟩
/-- what the first i events tell -/
def stateAt (E : Nat → Ev) : Nat → St
  | 0 => init
  | i + 1 => nextS (stateAt E i) (E i)
/-- the first i events make a history -/
def Good (E : Nat → Ev) (i : Nat) : Prop := ∀ j, j < i → ErrOf (stateAt E j) (E j) 0

theorem err0_snd {s : St} {e : Ev} (h : ErrOf s e 0) : Snd e.k e.c e.n e.o := by
  rcases h with ⟨_, h⟩ | ⟨_, _, h⟩ | ⟨h, _⟩ | ⟨h, _⟩ | ⟨h, _⟩
  · cases h
  · cases h
  · exact h
  · exact h
  · exact h
theorem inv_at (E : Nat → Ev) (i : Nat) (h : Good E i) : Inv (stateAt E i) i := by
  induction i with
  | zero => exact ⟨Nat.le_refl _, Nat.le_refl _, Nat.le_refl _, fun c x hx => (by cases hx), fun j hj => absurd hj (Nat.not_lt_zero _)⟩
  | succ i ih => exact (ih fun j hj => h j (by omega)).next (err0_snd (h i (by omega)))

def OfP (E : Nat → Ev) (len : Nat) (w : World) (e : Ending) (w' : World) : Prop :=
  Below w.heap.size w w' ∧ ((400 < len ∧ e = .returned (.tuple #[.slice none 0 0, .int .i64 400, .int .i64 4])) ∨
    (len ≤ 400 ∧ ((∃ (i : Nat) (er : Int), i < len ∧ Good E i ∧ ErrOf (stateAt E i) (E i) er ∧ ¬ er = 0 ∧ e = .returned (.tuple #[.slice none 0 0, .int .i64 (i : Int), .int .i64 er])) ∨
      (Good E len ∧ ∃ v hb mb mw V, e = .returned (.tuple #[v, .int .i64 0, .int .i64 0]) ∧ HSt w' w.heap.size hb mb mw (stateAt E len).m v (stateAt E len).T V (stateAt E len).nb (stateAt E len).nw (stateAt E len).bz (stateAt E len).wm))))

set_option maxRecDepth 100000 in
set_option maxHeartbeats 4000000 in
theorem of_any (a : Option Addr) (len cap : Nat) (E : Nat → Ev) (w : World) (hlen : len ≤ 9223372036854775807) (hs : EvS w a len E) : Calls Try.prog 13 #[.slice a len cap] w (OfP E len w) := by
  have HS := Lib.hid hs
  clear hs
  by_cases h4 : 400 < len
  · have h4' : (400 : Int) < (len : Int) := by omega
    have H4 := Lib.hid h4
    clear h4
    go_enter Try.func13, Try.ntmps13
    go_wp2
    go_ret3
    exact ⟨Below.refl _ _, .inl ⟨H4.out, rfl⟩⟩
  · have h4' : ¬ (400 : Int) < (len : Int) := by omega
    have hl4 : len ≤ 400 := by omega
    have hmm := @run_makeMap Try.prog
    obtain ⟨B, eB⟩ : ∃ B, B = w.heap.size := ⟨_, rfl⟩
    have hblk := heap_alloc_new ((w.alloc (.map #[] 0)).alloc (.map #[] 0)) (.cells #[.slice none 0 0, .map (some w.heap.size), .map (some (w.heap.size + 1))] 49)
    rw [show ((w.alloc (.map #[] 0)).alloc (.map #[] 0)).heap.size = w.heap.size + 2 by simp] at hblk
    have hM1 : MapS (((w.alloc (.map #[] 0)).alloc (.map #[] 0)).alloc (.cells #[.slice none 0 0, .map (some w.heap.size), .map (some (w.heap.size + 1))] 49)) w.heap.size 0 (fun _ => none) :=
      (MapS.made w).kept ((heap_alloc_old _ _ (by simp; omega)).trans (heap_alloc_old _ _ (by simp)))
    have hM2 : MapS (((w.alloc (.map #[] 0)).alloc (.map #[] 0)).alloc (.cells #[.slice none 0 0, .map (some w.heap.size), .map (some (w.heap.size + 1))] 49)) (w.heap.size + 1) 0 (fun _ => none) := by
      have h := (MapS.made (w.alloc (.map #[] 0)))
      rw [show (w.alloc (.map #[] 0)).heap.size = w.heap.size + 1 by simp] at h
      exact h.kept (heap_alloc_old _ _ (by simp))
    have HI : Hid (InMem (((w.alloc (.map #[] 0)).alloc (.map #[] 0)).alloc (.cells #[.slice none 0 0, .map (some w.heap.size), .map (some (w.heap.size + 1))] 49)) w.heap.size (w.heap.size + 2) w.heap.size (w.heap.size + 1) (stateAt E 0)) :=
      Lib.hid ⟨.slice none 0 0, fun _ => .slice none 0 0, ⟨hblk, World.ownsRow_nil _ _ _ _, fun i hi => absurd hi (Nat.not_lt_zero _), hM1, hM2, ⟨by omega, Nat.le_refl _, by omega, by omega⟩⟩⟩
    have HBI : Hid (Below w.heap.size w (((w.alloc (.map #[] 0)).alloc (.map #[] 0)).alloc (.cells #[.slice none 0 0, .map (some w.heap.size), .map (some (w.heap.size + 1))] 49))) := Lib.hid ((((Below.refl _ _).alloc (Nat.le_refl _) _).alloc (by simp) _).alloc (by simp; omega) _)
    clear hblk hM1 hM2 h4
    go_enter Try.func13, Try.ntmps13
    go_wp2
    obtain ⟨wi, ewi⟩ : ∃ wi, wi = ((w.alloc (.map #[] 0)).alloc (.map #[] 0)).alloc (.cells #[.slice none 0 0, .map (some w.heap.size), .map (some (w.heap.size + 1))] 49) := ⟨_, rfl⟩
    rw [← ewi] at HI HBI ⊢
    rw [← eB] at HI HBI ⊢
    obtain ⟨hb, ehb⟩ : ∃ hb, hb = B + 2 := ⟨_, rfl⟩
    obtain ⟨mw, emw⟩ : ∃ mw, mw = B + 1 := ⟨_, rfl⟩
    rw [← ehb, ← emw] at HI ⊢
    have HEB := Lib.hid eB
    clear ewi ehb emw eB
    go_loopw [6, 7, 8, 17] (fun _ _ _ x wr => ∃ i : Nat, i ≤ len ∧ x = .int .i64 (i : Int) ∧ Hid (Below B w wr ∧ InMem wr B hb B mw (stateAt E i) ∧ Good E i)) (fun _ _ _ x _ => len - (intOf x).toNat)
    case atStart => exact ⟨0, Nat.zero_le _, rfl, Lib.hid ⟨HBI.out, HI.out, fun j hj => absurd hj (Nat.not_lt_zero _)⟩⟩
    case round =>
      obtain ⟨i, hi, rfl, HR⟩ := hrel
      by_cases hlt : i < len
      · obtain ⟨b, off, rfl, hbl, hci⟩ := HS.out (by omega)
        obtain ⟨sp, cp, c0, c1, c2, ho, hp, hnn⟩ := hci i hlt
        have hbB : b < B := by have := HEB.out; omega
        have x0 := (HR.out.1.cell (p := ⟨b, off + i * 3, none⟩) hbB).trans c0
        have x1 := (HR.out.1.cell (p := ⟨b, off + i * 3 + 1, none⟩) hbB).trans c1
        have x2 := (HR.out.1.cell (p := ⟨b, off + i * 3 + 2, none⟩) hbB).trans c2
        have hlt' : (i : Int) < (len : Int) := by omega
        have hBr : B ≤ wr.heap.size := by have h := HR.out.1.size; have h' := HEB.out; omega
        have HO := Lib.hid ho
        have HP := Lib.hid hp
        have HN := Lib.hid hnn
        have HTK : Hid (∀ W, Below wr.heap.size wr W → Calls Try.prog 22 #[.pointer (some ⟨hb, 0, none⟩), .agg #[.int .i64 (E i).k, .int .i64 (E i).c, .slice sp (E i).n cp]] W (TakeP B hb B mw (stateAt E i) (E i) W)) := Lib.hid fun W hbw =>
          take_any w B hb B mw i (stateAt E i) (E i) sp cp W HEB.out.symm (HR.out.1.trans (hbw.mono hBr)) HO.out HP.out HN.out (by omega) (inv_at E i HR.out.2.2) (by obtain ⟨v, V, h⟩ := HR.out.2.1; exact ⟨v, V, h.below hbw⟩)
        have HWX : Hid (∀ ob, Below wr.heap.size wr (wr.alloc ob)) := Lib.hid fun ob => (Below.refl _ _).alloc (Nat.le_refl _) _
        have HBR := Lib.hid HR.out.1
        have HGD := Lib.hid HR.out.2.2
        have HLI := Lib.hid hlt
        have HNX : Hid (stateAt E (i + 1) = nextS (stateAt E i) (E i)) := Lib.hid rfl
        clear c0 c1 c2 ho hp hnn hci HR
        go_wp2_with fail
        refine (HTK.out _ (HWX.out _)).mono ?_
        rintro e w5 ⟨er, rfl, hb5, herr, hin⟩
        have HB5 := Lib.hid ((HBR.out.alloc hBr _).trans hb5)
        have HER := Lib.hid herr
        have HIN := Lib.hid hin
        clear hb5 herr hin x0 x1 x2 HTK
        by_cases her : er = 0
        · subst her
          have HG1 : Hid (Good E (i + 1)) := Lib.hid fun j hj => by
            by_cases h : j < i
            · exact HGD.out j h
            · obtain rfl : j = i := by omega
              exact HER.out
          have HM1 : Hid (InMem w5 B hb B mw (stateAt E (i + 1))) := Lib.hid (by rw [HNX.out]; exact HIN.out rfl)
          clear HER HIN
          go_wp2
          go_roundw
          case rel => exact ⟨i + 1, by omega, by go_num, Lib.hid ⟨HB5.out, HM1.out, HG1.out⟩⟩
          case measure => simp [intOf]; omega
        · have hq : (er == 0) = false := by rw [beq_eq_false_iff_ne]; exact her
          have hq2 : (er != 0) = true := by rw [bne_iff_ne]; exact her
          have HNE := Lib.hid her
          clear her HIN
          go_wp2
          go_ret3
          exact ⟨by have h := HB5.out; rw [HEB.out] at h; exact h, .inr ⟨hl4, .inl ⟨i, er, HLI.out, HGD.out, HER.out, HNE.out, rfl⟩⟩⟩
      · obtain rfl : len = i := by omega
        obtain ⟨v, V, hst⟩ := HR.out.2.1
        obtain ⟨⟨c0, c1, c2⟩, _⟩ := cells3 hst.blk
        have HST := Lib.hid hst
        clear hst c1 c2
        go_wp2
        go_ret3
        exact ⟨by have h := HR.out.1; rw [HEB.out] at h; exact h, .inr ⟨hl4, .inr ⟨HR.out.2.2, v, hb, B, mw, V, rfl, by have h := HST.out; rw [HEB.out] at h ⊢; exact h⟩⟩⟩
end Go.Proofs.Ytgpnjgpbblookaa
