/-
  The reference's Copy as a row of our own; what BookForm asks (mathematics).
-/
import Derived.Test.YtaddmegghikhpaaEp
import Derived.Test.YtaddmegghikhpaaEg
namespace Go.Proofs.Ytaddmegghikhpaa
open Go.ChangeShapes Go.WideShapes Go.ChangeAt Go.RowKit

theorem rcopy_own (sp : Option Addr) (n cap : Nat) (f : Nat → Nat) (w : World) (hn : n ≤ 100000) (hs : Src w sp n f) (hsp : sp = none → n = 0 ∧ cap = 0) :
    Calls Try.prog 15 #[.slice sp n cap] w fun e w' => ∃ sp' cap', e = .returned (.slice sp' n cap') ∧ w'.ownsRow w.heap.size 5 1 (.slice sp' n cap') n (rowB f n) ∧ Below w.heap.size w w' := by
  obtain ⟨i0, hi, hz0, hz1, hz2⟩ := info_parts info5
  cases sp with
  | none =>
    obtain ⟨rfl, rfl⟩ := hsp rfl
    clear hsp hs
    go_enter Try.func15, Try.ntmps15
    go_wp2
    go_ret
    exact ⟨_, _, rfl, World.ownsRow_lit w #[] 0 (Nat.le_refl _) (Nat.zero_le _) rfl, (Below.refl _ _).alloc (Nat.le_refl _) _⟩
  | some ad =>
    have HS := Lib.hid hs
    clear hs hsp
    go_enter Try.func15, Try.ntmps15
    go_wp2_with (at_builtin; refine wpList_append_own _ rfl _ _ 26 rfl w.heap.size 5 i0 (.int .u8 0) 1 1 Try.underlying26 hi hz0 hz1 hz2 rfl (by decide) _ 0 [] rfl ?c0 ad n cap (rowB f n) rfl ?cl ?c1 ?c2 ?c3 ?c4 ?c5 ?_)
    case c0 => exact World.ownsRow_lit w #[] 0 (Nat.le_refl _) (Nat.zero_le _) rfl
    case cl => rw [rowB_length]; omega
    case c1 =>
      intro j u hj
      have hjn : j < n := by
        rcases Nat.lt_or_ge j n with h' | h'
        · exact h'
        · rw [List.getElem?_eq_none (by rw [rowB_length]; exact h')] at hj; cases hj
      rw [rowB_get f n j hjn] at hj
      injection hj with hj
      obtain ⟨ad', e', hlt, hc⟩ := HS.out (by omega)
      injection e' with e'
      subst e'
      rw [World.cell?_alloc_lt _ _ _ (by rw [block_add]; exact hlt), ← hj]
      exact hc j hjn
    case c2 => exact rowB_one _ _
    case c3 => unfold maxLen; omega
    case c4 => omega
    case c5 => simp
    intro v5 w5 hown5 hgrow5 _
    have HB5 : Hid (Below w.heap.size w w5) := Lib.hid (((Below.refl _ _).alloc (Nat.le_refl _) _).grown hgrow5 (by simp) (fun q hq => by simp [Value.ownBlock] at hq; omega))
    have HO : Hid (∃ sp' cap', v5 = .slice sp' n cap' ∧ w5.ownsRow w.heap.size 5 1 (.slice sp' n cap') n (rowB f n)) := by
      have ho : w5.ownsRow w.heap.size 5 1 v5 n (rowB f n) := by simpa using hown5
      obtain ⟨s5, c5, e5⟩ := own_form' ho
      exact Lib.hid ⟨s5, c5, e5, e5 ▸ ho⟩
    clear hown5 hgrow5
    go_wp2
    go_ret
    obtain ⟨sp', cap', e, hs'⟩ := HO.out
    subst e
    exact ⟨sp', cap', rfl, hs', HB5.out⟩


theorem sameEv_refl (len : Nat) (E : Nat → Ev) : SameEv len len E E := ⟨rfl, fun _ _ => ⟨rfl, rfl, rfl, fun _ _ => rfl⟩⟩
/-- the history of the bytes f, n of them -/
def Bk (f : Nat → Nat) (n : Nat) (E : Nat → Ev) (len : Nat) : Prop :=
  len ≤ 400 ∧ (∀ i, i < len → Fit (E i)) ∧ Sp f 0 (BL E len) ∧ (BL E len).length ≤ 8 * n ∧ 8 * n < (BL E len).length + 8 ∧ Ends f (BL E len).length
theorem DecG.bk {w w' : World} {n : Nat} {f : Nat → Nat} {E : Nat → Ev} {len : Nat} {sp : Option Addr} {cap : Nat} {V : Nat → Value} (h : DecG w n f w' E len sp cap V) : Bk f n E len := ⟨h.1, h.2.2.1, h.2.2.2.1, h.2.2.2.2.1, h.2.2.2.2.2.1, h.2.2.2.2.2.2⟩
theorem form_more {f f' : Nat → Nat} {n len len' : Nat} {E E' : Nat → Ev} (h : Bk f n E len) (h' : Bk f' (n + 1) E' len') (hff : ∀ j, j < n → f' j = f j) : False := by
  obtain ⟨_, a2, a3, a4, a5, _⟩ := h
  obtain ⟨_, b2, b3, b4, b5, _⟩ := h'
  have hs : Sp f' 0 (BL E len) := fun i hi => by rw [bitAt_congr (n := n) hff (by omega)]; exact a3 i hi
  have := bl_congr (bl_inj hs b3 a2 b2)
  rw [← this] at b5
  omega
theorem form_cut {f : Nat → Nat} {n k len len' : Nat} {E E' : Nat → Ev} (h : Bk f n E len) (hk : k < n) (h' : Bk f k E' len') : False := by
  obtain ⟨_, a2, a3, a4, a5, _⟩ := h
  obtain ⟨_, b2, b3, b4, b5, _⟩ := h'
  have := bl_congr (bl_inj a3 b3 a2 b2)
  rw [← this] at b4
  omega
theorem form_short {f : Nat → Nat} {n k len : Nat} {E : Nat → Ev} {er : Int} (h : Bk f n E len) (hk : k < n) (h' : NoBk f k er) : er = 10 := by
  obtain ⟨a1, a2, a3, a4, a5, _⟩ := h
  rcases h'.2 E len a1 a2 a3.al with ⟨h1, _⟩ | ⟨h1, _⟩
  · exact h1
  · omega
theorem form_whole {F : Nat → Nat} {m len : Nat} {E : Nat → Ev} {er : Int} (hl : len ≤ 400) (hf : ∀ i, i < len → Fit (E i)) (hF : Sp F 0 (BL E len)) (eF : Ends F (BL E len).length) (hm : m = ((BL E len).length + 7) / 8) (h : NoBk F m er) : False := by
  rcases h.2 E len hl hf hF.al with ⟨_, h1⟩ | ⟨_, h1⟩
  · omega
  · exact h1 ⟨by omega, eF⟩
theorem form_same {f F : Nat → Nat} {n m len : Nat} {E : Nat → Ev} (h : Bk f n E len) (hF : Sp F 0 (BL E len)) (eF : Ends F (BL E len).length) (hm : m = ((BL E len).length + 7) / 8) : n = m ∧ ∀ j, j < n → f j = F j := by
  obtain ⟨a1, a2, a3, a4, a5, a6⟩ := h
  exact (bytes_same a3 hF a6 eF (by omega) hm a2 a2).2 (sameEv_refl len E)
def addB (f : Nat → Nat) (n z : Nat) (i : Nat) : Nat := if i = n then z else f i
theorem addB_low (f : Nat → Nat) (n z : Nat) : ∀ j, j < n → addB f n z j = f j := fun j hj => by unfold addB; rw [if_neg (by omega)]
theorem addB_lt {f : Nat → Nat} {n z : Nat} (hf : ∀ j, f j < 256) (hz : z < 256) : ∀ j, addB f n z j < 256 := fun j => by
  unfold addB; split
  · exact hz
  · exact hf j
theorem rowB_add (f : Nat → Nat) (n z : Nat) : rowB f n ++ [Value.int .u8 ((z : Nat) : Int)] = rowB (addB f n z) (n + 1) := by
  unfold rowB
  rw [List.range_succ, List.map_append]
  congr 1
  · exact List.map_congr_left fun j hj => by rw [addB_low f n z j (by simpa using hj)]
  · simp [addB]
end Go.Proofs.Ytaddmegghikhpaa
