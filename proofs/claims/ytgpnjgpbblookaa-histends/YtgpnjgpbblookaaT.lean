/-
  For HistOne: Same of the same; one event more.
-/
import Derived.Test.YtgpnjgpbblookaaS
import Derived.Test.YtgpnjgpbblookaaM
namespace Go.Proofs.Ytgpnjgpbblookaa
open Go.ChangeShapes Go.WideShapes Go.ChangeAt Go.RowKit

theorem OpS.drewN {w : World} {sp : Option Addr} {n : Nat} {o : Nat → O3} (h : OpS w sp n o) (q : Nat) : OpS (w.drewN q) sp n o := h

set_option maxHeartbeats 1000000 in
theorem same_true (sp : Option Addr) (n c : Nat) (o : Nat → O3) (sp' : Option Addr) (c' : Nat) (w : World) (hn : n ≤ 1000000) (h : OpS w sp n o) (h' : OpS w sp' n o) :
    Calls Try.prog 17 #[.slice sp n c, .slice sp' n c'] w fun e w' => e = .returned (.bool true) ∧ ∃ m, w' = w.drewN m := by
  have H1 := Lib.hid h
  have H2 := Lib.hid h'
  clear h h'
  go_enter Try.func17, Try.ntmps17
  go_wp2
  go_loopw [5, 13] (fun _ x wr => ∃ t : Nat, t ≤ n ∧ x = .int .i64 (t : Int) ∧ Hid (∃ q, wr = w.drewN q)) (fun _ x _ => n - (intOf x).toNat)
  case atStart => exact ⟨0, Nat.zero_le _, rfl, Lib.hid ⟨0, rfl⟩⟩
  case round =>
    obtain ⟨t, ht, rfl, HT⟩ := hrel
    obtain ⟨q, hq⟩ := HT.out
    by_cases hlt : t < n
    · obtain ⟨b, off, rfl, hbl, hci⟩ := H1.out (by omega)
      obtain ⟨b', off', rfl, hbl', hci'⟩ := H2.out (by omega)
      obtain ⟨c0, c1, c2⟩ := hci t hlt
      obtain ⟨d0, d1, d2⟩ := hci' t hlt
      have x0 : wr.cell? ⟨b, off + t * 3, none⟩ = some (.int .i64 (o t).k) := by rw [hq]; exact c0
      have x1 : wr.cell? ⟨b, off + t * 3 + 1, none⟩ = some (.int .i64 (o t).key) := by rw [hq]; exact c1
      have x2 : wr.cell? ⟨b, off + t * 3 + 2, none⟩ = some (.int .i64 (o t).v) := by rw [hq]; exact c2
      have y0 : wr.cell? ⟨b', off' + t * 3, none⟩ = some (.int .i64 (o t).k) := by rw [hq]; exact d0
      have y1 : wr.cell? ⟨b', off' + t * 3 + 1, none⟩ = some (.int .i64 (o t).key) := by rw [hq]; exact d1
      have y2 : wr.cell? ⟨b', off' + t * 3 + 2, none⟩ = some (.int .i64 (o t).v) := by rw [hq]; exact d2
      have hlt' : (t : Int) < (n : Int) := by omega
      have HQ := Lib.hid hq
      clear c0 c1 c2 d0 d1 d2 hci hci' hq HT
      generalize o t = p at *
      obtain ⟨pk, pkey, pv⟩ := p
      dsimp only at x0 x1 x2 y0 y1 y2
      have hneq : ∀ u : World, (binOp .neq 38 (.agg #[.int .i64 pk, .int .i64 pkey, .int .i64 pv]) (.agg #[.int .i64 pk, .int .i64 pkey, .int .i64 pv])).run Try.prog u = .ok (.bool false) u := fun u => by
        rw [run_neq_struct, eqO]; simp
      go_wp2
      go_quiet (fail)
      go_wp2
      go_roundw
      case rel => exact ⟨t + 1, by omega, by go_num, Lib.hid ⟨q + nq, by rw [HQ.out, World.drewN_drewN]⟩⟩
      case measure => simp [intOf]; omega
    · obtain rfl : n = t := by omega
      have HQ := Lib.hid hq
      clear hq HT
      go_wp2
      go_ret
      exact ⟨rfl, q, HQ.out⟩

/-- one event more -/
def more (len : Nat) (E : Nat → Ev) (e : Ev) : Nat → Ev := fun j => if j < len then E j else e
theorem more_lo {len : Nat} {E : Nat → Ev} {e : Ev} {j : Nat} (h : j < len) : more len E e j = E j := if_pos h
theorem more_at {len : Nat} {E : Nat → Ev} {e : Ev} : more len E e len = e := if_neg (Nat.lt_irrefl _)
theorem state_more (len : Nat) (E : Nat → Ev) (e : Ev) : ∀ i, i ≤ len → stateAt (more len E e) i = stateAt E i := by
  intro i
  induction i with
  | zero => intro _; rfl
  | succ i ih => intro h; show nextS (stateAt (more len E e) i) (more len E e i) = nextS (stateAt E i) (E i); rw [ih (by omega), more_lo (by omega)]

theorem ans_range {na nt : Nat} {a t : Nat → O3} {er : Int} (h : AnsP na nt a t er) (hne : ¬ er = 0) : er = 22 ∨ er = 24 := by
  rcases h with ⟨_, h⟩ | ⟨_, ⟨h, _⟩ | ⟨i, _, h, _, _⟩⟩
  · exact .inl h
  · exact absurd h hne
  · unfold errAt at h
    split at h
    · exact .inl h
    · split at h
      · split at h
        · exact absurd h hne
        · exact .inl h
      · split at h
        · split at h
          · exact absurd h hne
          · exact .inr h
        · exact absurd h hne
theorem err_range {s : St} {e : Ev} {er : Int} (h : ErrOf s e er) (hne : ¬ er = 0) : 20 ≤ er ∧ er ≤ 24 := by
  rcases h with ⟨_, h⟩ | ⟨_, _, h⟩ | ⟨_, _, _, _, h⟩ | ⟨_, _, _, _, h⟩ | ⟨_, _, _, ⟨_, h⟩ | ⟨h, _⟩⟩
  · omega
  · omega
  · omega
  · exact absurd h hne
  · rcases h with ⟨_, h⟩ | ⟨_, _, h⟩
    · rcases ans_range h hne with h | h <;> omega
    · omega
  · exact absurd h hne

section
variable {H : Type} {enc : TypeId × Value → H} {w : World} {base : Nat} {spare : Nat → Bool} {held : Bool}
/-- an event that came in by value -/
theorem event_of {n : Nat} {cs : List Value} {y : DataW H × List MemPlace} (h : DataW.trod enc Try.prog w base spare held n 43 cs = some y) :
    ∃ (e : Ev) (sp : Option Addr) (cap : Nat), cs = [.int .i64 e.k, .int .i64 e.c, .slice sp e.n cap] ∧ OpS w sp e.n e.o ∧ (sp = none → e.n = 0 ∧ cap = 0) ∧ e.n ≤ 9223372036854775807 := by
  obtain ⟨xs, n', _, _, hlen, hxl, hf⟩ := DataW.trod_struct Try.underlying43 h
  rw [cells43] at hlen
  match cs, hlen with
  | [c0, c1, c2], _ =>
    match xs, hxl with
    | [y0, y1, y2], _ =>
      have g0 := hf 0 _ rfl
      have g1 := hf 1 _ rfl
      have g2 := hf 2 _ rfl
      simp [cellsI, cells34] at g0 g1 g2
      obtain ⟨k, e0, _, _⟩ := DataW.trod_int Try.underlying3 g0
      obtain ⟨c, e1, _, _⟩ := DataW.trod_int Try.underlying3 g1
      simp at e0 e1
      subst e0 e1
      obtain ⟨sp, l, cp, e2⟩ : ∃ sp l cp, c2 = .slice sp l cp := by
        rcases Go.Deep.open_slice Try.underlying34 g2 with ⟨e, _⟩ | ⟨ad, len', cap', m, n, D, Pl, e, _⟩
        · simp at e; exact ⟨_, _, _, e⟩
        · simp at e; exact ⟨_, _, _, e⟩
      subst e2
      obtain ⟨o, h1, h2, h3⟩ := ops_of g2
      exact ⟨⟨k, c, l, o⟩, sp, cp, rfl, h1, h2, h3⟩
end
end Go.Proofs.Ytgpnjgpbblookaa
