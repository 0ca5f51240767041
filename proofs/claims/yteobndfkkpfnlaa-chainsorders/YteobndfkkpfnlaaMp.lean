/-
  The reference of chains: Orders' contract.
-/
import Derived.Test.YteobndfkkpfnlaaMo
import Derived.Deep.RegionHeld3
import Derived.Laws.BitsLemmas
namespace Go.Proofs.Yteobndfkkpfnlaa
open Go.ChangeShapes Go.WideShapes Go.ChangeAt Go.RowKit
set_option linter.unusedVariables false

/-- two rows lie in two blocks -/
def NeB (v u : Value) : Prop := ∀ g, v.ownBlock = some g → u.ownBlock ≠ some g
theorem OrR.aside {w w' : World} {base base' : Nat} {v u : Value} {P Q : List (Value × List Int)} (h : OrR w base v P) (h' : OrR w base' u Q) (hne : NeB v u) (hg : w.grownBy w' u.ownBlock) : OrR w' base v P :=
  ⟨own_keep h.row fun g hg' => hg.block g (h.row.lt g hg').2 (fun e => hne g hg' e.symm), fun x hx => by
    obtain ⟨sp, cp, e, ho⟩ := h.each x hx
    exact ⟨sp, cp, e, own_keep ho fun g hg' => hg.block g (ho.lt g hg').2 (own_ne ho h'.row hg')⟩⟩
theorem rowM {w : World} {base M : Nat} {v : Value} {P : List (Value × List Int)} (h : OrR w base v P) (hM : P.length = M) (o : Obj) : (w.alloc o).ownsRow base 41 1 v M (P.map (·.1)) := by
  have h1 := h.row
  rw [hM] at h1
  exact h1.alloc o
set_option maxRecDepth 100000 in
set_option maxHeartbeats 4000000 in
theorem orders_any : ∀ (n : Nat) (L : List Int) (sp : Option Addr) (cap : Nat) (w : World), n ≤ 6 → L.length = n → IsL w sp n L → n ≤ cap → (sp = none → n = 0 ∧ cap = 0) →
    Calls Try.prog 36 #[.slice sp n cap] w (OrdP n w) := by
  intro n
  induction n with
  | zero =>
    intro L sp cap w _ _ _ _ _
    have hB : Below w.heap.size w ((w.alloc (.cells #[] 3)).alloc (.cells #[.slice (some ⟨w.heap.size, 0, none⟩) 0 0] 41)) := ((Below.refl _ _).alloc (Nat.le_refl _) _).alloc (by simp) _
    go_enter Try.func36, Try.ntmps36
    go_wp2
    go_ret
    have hr : ((w.alloc (.cells #[] 3)).alloc (.cells #[.slice (some ⟨w.heap.size, 0, none⟩) 0 0] 41)).ownsRow w.heap.size 41 1 (.slice (some ⟨w.heap.size + 1, 0, none⟩) 1 1) 1 [.slice (some ⟨w.heap.size, 0, none⟩) 0 0] := by
      have h := World.ownsRow_lit (base := w.heap.size) (e := 41) (size := 1) (w.alloc (.cells #[] 3)) #[.slice (some ⟨w.heap.size, 0, none⟩) 0 0] 1 (by simp) (by decide) rfl
      rw [show (w.alloc (.cells #[] 3)).heap.size = w.heap.size + 1 by simp] at h
      exact h
    have he : ((w.alloc (.cells #[] 3)).alloc (.cells #[.slice (some ⟨w.heap.size, 0, none⟩) 0 0] 41)).ownsRow w.heap.size 3 1 (.slice (some ⟨w.heap.size, 0, none⟩) 0 0) 0 [] := (World.ownsRow_lit (base := w.heap.size) (e := 3) (size := 1) w #[] 0 (Nat.le_refl _) (by decide) rfl).alloc _
    exact ⟨[(.slice (some ⟨w.heap.size, 0, none⟩) 0 0, [])], some ⟨w.heap.size + 1, 0, none⟩, 1, rfl, ⟨hr, fun x hx => by obtain rfl := List.mem_singleton.1 hx; exact ⟨_, _, rfl, he⟩⟩, Nat.le_refl _, fun x hx => by obtain rfl := List.mem_singleton.1 hx; rfl, hB⟩
  | succ n ih =>
    intro L sp cap w hn6 hL hs hcap hsp
    have HIH := Lib.hid ih
    have HS := Lib.hid hs
    have HL := Lib.hid hL
    have HNE : Hid (∃ b off, sp = some ⟨b, off, none⟩ ∧ b < w.heap.size) := Lib.hid (by
      obtain ⟨b, off, e, hl, _⟩ := hs (Nat.succ_pos n)
      exact ⟨b, off, e, hl⟩)
    obtain ⟨b, off, rfl, hbl⟩ := HNE.out
    clear ih hs hL hsp HNE
    have hn0 : ((n : Int) + 1 == 0) = false := by rw [beq_eq_false_iff_ne]; omega
    go_enter Try.func36, Try.ntmps36
    go_wp2
    have HR0 : Hid (OrR (w.alloc (.cells #[] 41)) w.heap.size (.slice (some ⟨w.heap.size, 0, none⟩) 0 0) [] ∧ Below w.heap.size w (w.alloc (.cells #[] 41))) := Lib.hid ⟨⟨World.ownsRow_lit w #[] 0 (Nat.le_refl _) (Nat.zero_le _) rfl, (fun x hx => (by cases hx))⟩, (Below.refl _ _).alloc (Nat.le_refl _) _⟩
    generalize w.alloc (.cells #[] 41) = w1 at *
    have hfc := fct_le n (by omega)
    have HFS : Hid (fct (n + 1) = (n + 1) * fct n) := Lib.hid rfl
    go_loopw [3, 16] (fun vo i wr => ∃ (t : Nat) (P : List (Value × List Int)) (s3 : Option Addr) (c3 : Nat), t ≤ n + 1 ∧ i = .int .i64 (t : Int) ∧ vo = .slice s3 P.length c3 ∧ P.length ≤ t * fct n ∧ Hid (OrR wr w.heap.size (.slice s3 P.length c3) P ∧ (∀ x ∈ P, x.2.length = n + 1) ∧ Below w.heap.size w wr)) (fun _ i _ => n + 1 - (intOf i).toNat)
    case atStart => exact ⟨0, [], some ⟨w.heap.size, 0, none⟩, 0, Nat.zero_le _, rfl, rfl, Nat.zero_le _, Lib.hid ⟨HR0.out.1, (fun x hx => (by cases hx)), HR0.out.2⟩⟩
    case round =>
      clear HR0
      obtain ⟨t, P, s3, c3, ht, rfl, rfl, hP, HR⟩ := hrel
      obtain ⟨N, hN⟩ : ∃ N, P.length = N := ⟨_, rfl⟩
      rw [hN] at HR hP ⊢
      have HN := Lib.hid hN
      clear hN
      by_cases hlt : t < n + 1
      · have hlt' : (t : Int) < (n : Int) + 1 := by omega
        have hb1 : Below wr.heap.size wr (wr.alloc (.cells #[] 3)) := (Below.refl _ _).alloc (Nat.le_refl _) _
        have HO1 : Hid ((wr.alloc (.cells #[] 3)).ownsRow wr.heap.size 3 1 (.slice (some ⟨wr.heap.size, 0, none⟩) 0 0) 0 (rwI [])) := Lib.hid (World.ownsRow_lit wr #[] 0 (Nat.le_refl _) (Nat.zero_le _) rfl)
        have HS1 := Lib.hid (HS.out.below HR.out.2.2)
        have htc : t ≤ cap := by omega
        have htc' : (t : Int) ≤ (cap : Int) := by omega
        have hlo0 : (0 : Int) ≤ (t : Int) + 1 := by omega
        have hlo1 : (t : Int) + 1 ≤ (n : Int) + 1 := by omega
        have hlo2 : (t : Int) + 1 ≤ ((n + 1 : Nat) : Int) := by omega
        have hwt : IntKind.i64.wrap ((t : Int) + 1) = (t : Int) + 1 := by rw [IntKind.wrap_i64]; omega
        have HLT : Hid (t = (L.take t).length) := Lib.hid (by rw [List.length_take, HL.out]; omega)
        have HLD : Hid (n - t = (L.drop (t + 1)).length) := Lib.hid (by rw [List.length_drop, HL.out]; omega)
        have HBX : Hid (Below wr.heap.size wr (wr.alloc (.cells #[] 3)).drew) := Lib.hid hb1.drew
        have HO2 : Hid ((wr.alloc (.cells #[] 3)).drew.ownsRow wr.heap.size 3 1 (.slice (some ⟨wr.heap.size, 0, none⟩) 0 0) 0 (rwI [])) := Lib.hid HO1.out
        have HTS : Hid (t + (n - t) = n) := Lib.hid (by omega)
        have HST : Hid (IsL (wr.alloc (.cells #[] 3)).drew (some ⟨b, off, none⟩) t (L.take t)) := Lib.hid ((HS1.out.take (by omega)).below HBX.out)
        have HSD : Hid (∀ W, Below wr.heap.size wr W → IsL W (if cap = t + 1 then some ⟨b, off, none⟩ else some ⟨b, off + (t + 1), none⟩) (n - t) (L.drop (t + 1))) := Lib.hid fun W hW => by
          by_cases hce : cap = t + 1
          · intro h0
            omega
          · rw [if_neg hce]
            exact (HS1.out.drop (by omega)).below hW
        have HSN : Hid ((if cap = t + 1 then some (⟨b, off, none⟩ : Addr) else some ⟨b, off + (t + 1), none⟩) = none → n - t = 0 ∧ cap - (t + 1) = 0) := Lib.hid fun h => by
          split at h <;> cases h
        clear hb1
        go_upto_region 7 with (fail)
        go_region_held3 (fun _ => True) (trivial)
          (first
            | (refine step_append_ints (by rfl) _ _ (by rfl) wr.heap.size _ t (L.take t) HLT.out (by rfl) HOA.out _ _ _ (L.drop (t + 1)) HLD.out (by rfl) (HSD.out _ HBA.out) HSN.out (by omega) HBA.out.size ?_; intro v7 w7 ho7 hg7; rw [HTS.out] at ho7; obtain ⟨s7, c7, hv7⟩ := own_form' ho7; subst hv7; have HO7 := Lib.hid ho7; have HB7 := Lib.hid (HBA.out.grown hg7 HBA.out.size (fun q hq => (HOA.out.lt q hq).1)); clear ho7 hg7 HOA HBA)
            | (refine step_append_ints (by rfl) _ _ (by rfl) wr.heap.size _ 0 [] rfl (by rfl) HO2.out (some ⟨b, off, none⟩) t cap (L.take t) HLT.out (by rfl) HST.out (fun h => (by cases h)) (by omega) HBX.out.size ?_; intro v6 w6 ho6 hg6; obtain ⟨s6, c6, hv6⟩ := own_form' ho6; subst hv6; rw [Nat.zero_add] at *; have HOA := Lib.hid ho6; have HBA := Lib.hid (HBX.out.grown hg6 HBX.out.size (fun q hq => (HO2.out.lt q hq).1)); clear ho6 hg6))
        generalize (if cap = t + 1 then some (⟨b, off, none⟩ : Addr) else some ⟨b, off + (t + 1), none⟩) = sq at *
        have HRL : Hid ((L.take t ++ L.drop (t + 1)).length = n) := Lib.hid (by rw [List.length_append, ← HLT.out, ← HLD.out, HTS.out])
        have HCA := Lib.hid (HIH.out _ s7 c7 w7 (by omega) HRL.out (own_isL HO7.out HRL.out.symm) (own_cap3 HO7.out) (own_nil' HO7.out))
        have HR7 : Hid (OrR w7 w.heap.size (.slice s3 N c3) P ∧ (∀ x ∈ P, x.2.length = n + 1) ∧ Below w.heap.size w w7) := Lib.hid ⟨HR.out.1.keep HB7.out, HR.out.2.1, HR.out.2.2.trans (HB7.out.mono HR.out.2.2.size)⟩
        clear HO1 HO2 HBX HST HSD HSN HR HB7 HO7 HRL htc htc' hlo0 hlo1 hlo2 hwt
        go_wp2_with fail
        refine HCA.out.mono ?_
        rintro e w8 ⟨P2, s8, c8, rfl, hR2, hP2, hl2, hb8⟩
        obtain ⟨N2, hN2⟩ : ∃ N, P2.length = N := ⟨_, rfl⟩
        rw [hN2] at hR2 hP2 ⊢
        have HN2 := Lib.hid hN2
        have HR8 : Hid (OrR w8 w.heap.size (.slice s3 N c3) P ∧ (∀ x ∈ P, x.2.length = n + 1) ∧ Below w.heap.size w w8) := Lib.hid ⟨HR7.out.1.keep hb8, HR7.out.2.1, HR7.out.2.2.trans (hb8.mono HR7.out.2.2.size)⟩
        have HNB : Hid (NeB (.slice s8 N2 c8) (.slice s3 N c3)) := Lib.hid fun g h1 h2 => by
          have q1 := (hR2.row.lt g h1).1
          have q2 := (HR7.out.1.row.lt g h2).2
          omega
        have HQ2 : Hid (OrR w8 w.heap.size (.slice s8 N2 c8) P2 ∧ ∀ x ∈ P2, x.2.length = n) := Lib.hid ⟨hR2.mono HR7.out.2.2.size, hl2⟩
        clear hN2 hR2 hl2 hb8 HR7 HCA
        go_wp2
        go_loopw [3, 32] (fun vo i wr' => ∃ (r : Nat) (P' : List (Value × List Int)) (s3 : Option Addr) (c3 : Nat), r ≤ N2 ∧ i = .int .i64 (r : Int) ∧ vo = .slice s3 P'.length c3 ∧ P'.length ≤ t * fct n + r ∧ Hid (OrR wr' w.heap.size (.slice s3 P'.length c3) P' ∧ (∀ x ∈ P', x.2.length = n + 1) ∧ OrR wr' w.heap.size (.slice s8 N2 c8) P2 ∧ Below w.heap.size w wr' ∧ NeB (.slice s8 N2 c8) (.slice s3 P'.length c3))) (fun _ i _ => N2 - (intOf i).toNat)
        case atStart => exact ⟨0, P, s3, c3, Nat.zero_le _, rfl, by rw [HN.out], by rw [HN.out]; exact hP, Lib.hid (by rw [HN.out]; exact ⟨HR8.out.1, HR8.out.2.1, HQ2.out.1, HR8.out.2.2, HNB.out⟩)⟩
        case round =>
          have HQ3 := Lib.hid HQ2.out.2
          clear HR8 HQ2 HNB
          obtain ⟨r, P', s9, c9, hr, rfl, rfl, hP', HR9⟩ := hrel
          obtain ⟨M, hM⟩ : ∃ M, P'.length = M := ⟨_, rfl⟩
          rw [hM] at HR9 hP' ⊢
          have HM := Lib.hid hM
          clear hM
          by_cases hlr : r < N2
          · have hlr' : (r : Int) < (N2 : Int) := by omega
            have hMb : M ≤ 5000 := by
              have h1 : t * fct n ≤ 5 * 720 := Nat.mul_le_mul (by omega) hfc
              omega
            have hrw := HR9.out.2.2.1.row
            rw [HN2.out] at hrw
            obtain ⟨g8, cap8, e8, hg8, hgl8⟩ := hrw.form (by omega)
            injection e8 with e81 e82 e83
            subst e81
            subst e83
            obtain ⟨x, hx⟩ : ∃ x, P2[r]? = some x := ⟨_, List.getElem?_eq_getElem (show r < P2.length by rw [HN2.out]; exact hlr)⟩
            have hxm : x ∈ P2 := List.mem_of_getElem? hx
            have hcl := hrw.cellAt r (by omega)
            rw [List.getElem?_map, hx] at hcl
            obtain ⟨su, cu, eu, hou⟩ := HR9.out.2.2.1.each x hxm
            have hlx := HQ3.out x hxm
            obtain ⟨xu, V⟩ := x
            dsimp only at hcl eu hou hlx
            subst eu
            rw [hlx] at hcl hou
            have HLV := Lib.hid hlx
            have c1 : wr.cell? ⟨g8, r, none⟩ = some (.slice su n cu) := hcl
            obtain ⟨b', off', eb, _, hcc⟩ := (HS.out.below HR9.out.2.2.2.1) (Nat.succ_pos n)
            injection eb with eb
            injection eb with eb1 eb2
            subst eb1 eb2
            have c2 := hcc t hlt
            generalize L.getD t 0 = z at *
            have HOL : Hid ((wr.alloc (.cells #[.int .i64 z] 3)).ownsRow wr.heap.size 3 1 (.slice (some ⟨wr.heap.size, 0, none⟩) 1 1) 1 (rwI [z])) := Lib.hid (World.ownsRow_lit wr #[.int .i64 z] 1 (Nat.le_refl _) (by decide) rfl)
            have hbl1 : Below wr.heap.size wr (wr.alloc (.cells #[.int .i64 z] 3)) := (Below.refl _ _).alloc (Nat.le_refl _) _
            have HBL := Lib.hid hbl1
            have HOU := Lib.hid ((own_isL hou hlx.symm).below hbl1)
            have HNU := Lib.hid (own_nil' hou)
            have hHH : wr.heap.size < (wr.alloc (.cells #[.int .i64 z] 3)).heap.size := by simp
            clear hx hxm hcl hou hlx hcc hbl1 hrw
            obtain ⟨i41, hi41, hz0, hz1, hz2⟩ := info_parts mi41
            have HNW : Hid (∀ (Z : World) (s : Option Addr) (k c : Nat) (j : Nat) (v : Value), [Value.slice s k c][j]? = some v → (Z.alloc (.cells #[.slice s k c] 41)).cell? ((⟨Z.heap.size, 0, none⟩ : Addr).add j) = some v) := Lib.hid fun Z s k c j v hj => by
              rw [Go.WideShapes.add_plain, cell_of_row _ _ _ _ 41 (0, 0) (heap_alloc_new Z _), Nat.zero_add]
              simpa using hj
            have HVL : Hid (([z] ++ V).length = 1 + n) := Lib.hid (by rw [List.length_append, HLV.out]; rfl)
            have HFI : Hid (∀ (w7 : World) (s7 : Option Addr) (c7 : Nat) (w9 : World) (g9 c10 : Nat), w7.ownsRow wr.heap.size 3 1 (.slice s7 (1 + n) c7) (1 + n) (rwI ([z] ++ V)) → Below wr.heap.size wr w7 →
                w9.ownsRow w.heap.size 41 1 (.slice (some ⟨g9, 0, none⟩) (M + 1) c10) (M + 1) (P'.map (·.1) ++ [.slice s7 (1 + n) c7]) → (w7.alloc (.cells #[.slice s7 (1 + n) c7] 41)).grownBy w9 (Value.slice s9 M c9).ownBlock → ((Value.slice s9 M c9).ownBlock = some g9 ∨ g9 = (w7.alloc (.cells #[.slice s7 (1 + n) c7] 41)).heap.size) →
                OrR w9 w.heap.size (.slice (some ⟨g9, 0, none⟩) (M + 1) c10) (P' ++ [(.slice s7 (1 + n) c7, [z] ++ V)]) ∧ (∀ x ∈ P' ++ [(.slice s7 (1 + n) c7, [z] ++ V)], x.2.length = n + 1) ∧ OrR w9 w.heap.size (.slice (some ⟨g8, 0, none⟩) N2 c8) P2 ∧ Below w.heap.size w w9 ∧ NeB (.slice (some ⟨g8, 0, none⟩) N2 c8) (.slice (some ⟨g9, 0, none⟩) (M + 1) c10)) := Lib.hid fun w7 s7 c7 w9 g9 c10 ho hb7 hr hg hat => by
              have hsz := HR9.out.2.2.2.1.size
              have hbl : Below wr.heap.size wr (w7.alloc (.cells #[.slice s7 (1 + n) c7] 41)) := hb7.trans (((Below.refl _ _).alloc (Nat.le_refl _) _).mono hb7.size)
              have hP := HR9.out.1.keep hbl
              have hQ := HR9.out.2.2.1.keep hbl
              refine ⟨hP.push (sp := s7) (cp := c7) (by rw [HVL.out]) ?_ (by rw [HM.out]; exact hr) hg, fun x hx => ?_, hQ.aside hP HR9.out.2.2.2.2 hg, ?_, fun g h1 h2 => ?_⟩
              · rw [HVL.out]
                exact own_base (ho.alloc _) hsz
              · rcases List.mem_append.1 hx with hx | hx
                · exact HR9.out.2.1 x hx
                · obtain rfl := List.mem_singleton.1 hx
                  rw [HVL.out]; omega
              · exact (HR9.out.2.2.2.1.trans (hbl.mono hsz)).grown hg (Nat.le_trans hsz hbl.size) (fun q hq => (HR9.out.1.row.lt q hq).1)
              · have h3 : g9 = g := by injection h2
                rcases hat with h4 | h4
                · rw [h3] at h4
                  exact HR9.out.2.2.2.2 g h1 h4
                · have h5 := (HR9.out.2.2.1.row.lt g h1).2
                  have h6 := hbl.size
                  omega
            go_wp2_with (first
              | (at_builtin; refine wpList_append_lies _ rfl _ _ 79 rfl w.heap.size 41 i41 (.slice none 0 0) 1 24 Try.underlying79 hi41 hz0 hz1 hz2 rfl (by decide) (.slice s9 M c9) M _ rfl HRX.out ⟨w7'.heap.size, 0, none⟩ 1 1 [.slice s7' (1 + n) c7'] rfl rfl (HNW.out _ _ _ _) (by intro u hu; simp at hu; subst hu; rfl) (by omega) (by unfold maxLen; omega) (by omega) HBW.out.size _ rfl ?_; intro g9 c10 w9 ho9 hg9 hat9 hl9; have HF9 := Lib.hid (HFI.out w7' s7' c7' w9 g9 c10 HO7.out HB7.out ho9 hg9 hat9); clear ho9 hg9 hat9 hl9)
              | (at_builtin; refine wpList_append_ints rfl _ _ rfl wr.heap.size _ 1 [z] rfl rfl HOL.out su n cu V HLV.out.symm rfl HOU.out HNU.out (by omega) HBL.out.size ?_; intro v7 w7' ho7 hg7; obtain ⟨s7', c7', hv7⟩ := own_form' ho7; subst hv7; have HO7 := Lib.hid ho7; have HB7 := Lib.hid (HBL.out.grown hg7 HBL.out.size (fun q hq => (HOL.out.lt q hq).1)); have HR7 := Lib.hid (HR9.out.1.keep HB7.out); have HBW := Lib.hid ((HR9.out.2.2.2.1.trans (HB7.out.mono HR9.out.2.2.2.1.size)).alloc (HR9.out.2.2.2.1.trans (HB7.out.mono HR9.out.2.2.2.1.size)).size (.cells #[.slice s7' (1 + n) c7'] 41)); have HRX := Lib.hid (rowM HR7.out HM.out (.cells #[.slice s7' (1 + n) c7'] 41)); clear ho7 hg7))
            go_roundw
            case rel => exact ⟨r + 1, P' ++ [(.slice s7' (1 + n) c7', [z] ++ V)], some ⟨g9, 0, none⟩, c10, by omega, by go_num, by rw [List.length_append, HM.out]; rfl, by rw [List.length_append, HM.out]; show M + 1 ≤ _; omega, by rw [List.length_append, HM.out]; exact HF9⟩
            case measure => simp [intOf]; omega
          · obtain rfl : r = N2 := by omega
            have hF : M ≤ (t + 1) * fct n := by rw [Nat.add_mul, Nat.one_mul]; omega
            have HR10 : Hid (OrR wr w.heap.size (.slice s9 M c9) P' ∧ (∀ x ∈ P', x.2.length = n + 1) ∧ Below w.heap.size w wr) := Lib.hid ⟨HR9.out.1, HR9.out.2.1, HR9.out.2.2.2.1⟩
            clear HR9
            go_wp2
            go_roundw
            case rel => exact ⟨t + 1, P', s9, c9, by omega, by go_num, by rw [HM.out], by rw [HM.out]; exact hF, by rw [HM.out]; exact HR10⟩
            case measure => simp [intOf]; omega
      · obtain rfl : t = n + 1 := by omega
        have hF : OrdP (n + 1) w (.returned (.slice s3 N c3)) wr := ⟨P, s3, c3, by rw [HN.out], by rw [HN.out]; exact HR.out.1, by rw [HN.out, HFS.out]; exact hP, HR.out.2.1, HR.out.2.2⟩
        clear HR
        go_wp2
        go_ret
        exact hF
end Go.Proofs.Yteobndfkkpfnlaa
