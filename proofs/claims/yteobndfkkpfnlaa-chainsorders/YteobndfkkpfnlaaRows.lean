/-
  No cell of these rows narrows 'for every input' (looked for: loops, veiled, ifaces, maps, wideKeys, modest, calm, conditions, laid).
  DERIVED. THE GIVEN ROWS OF THIS SEAT. 10 by the template 'for every input the law returns true; each argument reads behind the call as it read before'; 0 by the template 'total and deterministic' (their statements: YteobndfkkpfnlaaTotals.lean).
  GIVEN WITH THE SEED: the statements are not yours to turn. If you find one false, say at which input.
  Laid BY PROGRAM, IN A SANDBOX (cutbox-rows.mjs): the forced cells as the released guide's own fill.sh prints them over the translation 906fc52fde668f14… (all of the seat's roots in one cut). By AI agents, Wed Nov 11 2026. No macro, syntax, notation, axiom, sorry.
-/
import Derived.Test.YteobndfkkpfnlaaChecked
import GoSem.Claim
import GoSem.ClaimJoined
import GoSem.ClaimMapViews
import Derived.JoinedTies
import Derived.KernelRfl
namespace Go.Proofs.Yteobndfkkpfnlaa
/- THE CELL 'sum', in the pinned program and in every row, IS THE sha256 OF THE DUMP (.gsa) THAT YteobndfkkpfnlaaProg.lean LOADS. Nothing in Lean hashes anything: it is a label: what it is worth is what the hold of that sum in a sandbox is worth. -/
noncomputable def Try.pinned : Pinned := { name := "yteobndfkkpfnlaa", sum := "906fc52fde668f1467d1e767bd1a275360f37ba52e68a173a3e7afd4a19d55c9", checked := Try.checked }
namespace Rows
def none {H : Type} : Left H := { results := [], args := [] }

/-- 'cruciblelaw08.FlawsAll': WHATEVER THE INPUT: true; the input reads as it did. -/
def flawsAllSpec : ChangeSpec := { name := "flawsAll", fn := fun _ => fun
  | [d] => { results := [.lit (.bool true)], args := [d] }
  | _ => none }
def flawsAllRow : OpenClaim := { program := "yteobndfkkpfnlaa", sum := "906fc52fde668f1467d1e767bd1a275360f37ba52e68a173a3e7afd4a19d55c9", func := "crucible/cruciblelaw08.FlawsAll", spec := "flawsAll", unfollowed := true, recurses := true, plainKeys := false, apart := false }
def FlawsAllSaid : Prop := flawsAllRow.holds Try.pinned (OpenSpec.ofChange flawsAllSpec)

/-- ITS FALSE NEIGHBOUR: 'it returns false'. Refute it at one input. -/
def flawsAllWrong : ChangeSpec := { name := "flawsAll", fn := fun _ => fun
  | [d] => { results := [.lit (.bool false)], args := [d] }
  | _ => none }
def FlawsAllWrongFalsely : Prop := flawsAllRow.holds Try.pinned (OpenSpec.ofChange flawsAllWrong)

/-- 'cruciblelaw08.FlawsSources': WHATEVER THE INPUT: true; the input reads as it did. -/
def flawsSourcesSpec : ChangeSpec := { name := "flawsSources", fn := fun _ => fun
  | [d1, d2, d3] => { results := [.lit (.bool true)], args := [d1, d2, d3] }
  | _ => none }
def flawsSourcesRow : OpenClaim := { program := "yteobndfkkpfnlaa", sum := "906fc52fde668f1467d1e767bd1a275360f37ba52e68a173a3e7afd4a19d55c9", func := "crucible/cruciblelaw08.FlawsSources", spec := "flawsSources", unfollowed := true, recurses := true, plainKeys := false, apart := false }
def FlawsSourcesSaid : Prop := flawsSourcesRow.holds Try.pinned (OpenSpec.ofChange flawsSourcesSpec)

/-- ITS FALSE NEIGHBOUR: 'it returns false'. Refute it at one input. -/
def flawsSourcesWrong : ChangeSpec := { name := "flawsSources", fn := fun _ => fun
  | [d1, d2, d3] => { results := [.lit (.bool false)], args := [d1, d2, d3] }
  | _ => none }
def FlawsSourcesWrongFalsely : Prop := flawsSourcesRow.holds Try.pinned (OpenSpec.ofChange flawsSourcesWrong)

/-- 'cruciblelaw08.FlawsRuns': WHATEVER THE INPUT: true; the input reads as it did. -/
def flawsRunsSpec : ChangeSpec := { name := "flawsRuns", fn := fun _ => fun
  | [d1, d2] => { results := [.lit (.bool true)], args := [d1, d2] }
  | _ => none }
def flawsRunsRow : OpenClaim := { program := "yteobndfkkpfnlaa", sum := "906fc52fde668f1467d1e767bd1a275360f37ba52e68a173a3e7afd4a19d55c9", func := "crucible/cruciblelaw08.FlawsRuns", spec := "flawsRuns", unfollowed := true, recurses := true, plainKeys := false, apart := false }
def FlawsRunsSaid : Prop := flawsRunsRow.holds Try.pinned (OpenSpec.ofChange flawsRunsSpec)

/-- ITS FALSE NEIGHBOUR: 'it returns false'. Refute it at one input. -/
def flawsRunsWrong : ChangeSpec := { name := "flawsRuns", fn := fun _ => fun
  | [d1, d2] => { results := [.lit (.bool false)], args := [d1, d2] }
  | _ => none }
def FlawsRunsWrongFalsely : Prop := flawsRunsRow.holds Try.pinned (OpenSpec.ofChange flawsRunsWrong)

/-- 'cruciblelaw08.FlawsMore': WHATEVER THE INPUT: true; the input reads as it did. -/
def flawsMoreSpec : ChangeSpec := { name := "flawsMore", fn := fun _ => fun
  | [d1, d2] => { results := [.lit (.bool true)], args := [d1, d2] }
  | _ => none }
def flawsMoreRow : OpenClaim := { program := "yteobndfkkpfnlaa", sum := "906fc52fde668f1467d1e767bd1a275360f37ba52e68a173a3e7afd4a19d55c9", func := "crucible/cruciblelaw08.FlawsMore", spec := "flawsMore", unfollowed := true, recurses := true, plainKeys := false, apart := false }
def FlawsMoreSaid : Prop := flawsMoreRow.holds Try.pinned (OpenSpec.ofChange flawsMoreSpec)

/-- ITS FALSE NEIGHBOUR: 'it returns false'. Refute it at one input. -/
def flawsMoreWrong : ChangeSpec := { name := "flawsMore", fn := fun _ => fun
  | [d1, d2] => { results := [.lit (.bool false)], args := [d1, d2] }
  | _ => none }
def FlawsMoreWrongFalsely : Prop := flawsMoreRow.holds Try.pinned (OpenSpec.ofChange flawsMoreWrong)

/-- 'cruciblelaw08.FlawsSelf': WHATEVER THE INPUT: true; the input reads as it did. -/
def flawsSelfSpec : ChangeSpec := { name := "flawsSelf", fn := fun _ => fun
  | [d1, d2, d3] => { results := [.lit (.bool true)], args := [d1, d2, d3] }
  | _ => none }
def flawsSelfRow : OpenClaim := { program := "yteobndfkkpfnlaa", sum := "906fc52fde668f1467d1e767bd1a275360f37ba52e68a173a3e7afd4a19d55c9", func := "crucible/cruciblelaw08.FlawsSelf", spec := "flawsSelf", unfollowed := true, recurses := true, plainKeys := false, apart := false }
def FlawsSelfSaid : Prop := flawsSelfRow.holds Try.pinned (OpenSpec.ofChange flawsSelfSpec)

/-- ITS FALSE NEIGHBOUR: 'it returns false'. Refute it at one input. -/
def flawsSelfWrong : ChangeSpec := { name := "flawsSelf", fn := fun _ => fun
  | [d1, d2, d3] => { results := [.lit (.bool false)], args := [d1, d2, d3] }
  | _ => none }
def FlawsSelfWrongFalsely : Prop := flawsSelfRow.holds Try.pinned (OpenSpec.ofChange flawsSelfWrong)

/-- 'cruciblelaw09.ChainsChoices': WHATEVER THE INPUT: true; the input reads as it did. -/
def chainsChoicesSpec : ChangeSpec := { name := "chainsChoices", fn := fun _ => fun
  | [d] => { results := [.lit (.bool true)], args := [d] }
  | _ => none }
def chainsChoicesRow : OpenClaim := { program := "yteobndfkkpfnlaa", sum := "906fc52fde668f1467d1e767bd1a275360f37ba52e68a173a3e7afd4a19d55c9", func := "crucible/cruciblelaw09.ChainsChoices", spec := "chainsChoices", unfollowed := true, recurses := true, plainKeys := false, apart := false }
def ChainsChoicesSaid : Prop := chainsChoicesRow.holds Try.pinned (OpenSpec.ofChange chainsChoicesSpec)

/-- ITS FALSE NEIGHBOUR: 'it returns false'. Refute it at one input. -/
def chainsChoicesWrong : ChangeSpec := { name := "chainsChoices", fn := fun _ => fun
  | [d] => { results := [.lit (.bool false)], args := [d] }
  | _ => none }
def ChainsChoicesWrongFalsely : Prop := chainsChoicesRow.holds Try.pinned (OpenSpec.ofChange chainsChoicesWrong)

/-- 'cruciblelaw09.ChainsFacts': WHATEVER THE INPUT: true; the input reads as it did. -/
def chainsFactsSpec : ChangeSpec := { name := "chainsFacts", fn := fun _ => fun
  | [d1, d2] => { results := [.lit (.bool true)], args := [d1, d2] }
  | _ => none }
def chainsFactsRow : OpenClaim := { program := "yteobndfkkpfnlaa", sum := "906fc52fde668f1467d1e767bd1a275360f37ba52e68a173a3e7afd4a19d55c9", func := "crucible/cruciblelaw09.ChainsFacts", spec := "chainsFacts", inPlace := ["maps.clone"], unfollowed := true, recurses := true, plainKeys := false, apart := false }
def ChainsFactsSaid : Prop := chainsFactsRow.holds Try.pinned (OpenSpec.ofChange chainsFactsSpec)

/-- ITS FALSE NEIGHBOUR: 'it returns false'. Refute it at one input. -/
def chainsFactsWrong : ChangeSpec := { name := "chainsFacts", fn := fun _ => fun
  | [d1, d2] => { results := [.lit (.bool false)], args := [d1, d2] }
  | _ => none }
def ChainsFactsWrongFalsely : Prop := chainsFactsRow.holds Try.pinned (OpenSpec.ofChange chainsFactsWrong)

/-- 'cruciblelaw09.ChainsOrders': WHATEVER THE INPUT: true; the input reads as it did. -/
def chainsOrdersSpec : ChangeSpec := { name := "chainsOrders", fn := fun _ => fun
  | [d1, d2, d3] => { results := [.lit (.bool true)], args := [d1, d2, d3] }
  | _ => none }
def chainsOrdersRow : OpenClaim := { program := "yteobndfkkpfnlaa", sum := "906fc52fde668f1467d1e767bd1a275360f37ba52e68a173a3e7afd4a19d55c9", func := "crucible/cruciblelaw09.ChainsOrders", spec := "chainsOrders", unfollowed := true, recurses := true, plainKeys := false, apart := false }
def ChainsOrdersSaid : Prop := chainsOrdersRow.holds Try.pinned (OpenSpec.ofChange chainsOrdersSpec)

/-- ITS FALSE NEIGHBOUR: 'it returns false'. Refute it at one input. -/
def chainsOrdersWrong : ChangeSpec := { name := "chainsOrders", fn := fun _ => fun
  | [d1, d2, d3] => { results := [.lit (.bool false)], args := [d1, d2, d3] }
  | _ => none }
def ChainsOrdersWrongFalsely : Prop := chainsOrdersRow.holds Try.pinned (OpenSpec.ofChange chainsOrdersWrong)

/-- 'cruciblelaw09.ChainsFixed': WHATEVER THE INPUT: true; the input reads as it did. -/
def chainsFixedSpec : ChangeSpec := { name := "chainsFixed", fn := fun _ => fun
  | [d1, d2, d3, d4] => { results := [.lit (.bool true)], args := [d1, d2, d3, d4] }
  | _ => none }
def chainsFixedRow : OpenClaim := { program := "yteobndfkkpfnlaa", sum := "906fc52fde668f1467d1e767bd1a275360f37ba52e68a173a3e7afd4a19d55c9", func := "crucible/cruciblelaw09.ChainsFixed", spec := "chainsFixed", unfollowed := true, recurses := true, plainKeys := false, apart := false }
def ChainsFixedSaid : Prop := chainsFixedRow.holds Try.pinned (OpenSpec.ofChange chainsFixedSpec)

/-- ITS FALSE NEIGHBOUR: 'it returns false'. Refute it at one input. -/
def chainsFixedWrong : ChangeSpec := { name := "chainsFixed", fn := fun _ => fun
  | [d1, d2, d3, d4] => { results := [.lit (.bool false)], args := [d1, d2, d3, d4] }
  | _ => none }
def ChainsFixedWrongFalsely : Prop := chainsFixedRow.holds Try.pinned (OpenSpec.ofChange chainsFixedWrong)

/-- 'cruciblelaw09.ChainsAll': WHATEVER THE INPUT: true; the input reads as it did. -/
def chainsAllSpec : ChangeSpec := { name := "chainsAll", fn := fun _ => fun
  | [d1, d2] => { results := [.lit (.bool true)], args := [d1, d2] }
  | _ => none }
def chainsAllRow : OpenClaim := { program := "yteobndfkkpfnlaa", sum := "906fc52fde668f1467d1e767bd1a275360f37ba52e68a173a3e7afd4a19d55c9", func := "crucible/cruciblelaw09.ChainsAll", spec := "chainsAll", inPlace := ["maps.clone"], unfollowed := true, recurses := true, plainKeys := false, apart := false }
def ChainsAllSaid : Prop := chainsAllRow.holds Try.pinned (OpenSpec.ofChange chainsAllSpec)

/-- ITS FALSE NEIGHBOUR: 'it returns false'. Refute it at one input. -/
def chainsAllWrong : ChangeSpec := { name := "chainsAll", fn := fun _ => fun
  | [d1, d2] => { results := [.lit (.bool false)], args := [d1, d2] }
  | _ => none }
def ChainsAllWrongFalsely : Prop := chainsAllRow.holds Try.pinned (OpenSpec.ofChange chainsAllWrong)

/- THE SECOND FORM. 'bulk': how many values and letters a reading holds, each counted each time it is reached (what is shared counts as often as it is met; a slice's spare places count too). A statement '..UptoSaid' is the law's where the arguments, and the package variables that the reading takes, are together of bulk at most 1048576: NARROWER than '..Said'. Prove '..Said' where nothing that the law and all that it calls make is longer than what came in: it says more and counts as full. Else prove '..UptoSaid'. A law counts once. -/
mutual
def uptoBulk {H : Type} : DataW H → Nat
  | .lit (.string bytes) => bytes.length + 1
  | .lit _ => 1
  | .nil => 1
  | .ptr d => uptoBulk d + 1
  | .slice elems spare => uptoBulkAll elems + uptoBulkAll spare + 1
  | .agg parts => uptoBulkAll parts + 1
  | .iface _ d => uptoBulk d + 1
  | .map entries => uptoBulkEntries entries + 1
  | .held _ => 1
def uptoBulkAll {H : Type} : List (DataW H) → Nat
  | [] => 0
  | d :: r => uptoBulk d + uptoBulkAll r
def uptoBulkEntries {H : Type} : List (Lit × DataW H) → Nat
  | [] => 0
  | x :: r => uptoBulkEntry x + uptoBulkEntries r
def uptoBulkEntry {H : Type} : Lit × DataW H → Nat
  | (.string bytes, d) => bytes.length + uptoBulk d + 1
  | (_, d) => uptoBulk d + 1
 end
def uptoSmall : (H : Type) → List (DataW H) → Bool := fun _ ds => decide (uptoBulkAll ds ≤ 1048576)
def OpenSpec.upto (s : _root_.Go.ChangeSpec) : _root_.Go.OpenSpec := { _root_.Go.OpenSpec.ofChange s with cond := some uptoSmall }

/-- 'cruciblelaw08.FlawsAll', WHERE WHAT IT READS IS OF BULK AT MOST 1048576: true; the input reads as it did. -/
def flawsAllUptoRow : OpenClaim := { program := "yteobndfkkpfnlaa", sum := "906fc52fde668f1467d1e767bd1a275360f37ba52e68a173a3e7afd4a19d55c9", func := "crucible/cruciblelaw08.FlawsAll", spec := "flawsAll", unfollowed := true, recurses := true, plainKeys := false, apart := false, narrowed := true }
def FlawsAllUptoSaid : Prop := flawsAllUptoRow.holds Try.pinned (OpenSpec.upto flawsAllSpec)

/-- 'cruciblelaw08.FlawsSources', WHERE WHAT IT READS IS OF BULK AT MOST 1048576: true; the input reads as it did. -/
def flawsSourcesUptoRow : OpenClaim := { program := "yteobndfkkpfnlaa", sum := "906fc52fde668f1467d1e767bd1a275360f37ba52e68a173a3e7afd4a19d55c9", func := "crucible/cruciblelaw08.FlawsSources", spec := "flawsSources", unfollowed := true, recurses := true, plainKeys := false, apart := false, narrowed := true }
def FlawsSourcesUptoSaid : Prop := flawsSourcesUptoRow.holds Try.pinned (OpenSpec.upto flawsSourcesSpec)

/-- 'cruciblelaw08.FlawsRuns', WHERE WHAT IT READS IS OF BULK AT MOST 1048576: true; the input reads as it did. -/
def flawsRunsUptoRow : OpenClaim := { program := "yteobndfkkpfnlaa", sum := "906fc52fde668f1467d1e767bd1a275360f37ba52e68a173a3e7afd4a19d55c9", func := "crucible/cruciblelaw08.FlawsRuns", spec := "flawsRuns", unfollowed := true, recurses := true, plainKeys := false, apart := false, narrowed := true }
def FlawsRunsUptoSaid : Prop := flawsRunsUptoRow.holds Try.pinned (OpenSpec.upto flawsRunsSpec)

/-- 'cruciblelaw08.FlawsMore', WHERE WHAT IT READS IS OF BULK AT MOST 1048576: true; the input reads as it did. -/
def flawsMoreUptoRow : OpenClaim := { program := "yteobndfkkpfnlaa", sum := "906fc52fde668f1467d1e767bd1a275360f37ba52e68a173a3e7afd4a19d55c9", func := "crucible/cruciblelaw08.FlawsMore", spec := "flawsMore", unfollowed := true, recurses := true, plainKeys := false, apart := false, narrowed := true }
def FlawsMoreUptoSaid : Prop := flawsMoreUptoRow.holds Try.pinned (OpenSpec.upto flawsMoreSpec)

/-- 'cruciblelaw08.FlawsSelf', WHERE WHAT IT READS IS OF BULK AT MOST 1048576: true; the input reads as it did. -/
def flawsSelfUptoRow : OpenClaim := { program := "yteobndfkkpfnlaa", sum := "906fc52fde668f1467d1e767bd1a275360f37ba52e68a173a3e7afd4a19d55c9", func := "crucible/cruciblelaw08.FlawsSelf", spec := "flawsSelf", unfollowed := true, recurses := true, plainKeys := false, apart := false, narrowed := true }
def FlawsSelfUptoSaid : Prop := flawsSelfUptoRow.holds Try.pinned (OpenSpec.upto flawsSelfSpec)

/-- 'cruciblelaw09.ChainsChoices', WHERE WHAT IT READS IS OF BULK AT MOST 1048576: true; the input reads as it did. -/
def chainsChoicesUptoRow : OpenClaim := { program := "yteobndfkkpfnlaa", sum := "906fc52fde668f1467d1e767bd1a275360f37ba52e68a173a3e7afd4a19d55c9", func := "crucible/cruciblelaw09.ChainsChoices", spec := "chainsChoices", unfollowed := true, recurses := true, plainKeys := false, apart := false, narrowed := true }
def ChainsChoicesUptoSaid : Prop := chainsChoicesUptoRow.holds Try.pinned (OpenSpec.upto chainsChoicesSpec)

/-- 'cruciblelaw09.ChainsFacts', WHERE WHAT IT READS IS OF BULK AT MOST 1048576: true; the input reads as it did. -/
def chainsFactsUptoRow : OpenClaim := { program := "yteobndfkkpfnlaa", sum := "906fc52fde668f1467d1e767bd1a275360f37ba52e68a173a3e7afd4a19d55c9", func := "crucible/cruciblelaw09.ChainsFacts", spec := "chainsFacts", inPlace := ["maps.clone"], unfollowed := true, recurses := true, plainKeys := false, apart := false, narrowed := true }
def ChainsFactsUptoSaid : Prop := chainsFactsUptoRow.holds Try.pinned (OpenSpec.upto chainsFactsSpec)

/-- 'cruciblelaw09.ChainsOrders', WHERE WHAT IT READS IS OF BULK AT MOST 1048576: true; the input reads as it did. -/
def chainsOrdersUptoRow : OpenClaim := { program := "yteobndfkkpfnlaa", sum := "906fc52fde668f1467d1e767bd1a275360f37ba52e68a173a3e7afd4a19d55c9", func := "crucible/cruciblelaw09.ChainsOrders", spec := "chainsOrders", unfollowed := true, recurses := true, plainKeys := false, apart := false, narrowed := true }
def ChainsOrdersUptoSaid : Prop := chainsOrdersUptoRow.holds Try.pinned (OpenSpec.upto chainsOrdersSpec)

/-- 'cruciblelaw09.ChainsFixed', WHERE WHAT IT READS IS OF BULK AT MOST 1048576: true; the input reads as it did. -/
def chainsFixedUptoRow : OpenClaim := { program := "yteobndfkkpfnlaa", sum := "906fc52fde668f1467d1e767bd1a275360f37ba52e68a173a3e7afd4a19d55c9", func := "crucible/cruciblelaw09.ChainsFixed", spec := "chainsFixed", unfollowed := true, recurses := true, plainKeys := false, apart := false, narrowed := true }
def ChainsFixedUptoSaid : Prop := chainsFixedUptoRow.holds Try.pinned (OpenSpec.upto chainsFixedSpec)

/-- 'cruciblelaw09.ChainsAll', WHERE WHAT IT READS IS OF BULK AT MOST 1048576: true; the input reads as it did. -/
def chainsAllUptoRow : OpenClaim := { program := "yteobndfkkpfnlaa", sum := "906fc52fde668f1467d1e767bd1a275360f37ba52e68a173a3e7afd4a19d55c9", func := "crucible/cruciblelaw09.ChainsAll", spec := "chainsAll", inPlace := ["maps.clone"], unfollowed := true, recurses := true, plainKeys := false, apart := false, narrowed := true }
def ChainsAllUptoSaid : Prop := chainsAllUptoRow.holds Try.pinned (OpenSpec.upto chainsAllSpec)

end Rows
end Go.Proofs.Yteobndfkkpfnlaa
