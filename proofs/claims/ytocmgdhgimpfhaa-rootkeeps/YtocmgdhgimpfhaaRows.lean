/-
  No cell of these rows narrows 'for every input' (looked for: loops, veiled, ifaces, maps, wideKeys, modest, calm, conditions, laid).
  DERIVED. THE GIVEN ROWS OF THIS SEAT. 4 by the template 'for every input the law returns true; each argument reads behind the call as it read before'; 0 by the template 'total and deterministic' (their statements: YtocmgdhgimpfhaaTotals.lean).
  GIVEN WITH THE SEED: the statements are not yours to turn. If you find one false, say at which input.
  Laid BY PROGRAM, IN A SANDBOX (cutbox-rows.mjs): the forced cells as the released guide's own fill.sh prints them over the translation 9dabe091359cc882… (all of the seat's roots in one cut). By AI agents, Wed Nov 11 2026. No macro, syntax, notation, axiom, sorry.
-/
import Derived.Test.YtocmgdhgimpfhaaChecked
import GoSem.Claim
import GoSem.ClaimJoined
import GoSem.ClaimMapViews
import Derived.JoinedTies
import Derived.KernelRfl
namespace Go.Proofs.Ytocmgdhgimpfhaa
/- THE CELL 'sum', in the pinned program and in every row, IS THE sha256 OF THE DUMP (.gsa) THAT YtocmgdhgimpfhaaProg.lean LOADS. Nothing in Lean hashes anything: it is a label: what it is worth is what the hold of that sum in a sandbox is worth. -/
noncomputable def Try.pinned : Pinned := { name := "ytocmgdhgimpfhaa", sum := "9dabe091359cc8829dbdefbd5ec856d2f04f2c18739cbbced264d3b053b527dd", checked := Try.checked }
namespace Rows
def none {H : Type} : Left H := { results := [], args := [] }

/-- 'strongroomlaw08.RootPlays': WHATEVER THE INPUT: true; the input reads as it did. -/
def rootPlaysSpec : ChangeSpec := { name := "rootPlays", fn := fun _ => fun
  | [d1, d2] => { results := [.lit (.bool true)], args := [d1, d2] }
  | _ => none }
def rootPlaysRow : OpenClaim := { program := "ytocmgdhgimpfhaa", sum := "9dabe091359cc8829dbdefbd5ec856d2f04f2c18739cbbced264d3b053b527dd", func := "strongroom/strongroomlaw08.RootPlays", spec := "rootPlays", unfollowed := true, recurses := true, plainKeys := false, apart := false }
def RootPlaysSaid : Prop := rootPlaysRow.holds Try.pinned (OpenSpec.ofChange rootPlaysSpec)

/-- ITS FALSE NEIGHBOUR: 'it returns false'. Refute it at one input. -/
def rootPlaysWrong : ChangeSpec := { name := "rootPlays", fn := fun _ => fun
  | [d1, d2] => { results := [.lit (.bool false)], args := [d1, d2] }
  | _ => none }
def RootPlaysWrongFalsely : Prop := rootPlaysRow.holds Try.pinned (OpenSpec.ofChange rootPlaysWrong)

/-- 'strongroomlaw08.RootKeeps': WHATEVER THE INPUT: true; the input reads as it did. -/
def rootKeepsSpec : ChangeSpec := { name := "rootKeeps", fn := fun _ => fun
  | [d] => { results := [.lit (.bool true)], args := [d] }
  | _ => none }
def rootKeepsRow : OpenClaim := { program := "ytocmgdhgimpfhaa", sum := "9dabe091359cc8829dbdefbd5ec856d2f04f2c18739cbbced264d3b053b527dd", func := "strongroom/strongroomlaw08.RootKeeps", spec := "rootKeeps", unfollowed := true, recurses := true, plainKeys := false, apart := false }
def RootKeepsSaid : Prop := rootKeepsRow.holds Try.pinned (OpenSpec.ofChange rootKeepsSpec)

/-- ITS FALSE NEIGHBOUR: 'it returns false'. Refute it at one input. -/
def rootKeepsWrong : ChangeSpec := { name := "rootKeeps", fn := fun _ => fun
  | [d] => { results := [.lit (.bool false)], args := [d] }
  | _ => none }
def RootKeepsWrongFalsely : Prop := rootKeepsRow.holds Try.pinned (OpenSpec.ofChange rootKeepsWrong)

/-- 'strongroomlaw08.RootCounts': WHATEVER THE INPUT: true; the input reads as it did. -/
def rootCountsSpec : ChangeSpec := { name := "rootCounts", fn := fun _ => fun
  | [d1, d2] => { results := [.lit (.bool true)], args := [d1, d2] }
  | _ => none }
def rootCountsRow : OpenClaim := { program := "ytocmgdhgimpfhaa", sum := "9dabe091359cc8829dbdefbd5ec856d2f04f2c18739cbbced264d3b053b527dd", func := "strongroom/strongroomlaw08.RootCounts", spec := "rootCounts", plainKeys := false, apart := false }
def RootCountsSaid : Prop := rootCountsRow.holds Try.pinned (OpenSpec.ofChange rootCountsSpec)

/-- ITS FALSE NEIGHBOUR: 'it returns false'. Refute it at one input. -/
def rootCountsWrong : ChangeSpec := { name := "rootCounts", fn := fun _ => fun
  | [d1, d2] => { results := [.lit (.bool false)], args := [d1, d2] }
  | _ => none }
def RootCountsWrongFalsely : Prop := rootCountsRow.holds Try.pinned (OpenSpec.ofChange rootCountsWrong)

/-- 'strongroomlaw08.RootSlots': WHATEVER THE INPUT: true; the input reads as it did. -/
def rootSlotsSpec : ChangeSpec := { name := "rootSlots", fn := fun _ => fun
  | [d1, d2] => { results := [.lit (.bool true)], args := [d1, d2] }
  | _ => none }
def rootSlotsRow : OpenClaim := { program := "ytocmgdhgimpfhaa", sum := "9dabe091359cc8829dbdefbd5ec856d2f04f2c18739cbbced264d3b053b527dd", func := "strongroom/strongroomlaw08.RootSlots", spec := "rootSlots", plainKeys := false, apart := false }
def RootSlotsSaid : Prop := rootSlotsRow.holds Try.pinned (OpenSpec.ofChange rootSlotsSpec)

/-- ITS FALSE NEIGHBOUR: 'it returns false'. Refute it at one input. -/
def rootSlotsWrong : ChangeSpec := { name := "rootSlots", fn := fun _ => fun
  | [d1, d2] => { results := [.lit (.bool false)], args := [d1, d2] }
  | _ => none }
def RootSlotsWrongFalsely : Prop := rootSlotsRow.holds Try.pinned (OpenSpec.ofChange rootSlotsWrong)

/- THE SECOND FORM. 'bulk': how many values and letters a reading holds, each counted each time it is reached (what is shared counts as often as it is met; a slice's spare places count too). A statement '..UptoSaid' is the law's where the arguments, and the package variables that the reading takes, are together of bulk at most 1048576: NARROWER than '..Said'. Prove '..Said' where nothing that the law and all that it calls make is longer than what came in: it says more and counts as full. Else prove '..UptoSaid'. A law counts once. -/
mutual
def uptoBulk {H : Type} : DataW H → Nat
  | .lit (.string bytes) => bytes.length + 1
  | .lit _ => 1
  | .nil => 1
  | .ptr d => uptoBulk d + 1
  | .slice elems spare => uptoBulkAll elems + uptoBulkAll spare + 1
  | .agg parts => uptoBulkAll parts + 1
  | .iface _ d => uptoBulk d + 1
  | .map entries => uptoBulkEntries entries + 1
  | .held _ => 1
def uptoBulkAll {H : Type} : List (DataW H) → Nat
  | [] => 0
  | d :: r => uptoBulk d + uptoBulkAll r
def uptoBulkEntries {H : Type} : List (Lit × DataW H) → Nat
  | [] => 0
  | x :: r => uptoBulkEntry x + uptoBulkEntries r
def uptoBulkEntry {H : Type} : Lit × DataW H → Nat
  | (.string bytes, d) => bytes.length + uptoBulk d + 1
  | (_, d) => uptoBulk d + 1
 end
def uptoSmall : (H : Type) → List (DataW H) → Bool := fun _ ds => decide (uptoBulkAll ds ≤ 1048576)
def OpenSpec.upto (s : _root_.Go.ChangeSpec) : _root_.Go.OpenSpec := { _root_.Go.OpenSpec.ofChange s with cond := some uptoSmall }

/-- 'strongroomlaw08.RootPlays', WHERE WHAT IT READS IS OF BULK AT MOST 1048576: true; the input reads as it did. -/
def rootPlaysUptoRow : OpenClaim := { program := "ytocmgdhgimpfhaa", sum := "9dabe091359cc8829dbdefbd5ec856d2f04f2c18739cbbced264d3b053b527dd", func := "strongroom/strongroomlaw08.RootPlays", spec := "rootPlays", unfollowed := true, recurses := true, plainKeys := false, apart := false, narrowed := true }
def RootPlaysUptoSaid : Prop := rootPlaysUptoRow.holds Try.pinned (OpenSpec.upto rootPlaysSpec)

/-- 'strongroomlaw08.RootKeeps', WHERE WHAT IT READS IS OF BULK AT MOST 1048576: true; the input reads as it did. -/
def rootKeepsUptoRow : OpenClaim := { program := "ytocmgdhgimpfhaa", sum := "9dabe091359cc8829dbdefbd5ec856d2f04f2c18739cbbced264d3b053b527dd", func := "strongroom/strongroomlaw08.RootKeeps", spec := "rootKeeps", unfollowed := true, recurses := true, plainKeys := false, apart := false, narrowed := true }
def RootKeepsUptoSaid : Prop := rootKeepsUptoRow.holds Try.pinned (OpenSpec.upto rootKeepsSpec)

/-- 'strongroomlaw08.RootCounts', WHERE WHAT IT READS IS OF BULK AT MOST 1048576: true; the input reads as it did. -/
def rootCountsUptoRow : OpenClaim := { program := "ytocmgdhgimpfhaa", sum := "9dabe091359cc8829dbdefbd5ec856d2f04f2c18739cbbced264d3b053b527dd", func := "strongroom/strongroomlaw08.RootCounts", spec := "rootCounts", plainKeys := false, apart := false, narrowed := true }
def RootCountsUptoSaid : Prop := rootCountsUptoRow.holds Try.pinned (OpenSpec.upto rootCountsSpec)

/-- 'strongroomlaw08.RootSlots', WHERE WHAT IT READS IS OF BULK AT MOST 1048576: true; the input reads as it did. -/
def rootSlotsUptoRow : OpenClaim := { program := "ytocmgdhgimpfhaa", sum := "9dabe091359cc8829dbdefbd5ec856d2f04f2c18739cbbced264d3b053b527dd", func := "strongroom/strongroomlaw08.RootSlots", spec := "rootSlots", plainKeys := false, apart := false, narrowed := true }
def RootSlotsUptoSaid : Prop := rootSlotsUptoRow.holds Try.pinned (OpenSpec.upto rootSlotsSpec)

end Rows
end Go.Proofs.Ytocmgdhgimpfhaa
