/-
  No cell of these rows narrows 'for every input' (looked for: loops, veiled, ifaces, maps, wideKeys, modest, calm, conditions, laid).
  DERIVED. THE GIVEN ROWS OF THIS SEAT. 5 by the template 'for every input the law returns true; each argument reads behind the call as it read before'; 0 by the template 'total and deterministic' (their statements: YtbkcjpogafkoeaaTotals.lean).
  GIVEN WITH THE SEED: the statements are not yours to turn. If you find one false, say at which input.
  Laid BY PROGRAM, IN A SANDBOX (cutbox-rows.mjs): the forced cells as the released guide's own fill.sh prints them over the translation 6ca02c2c3ede3917… (all of the seat's roots in one cut). By AI agents, Wed Nov 11 2026. No macro, syntax, notation, axiom, sorry.
-/
import Derived.Test.YtbkcjpogafkoeaaChecked
import GoSem.Claim
import GoSem.ClaimJoined
import GoSem.ClaimMapViews
import Derived.JoinedTies
import Derived.KernelRfl
namespace Go.Proofs.Ytbkcjpogafkoeaa
/- THE CELL 'sum', in the pinned program and in every row, IS THE sha256 OF THE DUMP (.gsa) THAT YtbkcjpogafkoeaaProg.lean LOADS. Nothing in Lean hashes anything: it is a label: what it is worth is what the hold of that sum in a sandbox is worth. -/
noncomputable def Try.pinned : Pinned := { name := "ytbkcjpogafkoeaa", sum := "6ca02c2c3ede39175b773d60453473662fa598870a58496b7c226fae96a1d886", checked := Try.checked }
namespace Rows
def none {H : Type} : Left H := { results := [], args := [] }

/-- 'strongroomlaw07.PagePlays': WHATEVER THE INPUT: true; the input reads as it did. -/
def pagePlaysSpec : ChangeSpec := { name := "pagePlays", fn := fun _ => fun
  | [d1, d2] => { results := [.lit (.bool true)], args := [d1, d2] }
  | _ => none }
def pagePlaysRow : OpenClaim := { program := "ytbkcjpogafkoeaa", sum := "6ca02c2c3ede39175b773d60453473662fa598870a58496b7c226fae96a1d886", func := "strongroom/strongroomlaw07.PagePlays", spec := "pagePlays", unfollowed := true, recurses := true, plainKeys := false, apart := false }
def PagePlaysSaid : Prop := pagePlaysRow.holds Try.pinned (OpenSpec.ofChange pagePlaysSpec)

/-- ITS FALSE NEIGHBOUR: 'it returns false'. Refute it at one input. -/
def pagePlaysWrong : ChangeSpec := { name := "pagePlays", fn := fun _ => fun
  | [d1, d2] => { results := [.lit (.bool false)], args := [d1, d2] }
  | _ => none }
def PagePlaysWrongFalsely : Prop := pagePlaysRow.holds Try.pinned (OpenSpec.ofChange pagePlaysWrong)

/-- 'strongroomlaw07.PageBinds': WHATEVER THE INPUT: true; the input reads as it did. -/
def pageBindsSpec : ChangeSpec := { name := "pageBinds", fn := fun _ => fun
  | [d1, d2, d3] => { results := [.lit (.bool true)], args := [d1, d2, d3] }
  | _ => none }
def pageBindsRow : OpenClaim := { program := "ytbkcjpogafkoeaa", sum := "6ca02c2c3ede39175b773d60453473662fa598870a58496b7c226fae96a1d886", func := "strongroom/strongroomlaw07.PageBinds", spec := "pageBinds", unfollowed := true, recurses := true, plainKeys := false, apart := false }
def PageBindsSaid : Prop := pageBindsRow.holds Try.pinned (OpenSpec.ofChange pageBindsSpec)

/-- ITS FALSE NEIGHBOUR: 'it returns false'. Refute it at one input. -/
def pageBindsWrong : ChangeSpec := { name := "pageBinds", fn := fun _ => fun
  | [d1, d2, d3] => { results := [.lit (.bool false)], args := [d1, d2, d3] }
  | _ => none }
def PageBindsWrongFalsely : Prop := pageBindsRow.holds Try.pinned (OpenSpec.ofChange pageBindsWrong)

/-- 'strongroomlaw07.PageHandles': WHATEVER THE INPUT: true; the input reads as it did. -/
def pageHandlesSpec : ChangeSpec := { name := "pageHandles", fn := fun _ => fun
  | [d1, d2, d3] => { results := [.lit (.bool true)], args := [d1, d2, d3] }
  | _ => none }
def pageHandlesRow : OpenClaim := { program := "ytbkcjpogafkoeaa", sum := "6ca02c2c3ede39175b773d60453473662fa598870a58496b7c226fae96a1d886", func := "strongroom/strongroomlaw07.PageHandles", spec := "pageHandles", unfollowed := true, recurses := true, plainKeys := false, apart := false }
def PageHandlesSaid : Prop := pageHandlesRow.holds Try.pinned (OpenSpec.ofChange pageHandlesSpec)

/-- ITS FALSE NEIGHBOUR: 'it returns false'. Refute it at one input. -/
def pageHandlesWrong : ChangeSpec := { name := "pageHandles", fn := fun _ => fun
  | [d1, d2, d3] => { results := [.lit (.bool false)], args := [d1, d2, d3] }
  | _ => none }
def PageHandlesWrongFalsely : Prop := pageHandlesRow.holds Try.pinned (OpenSpec.ofChange pageHandlesWrong)

/-- 'strongroomlaw07.PageSwaps': WHATEVER THE INPUT: true; the input reads as it did. -/
def pageSwapsSpec : ChangeSpec := { name := "pageSwaps", fn := fun _ => fun
  | [d] => { results := [.lit (.bool true)], args := [d] }
  | _ => none }
def pageSwapsRow : OpenClaim := { program := "ytbkcjpogafkoeaa", sum := "6ca02c2c3ede39175b773d60453473662fa598870a58496b7c226fae96a1d886", func := "strongroom/strongroomlaw07.PageSwaps", spec := "pageSwaps", unfollowed := true, recurses := true, plainKeys := false, apart := false }
def PageSwapsSaid : Prop := pageSwapsRow.holds Try.pinned (OpenSpec.ofChange pageSwapsSpec)

/-- ITS FALSE NEIGHBOUR: 'it returns false'. Refute it at one input. -/
def pageSwapsWrong : ChangeSpec := { name := "pageSwaps", fn := fun _ => fun
  | [d] => { results := [.lit (.bool false)], args := [d] }
  | _ => none }
def PageSwapsWrongFalsely : Prop := pageSwapsRow.holds Try.pinned (OpenSpec.ofChange pageSwapsWrong)

/-- 'strongroomlaw07.PageLater': WHATEVER THE INPUT: true; the input reads as it did. -/
def pageLaterSpec : ChangeSpec := { name := "pageLater", fn := fun _ => fun
  | [d1, d2] => { results := [.lit (.bool true)], args := [d1, d2] }
  | _ => none }
def pageLaterRow : OpenClaim := { program := "ytbkcjpogafkoeaa", sum := "6ca02c2c3ede39175b773d60453473662fa598870a58496b7c226fae96a1d886", func := "strongroom/strongroomlaw07.PageLater", spec := "pageLater", unfollowed := true, recurses := true, plainKeys := false, apart := false }
def PageLaterSaid : Prop := pageLaterRow.holds Try.pinned (OpenSpec.ofChange pageLaterSpec)

/-- ITS FALSE NEIGHBOUR: 'it returns false'. Refute it at one input. -/
def pageLaterWrong : ChangeSpec := { name := "pageLater", fn := fun _ => fun
  | [d1, d2] => { results := [.lit (.bool false)], args := [d1, d2] }
  | _ => none }
def PageLaterWrongFalsely : Prop := pageLaterRow.holds Try.pinned (OpenSpec.ofChange pageLaterWrong)

/- THE SECOND FORM. 'bulk': how many values and letters a reading holds, each counted each time it is reached (what is shared counts as often as it is met; a slice's spare places count too). A statement '..UptoSaid' is the law's where the arguments, and the package variables that the reading takes, are together of bulk at most 1048576: NARROWER than '..Said'. Prove '..Said' where nothing that the law and all that it calls make is longer than what came in: it says more and counts as full. Else prove '..UptoSaid'. A law counts once. -/
mutual
def uptoBulk {H : Type} : DataW H → Nat
  | .lit (.string bytes) => bytes.length + 1
  | .lit _ => 1
  | .nil => 1
  | .ptr d => uptoBulk d + 1
  | .slice elems spare => uptoBulkAll elems + uptoBulkAll spare + 1
  | .agg parts => uptoBulkAll parts + 1
  | .iface _ d => uptoBulk d + 1
  | .map entries => uptoBulkEntries entries + 1
  | .held _ => 1
def uptoBulkAll {H : Type} : List (DataW H) → Nat
  | [] => 0
  | d :: r => uptoBulk d + uptoBulkAll r
def uptoBulkEntries {H : Type} : List (Lit × DataW H) → Nat
  | [] => 0
  | x :: r => uptoBulkEntry x + uptoBulkEntries r
def uptoBulkEntry {H : Type} : Lit × DataW H → Nat
  | (.string bytes, d) => bytes.length + uptoBulk d + 1
  | (_, d) => uptoBulk d + 1
 end
def uptoSmall : (H : Type) → List (DataW H) → Bool := fun _ ds => decide (uptoBulkAll ds ≤ 1048576)
def OpenSpec.upto (s : _root_.Go.ChangeSpec) : _root_.Go.OpenSpec := { _root_.Go.OpenSpec.ofChange s with cond := some uptoSmall }

/-- 'strongroomlaw07.PagePlays', WHERE WHAT IT READS IS OF BULK AT MOST 1048576: true; the input reads as it did. -/
def pagePlaysUptoRow : OpenClaim := { program := "ytbkcjpogafkoeaa", sum := "6ca02c2c3ede39175b773d60453473662fa598870a58496b7c226fae96a1d886", func := "strongroom/strongroomlaw07.PagePlays", spec := "pagePlays", unfollowed := true, recurses := true, plainKeys := false, apart := false, narrowed := true }
def PagePlaysUptoSaid : Prop := pagePlaysUptoRow.holds Try.pinned (OpenSpec.upto pagePlaysSpec)

/-- 'strongroomlaw07.PageBinds', WHERE WHAT IT READS IS OF BULK AT MOST 1048576: true; the input reads as it did. -/
def pageBindsUptoRow : OpenClaim := { program := "ytbkcjpogafkoeaa", sum := "6ca02c2c3ede39175b773d60453473662fa598870a58496b7c226fae96a1d886", func := "strongroom/strongroomlaw07.PageBinds", spec := "pageBinds", unfollowed := true, recurses := true, plainKeys := false, apart := false, narrowed := true }
def PageBindsUptoSaid : Prop := pageBindsUptoRow.holds Try.pinned (OpenSpec.upto pageBindsSpec)

/-- 'strongroomlaw07.PageHandles', WHERE WHAT IT READS IS OF BULK AT MOST 1048576: true; the input reads as it did. -/
def pageHandlesUptoRow : OpenClaim := { program := "ytbkcjpogafkoeaa", sum := "6ca02c2c3ede39175b773d60453473662fa598870a58496b7c226fae96a1d886", func := "strongroom/strongroomlaw07.PageHandles", spec := "pageHandles", unfollowed := true, recurses := true, plainKeys := false, apart := false, narrowed := true }
def PageHandlesUptoSaid : Prop := pageHandlesUptoRow.holds Try.pinned (OpenSpec.upto pageHandlesSpec)

/-- 'strongroomlaw07.PageSwaps', WHERE WHAT IT READS IS OF BULK AT MOST 1048576: true; the input reads as it did. -/
def pageSwapsUptoRow : OpenClaim := { program := "ytbkcjpogafkoeaa", sum := "6ca02c2c3ede39175b773d60453473662fa598870a58496b7c226fae96a1d886", func := "strongroom/strongroomlaw07.PageSwaps", spec := "pageSwaps", unfollowed := true, recurses := true, plainKeys := false, apart := false, narrowed := true }
def PageSwapsUptoSaid : Prop := pageSwapsUptoRow.holds Try.pinned (OpenSpec.upto pageSwapsSpec)

/-- 'strongroomlaw07.PageLater', WHERE WHAT IT READS IS OF BULK AT MOST 1048576: true; the input reads as it did. -/
def pageLaterUptoRow : OpenClaim := { program := "ytbkcjpogafkoeaa", sum := "6ca02c2c3ede39175b773d60453473662fa598870a58496b7c226fae96a1d886", func := "strongroom/strongroomlaw07.PageLater", spec := "pageLater", unfollowed := true, recurses := true, plainKeys := false, apart := false, narrowed := true }
def PageLaterUptoSaid : Prop := pageLaterUptoRow.holds Try.pinned (OpenSpec.upto pageLaterSpec)

end Rows
end Go.Proofs.Ytbkcjpogafkoeaa
