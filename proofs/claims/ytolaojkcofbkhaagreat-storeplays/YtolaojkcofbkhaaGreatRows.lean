/-
  No cell of these rows narrows 'for every input' (looked for: loops, veiled, ifaces, maps, wideKeys, modest, calm, conditions, laid).
  DERIVED. THE GIVEN ROWS OF THIS SEAT. 8 by the template 'for every input the law returns true; each argument reads behind the call as it read before'; 0 by the template 'total and deterministic' (their statements: YtolaojkcofbkhaaGreatTotals.lean).
  GIVEN WITH THE SEED: the statements are not yours to turn. If you find one false, say at which input.
  Laid BY PROGRAM, IN A SANDBOX (cutbox-rows.mjs): the forced cells as the released guide's own fill.sh prints them over the translation 1ca89d3b9f4a290e… (all of the seat's roots in one cut). By AI agents, Wed Nov 11 2026. No macro, syntax, notation, axiom, sorry.
-/
import Derived.Test.YtolaojkcofbkhaaGreatChecked
import GoSem.Claim
import GoSem.ClaimJoined
import GoSem.ClaimMapViews
import Derived.JoinedTies
import Derived.KernelRfl
namespace Go.Proofs.YtolaojkcofbkhaaGreat
/- THE CELL 'sum', in the pinned program and in every row, IS THE sha256 OF THE DUMP (.gsa) THAT YtolaojkcofbkhaaGreatProg.lean LOADS. Nothing in Lean hashes anything: it is a label: what it is worth is what the hold of that sum in a sandbox is worth. -/
noncomputable def Tryz.pinned : Pinned := { name := "ytolaojkcofbkhaagreat", sum := "1ca89d3b9f4a290e5f85d24e13f893800769bd1ce9cd4873d5c9f19a0b3497c0", checked := Tryz.checked }
namespace Rows
def none {H : Type} : Left H := { results := [], args := [] }

/-- 'strongroomlaw09.StorePlays': WHATEVER THE INPUT: true; the input reads as it did. -/
def storePlaysSpec : ChangeSpec := { name := "storePlays", fn := fun _ => fun
  | [d1, d2] => { results := [.lit (.bool true)], args := [d1, d2] }
  | _ => none }
def storePlaysRow : OpenClaim := { program := "ytolaojkcofbkhaagreat", sum := "1ca89d3b9f4a290e5f85d24e13f893800769bd1ce9cd4873d5c9f19a0b3497c0", func := "strongroom/strongroomlaw09.StorePlays", spec := "storePlays", unfollowed := true, recurses := true, plainKeys := false, apart := false }
def StorePlaysSaid : Prop := storePlaysRow.holds Tryz.pinned (OpenSpec.ofChange storePlaysSpec)

/-- ITS FALSE NEIGHBOUR: 'it returns false'. Refute it at one input. -/
def storePlaysWrong : ChangeSpec := { name := "storePlays", fn := fun _ => fun
  | [d1, d2] => { results := [.lit (.bool false)], args := [d1, d2] }
  | _ => none }
def StorePlaysWrongFalsely : Prop := storePlaysRow.holds Tryz.pinned (OpenSpec.ofChange storePlaysWrong)

/-- 'strongroomlaw09.StoreParses': WHATEVER THE INPUT: true; the input reads as it did. -/
def storeParsesSpec : ChangeSpec := { name := "storeParses", fn := fun _ => fun
  | [d] => { results := [.lit (.bool true)], args := [d] }
  | _ => none }
def storeParsesRow : OpenClaim := { program := "ytolaojkcofbkhaagreat", sum := "1ca89d3b9f4a290e5f85d24e13f893800769bd1ce9cd4873d5c9f19a0b3497c0", func := "strongroom/strongroomlaw09.StoreParses", spec := "storeParses", unfollowed := true, recurses := true, plainKeys := false, apart := false }
def StoreParsesSaid : Prop := storeParsesRow.holds Tryz.pinned (OpenSpec.ofChange storeParsesSpec)

/-- ITS FALSE NEIGHBOUR: 'it returns false'. Refute it at one input. -/
def storeParsesWrong : ChangeSpec := { name := "storeParses", fn := fun _ => fun
  | [d] => { results := [.lit (.bool false)], args := [d] }
  | _ => none }
def StoreParsesWrongFalsely : Prop := storeParsesRow.holds Tryz.pinned (OpenSpec.ofChange storeParsesWrong)

/-- 'strongroomlaw09.StoreWrites': WHATEVER THE INPUT: true; the input reads as it did. -/
def storeWritesSpec : ChangeSpec := { name := "storeWrites", fn := fun _ => fun
  | [d] => { results := [.lit (.bool true)], args := [d] }
  | _ => none }
def storeWritesRow : OpenClaim := { program := "ytolaojkcofbkhaagreat", sum := "1ca89d3b9f4a290e5f85d24e13f893800769bd1ce9cd4873d5c9f19a0b3497c0", func := "strongroom/strongroomlaw09.StoreWrites", spec := "storeWrites", unfollowed := true, recurses := true, plainKeys := false, apart := false }
def StoreWritesSaid : Prop := storeWritesRow.holds Tryz.pinned (OpenSpec.ofChange storeWritesSpec)

/-- ITS FALSE NEIGHBOUR: 'it returns false'. Refute it at one input. -/
def storeWritesWrong : ChangeSpec := { name := "storeWrites", fn := fun _ => fun
  | [d] => { results := [.lit (.bool false)], args := [d] }
  | _ => none }
def StoreWritesWrongFalsely : Prop := storeWritesRow.holds Tryz.pinned (OpenSpec.ofChange storeWritesWrong)

/-- 'strongroomlaw09.StoreCrashes': WHATEVER THE INPUT: true; the input reads as it did. -/
def storeCrashesSpec : ChangeSpec := { name := "storeCrashes", fn := fun _ => fun
  | [d1, d2] => { results := [.lit (.bool true)], args := [d1, d2] }
  | _ => none }
def storeCrashesRow : OpenClaim := { program := "ytolaojkcofbkhaagreat", sum := "1ca89d3b9f4a290e5f85d24e13f893800769bd1ce9cd4873d5c9f19a0b3497c0", func := "strongroom/strongroomlaw09.StoreCrashes", spec := "storeCrashes", unfollowed := true, recurses := true, plainKeys := false, apart := false }
def StoreCrashesSaid : Prop := storeCrashesRow.holds Tryz.pinned (OpenSpec.ofChange storeCrashesSpec)

/-- ITS FALSE NEIGHBOUR: 'it returns false'. Refute it at one input. -/
def storeCrashesWrong : ChangeSpec := { name := "storeCrashes", fn := fun _ => fun
  | [d1, d2] => { results := [.lit (.bool false)], args := [d1, d2] }
  | _ => none }
def StoreCrashesWrongFalsely : Prop := storeCrashesRow.holds Tryz.pinned (OpenSpec.ofChange storeCrashesWrong)

/-- 'strongroomlaw09.StoreSeals': WHATEVER THE INPUT: true; the input reads as it did. -/
def storeSealsSpec : ChangeSpec := { name := "storeSeals", fn := fun _ => fun
  | [d] => { results := [.lit (.bool true)], args := [d] }
  | _ => none }
def storeSealsRow : OpenClaim := { program := "ytolaojkcofbkhaagreat", sum := "1ca89d3b9f4a290e5f85d24e13f893800769bd1ce9cd4873d5c9f19a0b3497c0", func := "strongroom/strongroomlaw09.StoreSeals", spec := "storeSeals", unfollowed := true, recurses := true, plainKeys := false, apart := false }
def StoreSealsSaid : Prop := storeSealsRow.holds Tryz.pinned (OpenSpec.ofChange storeSealsSpec)

/-- ITS FALSE NEIGHBOUR: 'it returns false'. Refute it at one input. -/
def storeSealsWrong : ChangeSpec := { name := "storeSeals", fn := fun _ => fun
  | [d] => { results := [.lit (.bool false)], args := [d] }
  | _ => none }
def StoreSealsWrongFalsely : Prop := storeSealsRow.holds Tryz.pinned (OpenSpec.ofChange storeSealsWrong)

/-- 'strongroomlaw09.StoreRooms': WHATEVER THE INPUT: true; the input reads as it did. -/
def storeRoomsSpec : ChangeSpec := { name := "storeRooms", fn := fun _ => fun
  | [d1, d2] => { results := [.lit (.bool true)], args := [d1, d2] }
  | _ => none }
def storeRoomsRow : OpenClaim := { program := "ytolaojkcofbkhaagreat", sum := "1ca89d3b9f4a290e5f85d24e13f893800769bd1ce9cd4873d5c9f19a0b3497c0", func := "strongroom/strongroomlaw09.StoreRooms", spec := "storeRooms", unfollowed := true, recurses := true, plainKeys := false, apart := false }
def StoreRoomsSaid : Prop := storeRoomsRow.holds Tryz.pinned (OpenSpec.ofChange storeRoomsSpec)

/-- ITS FALSE NEIGHBOUR: 'it returns false'. Refute it at one input. -/
def storeRoomsWrong : ChangeSpec := { name := "storeRooms", fn := fun _ => fun
  | [d1, d2] => { results := [.lit (.bool false)], args := [d1, d2] }
  | _ => none }
def StoreRoomsWrongFalsely : Prop := storeRoomsRow.holds Tryz.pinned (OpenSpec.ofChange storeRoomsWrong)

/-- 'strongroomlaw09.StoreAgain': WHATEVER THE INPUT: true; the input reads as it did. -/
def storeAgainSpec : ChangeSpec := { name := "storeAgain", fn := fun _ => fun
  | [d1, d2] => { results := [.lit (.bool true)], args := [d1, d2] }
  | _ => none }
def storeAgainRow : OpenClaim := { program := "ytolaojkcofbkhaagreat", sum := "1ca89d3b9f4a290e5f85d24e13f893800769bd1ce9cd4873d5c9f19a0b3497c0", func := "strongroom/strongroomlaw09.StoreAgain", spec := "storeAgain", unfollowed := true, recurses := true, plainKeys := false, apart := false }
def StoreAgainSaid : Prop := storeAgainRow.holds Tryz.pinned (OpenSpec.ofChange storeAgainSpec)

/-- ITS FALSE NEIGHBOUR: 'it returns false'. Refute it at one input. -/
def storeAgainWrong : ChangeSpec := { name := "storeAgain", fn := fun _ => fun
  | [d1, d2] => { results := [.lit (.bool false)], args := [d1, d2] }
  | _ => none }
def StoreAgainWrongFalsely : Prop := storeAgainRow.holds Tryz.pinned (OpenSpec.ofChange storeAgainWrong)

/-- 'strongroomlaw09.StoreKeys': WHATEVER THE INPUT: true; the input reads as it did. -/
def storeKeysSpec : ChangeSpec := { name := "storeKeys", fn := fun _ => fun
  | [d] => { results := [.lit (.bool true)], args := [d] }
  | _ => none }
def storeKeysRow : OpenClaim := { program := "ytolaojkcofbkhaagreat", sum := "1ca89d3b9f4a290e5f85d24e13f893800769bd1ce9cd4873d5c9f19a0b3497c0", func := "strongroom/strongroomlaw09.StoreKeys", spec := "storeKeys", unfollowed := true, recurses := true, plainKeys := false, apart := false }
def StoreKeysSaid : Prop := storeKeysRow.holds Tryz.pinned (OpenSpec.ofChange storeKeysSpec)

/-- ITS FALSE NEIGHBOUR: 'it returns false'. Refute it at one input. -/
def storeKeysWrong : ChangeSpec := { name := "storeKeys", fn := fun _ => fun
  | [d] => { results := [.lit (.bool false)], args := [d] }
  | _ => none }
def StoreKeysWrongFalsely : Prop := storeKeysRow.holds Tryz.pinned (OpenSpec.ofChange storeKeysWrong)

/- THE SECOND FORM. 'bulk': how many values and letters a reading holds, each counted each time it is reached (what is shared counts as often as it is met; a slice's spare places count too). A statement '..UptoSaid' is the law's where the arguments, and the package variables that the reading takes, are together of bulk at most 1048576: NARROWER than '..Said'. Prove '..Said' where nothing that the law and all that it calls make is longer than what came in: it says more and counts as full. Else prove '..UptoSaid'. A law counts once. -/
mutual
def uptoBulk {H : Type} : DataW H → Nat
  | .lit (.string bytes) => bytes.length + 1
  | .lit _ => 1
  | .nil => 1
  | .ptr d => uptoBulk d + 1
  | .slice elems spare => uptoBulkAll elems + uptoBulkAll spare + 1
  | .agg parts => uptoBulkAll parts + 1
  | .iface _ d => uptoBulk d + 1
  | .map entries => uptoBulkEntries entries + 1
  | .held _ => 1
def uptoBulkAll {H : Type} : List (DataW H) → Nat
  | [] => 0
  | d :: r => uptoBulk d + uptoBulkAll r
def uptoBulkEntries {H : Type} : List (Lit × DataW H) → Nat
  | [] => 0
  | x :: r => uptoBulkEntry x + uptoBulkEntries r
def uptoBulkEntry {H : Type} : Lit × DataW H → Nat
  | (.string bytes, d) => bytes.length + uptoBulk d + 1
  | (_, d) => uptoBulk d + 1
 end
def uptoSmall : (H : Type) → List (DataW H) → Bool := fun _ ds => decide (uptoBulkAll ds ≤ 1048576)
def OpenSpec.upto (s : _root_.Go.ChangeSpec) : _root_.Go.OpenSpec := { _root_.Go.OpenSpec.ofChange s with cond := some uptoSmall }

/-- 'strongroomlaw09.StorePlays', WHERE WHAT IT READS IS OF BULK AT MOST 1048576: true; the input reads as it did. -/
def storePlaysUptoRow : OpenClaim := { program := "ytolaojkcofbkhaagreat", sum := "1ca89d3b9f4a290e5f85d24e13f893800769bd1ce9cd4873d5c9f19a0b3497c0", func := "strongroom/strongroomlaw09.StorePlays", spec := "storePlays", unfollowed := true, recurses := true, plainKeys := false, apart := false, narrowed := true }
def StorePlaysUptoSaid : Prop := storePlaysUptoRow.holds Tryz.pinned (OpenSpec.upto storePlaysSpec)

/-- 'strongroomlaw09.StoreParses', WHERE WHAT IT READS IS OF BULK AT MOST 1048576: true; the input reads as it did. -/
def storeParsesUptoRow : OpenClaim := { program := "ytolaojkcofbkhaagreat", sum := "1ca89d3b9f4a290e5f85d24e13f893800769bd1ce9cd4873d5c9f19a0b3497c0", func := "strongroom/strongroomlaw09.StoreParses", spec := "storeParses", unfollowed := true, recurses := true, plainKeys := false, apart := false, narrowed := true }
def StoreParsesUptoSaid : Prop := storeParsesUptoRow.holds Tryz.pinned (OpenSpec.upto storeParsesSpec)

/-- 'strongroomlaw09.StoreWrites', WHERE WHAT IT READS IS OF BULK AT MOST 1048576: true; the input reads as it did. -/
def storeWritesUptoRow : OpenClaim := { program := "ytolaojkcofbkhaagreat", sum := "1ca89d3b9f4a290e5f85d24e13f893800769bd1ce9cd4873d5c9f19a0b3497c0", func := "strongroom/strongroomlaw09.StoreWrites", spec := "storeWrites", unfollowed := true, recurses := true, plainKeys := false, apart := false, narrowed := true }
def StoreWritesUptoSaid : Prop := storeWritesUptoRow.holds Tryz.pinned (OpenSpec.upto storeWritesSpec)

/-- 'strongroomlaw09.StoreCrashes', WHERE WHAT IT READS IS OF BULK AT MOST 1048576: true; the input reads as it did. -/
def storeCrashesUptoRow : OpenClaim := { program := "ytolaojkcofbkhaagreat", sum := "1ca89d3b9f4a290e5f85d24e13f893800769bd1ce9cd4873d5c9f19a0b3497c0", func := "strongroom/strongroomlaw09.StoreCrashes", spec := "storeCrashes", unfollowed := true, recurses := true, plainKeys := false, apart := false, narrowed := true }
def StoreCrashesUptoSaid : Prop := storeCrashesUptoRow.holds Tryz.pinned (OpenSpec.upto storeCrashesSpec)

/-- 'strongroomlaw09.StoreSeals', WHERE WHAT IT READS IS OF BULK AT MOST 1048576: true; the input reads as it did. -/
def storeSealsUptoRow : OpenClaim := { program := "ytolaojkcofbkhaagreat", sum := "1ca89d3b9f4a290e5f85d24e13f893800769bd1ce9cd4873d5c9f19a0b3497c0", func := "strongroom/strongroomlaw09.StoreSeals", spec := "storeSeals", unfollowed := true, recurses := true, plainKeys := false, apart := false, narrowed := true }
def StoreSealsUptoSaid : Prop := storeSealsUptoRow.holds Tryz.pinned (OpenSpec.upto storeSealsSpec)

/-- 'strongroomlaw09.StoreRooms', WHERE WHAT IT READS IS OF BULK AT MOST 1048576: true; the input reads as it did. -/
def storeRoomsUptoRow : OpenClaim := { program := "ytolaojkcofbkhaagreat", sum := "1ca89d3b9f4a290e5f85d24e13f893800769bd1ce9cd4873d5c9f19a0b3497c0", func := "strongroom/strongroomlaw09.StoreRooms", spec := "storeRooms", unfollowed := true, recurses := true, plainKeys := false, apart := false, narrowed := true }
def StoreRoomsUptoSaid : Prop := storeRoomsUptoRow.holds Tryz.pinned (OpenSpec.upto storeRoomsSpec)

/-- 'strongroomlaw09.StoreAgain', WHERE WHAT IT READS IS OF BULK AT MOST 1048576: true; the input reads as it did. -/
def storeAgainUptoRow : OpenClaim := { program := "ytolaojkcofbkhaagreat", sum := "1ca89d3b9f4a290e5f85d24e13f893800769bd1ce9cd4873d5c9f19a0b3497c0", func := "strongroom/strongroomlaw09.StoreAgain", spec := "storeAgain", unfollowed := true, recurses := true, plainKeys := false, apart := false, narrowed := true }
def StoreAgainUptoSaid : Prop := storeAgainUptoRow.holds Tryz.pinned (OpenSpec.upto storeAgainSpec)

/-- 'strongroomlaw09.StoreKeys', WHERE WHAT IT READS IS OF BULK AT MOST 1048576: true; the input reads as it did. -/
def storeKeysUptoRow : OpenClaim := { program := "ytolaojkcofbkhaagreat", sum := "1ca89d3b9f4a290e5f85d24e13f893800769bd1ce9cd4873d5c9f19a0b3497c0", func := "strongroom/strongroomlaw09.StoreKeys", spec := "storeKeys", unfollowed := true, recurses := true, plainKeys := false, apart := false, narrowed := true }
def StoreKeysUptoSaid : Prop := storeKeysUptoRow.holds Tryz.pinned (OpenSpec.upto storeKeysSpec)

end Rows
end Go.Proofs.YtolaojkcofbkhaaGreat
