/-
  No cell of these rows narrows 'for every input' (looked for: loops, veiled, ifaces, maps, wideKeys, modest, calm, conditions, laid).
  DERIVED. THE GIVEN ROWS OF THIS SEAT. 6 by the template 'for every input the law returns true; each argument reads behind the call as it read before'; 0 by the template 'total and deterministic' (their statements: YtcmidomgnbodiaaTotals.lean).
  GIVEN WITH THE SEED: the statements are not yours to turn. If you find one false, say at which input.
  Laid BY PROGRAM, IN A SANDBOX (cutbox-rows.mjs): the forced cells as the released guide's own fill.sh prints them over the translation 73587ec42ea477d1… (all of the seat's roots in one cut). By AI agents, Wed Nov 11 2026. No macro, syntax, notation, axiom, sorry.
-/
import Derived.Test.YtcmidomgnbodiaaChecked
import GoSem.Claim
import GoSem.ClaimJoined
import GoSem.ClaimMapViews
import Derived.JoinedTies
import Derived.KernelRfl
namespace Go.Proofs.Ytcmidomgnbodiaa
/- THE CELL 'sum', in the pinned program and in every row, IS THE sha256 OF THE DUMP (.gsa) THAT YtcmidomgnbodiaaProg.lean LOADS. Nothing in Lean hashes anything: it is a label: what it is worth is what the hold of that sum in a sandbox is worth. -/
noncomputable def Try.pinned : Pinned := { name := "ytcmidomgnbodiaa", sum := "73587ec42ea477d1e8dd12892d8019b4948eb4ddd189b9b0d312af85959795af", checked := Try.checked }
namespace Rows
def none {H : Type} : Left H := { results := [], args := [] }

/-- 'starlinglaw5.WatchPlays': WHATEVER THE INPUT: true; the input reads as it did. -/
def watchPlaysSpec : ChangeSpec := { name := "watchPlays", fn := fun _ => fun
  | [d] => { results := [.lit (.bool true)], args := [d] }
  | _ => none }
def watchPlaysRow : OpenClaim := { program := "ytcmidomgnbodiaa", sum := "73587ec42ea477d1e8dd12892d8019b4948eb4ddd189b9b0d312af85959795af", func := "starling/starlinglaw5.WatchPlays", spec := "watchPlays", unfollowed := true, recurses := true, apart := false }
def WatchPlaysSaid : Prop := watchPlaysRow.holds Try.pinned (OpenSpec.ofChange watchPlaysSpec)

/-- ITS FALSE NEIGHBOUR: 'it returns false'. Refute it at one input. -/
def watchPlaysWrong : ChangeSpec := { name := "watchPlays", fn := fun _ => fun
  | [d] => { results := [.lit (.bool false)], args := [d] }
  | _ => none }
def WatchPlaysWrongFalsely : Prop := watchPlaysRow.holds Try.pinned (OpenSpec.ofChange watchPlaysWrong)

/-- 'starlinglaw5.WatchNil': WHATEVER THE INPUT: true; the input reads as it did. -/
def watchNilSpec : ChangeSpec := { name := "watchNil", fn := fun _ => fun
  | [d] => { results := [.lit (.bool true)], args := [d] }
  | _ => none }
def watchNilRow : OpenClaim := { program := "ytcmidomgnbodiaa", sum := "73587ec42ea477d1e8dd12892d8019b4948eb4ddd189b9b0d312af85959795af", func := "starling/starlinglaw5.WatchNil", spec := "watchNil", unfollowed := true, recurses := true, apart := false }
def WatchNilSaid : Prop := watchNilRow.holds Try.pinned (OpenSpec.ofChange watchNilSpec)

/-- ITS FALSE NEIGHBOUR: 'it returns false'. Refute it at one input. -/
def watchNilWrong : ChangeSpec := { name := "watchNil", fn := fun _ => fun
  | [d] => { results := [.lit (.bool false)], args := [d] }
  | _ => none }
def WatchNilWrongFalsely : Prop := watchNilRow.holds Try.pinned (OpenSpec.ofChange watchNilWrong)

/-- 'starlinglaw5.WatchOrder': WHATEVER THE INPUT: true; the input reads as it did. -/
def watchOrderSpec : ChangeSpec := { name := "watchOrder", fn := fun _ => fun
  | [d1, d2] => { results := [.lit (.bool true)], args := [d1, d2] }
  | _ => none }
def watchOrderRow : OpenClaim := { program := "ytcmidomgnbodiaa", sum := "73587ec42ea477d1e8dd12892d8019b4948eb4ddd189b9b0d312af85959795af", func := "starling/starlinglaw5.WatchOrder", spec := "watchOrder", unfollowed := true, recurses := true, apart := false }
def WatchOrderSaid : Prop := watchOrderRow.holds Try.pinned (OpenSpec.ofChange watchOrderSpec)

/-- ITS FALSE NEIGHBOUR: 'it returns false'. Refute it at one input. -/
def watchOrderWrong : ChangeSpec := { name := "watchOrder", fn := fun _ => fun
  | [d1, d2] => { results := [.lit (.bool false)], args := [d1, d2] }
  | _ => none }
def WatchOrderWrongFalsely : Prop := watchOrderRow.holds Try.pinned (OpenSpec.ofChange watchOrderWrong)

/-- 'starlinglaw5.WatchSets': WHATEVER THE INPUT: true; the input reads as it did. -/
def watchSetsSpec : ChangeSpec := { name := "watchSets", fn := fun _ => fun
  | [d1, d2, d3, d4] => { results := [.lit (.bool true)], args := [d1, d2, d3, d4] }
  | _ => none }
def watchSetsRow : OpenClaim := { program := "ytcmidomgnbodiaa", sum := "73587ec42ea477d1e8dd12892d8019b4948eb4ddd189b9b0d312af85959795af", func := "starling/starlinglaw5.WatchSets", spec := "watchSets", unfollowed := true, recurses := true, apart := false }
def WatchSetsSaid : Prop := watchSetsRow.holds Try.pinned (OpenSpec.ofChange watchSetsSpec)

/-- ITS FALSE NEIGHBOUR: 'it returns false'. Refute it at one input. -/
def watchSetsWrong : ChangeSpec := { name := "watchSets", fn := fun _ => fun
  | [d1, d2, d3, d4] => { results := [.lit (.bool false)], args := [d1, d2, d3, d4] }
  | _ => none }
def WatchSetsWrongFalsely : Prop := watchSetsRow.holds Try.pinned (OpenSpec.ofChange watchSetsWrong)

/-- 'starlinglaw5.WatchApart': WHATEVER THE INPUT: true; the input reads as it did. -/
def watchApartSpec : ChangeSpec := { name := "watchApart", fn := fun _ => fun
  | [d1, d2, d3] => { results := [.lit (.bool true)], args := [d1, d2, d3] }
  | _ => none }
def watchApartRow : OpenClaim := { program := "ytcmidomgnbodiaa", sum := "73587ec42ea477d1e8dd12892d8019b4948eb4ddd189b9b0d312af85959795af", func := "starling/starlinglaw5.WatchApart", spec := "watchApart", unfollowed := true, recurses := true, apart := false }
def WatchApartSaid : Prop := watchApartRow.holds Try.pinned (OpenSpec.ofChange watchApartSpec)

/-- ITS FALSE NEIGHBOUR: 'it returns false'. Refute it at one input. -/
def watchApartWrong : ChangeSpec := { name := "watchApart", fn := fun _ => fun
  | [d1, d2, d3] => { results := [.lit (.bool false)], args := [d1, d2, d3] }
  | _ => none }
def WatchApartWrongFalsely : Prop := watchApartRow.holds Try.pinned (OpenSpec.ofChange watchApartWrong)

/-- 'starlinglaw5.WatchTies': WHATEVER THE INPUT: true; the input reads as it did. -/
def watchTiesSpec : ChangeSpec := { name := "watchTies", fn := fun _ => fun
  | [d1, d2] => { results := [.lit (.bool true)], args := [d1, d2] }
  | _ => none }
def watchTiesRow : OpenClaim := { program := "ytcmidomgnbodiaa", sum := "73587ec42ea477d1e8dd12892d8019b4948eb4ddd189b9b0d312af85959795af", func := "starling/starlinglaw5.WatchTies", spec := "watchTies", unfollowed := true, recurses := true, apart := false }
def WatchTiesSaid : Prop := watchTiesRow.holds Try.pinned (OpenSpec.ofChange watchTiesSpec)

/-- ITS FALSE NEIGHBOUR: 'it returns false'. Refute it at one input. -/
def watchTiesWrong : ChangeSpec := { name := "watchTies", fn := fun _ => fun
  | [d1, d2] => { results := [.lit (.bool false)], args := [d1, d2] }
  | _ => none }
def WatchTiesWrongFalsely : Prop := watchTiesRow.holds Try.pinned (OpenSpec.ofChange watchTiesWrong)

/- THE SECOND FORM. 'bulk': how many values and letters a reading holds, each counted each time it is reached (what is shared counts as often as it is met; a slice's spare places count too). A statement '..UptoSaid' is the law's where the arguments, and the package variables that the reading takes, are together of bulk at most 1048576: NARROWER than '..Said'. Prove '..Said' where nothing that the law and all that it calls make is longer than what came in: it says more and counts as full. Else prove '..UptoSaid'. A law counts once. -/
mutual
def uptoBulk {H : Type} : DataW H → Nat
  | .lit (.string bytes) => bytes.length + 1
  | .lit _ => 1
  | .nil => 1
  | .ptr d => uptoBulk d + 1
  | .slice elems spare => uptoBulkAll elems + uptoBulkAll spare + 1
  | .agg parts => uptoBulkAll parts + 1
  | .iface _ d => uptoBulk d + 1
  | .map entries => uptoBulkEntries entries + 1
  | .held _ => 1
def uptoBulkAll {H : Type} : List (DataW H) → Nat
  | [] => 0
  | d :: r => uptoBulk d + uptoBulkAll r
def uptoBulkEntries {H : Type} : List (Lit × DataW H) → Nat
  | [] => 0
  | x :: r => uptoBulkEntry x + uptoBulkEntries r
def uptoBulkEntry {H : Type} : Lit × DataW H → Nat
  | (.string bytes, d) => bytes.length + uptoBulk d + 1
  | (_, d) => uptoBulk d + 1
 end
def uptoSmall : (H : Type) → List (DataW H) → Bool := fun _ ds => decide (uptoBulkAll ds ≤ 1048576)
def OpenSpec.upto (s : _root_.Go.ChangeSpec) : _root_.Go.OpenSpec := { _root_.Go.OpenSpec.ofChange s with cond := some uptoSmall }

/-- 'starlinglaw5.WatchPlays', WHERE WHAT IT READS IS OF BULK AT MOST 1048576: true; the input reads as it did. -/
def watchPlaysUptoRow : OpenClaim := { program := "ytcmidomgnbodiaa", sum := "73587ec42ea477d1e8dd12892d8019b4948eb4ddd189b9b0d312af85959795af", func := "starling/starlinglaw5.WatchPlays", spec := "watchPlays", unfollowed := true, recurses := true, apart := false, narrowed := true }
def WatchPlaysUptoSaid : Prop := watchPlaysUptoRow.holds Try.pinned (OpenSpec.upto watchPlaysSpec)

/-- 'starlinglaw5.WatchNil', WHERE WHAT IT READS IS OF BULK AT MOST 1048576: true; the input reads as it did. -/
def watchNilUptoRow : OpenClaim := { program := "ytcmidomgnbodiaa", sum := "73587ec42ea477d1e8dd12892d8019b4948eb4ddd189b9b0d312af85959795af", func := "starling/starlinglaw5.WatchNil", spec := "watchNil", unfollowed := true, recurses := true, apart := false, narrowed := true }
def WatchNilUptoSaid : Prop := watchNilUptoRow.holds Try.pinned (OpenSpec.upto watchNilSpec)

/-- 'starlinglaw5.WatchOrder', WHERE WHAT IT READS IS OF BULK AT MOST 1048576: true; the input reads as it did. -/
def watchOrderUptoRow : OpenClaim := { program := "ytcmidomgnbodiaa", sum := "73587ec42ea477d1e8dd12892d8019b4948eb4ddd189b9b0d312af85959795af", func := "starling/starlinglaw5.WatchOrder", spec := "watchOrder", unfollowed := true, recurses := true, apart := false, narrowed := true }
def WatchOrderUptoSaid : Prop := watchOrderUptoRow.holds Try.pinned (OpenSpec.upto watchOrderSpec)

/-- 'starlinglaw5.WatchSets', WHERE WHAT IT READS IS OF BULK AT MOST 1048576: true; the input reads as it did. -/
def watchSetsUptoRow : OpenClaim := { program := "ytcmidomgnbodiaa", sum := "73587ec42ea477d1e8dd12892d8019b4948eb4ddd189b9b0d312af85959795af", func := "starling/starlinglaw5.WatchSets", spec := "watchSets", unfollowed := true, recurses := true, apart := false, narrowed := true }
def WatchSetsUptoSaid : Prop := watchSetsUptoRow.holds Try.pinned (OpenSpec.upto watchSetsSpec)

/-- 'starlinglaw5.WatchApart', WHERE WHAT IT READS IS OF BULK AT MOST 1048576: true; the input reads as it did. -/
def watchApartUptoRow : OpenClaim := { program := "ytcmidomgnbodiaa", sum := "73587ec42ea477d1e8dd12892d8019b4948eb4ddd189b9b0d312af85959795af", func := "starling/starlinglaw5.WatchApart", spec := "watchApart", unfollowed := true, recurses := true, apart := false, narrowed := true }
def WatchApartUptoSaid : Prop := watchApartUptoRow.holds Try.pinned (OpenSpec.upto watchApartSpec)

/-- 'starlinglaw5.WatchTies', WHERE WHAT IT READS IS OF BULK AT MOST 1048576: true; the input reads as it did. -/
def watchTiesUptoRow : OpenClaim := { program := "ytcmidomgnbodiaa", sum := "73587ec42ea477d1e8dd12892d8019b4948eb4ddd189b9b0d312af85959795af", func := "starling/starlinglaw5.WatchTies", spec := "watchTies", unfollowed := true, recurses := true, apart := false, narrowed := true }
def WatchTiesUptoSaid : Prop := watchTiesUptoRow.holds Try.pinned (OpenSpec.upto watchTiesSpec)

end Rows
end Go.Proofs.Ytcmidomgnbodiaa
