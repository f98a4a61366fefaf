/-
  No cell of these rows narrows 'for every input' (looked for: loops, veiled, ifaces, maps, wideKeys, modest, calm, conditions, laid).
  DERIVED. THE GIVEN ROWS OF THIS SEAT. 5 by the template 'for every input the law returns true; each argument reads behind the call as it read before'; 0 by the template 'total and deterministic' (their statements: YtcbnhakfijiioaaGreatTotals.lean).
  GIVEN WITH THE SEED: the statements are not yours to turn. If you find one false, say at which input.
  Laid BY PROGRAM, IN A SANDBOX (cutbox-rows.mjs): the forced cells as the released guide's own fill.sh prints them over the translation 807c711a0defebc5… (all of the seat's roots in one cut). By AI agents, Wed Nov 11 2026. No macro, syntax, notation, axiom, sorry.
-/
import Derived.Test.YtcbnhakfijiioaaGreatChecked
import GoSem.Claim
import GoSem.ClaimJoined
import GoSem.ClaimMapViews
import Derived.JoinedTies
import Derived.KernelRfl
namespace Go.Proofs.YtcbnhakfijiioaaGreat
/- THE CELL 'sum', in the pinned program and in every row, IS THE sha256 OF THE DUMP (.gsa) THAT YtcbnhakfijiioaaGreatProg.lean LOADS. Nothing in Lean hashes anything: it is a label: what it is worth is what the hold of that sum in a sandbox is worth. -/
noncomputable def Tryz.pinned : Pinned := { name := "ytcbnhakfijiioaagreat", sum := "807c711a0defebc5fe1d7dce2bf5a207fe937b4c04b1fc20e49f33c190b3044f", checked := Tryz.checked }
namespace Rows
def none {H : Type} : Left H := { results := [], args := [] }

/-- 'starlinglaw19.FoldPlays': WHATEVER THE INPUT: true; the input reads as it did. -/
def foldPlaysSpec : ChangeSpec := { name := "foldPlays", fn := fun _ => fun
  | [d1, d2] => { results := [.lit (.bool true)], args := [d1, d2] }
  | _ => none }
def foldPlaysRow : OpenClaim := { program := "ytcbnhakfijiioaagreat", sum := "807c711a0defebc5fe1d7dce2bf5a207fe937b4c04b1fc20e49f33c190b3044f", func := "starling/starlinglaw19.FoldPlays", spec := "foldPlays", inPlace := ["slices.overlaps[starling/api.Value]"], unfollowed := true, recurses := true, apart := false }
def FoldPlaysSaid : Prop := foldPlaysRow.holds Tryz.pinned (OpenSpec.ofChange foldPlaysSpec)

/-- ITS FALSE NEIGHBOUR: 'it returns false'. Refute it at one input. -/
def foldPlaysWrong : ChangeSpec := { name := "foldPlays", fn := fun _ => fun
  | [d1, d2] => { results := [.lit (.bool false)], args := [d1, d2] }
  | _ => none }
def FoldPlaysWrongFalsely : Prop := foldPlaysRow.holds Tryz.pinned (OpenSpec.ofChange foldPlaysWrong)

/-- 'starlinglaw19.FoldNil': WHATEVER THE INPUT: true; the input reads as it did. -/
def foldNilSpec : ChangeSpec := { name := "foldNil", fn := fun _ => fun
  | [d1, d2] => { results := [.lit (.bool true)], args := [d1, d2] }
  | _ => none }
def foldNilRow : OpenClaim := { program := "ytcbnhakfijiioaagreat", sum := "807c711a0defebc5fe1d7dce2bf5a207fe937b4c04b1fc20e49f33c190b3044f", func := "starling/starlinglaw19.FoldNil", spec := "foldNil", inPlace := ["slices.overlaps[starling/api.Value]"], unfollowed := true, recurses := true, apart := false }
def FoldNilSaid : Prop := foldNilRow.holds Tryz.pinned (OpenSpec.ofChange foldNilSpec)

/-- ITS FALSE NEIGHBOUR: 'it returns false'. Refute it at one input. -/
def foldNilWrong : ChangeSpec := { name := "foldNil", fn := fun _ => fun
  | [d1, d2] => { results := [.lit (.bool false)], args := [d1, d2] }
  | _ => none }
def FoldNilWrongFalsely : Prop := foldNilRow.holds Tryz.pinned (OpenSpec.ofChange foldNilWrong)

/-- 'starlinglaw19.FoldAll': WHATEVER THE INPUT: true; the input reads as it did. -/
def foldAllSpec : ChangeSpec := { name := "foldAll", fn := fun _ => fun
  | [d1, d2] => { results := [.lit (.bool true)], args := [d1, d2] }
  | _ => none }
def foldAllRow : OpenClaim := { program := "ytcbnhakfijiioaagreat", sum := "807c711a0defebc5fe1d7dce2bf5a207fe937b4c04b1fc20e49f33c190b3044f", func := "starling/starlinglaw19.FoldAll", spec := "foldAll", inPlace := ["slices.overlaps[starling/api.Value]"], unfollowed := true, recurses := true, apart := false }
def FoldAllSaid : Prop := foldAllRow.holds Tryz.pinned (OpenSpec.ofChange foldAllSpec)

/-- ITS FALSE NEIGHBOUR: 'it returns false'. Refute it at one input. -/
def foldAllWrong : ChangeSpec := { name := "foldAll", fn := fun _ => fun
  | [d1, d2] => { results := [.lit (.bool false)], args := [d1, d2] }
  | _ => none }
def FoldAllWrongFalsely : Prop := foldAllRow.holds Tryz.pinned (OpenSpec.ofChange foldAllWrong)

/-- 'starlinglaw19.FoldOrder': WHATEVER THE INPUT: true; the input reads as it did. -/
def foldOrderSpec : ChangeSpec := { name := "foldOrder", fn := fun _ => fun
  | [d1, d2] => { results := [.lit (.bool true)], args := [d1, d2] }
  | _ => none }
def foldOrderRow : OpenClaim := { program := "ytcbnhakfijiioaagreat", sum := "807c711a0defebc5fe1d7dce2bf5a207fe937b4c04b1fc20e49f33c190b3044f", func := "starling/starlinglaw19.FoldOrder", spec := "foldOrder", inPlace := ["slices.overlaps[starling/api.Value]"], unfollowed := true, recurses := true, apart := false }
def FoldOrderSaid : Prop := foldOrderRow.holds Tryz.pinned (OpenSpec.ofChange foldOrderSpec)

/-- ITS FALSE NEIGHBOUR: 'it returns false'. Refute it at one input. -/
def foldOrderWrong : ChangeSpec := { name := "foldOrder", fn := fun _ => fun
  | [d1, d2] => { results := [.lit (.bool false)], args := [d1, d2] }
  | _ => none }
def FoldOrderWrongFalsely : Prop := foldOrderRow.holds Tryz.pinned (OpenSpec.ofChange foldOrderWrong)

/-- 'starlinglaw19.FoldDrops': WHATEVER THE INPUT: true; the input reads as it did. -/
def foldDropsSpec : ChangeSpec := { name := "foldDrops", fn := fun _ => fun
  | [d1, d2] => { results := [.lit (.bool true)], args := [d1, d2] }
  | _ => none }
def foldDropsRow : OpenClaim := { program := "ytcbnhakfijiioaagreat", sum := "807c711a0defebc5fe1d7dce2bf5a207fe937b4c04b1fc20e49f33c190b3044f", func := "starling/starlinglaw19.FoldDrops", spec := "foldDrops", inPlace := ["slices.overlaps[starling/api.Value]"], unfollowed := true, recurses := true, apart := false }
def FoldDropsSaid : Prop := foldDropsRow.holds Tryz.pinned (OpenSpec.ofChange foldDropsSpec)

/-- ITS FALSE NEIGHBOUR: 'it returns false'. Refute it at one input. -/
def foldDropsWrong : ChangeSpec := { name := "foldDrops", fn := fun _ => fun
  | [d1, d2] => { results := [.lit (.bool false)], args := [d1, d2] }
  | _ => none }
def FoldDropsWrongFalsely : Prop := foldDropsRow.holds Tryz.pinned (OpenSpec.ofChange foldDropsWrong)

/- THE SECOND FORM. 'bulk': how many values and letters a reading holds, each counted each time it is reached (what is shared counts as often as it is met; a slice's spare places count too). A statement '..UptoSaid' is the law's where the arguments, and the package variables that the reading takes, are together of bulk at most 1048576: NARROWER than '..Said'. Prove '..Said' where nothing that the law and all that it calls make is longer than what came in: it says more and counts as full. Else prove '..UptoSaid'. A law counts once. -/
mutual
def uptoBulk {H : Type} : DataW H → Nat
  | .lit (.string bytes) => bytes.length + 1
  | .lit _ => 1
  | .nil => 1
  | .ptr d => uptoBulk d + 1
  | .slice elems spare => uptoBulkAll elems + uptoBulkAll spare + 1
  | .agg parts => uptoBulkAll parts + 1
  | .iface _ d => uptoBulk d + 1
  | .map entries => uptoBulkEntries entries + 1
  | .held _ => 1
def uptoBulkAll {H : Type} : List (DataW H) → Nat
  | [] => 0
  | d :: r => uptoBulk d + uptoBulkAll r
def uptoBulkEntries {H : Type} : List (Lit × DataW H) → Nat
  | [] => 0
  | x :: r => uptoBulkEntry x + uptoBulkEntries r
def uptoBulkEntry {H : Type} : Lit × DataW H → Nat
  | (.string bytes, d) => bytes.length + uptoBulk d + 1
  | (_, d) => uptoBulk d + 1
 end
def uptoSmall : (H : Type) → List (DataW H) → Bool := fun _ ds => decide (uptoBulkAll ds ≤ 1048576)
def OpenSpec.upto (s : _root_.Go.ChangeSpec) : _root_.Go.OpenSpec := { _root_.Go.OpenSpec.ofChange s with cond := some uptoSmall }

/-- 'starlinglaw19.FoldPlays', WHERE WHAT IT READS IS OF BULK AT MOST 1048576: true; the input reads as it did. -/
def foldPlaysUptoRow : OpenClaim := { program := "ytcbnhakfijiioaagreat", sum := "807c711a0defebc5fe1d7dce2bf5a207fe937b4c04b1fc20e49f33c190b3044f", func := "starling/starlinglaw19.FoldPlays", spec := "foldPlays", inPlace := ["slices.overlaps[starling/api.Value]"], unfollowed := true, recurses := true, apart := false, narrowed := true }
def FoldPlaysUptoSaid : Prop := foldPlaysUptoRow.holds Tryz.pinned (OpenSpec.upto foldPlaysSpec)

/-- 'starlinglaw19.FoldNil', WHERE WHAT IT READS IS OF BULK AT MOST 1048576: true; the input reads as it did. -/
def foldNilUptoRow : OpenClaim := { program := "ytcbnhakfijiioaagreat", sum := "807c711a0defebc5fe1d7dce2bf5a207fe937b4c04b1fc20e49f33c190b3044f", func := "starling/starlinglaw19.FoldNil", spec := "foldNil", inPlace := ["slices.overlaps[starling/api.Value]"], unfollowed := true, recurses := true, apart := false, narrowed := true }
def FoldNilUptoSaid : Prop := foldNilUptoRow.holds Tryz.pinned (OpenSpec.upto foldNilSpec)

/-- 'starlinglaw19.FoldAll', WHERE WHAT IT READS IS OF BULK AT MOST 1048576: true; the input reads as it did. -/
def foldAllUptoRow : OpenClaim := { program := "ytcbnhakfijiioaagreat", sum := "807c711a0defebc5fe1d7dce2bf5a207fe937b4c04b1fc20e49f33c190b3044f", func := "starling/starlinglaw19.FoldAll", spec := "foldAll", inPlace := ["slices.overlaps[starling/api.Value]"], unfollowed := true, recurses := true, apart := false, narrowed := true }
def FoldAllUptoSaid : Prop := foldAllUptoRow.holds Tryz.pinned (OpenSpec.upto foldAllSpec)

/-- 'starlinglaw19.FoldOrder', WHERE WHAT IT READS IS OF BULK AT MOST 1048576: true; the input reads as it did. -/
def foldOrderUptoRow : OpenClaim := { program := "ytcbnhakfijiioaagreat", sum := "807c711a0defebc5fe1d7dce2bf5a207fe937b4c04b1fc20e49f33c190b3044f", func := "starling/starlinglaw19.FoldOrder", spec := "foldOrder", inPlace := ["slices.overlaps[starling/api.Value]"], unfollowed := true, recurses := true, apart := false, narrowed := true }
def FoldOrderUptoSaid : Prop := foldOrderUptoRow.holds Tryz.pinned (OpenSpec.upto foldOrderSpec)

/-- 'starlinglaw19.FoldDrops', WHERE WHAT IT READS IS OF BULK AT MOST 1048576: true; the input reads as it did. -/
def foldDropsUptoRow : OpenClaim := { program := "ytcbnhakfijiioaagreat", sum := "807c711a0defebc5fe1d7dce2bf5a207fe937b4c04b1fc20e49f33c190b3044f", func := "starling/starlinglaw19.FoldDrops", spec := "foldDrops", inPlace := ["slices.overlaps[starling/api.Value]"], unfollowed := true, recurses := true, apart := false, narrowed := true }
def FoldDropsUptoSaid : Prop := foldDropsUptoRow.holds Tryz.pinned (OpenSpec.upto foldDropsSpec)

end Rows
end Go.Proofs.YtcbnhakfijiioaaGreat
