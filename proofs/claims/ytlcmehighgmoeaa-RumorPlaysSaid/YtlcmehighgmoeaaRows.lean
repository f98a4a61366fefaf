/-
  No cell of these rows narrows 'for every input' (looked for: loops, veiled, ifaces, maps, wideKeys, modest, calm, conditions, laid).
  DERIVED. THE GIVEN ROWS OF THIS SEAT. 6 by the template 'for every input the law returns true; each argument reads behind the call as it read before'; 0 by the template 'total and deterministic' (their statements: YtlcmehighgmoeaaTotals.lean).
  GIVEN WITH THE SEED: the statements are not yours to turn. If you find one false, say at which input.
  Laid BY PROGRAM, IN A SANDBOX (cutbox-rows.mjs): the forced cells as the released guide's own fill.sh prints them over the translation 29fa17ea91139de5… (all of the seat's roots in one cut). By AI agents, Wed Nov 11 2026. No macro, syntax, notation, axiom, sorry.
-/
import Derived.Test.YtlcmehighgmoeaaChecked
import GoSem.Claim
import GoSem.ClaimJoined
import GoSem.ClaimMapViews
import Derived.JoinedTies
import Derived.KernelRfl
namespace Go.Proofs.Ytlcmehighgmoeaa
/- THE CELL 'sum', in the pinned program and in every row, IS THE sha256 OF THE DUMP (.gsa) THAT YtlcmehighgmoeaaProg.lean LOADS. Nothing in Lean hashes anything: it is a label: what it is worth is what the hold of that sum in a sandbox is worth. -/
noncomputable def Try.pinned : Pinned := { name := "ytlcmehighgmoeaa", sum := "29fa17ea91139de5d1ffe8e7c30a302984b68c4a5070467b45c58c76ec7b9b65", checked := Try.checked }
namespace Rows
def none {H : Type} : Left H := { results := [], args := [] }

/-- 'starlinglaw3.RumorPlays': WHATEVER THE INPUT: true; the input reads as it did. -/
def rumorPlaysSpec : ChangeSpec := { name := "rumorPlays", fn := fun _ => fun
  | [d1, d2] => { results := [.lit (.bool true)], args := [d1, d2] }
  | _ => none }
def rumorPlaysRow : OpenClaim := { program := "ytlcmehighgmoeaa", sum := "29fa17ea91139de5d1ffe8e7c30a302984b68c4a5070467b45c58c76ec7b9b65", func := "starling/starlinglaw3.RumorPlays", spec := "rumorPlays", unfollowed := true, recurses := true, apart := false }
def RumorPlaysSaid : Prop := rumorPlaysRow.holds Try.pinned (OpenSpec.ofChange rumorPlaysSpec)

/-- ITS FALSE NEIGHBOUR: 'it returns false'. Refute it at one input. -/
def rumorPlaysWrong : ChangeSpec := { name := "rumorPlays", fn := fun _ => fun
  | [d1, d2] => { results := [.lit (.bool false)], args := [d1, d2] }
  | _ => none }
def RumorPlaysWrongFalsely : Prop := rumorPlaysRow.holds Try.pinned (OpenSpec.ofChange rumorPlaysWrong)

/-- 'starlinglaw3.RumorNil': WHATEVER THE INPUT: true; the input reads as it did. -/
def rumorNilSpec : ChangeSpec := { name := "rumorNil", fn := fun _ => fun
  | [d] => { results := [.lit (.bool true)], args := [d] }
  | _ => none }
def rumorNilRow : OpenClaim := { program := "ytlcmehighgmoeaa", sum := "29fa17ea91139de5d1ffe8e7c30a302984b68c4a5070467b45c58c76ec7b9b65", func := "starling/starlinglaw3.RumorNil", spec := "rumorNil", unfollowed := true, recurses := true, apart := false }
def RumorNilSaid : Prop := rumorNilRow.holds Try.pinned (OpenSpec.ofChange rumorNilSpec)

/-- ITS FALSE NEIGHBOUR: 'it returns false'. Refute it at one input. -/
def rumorNilWrong : ChangeSpec := { name := "rumorNil", fn := fun _ => fun
  | [d] => { results := [.lit (.bool false)], args := [d] }
  | _ => none }
def RumorNilWrongFalsely : Prop := rumorNilRow.holds Try.pinned (OpenSpec.ofChange rumorNilWrong)

/-- 'starlinglaw3.RumorOften': WHATEVER THE INPUT: true; the input reads as it did. -/
def rumorOftenSpec : ChangeSpec := { name := "rumorOften", fn := fun _ => fun
  | [d1, d2, d3] => { results := [.lit (.bool true)], args := [d1, d2, d3] }
  | _ => none }
def rumorOftenRow : OpenClaim := { program := "ytlcmehighgmoeaa", sum := "29fa17ea91139de5d1ffe8e7c30a302984b68c4a5070467b45c58c76ec7b9b65", func := "starling/starlinglaw3.RumorOften", spec := "rumorOften", unfollowed := true, recurses := true, apart := false }
def RumorOftenSaid : Prop := rumorOftenRow.holds Try.pinned (OpenSpec.ofChange rumorOftenSpec)

/-- ITS FALSE NEIGHBOUR: 'it returns false'. Refute it at one input. -/
def rumorOftenWrong : ChangeSpec := { name := "rumorOften", fn := fun _ => fun
  | [d1, d2, d3] => { results := [.lit (.bool false)], args := [d1, d2, d3] }
  | _ => none }
def RumorOftenWrongFalsely : Prop := rumorOftenRow.holds Try.pinned (OpenSpec.ofChange rumorOftenWrong)

/-- 'starlinglaw3.RumorLouder': WHATEVER THE INPUT: true; the input reads as it did. -/
def rumorLouderSpec : ChangeSpec := { name := "rumorLouder", fn := fun _ => fun
  | [d1, d2] => { results := [.lit (.bool true)], args := [d1, d2] }
  | _ => none }
def rumorLouderRow : OpenClaim := { program := "ytlcmehighgmoeaa", sum := "29fa17ea91139de5d1ffe8e7c30a302984b68c4a5070467b45c58c76ec7b9b65", func := "starling/starlinglaw3.RumorLouder", spec := "rumorLouder", unfollowed := true, recurses := true, apart := false }
def RumorLouderSaid : Prop := rumorLouderRow.holds Try.pinned (OpenSpec.ofChange rumorLouderSpec)

/-- ITS FALSE NEIGHBOUR: 'it returns false'. Refute it at one input. -/
def rumorLouderWrong : ChangeSpec := { name := "rumorLouder", fn := fun _ => fun
  | [d1, d2] => { results := [.lit (.bool false)], args := [d1, d2] }
  | _ => none }
def RumorLouderWrongFalsely : Prop := rumorLouderRow.holds Try.pinned (OpenSpec.ofChange rumorLouderWrong)

/-- 'starlinglaw3.RumorFirst': WHATEVER THE INPUT: true; the input reads as it did. -/
def rumorFirstSpec : ChangeSpec := { name := "rumorFirst", fn := fun _ => fun
  | [d1, d2] => { results := [.lit (.bool true)], args := [d1, d2] }
  | _ => none }
def rumorFirstRow : OpenClaim := { program := "ytlcmehighgmoeaa", sum := "29fa17ea91139de5d1ffe8e7c30a302984b68c4a5070467b45c58c76ec7b9b65", func := "starling/starlinglaw3.RumorFirst", spec := "rumorFirst", unfollowed := true, recurses := true, apart := false }
def RumorFirstSaid : Prop := rumorFirstRow.holds Try.pinned (OpenSpec.ofChange rumorFirstSpec)

/-- ITS FALSE NEIGHBOUR: 'it returns false'. Refute it at one input. -/
def rumorFirstWrong : ChangeSpec := { name := "rumorFirst", fn := fun _ => fun
  | [d1, d2] => { results := [.lit (.bool false)], args := [d1, d2] }
  | _ => none }
def RumorFirstWrongFalsely : Prop := rumorFirstRow.holds Try.pinned (OpenSpec.ofChange rumorFirstWrong)

/-- 'starlinglaw3.RumorBack': WHATEVER THE INPUT: true; the input reads as it did. -/
def rumorBackSpec : ChangeSpec := { name := "rumorBack", fn := fun _ => fun
  | [d1, d2] => { results := [.lit (.bool true)], args := [d1, d2] }
  | _ => none }
def rumorBackRow : OpenClaim := { program := "ytlcmehighgmoeaa", sum := "29fa17ea91139de5d1ffe8e7c30a302984b68c4a5070467b45c58c76ec7b9b65", func := "starling/starlinglaw3.RumorBack", spec := "rumorBack", unfollowed := true, recurses := true, apart := false }
def RumorBackSaid : Prop := rumorBackRow.holds Try.pinned (OpenSpec.ofChange rumorBackSpec)

/-- ITS FALSE NEIGHBOUR: 'it returns false'. Refute it at one input. -/
def rumorBackWrong : ChangeSpec := { name := "rumorBack", fn := fun _ => fun
  | [d1, d2] => { results := [.lit (.bool false)], args := [d1, d2] }
  | _ => none }
def RumorBackWrongFalsely : Prop := rumorBackRow.holds Try.pinned (OpenSpec.ofChange rumorBackWrong)

/- THE SECOND FORM. 'bulk': how many values and letters a reading holds, each counted each time it is reached (what is shared counts as often as it is met; a slice's spare places count too). A statement '..UptoSaid' is the law's where the arguments, and the package variables that the reading takes, are together of bulk at most 1048576: NARROWER than '..Said'. Prove '..Said' where nothing that the law and all that it calls make is longer than what came in: it says more and counts as full. Else prove '..UptoSaid'. A law counts once. -/
mutual
def uptoBulk {H : Type} : DataW H → Nat
  | .lit (.string bytes) => bytes.length + 1
  | .lit _ => 1
  | .nil => 1
  | .ptr d => uptoBulk d + 1
  | .slice elems spare => uptoBulkAll elems + uptoBulkAll spare + 1
  | .agg parts => uptoBulkAll parts + 1
  | .iface _ d => uptoBulk d + 1
  | .map entries => uptoBulkEntries entries + 1
  | .held _ => 1
def uptoBulkAll {H : Type} : List (DataW H) → Nat
  | [] => 0
  | d :: r => uptoBulk d + uptoBulkAll r
def uptoBulkEntries {H : Type} : List (Lit × DataW H) → Nat
  | [] => 0
  | x :: r => uptoBulkEntry x + uptoBulkEntries r
def uptoBulkEntry {H : Type} : Lit × DataW H → Nat
  | (.string bytes, d) => bytes.length + uptoBulk d + 1
  | (_, d) => uptoBulk d + 1
 end
def uptoSmall : (H : Type) → List (DataW H) → Bool := fun _ ds => decide (uptoBulkAll ds ≤ 1048576)
def OpenSpec.upto (s : _root_.Go.ChangeSpec) : _root_.Go.OpenSpec := { _root_.Go.OpenSpec.ofChange s with cond := some uptoSmall }

/-- 'starlinglaw3.RumorPlays', WHERE WHAT IT READS IS OF BULK AT MOST 1048576: true; the input reads as it did. -/
def rumorPlaysUptoRow : OpenClaim := { program := "ytlcmehighgmoeaa", sum := "29fa17ea91139de5d1ffe8e7c30a302984b68c4a5070467b45c58c76ec7b9b65", func := "starling/starlinglaw3.RumorPlays", spec := "rumorPlays", unfollowed := true, recurses := true, apart := false, narrowed := true }
def RumorPlaysUptoSaid : Prop := rumorPlaysUptoRow.holds Try.pinned (OpenSpec.upto rumorPlaysSpec)

/-- 'starlinglaw3.RumorNil', WHERE WHAT IT READS IS OF BULK AT MOST 1048576: true; the input reads as it did. -/
def rumorNilUptoRow : OpenClaim := { program := "ytlcmehighgmoeaa", sum := "29fa17ea91139de5d1ffe8e7c30a302984b68c4a5070467b45c58c76ec7b9b65", func := "starling/starlinglaw3.RumorNil", spec := "rumorNil", unfollowed := true, recurses := true, apart := false, narrowed := true }
def RumorNilUptoSaid : Prop := rumorNilUptoRow.holds Try.pinned (OpenSpec.upto rumorNilSpec)

/-- 'starlinglaw3.RumorOften', WHERE WHAT IT READS IS OF BULK AT MOST 1048576: true; the input reads as it did. -/
def rumorOftenUptoRow : OpenClaim := { program := "ytlcmehighgmoeaa", sum := "29fa17ea91139de5d1ffe8e7c30a302984b68c4a5070467b45c58c76ec7b9b65", func := "starling/starlinglaw3.RumorOften", spec := "rumorOften", unfollowed := true, recurses := true, apart := false, narrowed := true }
def RumorOftenUptoSaid : Prop := rumorOftenUptoRow.holds Try.pinned (OpenSpec.upto rumorOftenSpec)

/-- 'starlinglaw3.RumorLouder', WHERE WHAT IT READS IS OF BULK AT MOST 1048576: true; the input reads as it did. -/
def rumorLouderUptoRow : OpenClaim := { program := "ytlcmehighgmoeaa", sum := "29fa17ea91139de5d1ffe8e7c30a302984b68c4a5070467b45c58c76ec7b9b65", func := "starling/starlinglaw3.RumorLouder", spec := "rumorLouder", unfollowed := true, recurses := true, apart := false, narrowed := true }
def RumorLouderUptoSaid : Prop := rumorLouderUptoRow.holds Try.pinned (OpenSpec.upto rumorLouderSpec)

/-- 'starlinglaw3.RumorFirst', WHERE WHAT IT READS IS OF BULK AT MOST 1048576: true; the input reads as it did. -/
def rumorFirstUptoRow : OpenClaim := { program := "ytlcmehighgmoeaa", sum := "29fa17ea91139de5d1ffe8e7c30a302984b68c4a5070467b45c58c76ec7b9b65", func := "starling/starlinglaw3.RumorFirst", spec := "rumorFirst", unfollowed := true, recurses := true, apart := false, narrowed := true }
def RumorFirstUptoSaid : Prop := rumorFirstUptoRow.holds Try.pinned (OpenSpec.upto rumorFirstSpec)

/-- 'starlinglaw3.RumorBack', WHERE WHAT IT READS IS OF BULK AT MOST 1048576: true; the input reads as it did. -/
def rumorBackUptoRow : OpenClaim := { program := "ytlcmehighgmoeaa", sum := "29fa17ea91139de5d1ffe8e7c30a302984b68c4a5070467b45c58c76ec7b9b65", func := "starling/starlinglaw3.RumorBack", spec := "rumorBack", unfollowed := true, recurses := true, apart := false, narrowed := true }
def RumorBackUptoSaid : Prop := rumorBackUptoRow.holds Try.pinned (OpenSpec.upto rumorBackSpec)

end Rows
end Go.Proofs.Ytlcmehighgmoeaa
