/-
  No cell of these rows narrows 'for every input' (looked for: loops, veiled, ifaces, maps, wideKeys, modest, calm, conditions, laid).
  DERIVED. THE GIVEN ROWS OF THIS SEAT. 3 by the template 'for every input the law returns true; each argument reads behind the call as it read before'; 0 by the template 'total and deterministic' (their statements: YthaabnlhhfnalaaTotals.lean).
  GIVEN WITH THE SEED: the statements are not yours to turn. If you find one false, say at which input.
  Laid BY PROGRAM, IN A SANDBOX (cutbox-rows.mjs): the forced cells as the released guide's own fill.sh prints them over the translation 4256b00e7cbede68… (all of the seat's roots in one cut). By AI agents, Wed Nov 11 2026. No macro, syntax, notation, axiom, sorry.
-/
import Derived.Test.YthaabnlhhfnalaaChecked
import GoSem.Claim
import GoSem.ClaimJoined
import GoSem.ClaimMapViews
import Derived.JoinedTies
import Derived.KernelRfl
namespace Go.Proofs.Ythaabnlhhfnalaa
/- THE CELL 'sum', in the pinned program and in every row, IS THE sha256 OF THE DUMP (.gsa) THAT YthaabnlhhfnalaaProg.lean LOADS. Nothing in Lean hashes anything: it is a label: what it is worth is what the hold of that sum in a sandbox is worth. -/
noncomputable def Try.pinned : Pinned := { name := "ythaabnlhhfnalaa", sum := "4256b00e7cbede68dd55d3f4739a612ba306521f18339b12c6ec5fddc3822e18", checked := Try.checked }
namespace Rows
def none {H : Type} : Left H := { results := [], args := [] }

/-- 'starlinglaw18.VaultLasts': WHATEVER THE INPUT: true; the input reads as it did. -/
def vaultLastsSpec : ChangeSpec := { name := "vaultLasts", fn := fun _ => fun
  | [d] => { results := [.lit (.bool true)], args := [d] }
  | _ => none }
def vaultLastsRow : OpenClaim := { program := "ythaabnlhhfnalaa", sum := "4256b00e7cbede68dd55d3f4739a612ba306521f18339b12c6ec5fddc3822e18", func := "starling/starlinglaw18.VaultLasts", spec := "vaultLasts", inPlace := ["slices.overlaps[starling/api.Value]"], unfollowed := true, recurses := true, plainKeys := false, apart := false }
def VaultLastsSaid : Prop := vaultLastsRow.holds Try.pinned (OpenSpec.ofChange vaultLastsSpec)

/-- ITS FALSE NEIGHBOUR: 'it returns false'. Refute it at one input. -/
def vaultLastsWrong : ChangeSpec := { name := "vaultLasts", fn := fun _ => fun
  | [d] => { results := [.lit (.bool false)], args := [d] }
  | _ => none }
def VaultLastsWrongFalsely : Prop := vaultLastsRow.holds Try.pinned (OpenSpec.ofChange vaultLastsWrong)

/-- 'starlinglaw18.VaultKeys': WHATEVER THE INPUT: true; the input reads as it did. -/
def vaultKeysSpec : ChangeSpec := { name := "vaultKeys", fn := fun _ => fun
  | [d1, d2] => { results := [.lit (.bool true)], args := [d1, d2] }
  | _ => none }
def vaultKeysRow : OpenClaim := { program := "ythaabnlhhfnalaa", sum := "4256b00e7cbede68dd55d3f4739a612ba306521f18339b12c6ec5fddc3822e18", func := "starling/starlinglaw18.VaultKeys", spec := "vaultKeys", inPlace := ["slices.overlaps[starling/api.Value]"], unfollowed := true, recurses := true, plainKeys := false, apart := false }
def VaultKeysSaid : Prop := vaultKeysRow.holds Try.pinned (OpenSpec.ofChange vaultKeysSpec)

/-- ITS FALSE NEIGHBOUR: 'it returns false'. Refute it at one input. -/
def vaultKeysWrong : ChangeSpec := { name := "vaultKeys", fn := fun _ => fun
  | [d1, d2] => { results := [.lit (.bool false)], args := [d1, d2] }
  | _ => none }
def VaultKeysWrongFalsely : Prop := vaultKeysRow.holds Try.pinned (OpenSpec.ofChange vaultKeysWrong)

/-- 'starlinglaw18.VaultMerges': WHATEVER THE INPUT: true; the input reads as it did. -/
def vaultMergesSpec : ChangeSpec := { name := "vaultMerges", fn := fun _ => fun
  | [d1, d2] => { results := [.lit (.bool true)], args := [d1, d2] }
  | _ => none }
def vaultMergesRow : OpenClaim := { program := "ythaabnlhhfnalaa", sum := "4256b00e7cbede68dd55d3f4739a612ba306521f18339b12c6ec5fddc3822e18", func := "starling/starlinglaw18.VaultMerges", spec := "vaultMerges", inPlace := ["slices.overlaps[starling/api.Value]"], unfollowed := true, recurses := true, plainKeys := false, apart := false }
def VaultMergesSaid : Prop := vaultMergesRow.holds Try.pinned (OpenSpec.ofChange vaultMergesSpec)

/-- ITS FALSE NEIGHBOUR: 'it returns false'. Refute it at one input. -/
def vaultMergesWrong : ChangeSpec := { name := "vaultMerges", fn := fun _ => fun
  | [d1, d2] => { results := [.lit (.bool false)], args := [d1, d2] }
  | _ => none }
def VaultMergesWrongFalsely : Prop := vaultMergesRow.holds Try.pinned (OpenSpec.ofChange vaultMergesWrong)

/- THE SECOND FORM. 'bulk': how many values and letters a reading holds, each counted each time it is reached (what is shared counts as often as it is met; a slice's spare places count too). A statement '..UptoSaid' is the law's where the arguments, and the package variables that the reading takes, are together of bulk at most 1048576: NARROWER than '..Said'. Prove '..Said' where nothing that the law and all that it calls make is longer than what came in: it says more and counts as full. Else prove '..UptoSaid'. A law counts once. -/
mutual
def uptoBulk {H : Type} : DataW H → Nat
  | .lit (.string bytes) => bytes.length + 1
  | .lit _ => 1
  | .nil => 1
  | .ptr d => uptoBulk d + 1
  | .slice elems spare => uptoBulkAll elems + uptoBulkAll spare + 1
  | .agg parts => uptoBulkAll parts + 1
  | .iface _ d => uptoBulk d + 1
  | .map entries => uptoBulkEntries entries + 1
  | .held _ => 1
def uptoBulkAll {H : Type} : List (DataW H) → Nat
  | [] => 0
  | d :: r => uptoBulk d + uptoBulkAll r
def uptoBulkEntries {H : Type} : List (Lit × DataW H) → Nat
  | [] => 0
  | x :: r => uptoBulkEntry x + uptoBulkEntries r
def uptoBulkEntry {H : Type} : Lit × DataW H → Nat
  | (.string bytes, d) => bytes.length + uptoBulk d + 1
  | (_, d) => uptoBulk d + 1
 end
def uptoSmall : (H : Type) → List (DataW H) → Bool := fun _ ds => decide (uptoBulkAll ds ≤ 1048576)
def OpenSpec.upto (s : _root_.Go.ChangeSpec) : _root_.Go.OpenSpec := { _root_.Go.OpenSpec.ofChange s with cond := some uptoSmall }

/-- 'starlinglaw18.VaultLasts', WHERE WHAT IT READS IS OF BULK AT MOST 1048576: true; the input reads as it did. -/
def vaultLastsUptoRow : OpenClaim := { program := "ythaabnlhhfnalaa", sum := "4256b00e7cbede68dd55d3f4739a612ba306521f18339b12c6ec5fddc3822e18", func := "starling/starlinglaw18.VaultLasts", spec := "vaultLasts", inPlace := ["slices.overlaps[starling/api.Value]"], unfollowed := true, recurses := true, plainKeys := false, apart := false, narrowed := true }
def VaultLastsUptoSaid : Prop := vaultLastsUptoRow.holds Try.pinned (OpenSpec.upto vaultLastsSpec)

/-- 'starlinglaw18.VaultKeys', WHERE WHAT IT READS IS OF BULK AT MOST 1048576: true; the input reads as it did. -/
def vaultKeysUptoRow : OpenClaim := { program := "ythaabnlhhfnalaa", sum := "4256b00e7cbede68dd55d3f4739a612ba306521f18339b12c6ec5fddc3822e18", func := "starling/starlinglaw18.VaultKeys", spec := "vaultKeys", inPlace := ["slices.overlaps[starling/api.Value]"], unfollowed := true, recurses := true, plainKeys := false, apart := false, narrowed := true }
def VaultKeysUptoSaid : Prop := vaultKeysUptoRow.holds Try.pinned (OpenSpec.upto vaultKeysSpec)

/-- 'starlinglaw18.VaultMerges', WHERE WHAT IT READS IS OF BULK AT MOST 1048576: true; the input reads as it did. -/
def vaultMergesUptoRow : OpenClaim := { program := "ythaabnlhhfnalaa", sum := "4256b00e7cbede68dd55d3f4739a612ba306521f18339b12c6ec5fddc3822e18", func := "starling/starlinglaw18.VaultMerges", spec := "vaultMerges", inPlace := ["slices.overlaps[starling/api.Value]"], unfollowed := true, recurses := true, plainKeys := false, apart := false, narrowed := true }
def VaultMergesUptoSaid : Prop := vaultMergesUptoRow.holds Try.pinned (OpenSpec.upto vaultMergesSpec)

end Rows
end Go.Proofs.Ythaabnlhhfnalaa
