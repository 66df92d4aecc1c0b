/-
  No cell of these rows narrows 'for every input' (looked for: loops, veiled, ifaces, maps, wideKeys, modest, calm, conditions, laid).
  DERIVED. THE GIVEN ROWS OF THIS SEAT. 7 by the template 'for every input the law returns true; each argument reads behind the call as it read before'; 0 by the template 'total and deterministic' (their statements: YtphkchjejbffeaaTotals.lean).
  GIVEN WITH THE SEED: the statements are not yours to turn. If you find one false, say at which input.
  Laid BY PROGRAM, IN A SANDBOX (cutbox-rows.mjs): the forced cells as the released guide's own fill.sh prints them over the translation 2b7994c478ef57f3… (all of the seat's roots in one cut). By AI agents, Wed Nov 11 2026. No macro, syntax, notation, axiom, sorry.
-/
import Derived.Test.YtphkchjejbffeaaChecked
import GoSem.Claim
import GoSem.ClaimJoined
import GoSem.ClaimMapViews
import Derived.JoinedTies
import Derived.KernelRfl
namespace Go.Proofs.Ytphkchjejbffeaa
/- THE CELL 'sum', in the pinned program and in every row, IS THE sha256 OF THE DUMP (.gsa) THAT YtphkchjejbffeaaProg.lean LOADS. Nothing in Lean hashes anything: it is a label: what it is worth is what the hold of that sum in a sandbox is worth. -/
noncomputable def Try.pinned : Pinned := { name := "ytphkchjejbffeaa", sum := "2b7994c478ef57f3456177c17cf08a3ad639d2d6c0cd33ebe2625c23e14656ea", checked := Try.checked }
namespace Rows
def none {H : Type} : Left H := { results := [], args := [] }

/-- 'boursekeep.First': WHATEVER THE INPUT: true; the input reads as it did. -/
def firstSpec : ChangeSpec := { name := "first", fn := fun _ => fun
  | [d1, d2, d3] => { results := [.lit (.bool true)], args := [d1, d2, d3] }
  | _ => none }
def firstRow : OpenClaim := { program := "ytphkchjejbffeaa", sum := "2b7994c478ef57f3456177c17cf08a3ad639d2d6c0cd33ebe2625c23e14656ea", func := "bourse/boursekeep.First", spec := "first", apart := false }
def FirstSaid : Prop := firstRow.holds Try.pinned (OpenSpec.ofChange firstSpec)

/-- ITS FALSE NEIGHBOUR: 'it returns false'. Refute it at one input. -/
def firstWrong : ChangeSpec := { name := "first", fn := fun _ => fun
  | [d1, d2, d3] => { results := [.lit (.bool false)], args := [d1, d2, d3] }
  | _ => none }
def FirstWrongFalsely : Prop := firstRow.holds Try.pinned (OpenSpec.ofChange firstWrong)

/-- 'boursekeep.Refused': WHATEVER THE INPUT: true; the input reads as it did. -/
def refusedSpec : ChangeSpec := { name := "refused", fn := fun _ => fun
  | [d1, d2, d3, d4] => { results := [.lit (.bool true)], args := [d1, d2, d3, d4] }
  | _ => none }
def refusedRow : OpenClaim := { program := "ytphkchjejbffeaa", sum := "2b7994c478ef57f3456177c17cf08a3ad639d2d6c0cd33ebe2625c23e14656ea", func := "bourse/boursekeep.Refused", spec := "refused", apart := false }
def RefusedSaid : Prop := refusedRow.holds Try.pinned (OpenSpec.ofChange refusedSpec)

/-- ITS FALSE NEIGHBOUR: 'it returns false'. Refute it at one input. -/
def refusedWrong : ChangeSpec := { name := "refused", fn := fun _ => fun
  | [d1, d2, d3, d4] => { results := [.lit (.bool false)], args := [d1, d2, d3, d4] }
  | _ => none }
def RefusedWrongFalsely : Prop := refusedRow.holds Try.pinned (OpenSpec.ofChange refusedWrong)

/-- 'boursekeep.Shut': WHATEVER THE INPUT: true; the input reads as it did. -/
def shutSpec : ChangeSpec := { name := "shut", fn := fun _ => fun
  | [d1, d2, d3, d4] => { results := [.lit (.bool true)], args := [d1, d2, d3, d4] }
  | _ => none }
def shutRow : OpenClaim := { program := "ytphkchjejbffeaa", sum := "2b7994c478ef57f3456177c17cf08a3ad639d2d6c0cd33ebe2625c23e14656ea", func := "bourse/boursekeep.Shut", spec := "shut", apart := false }
def ShutSaid : Prop := shutRow.holds Try.pinned (OpenSpec.ofChange shutSpec)

/-- ITS FALSE NEIGHBOUR: 'it returns false'. Refute it at one input. -/
def shutWrong : ChangeSpec := { name := "shut", fn := fun _ => fun
  | [d1, d2, d3, d4] => { results := [.lit (.bool false)], args := [d1, d2, d3, d4] }
  | _ => none }
def ShutWrongFalsely : Prop := shutRow.holds Try.pinned (OpenSpec.ofChange shutWrong)

/-- 'boursekeep.Uncrossed': WHATEVER THE INPUT: true; the input reads as it did. -/
def uncrossedSpec : ChangeSpec := { name := "uncrossed", fn := fun _ => fun
  | [d1, d2] => { results := [.lit (.bool true)], args := [d1, d2] }
  | _ => none }
def uncrossedRow : OpenClaim := { program := "ytphkchjejbffeaa", sum := "2b7994c478ef57f3456177c17cf08a3ad639d2d6c0cd33ebe2625c23e14656ea", func := "bourse/boursekeep.Uncrossed", spec := "uncrossed", apart := false }
def UncrossedSaid : Prop := uncrossedRow.holds Try.pinned (OpenSpec.ofChange uncrossedSpec)

/-- ITS FALSE NEIGHBOUR: 'it returns false'. Refute it at one input. -/
def uncrossedWrong : ChangeSpec := { name := "uncrossed", fn := fun _ => fun
  | [d1, d2] => { results := [.lit (.bool false)], args := [d1, d2] }
  | _ => none }
def UncrossedWrongFalsely : Prop := uncrossedRow.holds Try.pinned (OpenSpec.ofChange uncrossedWrong)

/-- 'boursekeep.Conserved': WHATEVER THE INPUT: true; the input reads as it did. -/
def conservedSpec : ChangeSpec := { name := "conserved", fn := fun _ => fun
  | [d1, d2] => { results := [.lit (.bool true)], args := [d1, d2] }
  | _ => none }
def conservedRow : OpenClaim := { program := "ytphkchjejbffeaa", sum := "2b7994c478ef57f3456177c17cf08a3ad639d2d6c0cd33ebe2625c23e14656ea", func := "bourse/boursekeep.Conserved", spec := "conserved", apart := false }
def ConservedSaid : Prop := conservedRow.holds Try.pinned (OpenSpec.ofChange conservedSpec)

/-- ITS FALSE NEIGHBOUR: 'it returns false'. Refute it at one input. -/
def conservedWrong : ChangeSpec := { name := "conserved", fn := fun _ => fun
  | [d1, d2] => { results := [.lit (.bool false)], args := [d1, d2] }
  | _ => none }
def ConservedWrongFalsely : Prop := conservedRow.holds Try.pinned (OpenSpec.ofChange conservedWrong)

/-- 'boursekeep.Chunked': WHATEVER THE INPUT: true; the input reads as it did. -/
def chunkedSpec : ChangeSpec := { name := "chunked", fn := fun _ => fun
  | [d1, d2, d3, d4] => { results := [.lit (.bool true)], args := [d1, d2, d3, d4] }
  | _ => none }
def chunkedRow : OpenClaim := { program := "ytphkchjejbffeaa", sum := "2b7994c478ef57f3456177c17cf08a3ad639d2d6c0cd33ebe2625c23e14656ea", func := "bourse/boursekeep.Chunked", spec := "chunked", apart := false }
def ChunkedSaid : Prop := chunkedRow.holds Try.pinned (OpenSpec.ofChange chunkedSpec)

/-- ITS FALSE NEIGHBOUR: 'it returns false'. Refute it at one input. -/
def chunkedWrong : ChangeSpec := { name := "chunked", fn := fun _ => fun
  | [d1, d2, d3, d4] => { results := [.lit (.bool false)], args := [d1, d2, d3, d4] }
  | _ => none }
def ChunkedWrongFalsely : Prop := chunkedRow.holds Try.pinned (OpenSpec.ofChange chunkedWrong)

/-- 'bourselaw.Builds': WHATEVER THE INPUT: true; the input reads as it did. -/
def buildsSpec : ChangeSpec := { name := "builds", fn := fun _ => fun
  | [d1, d2] => { results := [.lit (.bool true)], args := [d1, d2] }
  | _ => none }
def buildsRow : OpenClaim := { program := "ytphkchjejbffeaa", sum := "2b7994c478ef57f3456177c17cf08a3ad639d2d6c0cd33ebe2625c23e14656ea", func := "bourse/bourselaw.Builds", spec := "builds", unfollowed := true, recurses := true, apart := false }
def BuildsSaid : Prop := buildsRow.holds Try.pinned (OpenSpec.ofChange buildsSpec)

/-- ITS FALSE NEIGHBOUR: 'it returns false'. Refute it at one input. -/
def buildsWrong : ChangeSpec := { name := "builds", fn := fun _ => fun
  | [d1, d2] => { results := [.lit (.bool false)], args := [d1, d2] }
  | _ => none }
def BuildsWrongFalsely : Prop := buildsRow.holds Try.pinned (OpenSpec.ofChange buildsWrong)

/- THE SECOND FORM. 'bulk': how many values and letters a reading holds, each counted each time it is reached (what is shared counts as often as it is met; a slice's spare places count too). A statement '..UptoSaid' is the law's where the arguments, and the package variables that the reading takes, are together of bulk at most 1048576: NARROWER than '..Said'. Prove '..Said' where nothing that the law and all that it calls make is longer than what came in: it says more and counts as full. Else prove '..UptoSaid'. A law counts once. -/
mutual
def uptoBulk {H : Type} : DataW H → Nat
  | .lit (.string bytes) => bytes.length + 1
  | .lit _ => 1
  | .nil => 1
  | .ptr d => uptoBulk d + 1
  | .slice elems spare => uptoBulkAll elems + uptoBulkAll spare + 1
  | .agg parts => uptoBulkAll parts + 1
  | .iface _ d => uptoBulk d + 1
  | .map entries => uptoBulkEntries entries + 1
  | .held _ => 1
def uptoBulkAll {H : Type} : List (DataW H) → Nat
  | [] => 0
  | d :: r => uptoBulk d + uptoBulkAll r
def uptoBulkEntries {H : Type} : List (Lit × DataW H) → Nat
  | [] => 0
  | x :: r => uptoBulkEntry x + uptoBulkEntries r
def uptoBulkEntry {H : Type} : Lit × DataW H → Nat
  | (.string bytes, d) => bytes.length + uptoBulk d + 1
  | (_, d) => uptoBulk d + 1
 end
def uptoSmall : (H : Type) → List (DataW H) → Bool := fun _ ds => decide (uptoBulkAll ds ≤ 1048576)
def OpenSpec.upto (s : _root_.Go.ChangeSpec) : _root_.Go.OpenSpec := { _root_.Go.OpenSpec.ofChange s with cond := some uptoSmall }

/-- 'boursekeep.First', WHERE WHAT IT READS IS OF BULK AT MOST 1048576: true; the input reads as it did. -/
def firstUptoRow : OpenClaim := { program := "ytphkchjejbffeaa", sum := "2b7994c478ef57f3456177c17cf08a3ad639d2d6c0cd33ebe2625c23e14656ea", func := "bourse/boursekeep.First", spec := "first", apart := false, narrowed := true }
def FirstUptoSaid : Prop := firstUptoRow.holds Try.pinned (OpenSpec.upto firstSpec)

/-- 'boursekeep.Refused', WHERE WHAT IT READS IS OF BULK AT MOST 1048576: true; the input reads as it did. -/
def refusedUptoRow : OpenClaim := { program := "ytphkchjejbffeaa", sum := "2b7994c478ef57f3456177c17cf08a3ad639d2d6c0cd33ebe2625c23e14656ea", func := "bourse/boursekeep.Refused", spec := "refused", apart := false, narrowed := true }
def RefusedUptoSaid : Prop := refusedUptoRow.holds Try.pinned (OpenSpec.upto refusedSpec)

/-- 'boursekeep.Shut', WHERE WHAT IT READS IS OF BULK AT MOST 1048576: true; the input reads as it did. -/
def shutUptoRow : OpenClaim := { program := "ytphkchjejbffeaa", sum := "2b7994c478ef57f3456177c17cf08a3ad639d2d6c0cd33ebe2625c23e14656ea", func := "bourse/boursekeep.Shut", spec := "shut", apart := false, narrowed := true }
def ShutUptoSaid : Prop := shutUptoRow.holds Try.pinned (OpenSpec.upto shutSpec)

/-- 'boursekeep.Uncrossed', WHERE WHAT IT READS IS OF BULK AT MOST 1048576: true; the input reads as it did. -/
def uncrossedUptoRow : OpenClaim := { program := "ytphkchjejbffeaa", sum := "2b7994c478ef57f3456177c17cf08a3ad639d2d6c0cd33ebe2625c23e14656ea", func := "bourse/boursekeep.Uncrossed", spec := "uncrossed", apart := false, narrowed := true }
def UncrossedUptoSaid : Prop := uncrossedUptoRow.holds Try.pinned (OpenSpec.upto uncrossedSpec)

/-- 'boursekeep.Conserved', WHERE WHAT IT READS IS OF BULK AT MOST 1048576: true; the input reads as it did. -/
def conservedUptoRow : OpenClaim := { program := "ytphkchjejbffeaa", sum := "2b7994c478ef57f3456177c17cf08a3ad639d2d6c0cd33ebe2625c23e14656ea", func := "bourse/boursekeep.Conserved", spec := "conserved", apart := false, narrowed := true }
def ConservedUptoSaid : Prop := conservedUptoRow.holds Try.pinned (OpenSpec.upto conservedSpec)

/-- 'boursekeep.Chunked', WHERE WHAT IT READS IS OF BULK AT MOST 1048576: true; the input reads as it did. -/
def chunkedUptoRow : OpenClaim := { program := "ytphkchjejbffeaa", sum := "2b7994c478ef57f3456177c17cf08a3ad639d2d6c0cd33ebe2625c23e14656ea", func := "bourse/boursekeep.Chunked", spec := "chunked", apart := false, narrowed := true }
def ChunkedUptoSaid : Prop := chunkedUptoRow.holds Try.pinned (OpenSpec.upto chunkedSpec)

/-- 'bourselaw.Builds', WHERE WHAT IT READS IS OF BULK AT MOST 1048576: true; the input reads as it did. -/
def buildsUptoRow : OpenClaim := { program := "ytphkchjejbffeaa", sum := "2b7994c478ef57f3456177c17cf08a3ad639d2d6c0cd33ebe2625c23e14656ea", func := "bourse/bourselaw.Builds", spec := "builds", unfollowed := true, recurses := true, apart := false, narrowed := true }
def BuildsUptoSaid : Prop := buildsUptoRow.holds Try.pinned (OpenSpec.upto buildsSpec)

end Rows
end Go.Proofs.Ytphkchjejbffeaa
