/-
  No cell of these rows narrows 'for every input' (looked for: loops, veiled, ifaces, maps, wideKeys, modest, calm, conditions, laid).
  DERIVED. THE GIVEN ROWS OF THIS SEAT. 3 by the template 'for every input the law returns true; each argument reads behind the call as it read before'; 0 by the template 'total and deterministic' (their statements: YtphkchjejbffeaaGreatTotals.lean).
  GIVEN WITH THE SEED: the statements are not yours to turn. If you find one false, say at which input.
  Laid BY PROGRAM, IN A SANDBOX (cutbox-rows.mjs): the forced cells as the released guide's own fill.sh prints them over the translation f281e47c16242104… (all of the seat's roots in one cut). By AI agents, Wed Nov 11 2026. No macro, syntax, notation, axiom, sorry.
-/
import Derived.Test.YtphkchjejbffeaaGreatChecked
import GoSem.Claim
import GoSem.ClaimJoined
import GoSem.ClaimMapViews
import Derived.JoinedTies
import Derived.KernelRfl
namespace Go.Proofs.YtphkchjejbffeaaGreat
/- THE CELL 'sum', in the pinned program and in every row, IS THE sha256 OF THE DUMP (.gsa) THAT YtphkchjejbffeaaGreatProg.lean LOADS. Nothing in Lean hashes anything: it is a label: what it is worth is what the hold of that sum in a sandbox is worth. -/
noncomputable def Tryz.pinned : Pinned := { name := "ytphkchjejbffeaagreat", sum := "f281e47c162421046cc8ce5b1b536497d9e11ab3302988fee5b9f4270efbb122", checked := Tryz.checked }
namespace Rows
def none {H : Type} : Left H := { results := [], args := [] }

/-- 'bourselaw.Entered': WHATEVER THE INPUT: true; the input reads as it did. -/
def enteredSpec : ChangeSpec := { name := "entered", fn := fun _ => fun
  | [d] => { results := [.lit (.bool true)], args := [d] }
  | _ => none }
def enteredRow : OpenClaim := { program := "ytphkchjejbffeaagreat", sum := "f281e47c162421046cc8ce5b1b536497d9e11ab3302988fee5b9f4270efbb122", func := "bourse/bourselaw.Entered", spec := "entered", unfollowed := true, recurses := true, apart := false }
def EnteredSaid : Prop := enteredRow.holds Tryz.pinned (OpenSpec.ofChange enteredSpec)

/-- ITS FALSE NEIGHBOUR: 'it returns false'. Refute it at one input. -/
def enteredWrong : ChangeSpec := { name := "entered", fn := fun _ => fun
  | [d] => { results := [.lit (.bool false)], args := [d] }
  | _ => none }
def EnteredWrongFalsely : Prop := enteredRow.holds Tryz.pinned (OpenSpec.ofChange enteredWrong)

/-- 'boursekeep.Taped': WHATEVER THE INPUT: true; the input reads as it did. -/
def tapedSpec : ChangeSpec := { name := "taped", fn := fun _ => fun
  | [d1, d2] => { results := [.lit (.bool true)], args := [d1, d2] }
  | _ => none }
def tapedRow : OpenClaim := { program := "ytphkchjejbffeaagreat", sum := "f281e47c162421046cc8ce5b1b536497d9e11ab3302988fee5b9f4270efbb122", func := "bourse/boursekeep.Taped", spec := "taped", unfollowed := true, recurses := true, apart := false }
def TapedSaid : Prop := tapedRow.holds Tryz.pinned (OpenSpec.ofChange tapedSpec)

/-- ITS FALSE NEIGHBOUR: 'it returns false'. Refute it at one input. -/
def tapedWrong : ChangeSpec := { name := "taped", fn := fun _ => fun
  | [d1, d2] => { results := [.lit (.bool false)], args := [d1, d2] }
  | _ => none }
def TapedWrongFalsely : Prop := tapedRow.holds Tryz.pinned (OpenSpec.ofChange tapedWrong)

/-- 'bourselaw.All': WHATEVER THE INPUT: true; the input reads as it did. -/
def allSpec : ChangeSpec := { name := "all", fn := fun _ => fun
  | [d] => { results := [.lit (.bool true)], args := [d] }
  | _ => none }
def allRow : OpenClaim := { program := "ytphkchjejbffeaagreat", sum := "f281e47c162421046cc8ce5b1b536497d9e11ab3302988fee5b9f4270efbb122", func := "bourse/bourselaw.All", spec := "all", unfollowed := true, recurses := true, apart := false }
def AllSaid : Prop := allRow.holds Tryz.pinned (OpenSpec.ofChange allSpec)

/-- ITS FALSE NEIGHBOUR: 'it returns false'. Refute it at one input. -/
def allWrong : ChangeSpec := { name := "all", fn := fun _ => fun
  | [d] => { results := [.lit (.bool false)], args := [d] }
  | _ => none }
def AllWrongFalsely : Prop := allRow.holds Tryz.pinned (OpenSpec.ofChange allWrong)

/- THE SECOND FORM. 'bulk': how many values and letters a reading holds, each counted each time it is reached (what is shared counts as often as it is met; a slice's spare places count too). A statement '..UptoSaid' is the law's where the arguments, and the package variables that the reading takes, are together of bulk at most 1048576: NARROWER than '..Said'. Prove '..Said' where nothing that the law and all that it calls make is longer than what came in: it says more and counts as full. Else prove '..UptoSaid'. A law counts once. -/
mutual
def uptoBulk {H : Type} : DataW H → Nat
  | .lit (.string bytes) => bytes.length + 1
  | .lit _ => 1
  | .nil => 1
  | .ptr d => uptoBulk d + 1
  | .slice elems spare => uptoBulkAll elems + uptoBulkAll spare + 1
  | .agg parts => uptoBulkAll parts + 1
  | .iface _ d => uptoBulk d + 1
  | .map entries => uptoBulkEntries entries + 1
  | .held _ => 1
def uptoBulkAll {H : Type} : List (DataW H) → Nat
  | [] => 0
  | d :: r => uptoBulk d + uptoBulkAll r
def uptoBulkEntries {H : Type} : List (Lit × DataW H) → Nat
  | [] => 0
  | x :: r => uptoBulkEntry x + uptoBulkEntries r
def uptoBulkEntry {H : Type} : Lit × DataW H → Nat
  | (.string bytes, d) => bytes.length + uptoBulk d + 1
  | (_, d) => uptoBulk d + 1
 end
def uptoSmall : (H : Type) → List (DataW H) → Bool := fun _ ds => decide (uptoBulkAll ds ≤ 1048576)
def OpenSpec.upto (s : _root_.Go.ChangeSpec) : _root_.Go.OpenSpec := { _root_.Go.OpenSpec.ofChange s with cond := some uptoSmall }

/-- 'bourselaw.Entered', WHERE WHAT IT READS IS OF BULK AT MOST 1048576: true; the input reads as it did. -/
def enteredUptoRow : OpenClaim := { program := "ytphkchjejbffeaagreat", sum := "f281e47c162421046cc8ce5b1b536497d9e11ab3302988fee5b9f4270efbb122", func := "bourse/bourselaw.Entered", spec := "entered", unfollowed := true, recurses := true, apart := false, narrowed := true }
def EnteredUptoSaid : Prop := enteredUptoRow.holds Tryz.pinned (OpenSpec.upto enteredSpec)

/-- 'boursekeep.Taped', WHERE WHAT IT READS IS OF BULK AT MOST 1048576: true; the input reads as it did. -/
def tapedUptoRow : OpenClaim := { program := "ytphkchjejbffeaagreat", sum := "f281e47c162421046cc8ce5b1b536497d9e11ab3302988fee5b9f4270efbb122", func := "bourse/boursekeep.Taped", spec := "taped", unfollowed := true, recurses := true, apart := false, narrowed := true }
def TapedUptoSaid : Prop := tapedUptoRow.holds Tryz.pinned (OpenSpec.upto tapedSpec)

/-- 'bourselaw.All', WHERE WHAT IT READS IS OF BULK AT MOST 1048576: true; the input reads as it did. -/
def allUptoRow : OpenClaim := { program := "ytphkchjejbffeaagreat", sum := "f281e47c162421046cc8ce5b1b536497d9e11ab3302988fee5b9f4270efbb122", func := "bourse/bourselaw.All", spec := "all", unfollowed := true, recurses := true, apart := false, narrowed := true }
def AllUptoSaid : Prop := allUptoRow.holds Tryz.pinned (OpenSpec.upto allSpec)

end Rows
end Go.Proofs.YtphkchjejbffeaaGreat
