/-
  No cell of these rows narrows 'for every input' (looked for: loops, veiled, ifaces, maps, wideKeys, modest, calm, conditions, laid).
  DERIVED. THE GIVEN ROWS OF THIS SEAT. 6 by the template 'for every input the law returns true; each argument reads behind the call as it read before'; 0 by the template 'total and deterministic' (their statements: YtonfnkchpicoiaaTotals.lean).
  GIVEN WITH THE SEED: the statements are not yours to turn. If you find one false, say at which input.
  Laid BY PROGRAM, IN A SANDBOX (cutbox-rows.mjs): the forced cells as the released guide's own fill.sh prints them over the translation f89c773518d23cba… (all of the seat's roots in one cut). By AI agents, Wed Nov 11 2026. No macro, syntax, notation, axiom, sorry.
-/
import Derived.Test.YtonfnkchpicoiaaChecked
import GoSem.Claim
import GoSem.ClaimJoined
import GoSem.ClaimMapViews
import Derived.JoinedTies
import Derived.KernelRfl
namespace Go.Proofs.Ytonfnkchpicoiaa
/- THE CELL 'sum', in the pinned program and in every row, IS THE sha256 OF THE DUMP (.gsa) THAT YtonfnkchpicoiaaProg.lean LOADS. Nothing in Lean hashes anything: it is a label: what it is worth is what the hold of that sum in a sandbox is worth. -/
noncomputable def Try.pinned : Pinned := { name := "ytonfnkchpicoiaa", sum := "f89c773518d23cba072c2a189d341e88385e817327b325808b21fb6fb67dc2e3", checked := Try.checked }
namespace Rows
def none {H : Type} : Left H := { results := [], args := [] }

/-- 'smithylaw01.BigStands': WHATEVER THE INPUT: true; the input reads as it did. -/
def bigStandsSpec : ChangeSpec := { name := "bigStands", fn := fun _ => fun
  | [d1, d2] => { results := [.lit (.bool true)], args := [d1, d2] }
  | _ => none }
def bigStandsRow : OpenClaim := { program := "ytonfnkchpicoiaa", sum := "f89c773518d23cba072c2a189d341e88385e817327b325808b21fb6fb67dc2e3", func := "smithy/smithylaw01.BigStands", spec := "bigStands", apart := false }
def BigStandsSaid : Prop := bigStandsRow.holds Try.pinned (OpenSpec.ofChange bigStandsSpec)

/-- ITS FALSE NEIGHBOUR: 'it returns false'. Refute it at one input. -/
def bigStandsWrong : ChangeSpec := { name := "bigStands", fn := fun _ => fun
  | [d1, d2] => { results := [.lit (.bool false)], args := [d1, d2] }
  | _ => none }
def BigStandsWrongFalsely : Prop := bigStandsRow.holds Try.pinned (OpenSpec.ofChange bigStandsWrong)

/-- 'smithylaw01.BigReckons': WHATEVER THE INPUT: true; the input reads as it did. -/
def bigReckonsSpec : ChangeSpec := { name := "bigReckons", fn := fun _ => fun
  | [d1, d2] => { results := [.lit (.bool true)], args := [d1, d2] }
  | _ => none }
def bigReckonsRow : OpenClaim := { program := "ytonfnkchpicoiaa", sum := "f89c773518d23cba072c2a189d341e88385e817327b325808b21fb6fb67dc2e3", func := "smithy/smithylaw01.BigReckons", spec := "bigReckons", apart := false }
def BigReckonsSaid : Prop := bigReckonsRow.holds Try.pinned (OpenSpec.ofChange bigReckonsSpec)

/-- ITS FALSE NEIGHBOUR: 'it returns false'. Refute it at one input. -/
def bigReckonsWrong : ChangeSpec := { name := "bigReckons", fn := fun _ => fun
  | [d1, d2] => { results := [.lit (.bool false)], args := [d1, d2] }
  | _ => none }
def BigReckonsWrongFalsely : Prop := bigReckonsRow.holds Try.pinned (OpenSpec.ofChange bigReckonsWrong)

/-- 'smithylaw01.BigDivides': WHATEVER THE INPUT: true; the input reads as it did. -/
def bigDividesSpec : ChangeSpec := { name := "bigDivides", fn := fun _ => fun
  | [d1, d2] => { results := [.lit (.bool true)], args := [d1, d2] }
  | _ => none }
def bigDividesRow : OpenClaim := { program := "ytonfnkchpicoiaa", sum := "f89c773518d23cba072c2a189d341e88385e817327b325808b21fb6fb67dc2e3", func := "smithy/smithylaw01.BigDivides", spec := "bigDivides", apart := false }
def BigDividesSaid : Prop := bigDividesRow.holds Try.pinned (OpenSpec.ofChange bigDividesSpec)

/-- ITS FALSE NEIGHBOUR: 'it returns false'. Refute it at one input. -/
def bigDividesWrong : ChangeSpec := { name := "bigDivides", fn := fun _ => fun
  | [d1, d2] => { results := [.lit (.bool false)], args := [d1, d2] }
  | _ => none }
def BigDividesWrongFalsely : Prop := bigDividesRow.holds Try.pinned (OpenSpec.ofChange bigDividesWrong)

/-- 'smithylaw01.BigTexts': WHATEVER THE INPUT: true; the input reads as it did. -/
def bigTextsSpec : ChangeSpec := { name := "bigTexts", fn := fun _ => fun
  | [d1, d2] => { results := [.lit (.bool true)], args := [d1, d2] }
  | _ => none }
def bigTextsRow : OpenClaim := { program := "ytonfnkchpicoiaa", sum := "f89c773518d23cba072c2a189d341e88385e817327b325808b21fb6fb67dc2e3", func := "smithy/smithylaw01.BigTexts", spec := "bigTexts", apart := false }
def BigTextsSaid : Prop := bigTextsRow.holds Try.pinned (OpenSpec.ofChange bigTextsSpec)

/-- ITS FALSE NEIGHBOUR: 'it returns false'. Refute it at one input. -/
def bigTextsWrong : ChangeSpec := { name := "bigTexts", fn := fun _ => fun
  | [d1, d2] => { results := [.lit (.bool false)], args := [d1, d2] }
  | _ => none }
def BigTextsWrongFalsely : Prop := bigTextsRow.holds Try.pinned (OpenSpec.ofChange bigTextsWrong)

/-- 'smithylaw01.BigMemory': WHATEVER THE INPUT: true; the input reads as it did. -/
def bigMemorySpec : ChangeSpec := { name := "bigMemory", fn := fun _ => fun
  | [d1, d2] => { results := [.lit (.bool true)], args := [d1, d2] }
  | _ => none }
def bigMemoryRow : OpenClaim := { program := "ytonfnkchpicoiaa", sum := "f89c773518d23cba072c2a189d341e88385e817327b325808b21fb6fb67dc2e3", func := "smithy/smithylaw01.BigMemory", spec := "bigMemory", apart := false }
def BigMemorySaid : Prop := bigMemoryRow.holds Try.pinned (OpenSpec.ofChange bigMemorySpec)

/-- ITS FALSE NEIGHBOUR: 'it returns false'. Refute it at one input. -/
def bigMemoryWrong : ChangeSpec := { name := "bigMemory", fn := fun _ => fun
  | [d1, d2] => { results := [.lit (.bool false)], args := [d1, d2] }
  | _ => none }
def BigMemoryWrongFalsely : Prop := bigMemoryRow.holds Try.pinned (OpenSpec.ofChange bigMemoryWrong)

/-- 'smithylaw01.BigRing': WHATEVER THE INPUT: true; the input reads as it did. -/
def bigRingSpec : ChangeSpec := { name := "bigRing", fn := fun _ => fun
  | [d1, d2, d3] => { results := [.lit (.bool true)], args := [d1, d2, d3] }
  | _ => none }
def bigRingRow : OpenClaim := { program := "ytonfnkchpicoiaa", sum := "f89c773518d23cba072c2a189d341e88385e817327b325808b21fb6fb67dc2e3", func := "smithy/smithylaw01.BigRing", spec := "bigRing", apart := false }
def BigRingSaid : Prop := bigRingRow.holds Try.pinned (OpenSpec.ofChange bigRingSpec)

/-- ITS FALSE NEIGHBOUR: 'it returns false'. Refute it at one input. -/
def bigRingWrong : ChangeSpec := { name := "bigRing", fn := fun _ => fun
  | [d1, d2, d3] => { results := [.lit (.bool false)], args := [d1, d2, d3] }
  | _ => none }
def BigRingWrongFalsely : Prop := bigRingRow.holds Try.pinned (OpenSpec.ofChange bigRingWrong)

/- THE SECOND FORM. 'bulk': how many values and letters a reading holds, each counted each time it is reached (what is shared counts as often as it is met; a slice's spare places count too). A statement '..UptoSaid' is the law's where the arguments, and the package variables that the reading takes, are together of bulk at most 1048576: NARROWER than '..Said'. Prove '..Said' where nothing that the law and all that it calls make is longer than what came in: it says more and counts as full. Else prove '..UptoSaid'. A law counts once. -/
mutual
def uptoBulk {H : Type} : DataW H → Nat
  | .lit (.string bytes) => bytes.length + 1
  | .lit _ => 1
  | .nil => 1
  | .ptr d => uptoBulk d + 1
  | .slice elems spare => uptoBulkAll elems + uptoBulkAll spare + 1
  | .agg parts => uptoBulkAll parts + 1
  | .iface _ d => uptoBulk d + 1
  | .map entries => uptoBulkEntries entries + 1
  | .held _ => 1
def uptoBulkAll {H : Type} : List (DataW H) → Nat
  | [] => 0
  | d :: r => uptoBulk d + uptoBulkAll r
def uptoBulkEntries {H : Type} : List (Lit × DataW H) → Nat
  | [] => 0
  | x :: r => uptoBulkEntry x + uptoBulkEntries r
def uptoBulkEntry {H : Type} : Lit × DataW H → Nat
  | (.string bytes, d) => bytes.length + uptoBulk d + 1
  | (_, d) => uptoBulk d + 1
 end
def uptoSmall : (H : Type) → List (DataW H) → Bool := fun _ ds => decide (uptoBulkAll ds ≤ 1048576)
def OpenSpec.upto (s : _root_.Go.ChangeSpec) : _root_.Go.OpenSpec := { _root_.Go.OpenSpec.ofChange s with cond := some uptoSmall }

/-- 'smithylaw01.BigStands', WHERE WHAT IT READS IS OF BULK AT MOST 1048576: true; the input reads as it did. -/
def bigStandsUptoRow : OpenClaim := { program := "ytonfnkchpicoiaa", sum := "f89c773518d23cba072c2a189d341e88385e817327b325808b21fb6fb67dc2e3", func := "smithy/smithylaw01.BigStands", spec := "bigStands", apart := false, narrowed := true }
def BigStandsUptoSaid : Prop := bigStandsUptoRow.holds Try.pinned (OpenSpec.upto bigStandsSpec)

/-- 'smithylaw01.BigReckons', WHERE WHAT IT READS IS OF BULK AT MOST 1048576: true; the input reads as it did. -/
def bigReckonsUptoRow : OpenClaim := { program := "ytonfnkchpicoiaa", sum := "f89c773518d23cba072c2a189d341e88385e817327b325808b21fb6fb67dc2e3", func := "smithy/smithylaw01.BigReckons", spec := "bigReckons", apart := false, narrowed := true }
def BigReckonsUptoSaid : Prop := bigReckonsUptoRow.holds Try.pinned (OpenSpec.upto bigReckonsSpec)

/-- 'smithylaw01.BigDivides', WHERE WHAT IT READS IS OF BULK AT MOST 1048576: true; the input reads as it did. -/
def bigDividesUptoRow : OpenClaim := { program := "ytonfnkchpicoiaa", sum := "f89c773518d23cba072c2a189d341e88385e817327b325808b21fb6fb67dc2e3", func := "smithy/smithylaw01.BigDivides", spec := "bigDivides", apart := false, narrowed := true }
def BigDividesUptoSaid : Prop := bigDividesUptoRow.holds Try.pinned (OpenSpec.upto bigDividesSpec)

/-- 'smithylaw01.BigTexts', WHERE WHAT IT READS IS OF BULK AT MOST 1048576: true; the input reads as it did. -/
def bigTextsUptoRow : OpenClaim := { program := "ytonfnkchpicoiaa", sum := "f89c773518d23cba072c2a189d341e88385e817327b325808b21fb6fb67dc2e3", func := "smithy/smithylaw01.BigTexts", spec := "bigTexts", apart := false, narrowed := true }
def BigTextsUptoSaid : Prop := bigTextsUptoRow.holds Try.pinned (OpenSpec.upto bigTextsSpec)

/-- 'smithylaw01.BigMemory', WHERE WHAT IT READS IS OF BULK AT MOST 1048576: true; the input reads as it did. -/
def bigMemoryUptoRow : OpenClaim := { program := "ytonfnkchpicoiaa", sum := "f89c773518d23cba072c2a189d341e88385e817327b325808b21fb6fb67dc2e3", func := "smithy/smithylaw01.BigMemory", spec := "bigMemory", apart := false, narrowed := true }
def BigMemoryUptoSaid : Prop := bigMemoryUptoRow.holds Try.pinned (OpenSpec.upto bigMemorySpec)

/-- 'smithylaw01.BigRing', WHERE WHAT IT READS IS OF BULK AT MOST 1048576: true; the input reads as it did. -/
def bigRingUptoRow : OpenClaim := { program := "ytonfnkchpicoiaa", sum := "f89c773518d23cba072c2a189d341e88385e817327b325808b21fb6fb67dc2e3", func := "smithy/smithylaw01.BigRing", spec := "bigRing", apart := false, narrowed := true }
def BigRingUptoSaid : Prop := bigRingUptoRow.holds Try.pinned (OpenSpec.upto bigRingSpec)

end Rows
end Go.Proofs.Ytonfnkchpicoiaa
