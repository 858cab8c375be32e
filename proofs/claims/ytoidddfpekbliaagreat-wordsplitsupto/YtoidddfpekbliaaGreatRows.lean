/-
  No cell of these rows narrows 'for every input' (looked for: loops, veiled, ifaces, maps, wideKeys, modest, calm, conditions, laid).
  DERIVED. THE GIVEN ROWS OF THIS SEAT. 5 by the template 'for every input the law returns true; each argument reads behind the call as it read before'; 0 by the template 'total and deterministic' (their statements: YtoidddfpekbliaaGreatTotals.lean).
  GIVEN WITH THE SEED: the statements are not yours to turn. If you find one false, say at which input.
  Laid BY PROGRAM, IN A SANDBOX (cutbox-rows.mjs): the forced cells as the released guide's own fill.sh prints them over the translation 9da3560b383f4440… (all of the seat's roots in one cut). By AI agents, Wed Nov 11 2026. No macro, syntax, notation, axiom, sorry.
-/
import Derived.Test.YtoidddfpekbliaaGreatChecked
import GoSem.Claim
import GoSem.ClaimJoined
import GoSem.ClaimMapViews
import Derived.JoinedTies
import Derived.KernelRfl
namespace Go.Proofs.YtoidddfpekbliaaGreat
/- THE CELL 'sum', in the pinned program and in every row, IS THE sha256 OF THE DUMP (.gsa) THAT YtoidddfpekbliaaGreatProg.lean LOADS. Nothing in Lean hashes anything: it is a label: what it is worth is what the hold of that sum in a sandbox is worth. -/
noncomputable def Tryz.pinned : Pinned := { name := "ytoidddfpekbliaagreat", sum := "9da3560b383f4440f36272f5499f002c6ea754583b51a4eb26bb90c8da392b35", checked := Tryz.checked }
namespace Rows
def none {H : Type} : Left H := { results := [], args := [] }

/-- 'smithylaw13.WordForms': WHATEVER THE INPUT: true; the input reads as it did. -/
def wordFormsSpec : ChangeSpec := { name := "wordForms", fn := fun _ => fun
  | [d] => { results := [.lit (.bool true)], args := [d] }
  | _ => none }
def wordFormsRow : OpenClaim := { program := "ytoidddfpekbliaagreat", sum := "9da3560b383f4440f36272f5499f002c6ea754583b51a4eb26bb90c8da392b35", func := "smithy/smithylaw13.WordForms", spec := "wordForms", inPlace := ["internal/bytealg.IndexByteString", "math.Float64frombits", "math.Float64bits"], unfollowed := true, recurses := true, apart := false }
def WordFormsSaid : Prop := wordFormsRow.holds Tryz.pinned (OpenSpec.ofChange wordFormsSpec)

/-- ITS FALSE NEIGHBOUR: 'it returns false'. Refute it at one input. -/
def wordFormsWrong : ChangeSpec := { name := "wordForms", fn := fun _ => fun
  | [d] => { results := [.lit (.bool false)], args := [d] }
  | _ => none }
def WordFormsWrongFalsely : Prop := wordFormsRow.holds Tryz.pinned (OpenSpec.ofChange wordFormsWrong)

/-- 'smithylaw13.WordRuns': WHATEVER THE INPUT: true; the input reads as it did. -/
def wordRunsSpec : ChangeSpec := { name := "wordRuns", fn := fun _ => fun
  | [d1, d2, d3] => { results := [.lit (.bool true)], args := [d1, d2, d3] }
  | _ => none }
def wordRunsRow : OpenClaim := { program := "ytoidddfpekbliaagreat", sum := "9da3560b383f4440f36272f5499f002c6ea754583b51a4eb26bb90c8da392b35", func := "smithy/smithylaw13.WordRuns", spec := "wordRuns", inPlace := ["internal/bytealg.IndexByteString", "math.Float64frombits", "math.Float64bits"], unfollowed := true, recurses := true, apart := false }
def WordRunsSaid : Prop := wordRunsRow.holds Tryz.pinned (OpenSpec.ofChange wordRunsSpec)

/-- ITS FALSE NEIGHBOUR: 'it returns false'. Refute it at one input. -/
def wordRunsWrong : ChangeSpec := { name := "wordRuns", fn := fun _ => fun
  | [d1, d2, d3] => { results := [.lit (.bool false)], args := [d1, d2, d3] }
  | _ => none }
def WordRunsWrongFalsely : Prop := wordRunsRow.holds Tryz.pinned (OpenSpec.ofChange wordRunsWrong)

/-- 'smithylaw13.WordEnters': WHATEVER THE INPUT: true; the input reads as it did. -/
def wordEntersSpec : ChangeSpec := { name := "wordEnters", fn := fun _ => fun
  | [d1, d2, d3] => { results := [.lit (.bool true)], args := [d1, d2, d3] }
  | _ => none }
def wordEntersRow : OpenClaim := { program := "ytoidddfpekbliaagreat", sum := "9da3560b383f4440f36272f5499f002c6ea754583b51a4eb26bb90c8da392b35", func := "smithy/smithylaw13.WordEnters", spec := "wordEnters", inPlace := ["internal/bytealg.IndexByteString", "math.Float64frombits", "math.Float64bits"], unfollowed := true, recurses := true, apart := false }
def WordEntersSaid : Prop := wordEntersRow.holds Tryz.pinned (OpenSpec.ofChange wordEntersSpec)

/-- ITS FALSE NEIGHBOUR: 'it returns false'. Refute it at one input. -/
def wordEntersWrong : ChangeSpec := { name := "wordEnters", fn := fun _ => fun
  | [d1, d2, d3] => { results := [.lit (.bool false)], args := [d1, d2, d3] }
  | _ => none }
def WordEntersWrongFalsely : Prop := wordEntersRow.holds Tryz.pinned (OpenSpec.ofChange wordEntersWrong)

/-- 'smithylaw13.WordStrictly': WHATEVER THE INPUT: true; the input reads as it did. -/
def wordStrictlySpec : ChangeSpec := { name := "wordStrictly", fn := fun _ => fun
  | [d1, d2, d3] => { results := [.lit (.bool true)], args := [d1, d2, d3] }
  | _ => none }
def wordStrictlyRow : OpenClaim := { program := "ytoidddfpekbliaagreat", sum := "9da3560b383f4440f36272f5499f002c6ea754583b51a4eb26bb90c8da392b35", func := "smithy/smithylaw13.WordStrictly", spec := "wordStrictly", inPlace := ["internal/bytealg.IndexByteString", "math.Float64frombits", "math.Float64bits"], unfollowed := true, recurses := true, apart := false }
def WordStrictlySaid : Prop := wordStrictlyRow.holds Tryz.pinned (OpenSpec.ofChange wordStrictlySpec)

/-- ITS FALSE NEIGHBOUR: 'it returns false'. Refute it at one input. -/
def wordStrictlyWrong : ChangeSpec := { name := "wordStrictly", fn := fun _ => fun
  | [d1, d2, d3] => { results := [.lit (.bool false)], args := [d1, d2, d3] }
  | _ => none }
def WordStrictlyWrongFalsely : Prop := wordStrictlyRow.holds Tryz.pinned (OpenSpec.ofChange wordStrictlyWrong)

/-- 'smithylaw13.WordSplits': WHATEVER THE INPUT: true; the input reads as it did. -/
def wordSplitsSpec : ChangeSpec := { name := "wordSplits", fn := fun _ => fun
  | [d1, d2, d3] => { results := [.lit (.bool true)], args := [d1, d2, d3] }
  | _ => none }
def wordSplitsRow : OpenClaim := { program := "ytoidddfpekbliaagreat", sum := "9da3560b383f4440f36272f5499f002c6ea754583b51a4eb26bb90c8da392b35", func := "smithy/smithylaw13.WordSplits", spec := "wordSplits", inPlace := ["internal/bytealg.IndexByteString", "math.Float64frombits", "math.Float64bits"], unfollowed := true, recurses := true, apart := false }
def WordSplitsSaid : Prop := wordSplitsRow.holds Tryz.pinned (OpenSpec.ofChange wordSplitsSpec)

/-- ITS FALSE NEIGHBOUR: 'it returns false'. Refute it at one input. -/
def wordSplitsWrong : ChangeSpec := { name := "wordSplits", fn := fun _ => fun
  | [d1, d2, d3] => { results := [.lit (.bool false)], args := [d1, d2, d3] }
  | _ => none }
def WordSplitsWrongFalsely : Prop := wordSplitsRow.holds Tryz.pinned (OpenSpec.ofChange wordSplitsWrong)

/- THE SECOND FORM. 'bulk': how many values and letters a reading holds, each counted each time it is reached (what is shared counts as often as it is met; a slice's spare places count too). A statement '..UptoSaid' is the law's where the arguments, and the package variables that the reading takes, are together of bulk at most 1048576: NARROWER than '..Said'. Prove '..Said' where nothing that the law and all that it calls make is longer than what came in: it says more and counts as full. Else prove '..UptoSaid'. A law counts once. -/
mutual
def uptoBulk {H : Type} : DataW H → Nat
  | .lit (.string bytes) => bytes.length + 1
  | .lit _ => 1
  | .nil => 1
  | .ptr d => uptoBulk d + 1
  | .slice elems spare => uptoBulkAll elems + uptoBulkAll spare + 1
  | .agg parts => uptoBulkAll parts + 1
  | .iface _ d => uptoBulk d + 1
  | .map entries => uptoBulkEntries entries + 1
  | .held _ => 1
def uptoBulkAll {H : Type} : List (DataW H) → Nat
  | [] => 0
  | d :: r => uptoBulk d + uptoBulkAll r
def uptoBulkEntries {H : Type} : List (Lit × DataW H) → Nat
  | [] => 0
  | x :: r => uptoBulkEntry x + uptoBulkEntries r
def uptoBulkEntry {H : Type} : Lit × DataW H → Nat
  | (.string bytes, d) => bytes.length + uptoBulk d + 1
  | (_, d) => uptoBulk d + 1
 end
def uptoSmall : (H : Type) → List (DataW H) → Bool := fun _ ds => decide (uptoBulkAll ds ≤ 1048576)
def OpenSpec.upto (s : _root_.Go.ChangeSpec) : _root_.Go.OpenSpec := { _root_.Go.OpenSpec.ofChange s with cond := some uptoSmall }

/-- 'smithylaw13.WordForms', WHERE WHAT IT READS IS OF BULK AT MOST 1048576: true; the input reads as it did. -/
def wordFormsUptoRow : OpenClaim := { program := "ytoidddfpekbliaagreat", sum := "9da3560b383f4440f36272f5499f002c6ea754583b51a4eb26bb90c8da392b35", func := "smithy/smithylaw13.WordForms", spec := "wordForms", inPlace := ["internal/bytealg.IndexByteString", "math.Float64frombits", "math.Float64bits"], unfollowed := true, recurses := true, apart := false, narrowed := true }
def WordFormsUptoSaid : Prop := wordFormsUptoRow.holds Tryz.pinned (OpenSpec.upto wordFormsSpec)

/-- 'smithylaw13.WordRuns', WHERE WHAT IT READS IS OF BULK AT MOST 1048576: true; the input reads as it did. -/
def wordRunsUptoRow : OpenClaim := { program := "ytoidddfpekbliaagreat", sum := "9da3560b383f4440f36272f5499f002c6ea754583b51a4eb26bb90c8da392b35", func := "smithy/smithylaw13.WordRuns", spec := "wordRuns", inPlace := ["internal/bytealg.IndexByteString", "math.Float64frombits", "math.Float64bits"], unfollowed := true, recurses := true, apart := false, narrowed := true }
def WordRunsUptoSaid : Prop := wordRunsUptoRow.holds Tryz.pinned (OpenSpec.upto wordRunsSpec)

/-- 'smithylaw13.WordEnters', WHERE WHAT IT READS IS OF BULK AT MOST 1048576: true; the input reads as it did. -/
def wordEntersUptoRow : OpenClaim := { program := "ytoidddfpekbliaagreat", sum := "9da3560b383f4440f36272f5499f002c6ea754583b51a4eb26bb90c8da392b35", func := "smithy/smithylaw13.WordEnters", spec := "wordEnters", inPlace := ["internal/bytealg.IndexByteString", "math.Float64frombits", "math.Float64bits"], unfollowed := true, recurses := true, apart := false, narrowed := true }
def WordEntersUptoSaid : Prop := wordEntersUptoRow.holds Tryz.pinned (OpenSpec.upto wordEntersSpec)

/-- 'smithylaw13.WordStrictly', WHERE WHAT IT READS IS OF BULK AT MOST 1048576: true; the input reads as it did. -/
def wordStrictlyUptoRow : OpenClaim := { program := "ytoidddfpekbliaagreat", sum := "9da3560b383f4440f36272f5499f002c6ea754583b51a4eb26bb90c8da392b35", func := "smithy/smithylaw13.WordStrictly", spec := "wordStrictly", inPlace := ["internal/bytealg.IndexByteString", "math.Float64frombits", "math.Float64bits"], unfollowed := true, recurses := true, apart := false, narrowed := true }
def WordStrictlyUptoSaid : Prop := wordStrictlyUptoRow.holds Tryz.pinned (OpenSpec.upto wordStrictlySpec)

/-- 'smithylaw13.WordSplits', WHERE WHAT IT READS IS OF BULK AT MOST 1048576: true; the input reads as it did. -/
def wordSplitsUptoRow : OpenClaim := { program := "ytoidddfpekbliaagreat", sum := "9da3560b383f4440f36272f5499f002c6ea754583b51a4eb26bb90c8da392b35", func := "smithy/smithylaw13.WordSplits", spec := "wordSplits", inPlace := ["internal/bytealg.IndexByteString", "math.Float64frombits", "math.Float64bits"], unfollowed := true, recurses := true, apart := false, narrowed := true }
def WordSplitsUptoSaid : Prop := wordSplitsUptoRow.holds Tryz.pinned (OpenSpec.upto wordSplitsSpec)

end Rows
end Go.Proofs.YtoidddfpekbliaaGreat
