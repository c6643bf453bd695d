/-
  No cell of these rows narrows 'for every input' (looked for: loops, veiled, ifaces, maps, wideKeys, modest, calm, conditions, laid).
  DERIVED. THE GIVEN ROWS OF THIS SEAT. 6 by the template 'for every input the law returns true; each argument reads behind the call as it read before'; 0 by the template 'total and deterministic' (their statements: YtekmdaphkgkgaaaTotals.lean).
  GIVEN WITH THE SEED: the statements are not yours to turn. If you find one false, say at which input.
  Laid BY PROGRAM, IN A SANDBOX (cutbox-rows.mjs): the forced cells as the released guide's own fill.sh prints them over the translation 80a220bacd6340df… (all of the seat's roots in one cut). By AI agents, Wed Nov 11 2026. No macro, syntax, notation, axiom, sorry.
-/
import Derived.Test.YtekmdaphkgkgaaaChecked
import GoSem.Claim
import GoSem.ClaimJoined
import GoSem.ClaimMapViews
import Derived.JoinedTies
import Derived.KernelRfl
namespace Go.Proofs.Ytekmdaphkgkgaaa
/- THE CELL 'sum', in the pinned program and in every row, IS THE sha256 OF THE DUMP (.gsa) THAT YtekmdaphkgkgaaaProg.lean LOADS. Nothing in Lean hashes anything: it is a label: what it is worth is what the hold of that sum in a sandbox is worth. -/
noncomputable def Try.pinned : Pinned := { name := "ytekmdaphkgkgaaa", sum := "80a220bacd6340df1068d86322410f40ad41cb45ac46e5ad5cb410f9eb8f2369", checked := Try.checked }
namespace Rows
def none {H : Type} : Left H := { results := [], args := [] }

/-- 'veilstonelaw41.DiskNewSpec': WHATEVER THE INPUT: true; the input reads as it did. -/
def diskNewSpecSpec : ChangeSpec := { name := "diskNewSpec", fn := fun _ => fun
  | [d] => { results := [.lit (.bool true)], args := [d] }
  | _ => none }
def diskNewSpecRow : OpenClaim := { program := "ytekmdaphkgkgaaa", sum := "80a220bacd6340df1068d86322410f40ad41cb45ac46e5ad5cb410f9eb8f2369", func := "veilstone/veilstonelaw41.DiskNewSpec", spec := "diskNewSpec", unfollowed := true, recurses := true, apart := false }
def DiskNewSpecSaid : Prop := diskNewSpecRow.holds Try.pinned (OpenSpec.ofChange diskNewSpecSpec)

/-- ITS FALSE NEIGHBOUR: 'it returns false'. Refute it at one input. -/
def diskNewSpecWrong : ChangeSpec := { name := "diskNewSpec", fn := fun _ => fun
  | [d] => { results := [.lit (.bool false)], args := [d] }
  | _ => none }
def DiskNewSpecWrongFalsely : Prop := diskNewSpecRow.holds Try.pinned (OpenSpec.ofChange diskNewSpecWrong)

/-- 'veilstonelaw41.DiskRawSpec': WHATEVER THE INPUT: true; the input reads as it did. -/
def diskRawSpecSpec : ChangeSpec := { name := "diskRawSpec", fn := fun _ => fun
  | [d1, d2, d3, d4, d5] => { results := [.lit (.bool true)], args := [d1, d2, d3, d4, d5] }
  | _ => none }
def diskRawSpecRow : OpenClaim := { program := "ytekmdaphkgkgaaa", sum := "80a220bacd6340df1068d86322410f40ad41cb45ac46e5ad5cb410f9eb8f2369", func := "veilstone/veilstonelaw41.DiskRawSpec", spec := "diskRawSpec", unfollowed := true, recurses := true, apart := false }
def DiskRawSpecSaid : Prop := diskRawSpecRow.holds Try.pinned (OpenSpec.ofChange diskRawSpecSpec)

/-- ITS FALSE NEIGHBOUR: 'it returns false'. Refute it at one input. -/
def diskRawSpecWrong : ChangeSpec := { name := "diskRawSpec", fn := fun _ => fun
  | [d1, d2, d3, d4, d5] => { results := [.lit (.bool false)], args := [d1, d2, d3, d4, d5] }
  | _ => none }
def DiskRawSpecWrongFalsely : Prop := diskRawSpecRow.holds Try.pinned (OpenSpec.ofChange diskRawSpecWrong)

/-- 'veilstonelaw41.DiskScriptSpec': WHATEVER THE INPUT: true; the input reads as it did. -/
def diskScriptSpecSpec : ChangeSpec := { name := "diskScriptSpec", fn := fun _ => fun
  | [d1, d2, d3] => { results := [.lit (.bool true)], args := [d1, d2, d3] }
  | _ => none }
def diskScriptSpecRow : OpenClaim := { program := "ytekmdaphkgkgaaa", sum := "80a220bacd6340df1068d86322410f40ad41cb45ac46e5ad5cb410f9eb8f2369", func := "veilstone/veilstonelaw41.DiskScriptSpec", spec := "diskScriptSpec", unfollowed := true, recurses := true, apart := false }
def DiskScriptSpecSaid : Prop := diskScriptSpecRow.holds Try.pinned (OpenSpec.ofChange diskScriptSpecSpec)

/-- ITS FALSE NEIGHBOUR: 'it returns false'. Refute it at one input. -/
def diskScriptSpecWrong : ChangeSpec := { name := "diskScriptSpec", fn := fun _ => fun
  | [d1, d2, d3] => { results := [.lit (.bool false)], args := [d1, d2, d3] }
  | _ => none }
def DiskScriptSpecWrongFalsely : Prop := diskScriptSpecRow.holds Try.pinned (OpenSpec.ofChange diskScriptSpecWrong)

/-- 'veilstonelaw41.DiskReads': WHATEVER THE INPUT: true; the input reads as it did. -/
def diskReadsSpec : ChangeSpec := { name := "diskReads", fn := fun _ => fun
  | [d] => { results := [.lit (.bool true)], args := [d] }
  | _ => none }
def diskReadsRow : OpenClaim := { program := "ytekmdaphkgkgaaa", sum := "80a220bacd6340df1068d86322410f40ad41cb45ac46e5ad5cb410f9eb8f2369", func := "veilstone/veilstonelaw41.DiskReads", spec := "diskReads", unfollowed := true, recurses := true, apart := false }
def DiskReadsSaid : Prop := diskReadsRow.holds Try.pinned (OpenSpec.ofChange diskReadsSpec)

/-- ITS FALSE NEIGHBOUR: 'it returns false'. Refute it at one input. -/
def diskReadsWrong : ChangeSpec := { name := "diskReads", fn := fun _ => fun
  | [d] => { results := [.lit (.bool false)], args := [d] }
  | _ => none }
def DiskReadsWrongFalsely : Prop := diskReadsRow.holds Try.pinned (OpenSpec.ofChange diskReadsWrong)

/-- 'veilstonelaw41.DiskStops': WHATEVER THE INPUT: true; the input reads as it did. -/
def diskStopsSpec : ChangeSpec := { name := "diskStops", fn := fun _ => fun
  | [d1, d2, d3] => { results := [.lit (.bool true)], args := [d1, d2, d3] }
  | _ => none }
def diskStopsRow : OpenClaim := { program := "ytekmdaphkgkgaaa", sum := "80a220bacd6340df1068d86322410f40ad41cb45ac46e5ad5cb410f9eb8f2369", func := "veilstone/veilstonelaw41.DiskStops", spec := "diskStops", unfollowed := true, recurses := true, apart := false }
def DiskStopsSaid : Prop := diskStopsRow.holds Try.pinned (OpenSpec.ofChange diskStopsSpec)

/-- ITS FALSE NEIGHBOUR: 'it returns false'. Refute it at one input. -/
def diskStopsWrong : ChangeSpec := { name := "diskStops", fn := fun _ => fun
  | [d1, d2, d3] => { results := [.lit (.bool false)], args := [d1, d2, d3] }
  | _ => none }
def DiskStopsWrongFalsely : Prop := diskStopsRow.holds Try.pinned (OpenSpec.ofChange diskStopsWrong)

/-- 'veilstonelaw41.DiskValid': WHATEVER THE INPUT: true; the input reads as it did. -/
def diskValidSpec : ChangeSpec := { name := "diskValid", fn := fun _ => fun
  | [d] => { results := [.lit (.bool true)], args := [d] }
  | _ => none }
def diskValidRow : OpenClaim := { program := "ytekmdaphkgkgaaa", sum := "80a220bacd6340df1068d86322410f40ad41cb45ac46e5ad5cb410f9eb8f2369", func := "veilstone/veilstonelaw41.DiskValid", spec := "diskValid", unfollowed := true, recurses := true, apart := false }
def DiskValidSaid : Prop := diskValidRow.holds Try.pinned (OpenSpec.ofChange diskValidSpec)

/-- ITS FALSE NEIGHBOUR: 'it returns false'. Refute it at one input. -/
def diskValidWrong : ChangeSpec := { name := "diskValid", fn := fun _ => fun
  | [d] => { results := [.lit (.bool false)], args := [d] }
  | _ => none }
def DiskValidWrongFalsely : Prop := diskValidRow.holds Try.pinned (OpenSpec.ofChange diskValidWrong)

/- THE SECOND FORM. 'bulk': how many values and letters a reading holds, each counted each time it is reached (what is shared counts as often as it is met; a slice's spare places count too). A statement '..UptoSaid' is the law's where the arguments, and the package variables that the reading takes, are together of bulk at most 1048576: NARROWER than '..Said'. Prove '..Said' where nothing that the law and all that it calls make is longer than what came in: it says more and counts as full. Else prove '..UptoSaid'. A law counts once. -/
mutual
def uptoBulk {H : Type} : DataW H → Nat
  | .lit (.string bytes) => bytes.length + 1
  | .lit _ => 1
  | .nil => 1
  | .ptr d => uptoBulk d + 1
  | .slice elems spare => uptoBulkAll elems + uptoBulkAll spare + 1
  | .agg parts => uptoBulkAll parts + 1
  | .iface _ d => uptoBulk d + 1
  | .map entries => uptoBulkEntries entries + 1
  | .held _ => 1
def uptoBulkAll {H : Type} : List (DataW H) → Nat
  | [] => 0
  | d :: r => uptoBulk d + uptoBulkAll r
def uptoBulkEntries {H : Type} : List (Lit × DataW H) → Nat
  | [] => 0
  | x :: r => uptoBulkEntry x + uptoBulkEntries r
def uptoBulkEntry {H : Type} : Lit × DataW H → Nat
  | (.string bytes, d) => bytes.length + uptoBulk d + 1
  | (_, d) => uptoBulk d + 1
 end
def uptoSmall : (H : Type) → List (DataW H) → Bool := fun _ ds => decide (uptoBulkAll ds ≤ 1048576)
def OpenSpec.upto (s : _root_.Go.ChangeSpec) : _root_.Go.OpenSpec := { _root_.Go.OpenSpec.ofChange s with cond := some uptoSmall }

/-- 'veilstonelaw41.DiskNewSpec', WHERE WHAT IT READS IS OF BULK AT MOST 1048576: true; the input reads as it did. -/
def diskNewSpecUptoRow : OpenClaim := { program := "ytekmdaphkgkgaaa", sum := "80a220bacd6340df1068d86322410f40ad41cb45ac46e5ad5cb410f9eb8f2369", func := "veilstone/veilstonelaw41.DiskNewSpec", spec := "diskNewSpec", unfollowed := true, recurses := true, apart := false, narrowed := true }
def DiskNewSpecUptoSaid : Prop := diskNewSpecUptoRow.holds Try.pinned (OpenSpec.upto diskNewSpecSpec)

/-- 'veilstonelaw41.DiskRawSpec', WHERE WHAT IT READS IS OF BULK AT MOST 1048576: true; the input reads as it did. -/
def diskRawSpecUptoRow : OpenClaim := { program := "ytekmdaphkgkgaaa", sum := "80a220bacd6340df1068d86322410f40ad41cb45ac46e5ad5cb410f9eb8f2369", func := "veilstone/veilstonelaw41.DiskRawSpec", spec := "diskRawSpec", unfollowed := true, recurses := true, apart := false, narrowed := true }
def DiskRawSpecUptoSaid : Prop := diskRawSpecUptoRow.holds Try.pinned (OpenSpec.upto diskRawSpecSpec)

/-- 'veilstonelaw41.DiskScriptSpec', WHERE WHAT IT READS IS OF BULK AT MOST 1048576: true; the input reads as it did. -/
def diskScriptSpecUptoRow : OpenClaim := { program := "ytekmdaphkgkgaaa", sum := "80a220bacd6340df1068d86322410f40ad41cb45ac46e5ad5cb410f9eb8f2369", func := "veilstone/veilstonelaw41.DiskScriptSpec", spec := "diskScriptSpec", unfollowed := true, recurses := true, apart := false, narrowed := true }
def DiskScriptSpecUptoSaid : Prop := diskScriptSpecUptoRow.holds Try.pinned (OpenSpec.upto diskScriptSpecSpec)

/-- 'veilstonelaw41.DiskReads', WHERE WHAT IT READS IS OF BULK AT MOST 1048576: true; the input reads as it did. -/
def diskReadsUptoRow : OpenClaim := { program := "ytekmdaphkgkgaaa", sum := "80a220bacd6340df1068d86322410f40ad41cb45ac46e5ad5cb410f9eb8f2369", func := "veilstone/veilstonelaw41.DiskReads", spec := "diskReads", unfollowed := true, recurses := true, apart := false, narrowed := true }
def DiskReadsUptoSaid : Prop := diskReadsUptoRow.holds Try.pinned (OpenSpec.upto diskReadsSpec)

/-- 'veilstonelaw41.DiskStops', WHERE WHAT IT READS IS OF BULK AT MOST 1048576: true; the input reads as it did. -/
def diskStopsUptoRow : OpenClaim := { program := "ytekmdaphkgkgaaa", sum := "80a220bacd6340df1068d86322410f40ad41cb45ac46e5ad5cb410f9eb8f2369", func := "veilstone/veilstonelaw41.DiskStops", spec := "diskStops", unfollowed := true, recurses := true, apart := false, narrowed := true }
def DiskStopsUptoSaid : Prop := diskStopsUptoRow.holds Try.pinned (OpenSpec.upto diskStopsSpec)

/-- 'veilstonelaw41.DiskValid', WHERE WHAT IT READS IS OF BULK AT MOST 1048576: true; the input reads as it did. -/
def diskValidUptoRow : OpenClaim := { program := "ytekmdaphkgkgaaa", sum := "80a220bacd6340df1068d86322410f40ad41cb45ac46e5ad5cb410f9eb8f2369", func := "veilstone/veilstonelaw41.DiskValid", spec := "diskValid", unfollowed := true, recurses := true, apart := false, narrowed := true }
def DiskValidUptoSaid : Prop := diskValidUptoRow.holds Try.pinned (OpenSpec.upto diskValidSpec)

end Rows
end Go.Proofs.Ytekmdaphkgkgaaa
