/-
  NARROWER THAN 'FOR EVERY INPUT', by the rows' own cells (each row's printed sentence says how): PadClasses: laid · PadBack: laid · PadCuts: laid · PadSizes: laid.
  DERIVED. THE GIVEN ROWS OF THIS SEAT. 4 by the template 'for every input the law returns true; each argument reads behind the call as it read before'; 0 by the template 'total and deterministic' (their statements: YteijlgifcmlkoabDoorTotals.lean).
  GIVEN WITH THE SEED: the statements are not yours to turn. If you find one false, say at which input.
  Laid BY PROGRAM, IN A SANDBOX (cutbox-rows.mjs): the forced cells as the released guide's own fill.sh prints them over the translation 68548053a67b87b1… (all of the seat's roots in one cut). By AI agents, Wed Nov 11 2026. No macro, syntax, notation, axiom, sorry.
-/
import Derived.Test.YteijlgifcmlkoabDoorChecked
import GoSem.Claim
import GoSem.ClaimJoined
import GoSem.ClaimMapViews
import Derived.JoinedTies
import Derived.KernelRfl
namespace Go.Proofs.YteijlgifcmlkoabDoor
/- THE CELL 'sum', in the pinned program and in every row, IS THE sha256 OF THE DUMP (.gsa) THAT YteijlgifcmlkoabDoorProg.lean LOADS. Nothing in Lean hashes anything: it is a label: what it is worth is what the hold of that sum in a sandbox is worth. -/
noncomputable def Tryd.pinned : Pinned := { name := "yteijlgifcmlkoabdoor", sum := "68548053a67b87b1c8057e4ac08a708c1e5bc154192aefc6511ad0ab91142253", checked := Tryd.checked }
namespace Rows
def none {H : Type} : Left H := { results := [], args := [] }

/- WHAT THE LISTED PACKAGE-LEVEL VARIABLES READ AS WHEN THE CALL BEGINS. Each datum BY PROGRAM (the guide's laid-datum.mjs) off the statement by which the dump's own 'gosem.cut.vars' lays the variable. In a bare row this is a premise. The card (YteijlgifcmlkoabDoorCards.lean) ties it to the program's text. -/
def laid_casket_pad_sizes {H : Type} : DataW H := .agg [.lit (.int .i64 64), .lit (.int .i64 256), .lit (.int .i64 1024), .lit (.int .i64 4096)]

/-- 'casketlaw10.PadClasses': WHATEVER THE INPUT: true; the input reads as it did. -/
def padClassesSpec : ChangeSpec := { name := "padClasses", fn := fun _ => fun
  | [d] => { results := [.lit (.bool true)], args := [d] }
  | _ => none }
def padClassesRow : OpenClaim := { program := "yteijlgifcmlkoabdoor", sum := "68548053a67b87b1c8057e4ac08a708c1e5bc154192aefc6511ad0ab91142253", func := "casket/casketlaw10.PadClasses", spec := "padClasses", named := ["casket/pad.sizes"], apart := false, laid := [("casket/pad.sizes", laid_casket_pad_sizes)] }
def PadClassesSaid : Prop := padClassesRow.holds Tryd.pinned (OpenSpec.ofChange padClassesSpec)

/-- ITS FALSE NEIGHBOUR: 'it returns false'. Refute it at one input. -/
def padClassesWrong : ChangeSpec := { name := "padClasses", fn := fun _ => fun
  | [d] => { results := [.lit (.bool false)], args := [d] }
  | _ => none }
def PadClassesWrongFalsely : Prop := padClassesRow.holds Tryd.pinned (OpenSpec.ofChange padClassesWrong)

/-- 'casketlaw10.PadBack': WHATEVER THE INPUT: true; the input reads as it did. -/
def padBackSpec : ChangeSpec := { name := "padBack", fn := fun _ => fun
  | [d1, d2] => { results := [.lit (.bool true)], args := [d1, d2] }
  | _ => none }
def padBackRow : OpenClaim := { program := "yteijlgifcmlkoabdoor", sum := "68548053a67b87b1c8057e4ac08a708c1e5bc154192aefc6511ad0ab91142253", func := "casket/casketlaw10.PadBack", spec := "padBack", named := ["casket/pad.sizes"], apart := false, laid := [("casket/pad.sizes", laid_casket_pad_sizes)] }
def PadBackSaid : Prop := padBackRow.holds Tryd.pinned (OpenSpec.ofChange padBackSpec)

/-- ITS FALSE NEIGHBOUR: 'it returns false'. Refute it at one input. -/
def padBackWrong : ChangeSpec := { name := "padBack", fn := fun _ => fun
  | [d1, d2] => { results := [.lit (.bool false)], args := [d1, d2] }
  | _ => none }
def PadBackWrongFalsely : Prop := padBackRow.holds Tryd.pinned (OpenSpec.ofChange padBackWrong)

/-- 'casketlaw10.PadCuts': WHATEVER THE INPUT: true; the input reads as it did. -/
def padCutsSpec : ChangeSpec := { name := "padCuts", fn := fun _ => fun
  | [d] => { results := [.lit (.bool true)], args := [d] }
  | _ => none }
def padCutsRow : OpenClaim := { program := "yteijlgifcmlkoabdoor", sum := "68548053a67b87b1c8057e4ac08a708c1e5bc154192aefc6511ad0ab91142253", func := "casket/casketlaw10.PadCuts", spec := "padCuts", named := ["casket/pad.sizes"], apart := false, laid := [("casket/pad.sizes", laid_casket_pad_sizes)] }
def PadCutsSaid : Prop := padCutsRow.holds Tryd.pinned (OpenSpec.ofChange padCutsSpec)

/-- ITS FALSE NEIGHBOUR: 'it returns false'. Refute it at one input. -/
def padCutsWrong : ChangeSpec := { name := "padCuts", fn := fun _ => fun
  | [d] => { results := [.lit (.bool false)], args := [d] }
  | _ => none }
def PadCutsWrongFalsely : Prop := padCutsRow.holds Tryd.pinned (OpenSpec.ofChange padCutsWrong)

/-- 'casketlaw10.PadSizes': WHATEVER THE INPUT: true; the input reads as it did. -/
def padSizesSpec : ChangeSpec := { name := "padSizes", fn := fun _ => fun
  | [d1, d2] => { results := [.lit (.bool true)], args := [d1, d2] }
  | _ => none }
def padSizesRow : OpenClaim := { program := "yteijlgifcmlkoabdoor", sum := "68548053a67b87b1c8057e4ac08a708c1e5bc154192aefc6511ad0ab91142253", func := "casket/casketlaw10.PadSizes", spec := "padSizes", named := ["casket/pad.sizes"], apart := false, laid := [("casket/pad.sizes", laid_casket_pad_sizes)] }
def PadSizesSaid : Prop := padSizesRow.holds Tryd.pinned (OpenSpec.ofChange padSizesSpec)

/-- ITS FALSE NEIGHBOUR: 'it returns false'. Refute it at one input. -/
def padSizesWrong : ChangeSpec := { name := "padSizes", fn := fun _ => fun
  | [d1, d2] => { results := [.lit (.bool false)], args := [d1, d2] }
  | _ => none }
def PadSizesWrongFalsely : Prop := padSizesRow.holds Tryd.pinned (OpenSpec.ofChange padSizesWrong)

/- THE SECOND FORM. 'bulk': how many values and letters a reading holds, each counted each time it is reached (what is shared counts as often as it is met; a slice's spare places count too). A statement '..UptoSaid' is the law's where the arguments, and the package variables that the reading takes, are together of bulk at most 1048576: NARROWER than '..Said'. Prove '..Said' where nothing that the law and all that it calls make is longer than what came in: it says more and counts as full. Else prove '..UptoSaid'. A law counts once. -/
mutual
def uptoBulk {H : Type} : DataW H → Nat
  | .lit (.string bytes) => bytes.length + 1
  | .lit _ => 1
  | .nil => 1
  | .ptr d => uptoBulk d + 1
  | .slice elems spare => uptoBulkAll elems + uptoBulkAll spare + 1
  | .agg parts => uptoBulkAll parts + 1
  | .iface _ d => uptoBulk d + 1
  | .map entries => uptoBulkEntries entries + 1
  | .held _ => 1
def uptoBulkAll {H : Type} : List (DataW H) → Nat
  | [] => 0
  | d :: r => uptoBulk d + uptoBulkAll r
def uptoBulkEntries {H : Type} : List (Lit × DataW H) → Nat
  | [] => 0
  | x :: r => uptoBulkEntry x + uptoBulkEntries r
def uptoBulkEntry {H : Type} : Lit × DataW H → Nat
  | (.string bytes, d) => bytes.length + uptoBulk d + 1
  | (_, d) => uptoBulk d + 1
 end
def uptoSmall : (H : Type) → List (DataW H) → Bool := fun _ ds => decide (uptoBulkAll ds ≤ 1048576)
def OpenSpec.upto (s : _root_.Go.ChangeSpec) : _root_.Go.OpenSpec := { _root_.Go.OpenSpec.ofChange s with cond := some uptoSmall }

/-- 'casketlaw10.PadClasses', WHERE WHAT IT READS IS OF BULK AT MOST 1048576: true; the input reads as it did. -/
def padClassesUptoRow : OpenClaim := { program := "yteijlgifcmlkoabdoor", sum := "68548053a67b87b1c8057e4ac08a708c1e5bc154192aefc6511ad0ab91142253", func := "casket/casketlaw10.PadClasses", spec := "padClasses", named := ["casket/pad.sizes"], apart := false, laid := [("casket/pad.sizes", laid_casket_pad_sizes)], narrowed := true }
def PadClassesUptoSaid : Prop := padClassesUptoRow.holds Tryd.pinned (OpenSpec.upto padClassesSpec)

/-- 'casketlaw10.PadBack', WHERE WHAT IT READS IS OF BULK AT MOST 1048576: true; the input reads as it did. -/
def padBackUptoRow : OpenClaim := { program := "yteijlgifcmlkoabdoor", sum := "68548053a67b87b1c8057e4ac08a708c1e5bc154192aefc6511ad0ab91142253", func := "casket/casketlaw10.PadBack", spec := "padBack", named := ["casket/pad.sizes"], apart := false, laid := [("casket/pad.sizes", laid_casket_pad_sizes)], narrowed := true }
def PadBackUptoSaid : Prop := padBackUptoRow.holds Tryd.pinned (OpenSpec.upto padBackSpec)

/-- 'casketlaw10.PadCuts', WHERE WHAT IT READS IS OF BULK AT MOST 1048576: true; the input reads as it did. -/
def padCutsUptoRow : OpenClaim := { program := "yteijlgifcmlkoabdoor", sum := "68548053a67b87b1c8057e4ac08a708c1e5bc154192aefc6511ad0ab91142253", func := "casket/casketlaw10.PadCuts", spec := "padCuts", named := ["casket/pad.sizes"], apart := false, laid := [("casket/pad.sizes", laid_casket_pad_sizes)], narrowed := true }
def PadCutsUptoSaid : Prop := padCutsUptoRow.holds Tryd.pinned (OpenSpec.upto padCutsSpec)

/-- 'casketlaw10.PadSizes', WHERE WHAT IT READS IS OF BULK AT MOST 1048576: true; the input reads as it did. -/
def padSizesUptoRow : OpenClaim := { program := "yteijlgifcmlkoabdoor", sum := "68548053a67b87b1c8057e4ac08a708c1e5bc154192aefc6511ad0ab91142253", func := "casket/casketlaw10.PadSizes", spec := "padSizes", named := ["casket/pad.sizes"], apart := false, laid := [("casket/pad.sizes", laid_casket_pad_sizes)], narrowed := true }
def PadSizesUptoSaid : Prop := padSizesUptoRow.holds Tryd.pinned (OpenSpec.upto padSizesSpec)

end Rows
end Go.Proofs.YteijlgifcmlkoabDoor
