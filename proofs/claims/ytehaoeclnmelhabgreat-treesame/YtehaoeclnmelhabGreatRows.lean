/-
  No cell of these rows narrows 'for every input' (looked for: loops, veiled, ifaces, maps, wideKeys, modest, calm, conditions, laid).
  DERIVED. THE GIVEN ROWS OF THIS SEAT. 6 by the template 'for every input the law returns true; each argument reads behind the call as it read before'; 0 by the template 'total and deterministic' (their statements: YtehaoeclnmelhabGreatTotals.lean).
  GIVEN WITH THE SEED: the statements are not yours to turn. If you find one false, say at which input.
  Laid BY PROGRAM, IN A SANDBOX (cutbox-rows.mjs): the forced cells as the released guide's own fill.sh prints them over the translation f0fb6901402a0784… (all of the seat's roots in one cut). By AI agents, Wed Nov 11 2026. No macro, syntax, notation, axiom, sorry.
-/
import Derived.Test.YtehaoeclnmelhabGreatChecked
import GoSem.Claim
import GoSem.ClaimJoined
import GoSem.ClaimMapViews
import Derived.JoinedTies
import Derived.KernelRfl
namespace Go.Proofs.YtehaoeclnmelhabGreat
/- THE CELL 'sum', in the pinned program and in every row, IS THE sha256 OF THE DUMP (.gsa) THAT YtehaoeclnmelhabGreatProg.lean LOADS. Nothing in Lean hashes anything: it is a label: what it is worth is what the hold of that sum in a sandbox is worth. -/
noncomputable def Tryz.pinned : Pinned := { name := "ytehaoeclnmelhabgreat", sum := "f0fb6901402a07845a0a66e6d5d55bc6aa657bb00c496dd95474d4242540514f", checked := Tryz.checked }
namespace Rows
def none {H : Type} : Left H := { results := [], args := [] }

/-- 'lockgatelaw10.TreeRoom': WHATEVER THE INPUT: true; the input reads as it did. -/
def treeRoomSpec : ChangeSpec := { name := "treeRoom", fn := fun _ => fun
  | [d1, d2] => { results := [.lit (.bool true)], args := [d1, d2] }
  | _ => none }
def treeRoomRow : OpenClaim := { program := "ytehaoeclnmelhabgreat", sum := "f0fb6901402a07845a0a66e6d5d55bc6aa657bb00c496dd95474d4242540514f", func := "lockgate/lockgatelaw10.TreeRoom", spec := "treeRoom", inPlace := ["internal/bytealg.IndexByteString", "internal/bytealg.IndexString"], unfollowed := true, recurses := true, named := ["internal/bytealg.MaxLen"], plainKeys := false, apart := false }
def TreeRoomSaid : Prop := treeRoomRow.holds Tryz.pinned (OpenSpec.ofChange treeRoomSpec)

/-- ITS FALSE NEIGHBOUR: 'it returns false'. Refute it at one input. -/
def treeRoomWrong : ChangeSpec := { name := "treeRoom", fn := fun _ => fun
  | [d1, d2] => { results := [.lit (.bool false)], args := [d1, d2] }
  | _ => none }
def TreeRoomWrongFalsely : Prop := treeRoomRow.holds Tryz.pinned (OpenSpec.ofChange treeRoomWrong)

/-- 'lockgatelaw10.TreeMoves': WHATEVER THE INPUT: true; the input reads as it did. -/
def treeMovesSpec : ChangeSpec := { name := "treeMoves", fn := fun _ => fun
  | [d1, d2] => { results := [.lit (.bool true)], args := [d1, d2] }
  | _ => none }
def treeMovesRow : OpenClaim := { program := "ytehaoeclnmelhabgreat", sum := "f0fb6901402a07845a0a66e6d5d55bc6aa657bb00c496dd95474d4242540514f", func := "lockgate/lockgatelaw10.TreeMoves", spec := "treeMoves", inPlace := ["internal/bytealg.IndexByteString", "internal/bytealg.IndexString"], unfollowed := true, recurses := true, named := ["internal/bytealg.MaxLen"], plainKeys := false, apart := false }
def TreeMovesSaid : Prop := treeMovesRow.holds Tryz.pinned (OpenSpec.ofChange treeMovesSpec)

/-- ITS FALSE NEIGHBOUR: 'it returns false'. Refute it at one input. -/
def treeMovesWrong : ChangeSpec := { name := "treeMoves", fn := fun _ => fun
  | [d1, d2] => { results := [.lit (.bool false)], args := [d1, d2] }
  | _ => none }
def TreeMovesWrongFalsely : Prop := treeMovesRow.holds Tryz.pinned (OpenSpec.ofChange treeMovesWrong)

/-- 'lockgatelaw10.TreeHard': WHATEVER THE INPUT: true; the input reads as it did. -/
def treeHardSpec : ChangeSpec := { name := "treeHard", fn := fun _ => fun
  | [d1, d2] => { results := [.lit (.bool true)], args := [d1, d2] }
  | _ => none }
def treeHardRow : OpenClaim := { program := "ytehaoeclnmelhabgreat", sum := "f0fb6901402a07845a0a66e6d5d55bc6aa657bb00c496dd95474d4242540514f", func := "lockgate/lockgatelaw10.TreeHard", spec := "treeHard", inPlace := ["internal/bytealg.IndexByteString", "internal/bytealg.IndexString"], unfollowed := true, recurses := true, named := ["internal/bytealg.MaxLen"], plainKeys := false, apart := false }
def TreeHardSaid : Prop := treeHardRow.holds Tryz.pinned (OpenSpec.ofChange treeHardSpec)

/-- ITS FALSE NEIGHBOUR: 'it returns false'. Refute it at one input. -/
def treeHardWrong : ChangeSpec := { name := "treeHard", fn := fun _ => fun
  | [d1, d2] => { results := [.lit (.bool false)], args := [d1, d2] }
  | _ => none }
def TreeHardWrongFalsely : Prop := treeHardRow.holds Tryz.pinned (OpenSpec.ofChange treeHardWrong)

/-- 'lockgatelaw10.TreeWrong': WHATEVER THE INPUT: true; the input reads as it did. -/
def treeWrongSpec : ChangeSpec := { name := "treeWrong", fn := fun _ => fun
  | [d] => { results := [.lit (.bool true)], args := [d] }
  | _ => none }
def treeWrongRow : OpenClaim := { program := "ytehaoeclnmelhabgreat", sum := "f0fb6901402a07845a0a66e6d5d55bc6aa657bb00c496dd95474d4242540514f", func := "lockgate/lockgatelaw10.TreeWrong", spec := "treeWrong", inPlace := ["internal/bytealg.IndexByteString", "internal/bytealg.IndexString"], unfollowed := true, recurses := true, named := ["internal/bytealg.MaxLen"], plainKeys := false, apart := false }
def TreeWrongSaid : Prop := treeWrongRow.holds Tryz.pinned (OpenSpec.ofChange treeWrongSpec)

/-- ITS FALSE NEIGHBOUR: 'it returns false'. Refute it at one input. -/
def treeWrongWrong : ChangeSpec := { name := "treeWrong", fn := fun _ => fun
  | [d] => { results := [.lit (.bool false)], args := [d] }
  | _ => none }
def TreeWrongWrongFalsely : Prop := treeWrongRow.holds Tryz.pinned (OpenSpec.ofChange treeWrongWrong)

/-- 'lockgatelaw10.TreeSame': WHATEVER THE INPUT: true; the input reads as it did. -/
def treeSameSpec : ChangeSpec := { name := "treeSame", fn := fun _ => fun
  | [d] => { results := [.lit (.bool true)], args := [d] }
  | _ => none }
def treeSameRow : OpenClaim := { program := "ytehaoeclnmelhabgreat", sum := "f0fb6901402a07845a0a66e6d5d55bc6aa657bb00c496dd95474d4242540514f", func := "lockgate/lockgatelaw10.TreeSame", spec := "treeSame", inPlace := ["internal/bytealg.IndexByteString", "internal/bytealg.IndexString"], unfollowed := true, recurses := true, named := ["internal/bytealg.MaxLen"], plainKeys := false, apart := false }
def TreeSameSaid : Prop := treeSameRow.holds Tryz.pinned (OpenSpec.ofChange treeSameSpec)

/-- ITS FALSE NEIGHBOUR: 'it returns false'. Refute it at one input. -/
def treeSameWrong : ChangeSpec := { name := "treeSame", fn := fun _ => fun
  | [d] => { results := [.lit (.bool false)], args := [d] }
  | _ => none }
def TreeSameWrongFalsely : Prop := treeSameRow.holds Tryz.pinned (OpenSpec.ofChange treeSameWrong)

/-- 'lockgatelaw10.TreeSlots': WHATEVER THE INPUT: true; the input reads as it did. -/
def treeSlotsSpec : ChangeSpec := { name := "treeSlots", fn := fun _ => fun
  | [d1, d2] => { results := [.lit (.bool true)], args := [d1, d2] }
  | _ => none }
def treeSlotsRow : OpenClaim := { program := "ytehaoeclnmelhabgreat", sum := "f0fb6901402a07845a0a66e6d5d55bc6aa657bb00c496dd95474d4242540514f", func := "lockgate/lockgatelaw10.TreeSlots", spec := "treeSlots", inPlace := ["internal/bytealg.IndexByteString", "internal/bytealg.IndexString"], unfollowed := true, recurses := true, named := ["internal/bytealg.MaxLen"], plainKeys := false, apart := false }
def TreeSlotsSaid : Prop := treeSlotsRow.holds Tryz.pinned (OpenSpec.ofChange treeSlotsSpec)

/-- ITS FALSE NEIGHBOUR: 'it returns false'. Refute it at one input. -/
def treeSlotsWrong : ChangeSpec := { name := "treeSlots", fn := fun _ => fun
  | [d1, d2] => { results := [.lit (.bool false)], args := [d1, d2] }
  | _ => none }
def TreeSlotsWrongFalsely : Prop := treeSlotsRow.holds Tryz.pinned (OpenSpec.ofChange treeSlotsWrong)

/- THE SECOND FORM. 'bulk': how many values and letters a reading holds, each counted each time it is reached (what is shared counts as often as it is met; a slice's spare places count too). A statement '..UptoSaid' is the law's where the arguments, and the package variables that the reading takes, are together of bulk at most 1048576: NARROWER than '..Said'. Prove '..Said' where nothing that the law and all that it calls make is longer than what came in: it says more and counts as full. Else prove '..UptoSaid'. A law counts once. -/
mutual
def uptoBulk {H : Type} : DataW H → Nat
  | .lit (.string bytes) => bytes.length + 1
  | .lit _ => 1
  | .nil => 1
  | .ptr d => uptoBulk d + 1
  | .slice elems spare => uptoBulkAll elems + uptoBulkAll spare + 1
  | .agg parts => uptoBulkAll parts + 1
  | .iface _ d => uptoBulk d + 1
  | .map entries => uptoBulkEntries entries + 1
  | .held _ => 1
def uptoBulkAll {H : Type} : List (DataW H) → Nat
  | [] => 0
  | d :: r => uptoBulk d + uptoBulkAll r
def uptoBulkEntries {H : Type} : List (Lit × DataW H) → Nat
  | [] => 0
  | x :: r => uptoBulkEntry x + uptoBulkEntries r
def uptoBulkEntry {H : Type} : Lit × DataW H → Nat
  | (.string bytes, d) => bytes.length + uptoBulk d + 1
  | (_, d) => uptoBulk d + 1
 end
def uptoSmall : (H : Type) → List (DataW H) → Bool := fun _ ds => decide (uptoBulkAll ds ≤ 1048576)
def OpenSpec.upto (s : _root_.Go.ChangeSpec) : _root_.Go.OpenSpec := { _root_.Go.OpenSpec.ofChange s with cond := some uptoSmall }

/-- 'lockgatelaw10.TreeRoom', WHERE WHAT IT READS IS OF BULK AT MOST 1048576: true; the input reads as it did. -/
def treeRoomUptoRow : OpenClaim := { program := "ytehaoeclnmelhabgreat", sum := "f0fb6901402a07845a0a66e6d5d55bc6aa657bb00c496dd95474d4242540514f", func := "lockgate/lockgatelaw10.TreeRoom", spec := "treeRoom", inPlace := ["internal/bytealg.IndexByteString", "internal/bytealg.IndexString"], unfollowed := true, recurses := true, named := ["internal/bytealg.MaxLen"], plainKeys := false, apart := false, narrowed := true }
def TreeRoomUptoSaid : Prop := treeRoomUptoRow.holds Tryz.pinned (OpenSpec.upto treeRoomSpec)

/-- 'lockgatelaw10.TreeMoves', WHERE WHAT IT READS IS OF BULK AT MOST 1048576: true; the input reads as it did. -/
def treeMovesUptoRow : OpenClaim := { program := "ytehaoeclnmelhabgreat", sum := "f0fb6901402a07845a0a66e6d5d55bc6aa657bb00c496dd95474d4242540514f", func := "lockgate/lockgatelaw10.TreeMoves", spec := "treeMoves", inPlace := ["internal/bytealg.IndexByteString", "internal/bytealg.IndexString"], unfollowed := true, recurses := true, named := ["internal/bytealg.MaxLen"], plainKeys := false, apart := false, narrowed := true }
def TreeMovesUptoSaid : Prop := treeMovesUptoRow.holds Tryz.pinned (OpenSpec.upto treeMovesSpec)

/-- 'lockgatelaw10.TreeHard', WHERE WHAT IT READS IS OF BULK AT MOST 1048576: true; the input reads as it did. -/
def treeHardUptoRow : OpenClaim := { program := "ytehaoeclnmelhabgreat", sum := "f0fb6901402a07845a0a66e6d5d55bc6aa657bb00c496dd95474d4242540514f", func := "lockgate/lockgatelaw10.TreeHard", spec := "treeHard", inPlace := ["internal/bytealg.IndexByteString", "internal/bytealg.IndexString"], unfollowed := true, recurses := true, named := ["internal/bytealg.MaxLen"], plainKeys := false, apart := false, narrowed := true }
def TreeHardUptoSaid : Prop := treeHardUptoRow.holds Tryz.pinned (OpenSpec.upto treeHardSpec)

/-- 'lockgatelaw10.TreeWrong', WHERE WHAT IT READS IS OF BULK AT MOST 1048576: true; the input reads as it did. -/
def treeWrongUptoRow : OpenClaim := { program := "ytehaoeclnmelhabgreat", sum := "f0fb6901402a07845a0a66e6d5d55bc6aa657bb00c496dd95474d4242540514f", func := "lockgate/lockgatelaw10.TreeWrong", spec := "treeWrong", inPlace := ["internal/bytealg.IndexByteString", "internal/bytealg.IndexString"], unfollowed := true, recurses := true, named := ["internal/bytealg.MaxLen"], plainKeys := false, apart := false, narrowed := true }
def TreeWrongUptoSaid : Prop := treeWrongUptoRow.holds Tryz.pinned (OpenSpec.upto treeWrongSpec)

/-- 'lockgatelaw10.TreeSame', WHERE WHAT IT READS IS OF BULK AT MOST 1048576: true; the input reads as it did. -/
def treeSameUptoRow : OpenClaim := { program := "ytehaoeclnmelhabgreat", sum := "f0fb6901402a07845a0a66e6d5d55bc6aa657bb00c496dd95474d4242540514f", func := "lockgate/lockgatelaw10.TreeSame", spec := "treeSame", inPlace := ["internal/bytealg.IndexByteString", "internal/bytealg.IndexString"], unfollowed := true, recurses := true, named := ["internal/bytealg.MaxLen"], plainKeys := false, apart := false, narrowed := true }
def TreeSameUptoSaid : Prop := treeSameUptoRow.holds Tryz.pinned (OpenSpec.upto treeSameSpec)

/-- 'lockgatelaw10.TreeSlots', WHERE WHAT IT READS IS OF BULK AT MOST 1048576: true; the input reads as it did. -/
def treeSlotsUptoRow : OpenClaim := { program := "ytehaoeclnmelhabgreat", sum := "f0fb6901402a07845a0a66e6d5d55bc6aa657bb00c496dd95474d4242540514f", func := "lockgate/lockgatelaw10.TreeSlots", spec := "treeSlots", inPlace := ["internal/bytealg.IndexByteString", "internal/bytealg.IndexString"], unfollowed := true, recurses := true, named := ["internal/bytealg.MaxLen"], plainKeys := false, apart := false, narrowed := true }
def TreeSlotsUptoSaid : Prop := treeSlotsUptoRow.holds Tryz.pinned (OpenSpec.upto treeSlotsSpec)

end Rows
end Go.Proofs.YtehaoeclnmelhabGreat
