/-
  No cell of these rows narrows 'for every input' (looked for: loops, veiled, ifaces, maps, wideKeys, modest, calm, conditions, laid).
  DERIVED. THE GIVEN ROWS OF THIS SEAT. 10 by the template 'for every input the law returns true; each argument reads behind the call as it read before'; 0 by the template 'total and deterministic' (their statements: YtmmmnghiegajmaaTotals.lean).
  GIVEN WITH THE SEED: the statements are not yours to turn. If you find one false, say at which input.
  Laid BY PROGRAM, IN A SANDBOX (cutbox-rows.mjs): the forced cells as the released guide's own fill.sh prints them over the translation b9f52cf27514c8bc… (all of the seat's roots in one cut). By AI agents, Wed Nov 11 2026. No macro, syntax, notation, axiom, sorry.
-/
import Derived.Test.YtmmmnghiegajmaaChecked
import GoSem.Claim
import GoSem.ClaimJoined
import GoSem.ClaimMapViews
import Derived.JoinedTies
import Derived.KernelRfl
namespace Go.Proofs.Ytmmmnghiegajmaa
/- THE CELL 'sum', in the pinned program and in every row, IS THE sha256 OF THE DUMP (.gsa) THAT YtmmmnghiegajmaaProg.lean LOADS. Nothing in Lean hashes anything: it is a label: what it is worth is what the hold of that sum in a sandbox is worth. -/
noncomputable def Try.pinned : Pinned := { name := "ytmmmnghiegajmaa", sum := "b9f52cf27514c8bc62e2d84944d43908d7831902092586f7019c257cefb081d4", checked := Try.checked }
namespace Rows
def none {H : Type} : Left H := { results := [], args := [] }

/-- 'heraldlaw.Longests': WHATEVER THE INPUT: true; the input reads as it did. -/
def longestsSpec : ChangeSpec := { name := "longests", fn := fun _ => fun
  | [d] => { results := [.lit (.bool true)], args := [d] }
  | _ => none }
def longestsRow : OpenClaim := { program := "ytmmmnghiegajmaa", sum := "b9f52cf27514c8bc62e2d84944d43908d7831902092586f7019c257cefb081d4", func := "herald/heraldlaw.Longests", spec := "longests", recurses := true, apart := false }
def LongestsSaid : Prop := longestsRow.holds Try.pinned (OpenSpec.ofChange longestsSpec)

/-- ITS FALSE NEIGHBOUR: 'it returns false'. Refute it at one input. -/
def longestsWrong : ChangeSpec := { name := "longests", fn := fun _ => fun
  | [d] => { results := [.lit (.bool false)], args := [d] }
  | _ => none }
def LongestsWrongFalsely : Prop := longestsRow.holds Try.pinned (OpenSpec.ofChange longestsWrong)

/-- 'heraldlaw.News': WHATEVER THE INPUT: true; the input reads as it did. -/
def newsSpec : ChangeSpec := { name := "news", fn := fun _ => fun
  | [d] => { results := [.lit (.bool true)], args := [d] }
  | _ => none }
def newsRow : OpenClaim := { program := "ytmmmnghiegajmaa", sum := "b9f52cf27514c8bc62e2d84944d43908d7831902092586f7019c257cefb081d4", func := "herald/heraldlaw.News", spec := "news", apart := false }
def NewsSaid : Prop := newsRow.holds Try.pinned (OpenSpec.ofChange newsSpec)

/-- ITS FALSE NEIGHBOUR: 'it returns false'. Refute it at one input. -/
def newsWrong : ChangeSpec := { name := "news", fn := fun _ => fun
  | [d] => { results := [.lit (.bool false)], args := [d] }
  | _ => none }
def NewsWrongFalsely : Prop := newsRow.holds Try.pinned (OpenSpec.ofChange newsWrong)

/-- 'heraldlaw.Engines': WHATEVER THE INPUT: true; the input reads as it did. -/
def enginesSpec : ChangeSpec := { name := "engines", fn := fun _ => fun
  | [d1, d2] => { results := [.lit (.bool true)], args := [d1, d2] }
  | _ => none }
def enginesRow : OpenClaim := { program := "ytmmmnghiegajmaa", sum := "b9f52cf27514c8bc62e2d84944d43908d7831902092586f7019c257cefb081d4", func := "herald/heraldlaw.Engines", spec := "engines", apart := false }
def EnginesSaid : Prop := enginesRow.holds Try.pinned (OpenSpec.ofChange enginesSpec)

/-- ITS FALSE NEIGHBOUR: 'it returns false'. Refute it at one input. -/
def enginesWrong : ChangeSpec := { name := "engines", fn := fun _ => fun
  | [d1, d2] => { results := [.lit (.bool false)], args := [d1, d2] }
  | _ => none }
def EnginesWrongFalsely : Prop := enginesRow.holds Try.pinned (OpenSpec.ofChange enginesWrong)

/-- 'heraldlaw.Compiles': WHATEVER THE INPUT: true; the input reads as it did. -/
def compilesSpec : ChangeSpec := { name := "compiles", fn := fun _ => fun
  | [d] => { results := [.lit (.bool true)], args := [d] }
  | _ => none }
def compilesRow : OpenClaim := { program := "ytmmmnghiegajmaa", sum := "b9f52cf27514c8bc62e2d84944d43908d7831902092586f7019c257cefb081d4", func := "herald/heraldlaw.Compiles", spec := "compiles", recurses := true, apart := false }
def CompilesSaid : Prop := compilesRow.holds Try.pinned (OpenSpec.ofChange compilesSpec)

/-- ITS FALSE NEIGHBOUR: 'it returns false'. Refute it at one input. -/
def compilesWrong : ChangeSpec := { name := "compiles", fn := fun _ => fun
  | [d] => { results := [.lit (.bool false)], args := [d] }
  | _ => none }
def CompilesWrongFalsely : Prop := compilesRow.holds Try.pinned (OpenSpec.ofChange compilesWrong)

/-- 'heraldlaw.Opens': WHATEVER THE INPUT: true; the input reads as it did. -/
def opensSpec : ChangeSpec := { name := "opens", fn := fun _ => fun
  | [d1, d2, d3] => { results := [.lit (.bool true)], args := [d1, d2, d3] }
  | _ => none }
def opensRow : OpenClaim := { program := "ytmmmnghiegajmaa", sum := "b9f52cf27514c8bc62e2d84944d43908d7831902092586f7019c257cefb081d4", func := "herald/heraldlaw.Opens", spec := "opens", apart := false }
def OpensSaid : Prop := opensRow.holds Try.pinned (OpenSpec.ofChange opensSpec)

/-- ITS FALSE NEIGHBOUR: 'it returns false'. Refute it at one input. -/
def opensWrong : ChangeSpec := { name := "opens", fn := fun _ => fun
  | [d1, d2, d3] => { results := [.lit (.bool false)], args := [d1, d2, d3] }
  | _ => none }
def OpensWrongFalsely : Prop := opensRow.holds Try.pinned (OpenSpec.ofChange opensWrong)

/-- 'heraldkeep.Timeline': WHATEVER THE INPUT: true; the input reads as it did. -/
def timelineSpec : ChangeSpec := { name := "timeline", fn := fun _ => fun
  | [d1, d2, d3] => { results := [.lit (.bool true)], args := [d1, d2, d3] }
  | _ => none }
def timelineRow : OpenClaim := { program := "ytmmmnghiegajmaa", sum := "b9f52cf27514c8bc62e2d84944d43908d7831902092586f7019c257cefb081d4", func := "herald/heraldkeep.Timeline", spec := "timeline", recurses := true, apart := false }
def TimelineSaid : Prop := timelineRow.holds Try.pinned (OpenSpec.ofChange timelineSpec)

/-- ITS FALSE NEIGHBOUR: 'it returns false'. Refute it at one input. -/
def timelineWrong : ChangeSpec := { name := "timeline", fn := fun _ => fun
  | [d1, d2, d3] => { results := [.lit (.bool false)], args := [d1, d2, d3] }
  | _ => none }
def TimelineWrongFalsely : Prop := timelineRow.holds Try.pinned (OpenSpec.ofChange timelineWrong)

/-- 'heraldkeep.Tried': WHATEVER THE INPUT: true; the input reads as it did. -/
def triedSpec : ChangeSpec := { name := "tried", fn := fun _ => fun
  | [d1, d2, d3, d4, d5] => { results := [.lit (.bool true)], args := [d1, d2, d3, d4, d5] }
  | _ => none }
def triedRow : OpenClaim := { program := "ytmmmnghiegajmaa", sum := "b9f52cf27514c8bc62e2d84944d43908d7831902092586f7019c257cefb081d4", func := "herald/heraldkeep.Tried", spec := "tried", recurses := true, apart := false }
def TriedSaid : Prop := triedRow.holds Try.pinned (OpenSpec.ofChange triedSpec)

/-- ITS FALSE NEIGHBOUR: 'it returns false'. Refute it at one input. -/
def triedWrong : ChangeSpec := { name := "tried", fn := fun _ => fun
  | [d1, d2, d3, d4, d5] => { results := [.lit (.bool false)], args := [d1, d2, d3, d4, d5] }
  | _ => none }
def TriedWrongFalsely : Prop := triedRow.holds Try.pinned (OpenSpec.ofChange triedWrong)

/-- 'heraldkeep.Asked': WHATEVER THE INPUT: true; the input reads as it did. -/
def askedSpec : ChangeSpec := { name := "asked", fn := fun _ => fun
  | [d1, d2, d3, d4] => { results := [.lit (.bool true)], args := [d1, d2, d3, d4] }
  | _ => none }
def askedRow : OpenClaim := { program := "ytmmmnghiegajmaa", sum := "b9f52cf27514c8bc62e2d84944d43908d7831902092586f7019c257cefb081d4", func := "herald/heraldkeep.Asked", spec := "asked", recurses := true, apart := false }
def AskedSaid : Prop := askedRow.holds Try.pinned (OpenSpec.ofChange askedSpec)

/-- ITS FALSE NEIGHBOUR: 'it returns false'. Refute it at one input. -/
def askedWrong : ChangeSpec := { name := "asked", fn := fun _ => fun
  | [d1, d2, d3, d4] => { results := [.lit (.bool false)], args := [d1, d2, d3, d4] }
  | _ => none }
def AskedWrongFalsely : Prop := askedRow.holds Try.pinned (OpenSpec.ofChange askedWrong)

/-- 'heraldkeep.Beside': WHATEVER THE INPUT: true; the input reads as it did. -/
def besideSpec : ChangeSpec := { name := "beside", fn := fun _ => fun
  | [d1, d2, d3] => { results := [.lit (.bool true)], args := [d1, d2, d3] }
  | _ => none }
def besideRow : OpenClaim := { program := "ytmmmnghiegajmaa", sum := "b9f52cf27514c8bc62e2d84944d43908d7831902092586f7019c257cefb081d4", func := "herald/heraldkeep.Beside", spec := "beside", recurses := true, apart := false }
def BesideSaid : Prop := besideRow.holds Try.pinned (OpenSpec.ofChange besideSpec)

/-- ITS FALSE NEIGHBOUR: 'it returns false'. Refute it at one input. -/
def besideWrong : ChangeSpec := { name := "beside", fn := fun _ => fun
  | [d1, d2, d3] => { results := [.lit (.bool false)], args := [d1, d2, d3] }
  | _ => none }
def BesideWrongFalsely : Prop := besideRow.holds Try.pinned (OpenSpec.ofChange besideWrong)

/-- 'heraldkeep.Ended': WHATEVER THE INPUT: true; the input reads as it did. -/
def endedSpec : ChangeSpec := { name := "ended", fn := fun _ => fun
  | [d1, d2] => { results := [.lit (.bool true)], args := [d1, d2] }
  | _ => none }
def endedRow : OpenClaim := { program := "ytmmmnghiegajmaa", sum := "b9f52cf27514c8bc62e2d84944d43908d7831902092586f7019c257cefb081d4", func := "herald/heraldkeep.Ended", spec := "ended", recurses := true, apart := false }
def EndedSaid : Prop := endedRow.holds Try.pinned (OpenSpec.ofChange endedSpec)

/-- ITS FALSE NEIGHBOUR: 'it returns false'. Refute it at one input. -/
def endedWrong : ChangeSpec := { name := "ended", fn := fun _ => fun
  | [d1, d2] => { results := [.lit (.bool false)], args := [d1, d2] }
  | _ => none }
def EndedWrongFalsely : Prop := endedRow.holds Try.pinned (OpenSpec.ofChange endedWrong)

/- THE SECOND FORM. 'bulk': how many values and letters a reading holds, each counted each time it is reached (what is shared counts as often as it is met; a slice's spare places count too). A statement '..UptoSaid' is the law's where the arguments, and the package variables that the reading takes, are together of bulk at most 1048576: NARROWER than '..Said'. Prove '..Said' where nothing that the law and all that it calls make is longer than what came in: it says more and counts as full. Else prove '..UptoSaid'. A law counts once. -/
mutual
def uptoBulk {H : Type} : DataW H → Nat
  | .lit (.string bytes) => bytes.length + 1
  | .lit _ => 1
  | .nil => 1
  | .ptr d => uptoBulk d + 1
  | .slice elems spare => uptoBulkAll elems + uptoBulkAll spare + 1
  | .agg parts => uptoBulkAll parts + 1
  | .iface _ d => uptoBulk d + 1
  | .map entries => uptoBulkEntries entries + 1
  | .held _ => 1
def uptoBulkAll {H : Type} : List (DataW H) → Nat
  | [] => 0
  | d :: r => uptoBulk d + uptoBulkAll r
def uptoBulkEntries {H : Type} : List (Lit × DataW H) → Nat
  | [] => 0
  | x :: r => uptoBulkEntry x + uptoBulkEntries r
def uptoBulkEntry {H : Type} : Lit × DataW H → Nat
  | (.string bytes, d) => bytes.length + uptoBulk d + 1
  | (_, d) => uptoBulk d + 1
 end
def uptoSmall : (H : Type) → List (DataW H) → Bool := fun _ ds => decide (uptoBulkAll ds ≤ 1048576)
def OpenSpec.upto (s : _root_.Go.ChangeSpec) : _root_.Go.OpenSpec := { _root_.Go.OpenSpec.ofChange s with cond := some uptoSmall }

/-- 'heraldlaw.Longests', WHERE WHAT IT READS IS OF BULK AT MOST 1048576: true; the input reads as it did. -/
def longestsUptoRow : OpenClaim := { program := "ytmmmnghiegajmaa", sum := "b9f52cf27514c8bc62e2d84944d43908d7831902092586f7019c257cefb081d4", func := "herald/heraldlaw.Longests", spec := "longests", recurses := true, apart := false, narrowed := true }
def LongestsUptoSaid : Prop := longestsUptoRow.holds Try.pinned (OpenSpec.upto longestsSpec)

/-- 'heraldlaw.News', WHERE WHAT IT READS IS OF BULK AT MOST 1048576: true; the input reads as it did. -/
def newsUptoRow : OpenClaim := { program := "ytmmmnghiegajmaa", sum := "b9f52cf27514c8bc62e2d84944d43908d7831902092586f7019c257cefb081d4", func := "herald/heraldlaw.News", spec := "news", apart := false, narrowed := true }
def NewsUptoSaid : Prop := newsUptoRow.holds Try.pinned (OpenSpec.upto newsSpec)

/-- 'heraldlaw.Engines', WHERE WHAT IT READS IS OF BULK AT MOST 1048576: true; the input reads as it did. -/
def enginesUptoRow : OpenClaim := { program := "ytmmmnghiegajmaa", sum := "b9f52cf27514c8bc62e2d84944d43908d7831902092586f7019c257cefb081d4", func := "herald/heraldlaw.Engines", spec := "engines", apart := false, narrowed := true }
def EnginesUptoSaid : Prop := enginesUptoRow.holds Try.pinned (OpenSpec.upto enginesSpec)

/-- 'heraldlaw.Compiles', WHERE WHAT IT READS IS OF BULK AT MOST 1048576: true; the input reads as it did. -/
def compilesUptoRow : OpenClaim := { program := "ytmmmnghiegajmaa", sum := "b9f52cf27514c8bc62e2d84944d43908d7831902092586f7019c257cefb081d4", func := "herald/heraldlaw.Compiles", spec := "compiles", recurses := true, apart := false, narrowed := true }
def CompilesUptoSaid : Prop := compilesUptoRow.holds Try.pinned (OpenSpec.upto compilesSpec)

/-- 'heraldlaw.Opens', WHERE WHAT IT READS IS OF BULK AT MOST 1048576: true; the input reads as it did. -/
def opensUptoRow : OpenClaim := { program := "ytmmmnghiegajmaa", sum := "b9f52cf27514c8bc62e2d84944d43908d7831902092586f7019c257cefb081d4", func := "herald/heraldlaw.Opens", spec := "opens", apart := false, narrowed := true }
def OpensUptoSaid : Prop := opensUptoRow.holds Try.pinned (OpenSpec.upto opensSpec)

/-- 'heraldkeep.Timeline', WHERE WHAT IT READS IS OF BULK AT MOST 1048576: true; the input reads as it did. -/
def timelineUptoRow : OpenClaim := { program := "ytmmmnghiegajmaa", sum := "b9f52cf27514c8bc62e2d84944d43908d7831902092586f7019c257cefb081d4", func := "herald/heraldkeep.Timeline", spec := "timeline", recurses := true, apart := false, narrowed := true }
def TimelineUptoSaid : Prop := timelineUptoRow.holds Try.pinned (OpenSpec.upto timelineSpec)

/-- 'heraldkeep.Tried', WHERE WHAT IT READS IS OF BULK AT MOST 1048576: true; the input reads as it did. -/
def triedUptoRow : OpenClaim := { program := "ytmmmnghiegajmaa", sum := "b9f52cf27514c8bc62e2d84944d43908d7831902092586f7019c257cefb081d4", func := "herald/heraldkeep.Tried", spec := "tried", recurses := true, apart := false, narrowed := true }
def TriedUptoSaid : Prop := triedUptoRow.holds Try.pinned (OpenSpec.upto triedSpec)

/-- 'heraldkeep.Asked', WHERE WHAT IT READS IS OF BULK AT MOST 1048576: true; the input reads as it did. -/
def askedUptoRow : OpenClaim := { program := "ytmmmnghiegajmaa", sum := "b9f52cf27514c8bc62e2d84944d43908d7831902092586f7019c257cefb081d4", func := "herald/heraldkeep.Asked", spec := "asked", recurses := true, apart := false, narrowed := true }
def AskedUptoSaid : Prop := askedUptoRow.holds Try.pinned (OpenSpec.upto askedSpec)

/-- 'heraldkeep.Beside', WHERE WHAT IT READS IS OF BULK AT MOST 1048576: true; the input reads as it did. -/
def besideUptoRow : OpenClaim := { program := "ytmmmnghiegajmaa", sum := "b9f52cf27514c8bc62e2d84944d43908d7831902092586f7019c257cefb081d4", func := "herald/heraldkeep.Beside", spec := "beside", recurses := true, apart := false, narrowed := true }
def BesideUptoSaid : Prop := besideUptoRow.holds Try.pinned (OpenSpec.upto besideSpec)

/-- 'heraldkeep.Ended', WHERE WHAT IT READS IS OF BULK AT MOST 1048576: true; the input reads as it did. -/
def endedUptoRow : OpenClaim := { program := "ytmmmnghiegajmaa", sum := "b9f52cf27514c8bc62e2d84944d43908d7831902092586f7019c257cefb081d4", func := "herald/heraldkeep.Ended", spec := "ended", recurses := true, apart := false, narrowed := true }
def EndedUptoSaid : Prop := endedUptoRow.holds Try.pinned (OpenSpec.upto endedSpec)

end Rows
end Go.Proofs.Ytmmmnghiegajmaa
