/-
  No cell of these rows narrows 'for every input' (looked for: loops, veiled, ifaces, maps, wideKeys, modest, calm, conditions, laid).
  DERIVED. THE GIVEN ROWS OF THIS SEAT. 4 by the template 'for every input the law returns true; each argument reads behind the call as it read before'; 0 by the template 'total and deterministic' (their statements: YtapnkbamilkpoaaTotals.lean).
  GIVEN WITH THE SEED: the statements are not yours to turn. If you find one false, say at which input.
  Laid BY PROGRAM, IN A SANDBOX (cutbox-rows.mjs): the forced cells as the released guide's own fill.sh prints them over the translation cbc94874a395d4ff… (all of the seat's roots in one cut). By AI agents, Wed Nov 11 2026. No macro, syntax, notation, axiom, sorry.
-/
import Derived.Test.YtapnkbamilkpoaaChecked
import GoSem.Claim
import GoSem.ClaimJoined
import GoSem.ClaimMapViews
import Derived.JoinedTies
import Derived.KernelRfl
namespace Go.Proofs.Ytapnkbamilkpoaa
/- THE CELL 'sum', in the pinned program and in every row, IS THE sha256 OF THE DUMP (.gsa) THAT YtapnkbamilkpoaaProg.lean LOADS. Nothing in Lean hashes anything: it is a label: what it is worth is what the hold of that sum in a sandbox is worth. -/
noncomputable def Try.pinned : Pinned := { name := "ytapnkbamilkpoaa", sum := "cbc94874a395d4ffa5c642db2263b9633b84caa83352b113cb58630f687eae0b", checked := Try.checked }
namespace Rows
def none {H : Type} : Left H := { results := [], args := [] }

/-- 'affluxlaw03.SchemaRights': WHATEVER THE INPUT: true; the input reads as it did. -/
def schemaRightsSpec : ChangeSpec := { name := "schemaRights", fn := fun _ => fun
  | [d1, d2, d3] => { results := [.lit (.bool true)], args := [d1, d2, d3] }
  | _ => none }
def schemaRightsRow : OpenClaim := { program := "ytapnkbamilkpoaa", sum := "cbc94874a395d4ffa5c642db2263b9633b84caa83352b113cb58630f687eae0b", func := "afflux/affluxlaw03.SchemaRights", spec := "schemaRights", unfollowed := true, recurses := true, apart := false }
def SchemaRightsSaid : Prop := schemaRightsRow.holds Try.pinned (OpenSpec.ofChange schemaRightsSpec)

/-- ITS FALSE NEIGHBOUR: 'it returns false'. Refute it at one input. -/
def schemaRightsWrong : ChangeSpec := { name := "schemaRights", fn := fun _ => fun
  | [d1, d2, d3] => { results := [.lit (.bool false)], args := [d1, d2, d3] }
  | _ => none }
def SchemaRightsWrongFalsely : Prop := schemaRightsRow.holds Try.pinned (OpenSpec.ofChange schemaRightsWrong)

/-- 'affluxlaw03.SchemaFits': WHATEVER THE INPUT: true; the input reads as it did. -/
def schemaFitsSpec : ChangeSpec := { name := "schemaFits", fn := fun _ => fun
  | [d1, d2, d3] => { results := [.lit (.bool true)], args := [d1, d2, d3] }
  | _ => none }
def schemaFitsRow : OpenClaim := { program := "ytapnkbamilkpoaa", sum := "cbc94874a395d4ffa5c642db2263b9633b84caa83352b113cb58630f687eae0b", func := "afflux/affluxlaw03.SchemaFits", spec := "schemaFits", unfollowed := true, recurses := true, apart := false }
def SchemaFitsSaid : Prop := schemaFitsRow.holds Try.pinned (OpenSpec.ofChange schemaFitsSpec)

/-- ITS FALSE NEIGHBOUR: 'it returns false'. Refute it at one input. -/
def schemaFitsWrong : ChangeSpec := { name := "schemaFits", fn := fun _ => fun
  | [d1, d2, d3] => { results := [.lit (.bool false)], args := [d1, d2, d3] }
  | _ => none }
def SchemaFitsWrongFalsely : Prop := schemaFitsRow.holds Try.pinned (OpenSpec.ofChange schemaFitsWrong)

/-- 'affluxlaw03.SchemaPicks': WHATEVER THE INPUT: true; the input reads as it did. -/
def schemaPicksSpec : ChangeSpec := { name := "schemaPicks", fn := fun _ => fun
  | [d1, d2] => { results := [.lit (.bool true)], args := [d1, d2] }
  | _ => none }
def schemaPicksRow : OpenClaim := { program := "ytapnkbamilkpoaa", sum := "cbc94874a395d4ffa5c642db2263b9633b84caa83352b113cb58630f687eae0b", func := "afflux/affluxlaw03.SchemaPicks", spec := "schemaPicks", unfollowed := true, recurses := true, apart := false }
def SchemaPicksSaid : Prop := schemaPicksRow.holds Try.pinned (OpenSpec.ofChange schemaPicksSpec)

/-- ITS FALSE NEIGHBOUR: 'it returns false'. Refute it at one input. -/
def schemaPicksWrong : ChangeSpec := { name := "schemaPicks", fn := fun _ => fun
  | [d1, d2] => { results := [.lit (.bool false)], args := [d1, d2] }
  | _ => none }
def SchemaPicksWrongFalsely : Prop := schemaPicksRow.holds Try.pinned (OpenSpec.ofChange schemaPicksWrong)

/-- 'affluxlaw03.SchemaStands': WHATEVER THE INPUT: true; the input reads as it did. -/
def schemaStandsSpec : ChangeSpec := { name := "schemaStands", fn := fun _ => fun
  | [d1, d2, d3, d4] => { results := [.lit (.bool true)], args := [d1, d2, d3, d4] }
  | _ => none }
def schemaStandsRow : OpenClaim := { program := "ytapnkbamilkpoaa", sum := "cbc94874a395d4ffa5c642db2263b9633b84caa83352b113cb58630f687eae0b", func := "afflux/affluxlaw03.SchemaStands", spec := "schemaStands", unfollowed := true, recurses := true, apart := false }
def SchemaStandsSaid : Prop := schemaStandsRow.holds Try.pinned (OpenSpec.ofChange schemaStandsSpec)

/-- ITS FALSE NEIGHBOUR: 'it returns false'. Refute it at one input. -/
def schemaStandsWrong : ChangeSpec := { name := "schemaStands", fn := fun _ => fun
  | [d1, d2, d3, d4] => { results := [.lit (.bool false)], args := [d1, d2, d3, d4] }
  | _ => none }
def SchemaStandsWrongFalsely : Prop := schemaStandsRow.holds Try.pinned (OpenSpec.ofChange schemaStandsWrong)

/- THE SECOND FORM. 'bulk': how many values and letters a reading holds, each counted each time it is reached (what is shared counts as often as it is met; a slice's spare places count too). A statement '..UptoSaid' is the law's where the arguments, and the package variables that the reading takes, are together of bulk at most 1048576: NARROWER than '..Said'. Prove '..Said' where nothing that the law and all that it calls make is longer than what came in: it says more and counts as full. Else prove '..UptoSaid'. A law counts once. -/
mutual
def uptoBulk {H : Type} : DataW H → Nat
  | .lit (.string bytes) => bytes.length + 1
  | .lit _ => 1
  | .nil => 1
  | .ptr d => uptoBulk d + 1
  | .slice elems spare => uptoBulkAll elems + uptoBulkAll spare + 1
  | .agg parts => uptoBulkAll parts + 1
  | .iface _ d => uptoBulk d + 1
  | .map entries => uptoBulkEntries entries + 1
  | .held _ => 1
def uptoBulkAll {H : Type} : List (DataW H) → Nat
  | [] => 0
  | d :: r => uptoBulk d + uptoBulkAll r
def uptoBulkEntries {H : Type} : List (Lit × DataW H) → Nat
  | [] => 0
  | x :: r => uptoBulkEntry x + uptoBulkEntries r
def uptoBulkEntry {H : Type} : Lit × DataW H → Nat
  | (.string bytes, d) => bytes.length + uptoBulk d + 1
  | (_, d) => uptoBulk d + 1
 end
def uptoSmall : (H : Type) → List (DataW H) → Bool := fun _ ds => decide (uptoBulkAll ds ≤ 1048576)
def OpenSpec.upto (s : _root_.Go.ChangeSpec) : _root_.Go.OpenSpec := { _root_.Go.OpenSpec.ofChange s with cond := some uptoSmall }

/-- 'affluxlaw03.SchemaRights', WHERE WHAT IT READS IS OF BULK AT MOST 1048576: true; the input reads as it did. -/
def schemaRightsUptoRow : OpenClaim := { program := "ytapnkbamilkpoaa", sum := "cbc94874a395d4ffa5c642db2263b9633b84caa83352b113cb58630f687eae0b", func := "afflux/affluxlaw03.SchemaRights", spec := "schemaRights", unfollowed := true, recurses := true, apart := false, narrowed := true }
def SchemaRightsUptoSaid : Prop := schemaRightsUptoRow.holds Try.pinned (OpenSpec.upto schemaRightsSpec)

/-- 'affluxlaw03.SchemaFits', WHERE WHAT IT READS IS OF BULK AT MOST 1048576: true; the input reads as it did. -/
def schemaFitsUptoRow : OpenClaim := { program := "ytapnkbamilkpoaa", sum := "cbc94874a395d4ffa5c642db2263b9633b84caa83352b113cb58630f687eae0b", func := "afflux/affluxlaw03.SchemaFits", spec := "schemaFits", unfollowed := true, recurses := true, apart := false, narrowed := true }
def SchemaFitsUptoSaid : Prop := schemaFitsUptoRow.holds Try.pinned (OpenSpec.upto schemaFitsSpec)

/-- 'affluxlaw03.SchemaPicks', WHERE WHAT IT READS IS OF BULK AT MOST 1048576: true; the input reads as it did. -/
def schemaPicksUptoRow : OpenClaim := { program := "ytapnkbamilkpoaa", sum := "cbc94874a395d4ffa5c642db2263b9633b84caa83352b113cb58630f687eae0b", func := "afflux/affluxlaw03.SchemaPicks", spec := "schemaPicks", unfollowed := true, recurses := true, apart := false, narrowed := true }
def SchemaPicksUptoSaid : Prop := schemaPicksUptoRow.holds Try.pinned (OpenSpec.upto schemaPicksSpec)

/-- 'affluxlaw03.SchemaStands', WHERE WHAT IT READS IS OF BULK AT MOST 1048576: true; the input reads as it did. -/
def schemaStandsUptoRow : OpenClaim := { program := "ytapnkbamilkpoaa", sum := "cbc94874a395d4ffa5c642db2263b9633b84caa83352b113cb58630f687eae0b", func := "afflux/affluxlaw03.SchemaStands", spec := "schemaStands", unfollowed := true, recurses := true, apart := false, narrowed := true }
def SchemaStandsUptoSaid : Prop := schemaStandsUptoRow.holds Try.pinned (OpenSpec.upto schemaStandsSpec)

end Rows
end Go.Proofs.Ytapnkbamilkpoaa
