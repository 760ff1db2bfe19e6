/-
  No cell of these rows narrows 'for every input' (looked for: loops, veiled, ifaces, maps, wideKeys, modest, calm, conditions, laid).
  DERIVED. THE GIVEN ROWS OF THIS SEAT. 3 by the template 'for every input the law returns true; each argument reads behind the call as it read before'; 0 by the template 'total and deterministic' (their statements: YtjfgmdiafhkbgaaTotals.lean).
  GIVEN WITH THE SEED: the statements are not yours to turn. If you find one false, say at which input.
  Laid BY PROGRAM, IN A SANDBOX (cutbox-rows.mjs): the forced cells as the released guide's own fill.sh prints them over the translation 834ad24d04e2c787… (all of the seat's roots in one cut). By AI agents, Wed Nov 11 2026. No macro, syntax, notation, axiom, sorry.
-/
import Derived.Test.YtjfgmdiafhkbgaaChecked
import GoSem.Claim
import GoSem.ClaimJoined
import GoSem.ClaimMapViews
import Derived.JoinedTies
import Derived.KernelRfl
namespace Go.Proofs.Ytjfgmdiafhkbgaa
/- THE CELL 'sum', in the pinned program and in every row, IS THE sha256 OF THE DUMP (.gsa) THAT YtjfgmdiafhkbgaaProg.lean LOADS. Nothing in Lean hashes anything: it is a label: what it is worth is what the hold of that sum in a sandbox is worth. -/
noncomputable def Try.pinned : Pinned := { name := "ytjfgmdiafhkbgaa", sum := "834ad24d04e2c787cb56bd4e0a66da82c7e7b0e671eabc2421a0f4fcffa77128", checked := Try.checked }
namespace Rows
def none {H : Type} : Left H := { results := [], args := [] }

/-- 'gafferlaw21.AuditFirst': WHATEVER THE INPUT: true; the input reads as it did. -/
def auditFirstSpec : ChangeSpec := { name := "auditFirst", fn := fun _ => fun
  | [d] => { results := [.lit (.bool true)], args := [d] }
  | _ => none }
def auditFirstRow : OpenClaim := { program := "ytjfgmdiafhkbgaa", sum := "834ad24d04e2c787cb56bd4e0a66da82c7e7b0e671eabc2421a0f4fcffa77128", func := "gaffer/gafferlaw21.AuditFirst", spec := "auditFirst", unfollowed := true, recurses := true, plainKeys := false, apart := false }
def AuditFirstSaid : Prop := auditFirstRow.holds Try.pinned (OpenSpec.ofChange auditFirstSpec)

/-- ITS FALSE NEIGHBOUR: 'it returns false'. Refute it at one input. -/
def auditFirstWrong : ChangeSpec := { name := "auditFirst", fn := fun _ => fun
  | [d] => { results := [.lit (.bool false)], args := [d] }
  | _ => none }
def AuditFirstWrongFalsely : Prop := auditFirstRow.holds Try.pinned (OpenSpec.ofChange auditFirstWrong)

/-- 'gafferlaw21.AuditMeans': WHATEVER THE INPUT: true; the input reads as it did. -/
def auditMeansSpec : ChangeSpec := { name := "auditMeans", fn := fun _ => fun
  | [d] => { results := [.lit (.bool true)], args := [d] }
  | _ => none }
def auditMeansRow : OpenClaim := { program := "ytjfgmdiafhkbgaa", sum := "834ad24d04e2c787cb56bd4e0a66da82c7e7b0e671eabc2421a0f4fcffa77128", func := "gaffer/gafferlaw21.AuditMeans", spec := "auditMeans", unfollowed := true, recurses := true, plainKeys := false, apart := false }
def AuditMeansSaid : Prop := auditMeansRow.holds Try.pinned (OpenSpec.ofChange auditMeansSpec)

/-- ITS FALSE NEIGHBOUR: 'it returns false'. Refute it at one input. -/
def auditMeansWrong : ChangeSpec := { name := "auditMeans", fn := fun _ => fun
  | [d] => { results := [.lit (.bool false)], args := [d] }
  | _ => none }
def AuditMeansWrongFalsely : Prop := auditMeansRow.holds Try.pinned (OpenSpec.ofChange auditMeansWrong)

/-- 'gafferlaw21.AuditJudges': WHATEVER THE INPUT: true; the input reads as it did. -/
def auditJudgesSpec : ChangeSpec := { name := "auditJudges", fn := fun _ => fun
  | [d1, d2] => { results := [.lit (.bool true)], args := [d1, d2] }
  | _ => none }
def auditJudgesRow : OpenClaim := { program := "ytjfgmdiafhkbgaa", sum := "834ad24d04e2c787cb56bd4e0a66da82c7e7b0e671eabc2421a0f4fcffa77128", func := "gaffer/gafferlaw21.AuditJudges", spec := "auditJudges", unfollowed := true, recurses := true, plainKeys := false, apart := false }
def AuditJudgesSaid : Prop := auditJudgesRow.holds Try.pinned (OpenSpec.ofChange auditJudgesSpec)

/-- ITS FALSE NEIGHBOUR: 'it returns false'. Refute it at one input. -/
def auditJudgesWrong : ChangeSpec := { name := "auditJudges", fn := fun _ => fun
  | [d1, d2] => { results := [.lit (.bool false)], args := [d1, d2] }
  | _ => none }
def AuditJudgesWrongFalsely : Prop := auditJudgesRow.holds Try.pinned (OpenSpec.ofChange auditJudgesWrong)

/- THE SECOND FORM. 'bulk': how many values and letters a reading holds, each counted each time it is reached (what is shared counts as often as it is met; a slice's spare places count too). A statement '..UptoSaid' is the law's where the arguments, and the package variables that the reading takes, are together of bulk at most 1048576: NARROWER than '..Said'. Prove '..Said' where nothing that the law and all that it calls make is longer than what came in: it says more and counts as full. Else prove '..UptoSaid'. A law counts once. -/
mutual
def uptoBulk {H : Type} : DataW H → Nat
  | .lit (.string bytes) => bytes.length + 1
  | .lit _ => 1
  | .nil => 1
  | .ptr d => uptoBulk d + 1
  | .slice elems spare => uptoBulkAll elems + uptoBulkAll spare + 1
  | .agg parts => uptoBulkAll parts + 1
  | .iface _ d => uptoBulk d + 1
  | .map entries => uptoBulkEntries entries + 1
  | .held _ => 1
def uptoBulkAll {H : Type} : List (DataW H) → Nat
  | [] => 0
  | d :: r => uptoBulk d + uptoBulkAll r
def uptoBulkEntries {H : Type} : List (Lit × DataW H) → Nat
  | [] => 0
  | x :: r => uptoBulkEntry x + uptoBulkEntries r
def uptoBulkEntry {H : Type} : Lit × DataW H → Nat
  | (.string bytes, d) => bytes.length + uptoBulk d + 1
  | (_, d) => uptoBulk d + 1
 end
def uptoSmall : (H : Type) → List (DataW H) → Bool := fun _ ds => decide (uptoBulkAll ds ≤ 1048576)
def OpenSpec.upto (s : _root_.Go.ChangeSpec) : _root_.Go.OpenSpec := { _root_.Go.OpenSpec.ofChange s with cond := some uptoSmall }

/-- 'gafferlaw21.AuditFirst', WHERE WHAT IT READS IS OF BULK AT MOST 1048576: true; the input reads as it did. -/
def auditFirstUptoRow : OpenClaim := { program := "ytjfgmdiafhkbgaa", sum := "834ad24d04e2c787cb56bd4e0a66da82c7e7b0e671eabc2421a0f4fcffa77128", func := "gaffer/gafferlaw21.AuditFirst", spec := "auditFirst", unfollowed := true, recurses := true, plainKeys := false, apart := false, narrowed := true }
def AuditFirstUptoSaid : Prop := auditFirstUptoRow.holds Try.pinned (OpenSpec.upto auditFirstSpec)

/-- 'gafferlaw21.AuditMeans', WHERE WHAT IT READS IS OF BULK AT MOST 1048576: true; the input reads as it did. -/
def auditMeansUptoRow : OpenClaim := { program := "ytjfgmdiafhkbgaa", sum := "834ad24d04e2c787cb56bd4e0a66da82c7e7b0e671eabc2421a0f4fcffa77128", func := "gaffer/gafferlaw21.AuditMeans", spec := "auditMeans", unfollowed := true, recurses := true, plainKeys := false, apart := false, narrowed := true }
def AuditMeansUptoSaid : Prop := auditMeansUptoRow.holds Try.pinned (OpenSpec.upto auditMeansSpec)

/-- 'gafferlaw21.AuditJudges', WHERE WHAT IT READS IS OF BULK AT MOST 1048576: true; the input reads as it did. -/
def auditJudgesUptoRow : OpenClaim := { program := "ytjfgmdiafhkbgaa", sum := "834ad24d04e2c787cb56bd4e0a66da82c7e7b0e671eabc2421a0f4fcffa77128", func := "gaffer/gafferlaw21.AuditJudges", spec := "auditJudges", unfollowed := true, recurses := true, plainKeys := false, apart := false, narrowed := true }
def AuditJudgesUptoSaid : Prop := auditJudgesUptoRow.holds Try.pinned (OpenSpec.upto auditJudgesSpec)

end Rows
end Go.Proofs.Ytjfgmdiafhkbgaa
