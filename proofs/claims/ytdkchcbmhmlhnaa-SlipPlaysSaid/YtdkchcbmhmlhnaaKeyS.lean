/- Keys that are texts. -/
import Derived.Test.YtdkchcbmhmlhnaaSeek
import Derived.Test.YtdkchcbmhmlhnaaOcA
namespace Go.Proofs.Ytdkchcbmhmlhnaa
open Go.RowKit
set_option linter.unusedVariables false
set_option linter.unusedSectionVars false
set_option linter.unusedSimpArgs false
set_option maxRecDepth 100000

abbrev encS : List UInt8 → Value := fun l => tx l
theorem uStr12 : Try.prog.underlying 9 = some .string := by kernel_rfl
theorem tx_beq (a b : List UInt8) : ((⟨a.toArray⟩ : ByteArray) == ⟨b.toArray⟩) = decide (b = a) := by
  show (a.toArray == b.toArray) = _
  rw [Bool.eq_iff_iff, beq_iff_eq, decide_eq_true_iff]
  constructor
  · intro h
    have := congrArg Array.toList h
    simpa using this.symm
  · rintro rfl; rfl
theorem keyS : KeyBy Try.prog 9 encS (fun _ _ => True) := keyBy_now uStr12 (fun em n k w => by simp [Instr.checkKey, run_underlying uStr12])
  (fun a b => by
    have h : Instr.sameNow .string (encS a) (encS b) = some ((⟨a.toArray⟩ : ByteArray) == ⟨b.toArray⟩) := rfl
    rw [h, tx_beq]) (fun k => by
    have h : Instr.sameBits 10000 (encS k) (encS k) = ((⟨k.toArray⟩ : ByteArray) == ⟨k.toArray⟩) := rfl
    rw [h, tx_beq]
    simp)
end Go.Proofs.Ytdkchcbmhmlhnaa
