/- A row of bytes read as a text. -/
import Derived.Test.YtaolpcmecfhgnaaOcA
import Derived.Test.YtaolpcmecfhgnaaProg
import Derived.Laws.BytesArg
import Derived.Laws.Concat
import Derived.Laws.DeepStrings4
import Derived.Lib.Hide
import Derived.Lib.UnsafeStr
import Derived.Deep.QuietTactic
import Derived.BigQuiet
namespace Go.Proofs.Ytaolpcmecfhgnaa
open Go.RowKit
set_option linter.unusedVariables false
set_option maxRecDepth 100000

theorem uStr6 : Try.prog.underlying 9 = some .string := by kernel_rfl
theorem uU86 : Try.prog.underlying 5 = some (.int .u8) := by kernel_rfl
theorem uBytes6 : Try.prog.underlying 47 = some (.slice 5) := by kernel_rfl

set_option maxRecDepth 100000 in
theorem run_conv_bytes {w : World} {b off n cap : Nat} {l : List UInt8} (hl : l.length = n) (hc : ∀ i c, l[i]? = some c → w.cell? ⟨b, off + i, none⟩ = some (.int .u8 c.toNat)) :
    (convert 47 9 (.slice (some ⟨b, off, none⟩) n cap)).run Try.prog w = .ok (tx l) w := by
  have h := run_convert_bytes_arg (P := Try.prog) w 47 5 uBytes6 uU86 b off n cap (l.map fun c => (c.toNat : Int)) (by rw [List.length_map, hl])
    (fun i hi => by
      have e : l[i]? = some l[i] := List.getElem?_eq_getElem (by omega)
      rw [hc i _ e]
      simp [List.getD_eq_getElem?_getD, e]) 9 uStr6
  rw [h]
  congr 2
  simp only [strOfNums, List.map_map]
  congr 2
  conv => rhs; rw [← List.map_id l]
  apply List.map_congr_left
  intro c _
  simp
end Go.Proofs.Ytaolpcmecfhgnaa
