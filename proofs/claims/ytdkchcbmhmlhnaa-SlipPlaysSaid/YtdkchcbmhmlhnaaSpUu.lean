/- SlipPlays' row. -/
import Derived.Test.YtdkchcbmhmlhnaaSpU
namespace Go.Proofs.Ytdkchcbmhmlhnaa
open Go.RowKit
set_option maxRecDepth 100000
theorem plays17_row {a0 : Option Addr} {n cap : Nat} {s1 : ByteArray} {w : World} (r0 : ReadS Try.prog w 22 [.slice a0 n cap]) :
    Calls Try.prog 3 #[.slice a0 n cap, .string s1] w fun e w' => e = .returned (.bool true) ∧ Below w.heap.size w w' := by
  obtain ⟨rd, hr⟩ := r0.slice (by kernel_rfl : Try.prog.underlying 22 = some (.slice 35)) (by decide +kernel)
  obtain ⟨G, hG⟩ := Stp17.of hr
  obtain ⟨⟨l⟩⟩ := s1
  exact plays17_walk hG
end Go.Proofs.Ytdkchcbmhmlhnaa
