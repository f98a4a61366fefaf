/- ProbeNil's walk. -/
import Derived.Test.YtfhfhneclplklaaProSt
import Derived.Test.YtfhfhneclplklaaOpenInts
namespace Go.Proofs.Ytfhfhneclplklaa
open Go Go.RowKit

set_option maxHeartbeats 1000000 in
set_option maxRecDepth 100000 in
theorem nilLaw_any (c : Call4) (u0 u1 : Value) (w : World) (hc : c.At w u0 u1) : Gives Try.prog 4 #[.agg #[u0, u1]] w (.bool true) := by
  unfold Gives
  obtain ⟨hs, rfl, _, _⟩ := hc
  obtain ⟨p, cap, rfl, _⟩ := hs.1.form
  have H1 := Lib.hid (fun W => nextP_nil (.slice p c.l.length cap) c.d W)
  have H2 := Lib.hid restP_nil
  have H3 := Lib.hid awake_any
  clear hs
  go_enter Try.func4, Try.ntmps4
  go_wp2_with fail
  refine Gives.mono' (H1.out _) ?_
  intro x
  go_wp2_with fail
  refine Gives.mono' (H2.out _) ?_
  intro y
  go_wp2_with fail
  refine Gives.mono' (H3.out _) ?_
  intro z
  go_wp2_with fail
  go_ret
  exact ⟨rfl, Later.ex (by repeat (first | exact ext_refl _ | refine ext_later ?_ _ | refine ext_alloc ?_ _ | refine ext_drew ?_ | refine ext_drewN ?_ _))⟩
end Go.Proofs.Ytfhfhneclplklaa
