/- The landed probe: Some. -/
import Derived.Test.YtfhfhneclplklaaProShuf
namespace Go.Proofs.Ytfhfhneclplklaa
open Go Go.RowKit

set_option maxHeartbeats 4000000 in
set_option maxRecDepth 100000 in
theorem proSome_any (v : Value) (l : List Int) (k draw : Int) (w : World) (hs : SrcI w v l) (hl : l.length * 8 ≤ 140737488351232) (h0 : 0 ≤ draw) (h1 : draw < 18446744073709551616) : Calls Try.prog 13 #[v, .int .i64 k, .int .u64 draw] w (SomeEnd l k draw w) := by
  have HSh := Lib.hid (proShuf_any v l draw w hs hl h0 h1)
  have hlen := shuf_len l draw
  obtain ⟨m, hm⟩ : ∃ m, shuf l draw = m := ⟨_, rfl⟩
  have HM := Lib.hid hm
  have hm64 : m.length ≤ 64 := by rw [← hm, hlen]; omega
  obtain ⟨pv, cv, rfl, _⟩ := hs.1.form
  unfold ShufEnd at HSh
  clear hs hlen hm
  go_enter Try.func13, Try.ntmps13
  go_wp2_with fail
  refine HSh.out.mono ?_
  rintro e w1 ⟨u, rfl, hmade⟩
  rw [HM.out] at hmade
  obtain ⟨pu, cu, rfl⟩ := ownsRow_form hmade.1
  have hmc : m.length ≤ cu := by
    rcases hmade.1.2 with ⟨h1, h2⟩ | ⟨g, cap', cur, hv, _, _, hnc, _⟩
    · omega
    · obtain ⟨_, _, rfl⟩ := Value.slice.inj hv
      exact hnc
  rcases (by omega : k < 0 ∨ (0 ≤ k ∧ k ≤ (m.length : Int)) ∨ (0 ≤ k ∧ (m.length : Int) < k)) with hk | ⟨hk, hk'⟩ | ⟨hk, hk'⟩
  · have HR := Lib.hid (show MadeI w w1 (.slice pu 0 cu) (some' l k draw) from by
      unfold some'
      rw [HM.out, show k.toNat = 0 from by omega]
      exact hmade.take rfl (by omega))
    clear hmade
    go_wp2_with fail
    go_ret
    exact ⟨_, rfl, HR.out⟩
  · obtain ⟨K, rfl⟩ : ∃ K : Nat, k = K := ⟨k.toNat, by omega⟩
    have HR := Lib.hid (show MadeI w w1 (.slice pu K cu) (some' l K draw) from by
      unfold some'
      rw [HM.out, Int.toNat_natCast]
      exact hmade.take rfl (by omega))
    clear hmade
    have hK2 : K ≤ m.length := by omega
    have hK3 : K ≤ cu := by omega
    go_wp2_with fail
    go_ret
    exact ⟨_, rfl, HR.out⟩
  · have HR := Lib.hid (show MadeI w w1 (.slice pu m.length cu) (some' l k draw) from by
      unfold some'
      rw [HM.out, List.take_of_length_le (by omega)]
      exact hmade)
    clear hmade
    go_wp2_with fail
    go_ret
    exact ⟨_, rfl, HR.out⟩
end Go.Proofs.Ytfhfhneclplklaa
