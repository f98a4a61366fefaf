/- The reference's Some. -/
import Derived.Test.YtfhfhneclplklaaRefShuf
namespace Go.Proofs.Ytfhfhneclplklaa
open Go Go.RowKit

theorem MadeI.take {w0 W : World} {p : Option Addr} {n cap : Nat} {l : List Int} (h : MadeI w0 W (.slice p n cap) l) (hn : l.length = n) {m : Nat} (hm : m ≤ n) : MadeI w0 W (.slice p m cap) (l.take m) := by
  subst hn
  have e : (l.take m).length = m := by rw [List.length_take]; omega
  refine ⟨?_, h.2⟩
  rw [e]
  refine ⟨by rw [cellsI_len, e]; omega, ?_⟩
  rcases h.1.2 with ⟨h1, h2⟩ | ⟨g, cap', cur, hv, hb, hg, hnc, hcm, hcs, htk⟩
  · obtain ⟨rfl, h3, rfl⟩ := Value.slice.inj h1
    exact .inl ⟨by rw [show m = 0 by omega], by omega⟩
  · obtain ⟨rfl, _, rfl⟩ := Value.slice.inj hv
    refine .inr ⟨g, cap, cur, rfl, hb, hg, by omega, hcm, hcs, ?_⟩
    have : cur.toList.take (m * 1) = (cur.toList.take (l.length * 1)).take m := by rw [List.take_take]; congr 1; omega
    rw [this, htk]
    simp [cellsI, List.map_take]

def SomeEnd (l : List Int) (k : Int) (draw : Int) (w : World) (e : Ending) (w' : World) : Prop := ∃ u, e = .returned u ∧ MadeI w w' u (some' l k draw)

set_option maxHeartbeats 4000000 in
set_option maxRecDepth 100000 in
theorem refSome_any (v : Value) (l : List Int) (k draw : Int) (w : World) (hs : SrcI w v l) (hl : l.length * 8 ≤ 140737488351232) (h0 : 0 ≤ draw) (h1 : draw < 18446744073709551616) : Calls Try.prog 14 #[v, .int .i64 k, .int .u64 draw] w (SomeEnd l k draw w) := by
  have HSh := Lib.hid (refShuf_any v l draw w hs hl h0 h1)
  have hlen := shuf_len l draw
  obtain ⟨m, hm⟩ : ∃ m, shuf l draw = m := ⟨_, rfl⟩
  have HM := Lib.hid hm
  have hm64 : m.length ≤ 64 := by rw [← hm, hlen]; omega
  obtain ⟨pv, cv, rfl, _⟩ := hs.1.form
  clear hs hlen hm
  go_enter Try.func14, Try.ntmps14
  go_wp2_with fail
  refine HSh.out.mono ?_
  rintro e w1 ⟨u, rfl, hmade⟩
  rw [HM.out] at hmade
  obtain ⟨pu, cu, rfl⟩ := ownsRow_form hmade.1
  have hmc : m.length ≤ cu := by
    rcases hmade.1.2 with ⟨h1, h2⟩ | ⟨g, cap', cur, hv, _, _, hnc, _⟩
    · omega
    · obtain ⟨_, _, rfl⟩ := Value.slice.inj hv
      exact hnc
  rcases (by omega : k ≤ 0 ∨ (0 < k ∧ k ≤ (m.length : Int)) ∨ ((m.length : Int) < k)) with hk | ⟨hk, hk'⟩ | hk
  · have HR := Lib.hid (show MadeI w w1 (.slice pu 0 cu) (some' l k draw) from by
      unfold some'
      rw [HM.out, show k.toNat = 0 from by omega]
      exact hmade.take rfl (by omega))
    clear hmade
    go_wp2_with fail
    go_ret
    exact ⟨_, rfl, HR.out⟩
  · obtain ⟨K, rfl⟩ : ∃ K : Nat, k = K := ⟨k.toNat, by omega⟩
    have HR := Lib.hid (show MadeI w w1 (.slice pu K cu) (some' l K draw) from by
      unfold some'
      rw [HM.out, Int.toNat_natCast]
      exact hmade.take rfl (by omega))
    clear hmade
    have hK1 : 0 < K := by omega
    have hK2 : K ≤ m.length := by omega
    have hK3 : K ≤ cu := by omega
    go_wp2_with fail
    go_ret
    exact ⟨_, rfl, HR.out⟩
  · have HR := Lib.hid (show MadeI w w1 (.slice pu m.length cu) (some' l k draw) from by
      unfold some'
      rw [HM.out, List.take_of_length_le (by omega)]
      exact hmade)
    clear hmade
    by_cases hm0 : m.length = 0
    · rw [hm0] at HR hk ⊢
      go_wp2_with fail
      go_ret
      exact ⟨_, rfl, HR.out⟩
    · have hm1 : 0 < m.length := by omega
      go_wp2_with fail
      go_ret
      exact ⟨_, rfl, HR.out⟩
end Go.Proofs.Ytfhfhneclplklaa
