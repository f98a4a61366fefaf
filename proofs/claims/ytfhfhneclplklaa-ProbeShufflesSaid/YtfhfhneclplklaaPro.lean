/- The landed probe: slices.Clone, step, Shuffle, Some. -/
import Derived.Test.YtfhfhneclplklaaRefSome
import Derived.Test.YtfhfhneclplklaaRefNext
import Derived.Lib.SliceRun
namespace Go.Proofs.Ytfhfhneclplklaa
open Go Go.RowKit

theorem uSlI : Try.prog.underlying 26 = some (.slice 3) := Try.underlying26
theorem eqlNilI (w : World) (a : Option Addr) (n c : Nat) : (binOp .eql 26 (.slice a n c) (.slice none 0 0)).run Try.prog w = .ok (.bool a.isNone) w := Go.Lib.run_eql_slice_nil w _ _ a n c 0 0 uSlI

def CopyEnd (l : List Int) (w : World) (e : Ending) (w' : World) : Prop := ∃ u, e = .returned u ∧ MadeI w w' u l
theorem madeI_made (w : World) : MadeI w (w.alloc (.cells #[] 3)) (.slice (some ⟨w.heap.size, 0, none⟩) 0 0) [] :=
  ⟨World.ownsRow_lit w #[] 0 (Nat.le_refl _) (by decide) rfl, ext_alloc (ext_refl w) _⟩

set_option maxHeartbeats 1000000 in
set_option maxRecDepth 100000 in
theorem clone_any (v : Value) (l : List Int) (w : World) (hs : SrcI w v l) (hl : l.length * 8 ≤ 140737488351232) : Calls Try.prog 21 #[v] w (CopyEnd l w) := by
  obtain ⟨p, cap, rfl, hcap, hpc⟩ := hs.2
  cases p with
  | none =>
    obtain rfl := hpc rfl
    obtain rfl : l = [] := List.eq_nil_of_length_eq_zero (by omega)
    have HE := Lib.hid (show CopyEnd [] w (.returned (.slice none 0 0)) w from ⟨_, rfl, madeI_nil (Below.refl _ _)⟩)
    clear hs
    have he := eqlNilI w none 0 0
    go_enter Try.func21, Try.ntmps21
    go_wp2_with fail
    go_ret
    exact HE.out
  | some a =>
    have hM0 : SrcI (w.alloc (.cells #[] 3)) (.slice (some a) l.length cap) l := hs.below (ext_alloc (ext_refl w) _)
    have HS := Lib.hid hM0
    have HM := Lib.hid (madeI_made w)
    have HB : Hid ((([] : List Int).length + l.length) * 8 ≤ 140737488355328) := Lib.hid (by simp; omega)
    have he := eqlNilI w (some a) l.length cap
    clear hs hM0
    go_enter Try.func21, Try.ntmps21
    go_wp2_with (at_builtin; refine wpListI_append (xs := []) (l := l) rfl _ _ rfl rfl rfl HM.out HS.out HB.out ?_; intro v' w1 hm; rw [List.nil_append] at hm; have HR := Lib.hid hm; clear hm)
    go_ret
    exact ⟨_, rfl, HR.out⟩

theorem lcg_wrap' (x : Int) : IntKind.u64.wrap (IntKind.u64.wrap (6364136223846793005 * x) + 1442695040888963407) = lcg x := by
  rw [Int.mul_comm, lcg_wrap]
set_option maxHeartbeats 400000 in
theorem step_any (x : Int) (w : World) : Gives Try.prog 22 #[.int .u64 x] w (.int .u64 (lcg x)) := by
  unfold Gives
  go_enter Try.func22, Try.ntmps22
  go_wp2_with fail
  go_ret
  exact ⟨by rw [lcg_wrap']; rfl, Later.ex (by repeat (first | exact ext_refl _ | refine ext_alloc ?_ _ | refine ext_later ?_ _ | refine ext_drew ?_ | refine ext_drewN ?_ _))⟩
end Go.Proofs.Ytfhfhneclplklaa
