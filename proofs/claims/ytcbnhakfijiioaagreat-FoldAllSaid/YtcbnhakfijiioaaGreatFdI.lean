/- The due keys as an iterator. -/
import Derived.Test.YtcbnhakfijiioaaGreatPD
import Derived.Test.YtcbnhakfijiioaaGreatVtB
import Derived.Test.YtcbnhakfijiioaaGreatPA
namespace Go.Proofs.YtcbnhakfijiioaaGreat
open Go Go.RowKit Go.BigFrame
def itDV (c : Nat) : Value := .func (.func 97) #[] #[.pointer (some ⟨c, 0, none⟩)]
def itD (v u : Value) : At := exT fun c : Nat => [prT (u = itDV c), boxT c (.cells #[v] 94 (0, 0))]
theorem Mem.itD {v u : Value} {L : List At} {H0 : Nat → Prop} {w W : World} (h : Mem (itD v u :: L) H0 w W) : ∃ c, u = itDV c ∧ Mem (boxT c (.cells #[v] 94 (0, 0)) :: L) H0 w W := by
 obtain ⟨c, h⟩ := Mem.ex h
 obtain ⟨hu, h⟩ := Mem.pr h
 exact ⟨c, hu, h⟩
set_option maxHeartbeats 4000000 in
set_option maxRecDepth 100000 in
theorem dvals_d (p : Option Addr) (n m : Nat) : DoesU Tryz.prog 61 #[.slice p n m] [] (fun u => [itD (.slice p n m) u]) := by
 intro w H hp
 have HM0 := Lib.hid (mem_refl hp)
 clear hp
 go_enter Tryz.func61, Tryz.ntmps61
 refine wp_seq (wN [(0, 3), (1, 1)] ?_)
 refine wpS_box1 (i := 0) (dd := 1) rfl (by rfl) rfl rfl rfl HM0.out covS_nil rfl ?_
 rintro b3 W2 hm1 -
 have HM4 := Lib.hid hm1
 clear hm1
 simp only [Act.put, List.setIfInBounds_toArray, List.set_cons_succ, List.set_cons_zero]
 refine wT [1] ?_
 refine wZ (wp_seq (wN [(0, 0), (1, 1)] ?_))
 refine wpS_funcC1 (i := 0) (d := some 3) rfl (by rfl) rfl rfl rfl ?_
 simp only [Act.put, List.setIfInBounds_toArray, List.set_cons_succ, List.set_cons_zero]
 refine wT [1] ?_
 refine wZ (wp_ret (bodyPost_ret (results_tmp rfl _ _ _) rfl ?_))
 exact doesU_ret (post := fun u => [itD (.slice p n m) u]) (Mem.addEx b3 (Mem.addPr rfl (Mem.only (M := [_]) HM4.out [0] rfl))) rfl
end Go.Proofs.YtcbnhakfijiioaaGreat
