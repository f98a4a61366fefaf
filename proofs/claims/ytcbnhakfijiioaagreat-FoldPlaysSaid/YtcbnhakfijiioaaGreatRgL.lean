/- RgL: RgL. -/
import Derived.Test.YtcbnhakfijiioaaGreatRgK
import Derived.Test.YtcbnhakfijiioaaGreatPA
namespace Go.Proofs.YtcbnhakfijiioaaGreat
section
open Go Go.RowKit Go.BigFrame
set_option maxHeartbeats 4000000 in
set_option maxRecDepth 100000 in
theorem gmay_d (R : At) (va : Value) (a : Rg) (ha : Reads elemI R va a.p.2.2) (la : a.p.2.2.length ≤ 1000) : Does Tryz.prog 118 #[rgV a va] [R] (.bool (mayR a)) [R] := by
 intro w H hp
 have HM0 := Lib.hid (mem_refl hp)
 clear hp
 obtain ⟨pa, ca, rfl⟩ := row_form (Mem.src HM0.out 0 rfl ha)
 go_enter Tryz.func118, Tryz.ntmps118
 refine wp_seq (wN [(0, 3), (1, 1)] ?_)
 refine wBh 0 HM0 fun b3 W2 HM4 => ?_
 refine wT [1] ?_
 refine wZ (wp_seq ?_)
 rcases (show (tab8 a.s).all statB = false ∨ ((tab8 a.s).all statB = true ∧ mayP a.p = false) ∨ ((tab8 a.s).all statB = true ∧ mayP a.p = true) from by cases (tab8 a.s).all statB <;> cases mayP a.p <;> simp) with h1 | ⟨h1, h2⟩ | ⟨h1, h2⟩
 ·replace h1 := Lib.hid h1
  refine wN [(0, 1), (1, 1), (2, 3), (3, 1), (4, 1), (5, 1), (6, 3), (7, 1), (8, 1), (9, 1), (10, 1), (11, 3), (12, 1), (13, 1)] (wT [0] ?_)
  refine wR 1 (run_sliceSt rfl rfl) ?_
  refine wD2 2 [_] [_, _] Tryz.call141 (everyS_d b3 a _) HM4 [0] fun W6 hm5 => ?_
  rw [h1.out]
  have HM7 := Lib.hid hm5
  clear hm5
  refine wT [3, 4] ?_
  refine wK 5 ?_
  refine wK 6 ?_
  refine wT [7, 8, 9] ?_
  refine wK 10 ?_
  refine wK 11 ?_
  refine wT [12, 13] ?_
  refine wZ (wp_ret (bodyPost_ret (results_tmp rfl _ _ _) rfl ?_))
  have hc : mayR a = false := by unfold mayR; rw [h1.out]; rfl
  rw [hc]
  exact does_ret (Mem.only (M := [_]) HM7.out [1] rfl) rfl rfl
 ·replace h1 := Lib.hid h1
  replace h2 := Lib.hid h2
  refine wN [(0, 1), (1, 1), (2, 3), (3, 1), (4, 1), (5, 1), (6, 3), (7, 1), (8, 1), (9, 1), (10, 1), (11, 3), (12, 1), (13, 1)] (wT [0] ?_)
  refine wR 1 (run_sliceSt rfl rfl) ?_
  refine wD2 2 [_] [_, _] Tryz.call141 (everyS_d b3 a _) HM4 [0] fun W9 hm8 => ?_
  rw [h1.out]
  have HM10 := Lib.hid hm8
  clear hm8
  refine wT [3, 4] ?_
  refine wL 5 (plC (a).p (.slice pa a.p.2.2.length ca)) (HM10.out.sub 0 rfl (rgC_pl)) Tryz.underlying73 ?_
  dsimp only [plC]
  refine wD1 6 [_] [_, _] Tryz.call143 (may_d R _ a.p.1 a.p.2.1 a.p.2.2 ha la) HM10 [1] fun W12 hm11 => ?_
  rw [show mayP (a.p.1, a.p.2.1, a.p.2.2) = mayP a.p from rfl, h2.out]
  have HM13 := Lib.hid hm11
  clear hm11
  refine wT [7, 8, 9] ?_
  refine wK 10 ?_
  refine wK 11 ?_
  refine wT [12, 13] ?_
  refine wZ (wp_ret (bodyPost_ret (results_tmp rfl _ _ _) rfl ?_))
  have hc : mayR a = false := by unfold mayR; rw [h1.out, h2.out]; cases (tab16 a.e).all mayE <;> rfl
  rw [hc]
  exact does_ret (Mem.only (M := [_]) HM13.out [0] rfl) rfl rfl
 ·replace h1 := Lib.hid h1
  replace h2 := Lib.hid h2
  refine wN [(0, 1), (1, 1), (2, 3), (3, 1), (4, 1), (5, 1), (6, 3), (7, 1), (8, 1), (9, 1), (10, 1), (11, 3), (12, 1), (13, 1)] (wT [0] ?_)
  refine wR 1 (run_sliceSt rfl rfl) ?_
  refine wD2 2 [_] [_, _] Tryz.call141 (everyS_d b3 a _) HM4 [0] fun W15 hm14 => ?_
  rw [h1.out]
  have HM16 := Lib.hid hm14
  clear hm14
  refine wT [3, 4] ?_
  refine wL 5 (plC (a).p (.slice pa a.p.2.2.length ca)) (HM16.out.sub 0 rfl (rgC_pl)) Tryz.underlying73 ?_
  dsimp only [plC]
  refine wD1 6 [_] [_, _] Tryz.call143 (may_d R _ a.p.1 a.p.2.1 a.p.2.2 ha la) HM16 [1] fun W18 hm17 => ?_
  rw [show mayP (a.p.1, a.p.2.1, a.p.2.2) = mayP a.p from rfl, h2.out]
  have HM19 := Lib.hid hm17
  clear hm17
  refine wT [7, 8, 9] ?_
  refine wR 10 (run_sliceEnt rfl rfl) ?_
  refine wD2h 11 [_] [_, _] Tryz.call144 (everyE_d b3 a _) HM19 [1] fun W21 HM22 => ?_
  refine wT [12, 13] ?_
  refine wZ (wp_ret (bodyPost_ret (results_tmp rfl _ _ _) rfl ?_))
  have hc : mayR a = (tab16 a.e).all mayE := by unfold mayR; rw [h1.out, h2.out]; cases (tab16 a.e).all mayE <;> rfl
  rw [hc]
  exact does_ret (Mem.only (M := [_]) HM22.out [1] rfl) rfl rfl
set_option maxHeartbeats 4000000 in
set_option maxRecDepth 100000 in
theorem gsame_d (R : At) (va : Value) (a : Rg) (ha : Reads elemI R va a.p.2.2) (la : a.p.2.2.length ≤ 1000) (vb : Value) (b : Rg) (hb : Reads elemI R vb b.p.2.2) (lb : b.p.2.2.length ≤ 1000) : Does Tryz.prog 140 #[rgV a va, rgV b vb] [R] (.bool (sameR a b)) [R] := by
 intro w H hp
 have HM0 := Lib.hid (mem_refl hp)
 clear hp
 obtain ⟨pa, ca, rfl⟩ := row_form (Mem.src HM0.out 0 rfl ha)
 obtain ⟨pb, cb, rfl⟩ := row_form (Mem.src HM0.out 0 rfl hb)
 go_enter Tryz.func140, Tryz.ntmps140
 refine wp_seq (wN [(0, 3), (1, 3), (2, 1)] ?_)
 refine wBh 0 HM0 fun b3 W2 HM4 => ?_
 refine wBh 1 HM4 fun b7 W6 HM8 => ?_
 refine wT [2] ?_
 refine wZ (wp_seq ?_)
 rcases (show ¬ tab8 a.s = tab8 b.s ∨ (tab8 a.s = tab8 b.s ∧ ¬ tab16 a.e = tab16 b.e) ∨ (tab8 a.s = tab8 b.s ∧ tab16 a.e = tab16 b.e) from by by_cases k1 : tab8 a.s = tab8 b.s <;> by_cases k2 : tab16 a.e = tab16 b.e <;> simp [k1, k2]) with hs | ⟨hs, he⟩ | ⟨hs, he⟩
 ·have gs := decide_eq_false hs
  have hc : Hid (sameR a b = false) := Lib.hid (by unfold sameR; rw [gs]; rfl)
  clear hs
  refine wN [(0, 1), (1, 1), (2, 1), (3, 1), (4, 1), (5, 1), (6, 1), (7, 1), (8, 1), (9, 1), (10, 1), (11, 1), (12, 1), (13, 1), (14, 1), (15, 1), (16, 1), (17, 3), (18, 1), (19, 1)] (wT [0] ?_)
  refine wL 1 (stC (a).s) (HM8.out.sub 1 rfl (rgC_st)) Tryz.underlying39 ?_
  refine wT [2] ?_
  refine wL 3 (stC (b).s) (HM8.out.sub 0 rfl (rgC_st)) Tryz.underlying39 ?_
  refine wR 4 (run_eqSt (f := a.s) (g := b.s) (gs) rfl rfl rfl) ?_
  refine wT [5, 6] ?_
  refine wK 7 ?_
  refine wT [8] ?_
  refine wK 9 ?_
  refine wK 10 ?_
  refine wT [11, 12, 13] ?_
  refine wK 14 ?_
  refine wT [15] ?_
  refine wK 16 ?_
  refine wK 17 ?_
  refine wT [18, 19] ?_
  refine wZ (wp_ret (bodyPost_ret (results_tmp rfl _ _ _) rfl ?_))
  rw [hc.out]
  exact does_ret (Mem.only (M := [_]) HM8.out [2] rfl) rfl rfl
 ·have gs := decide_eq_true hs
  have ge := decide_eq_false he
  have hc : Hid (sameR a b = false) := Lib.hid (by unfold sameR; rw [gs, ge]; rfl)
  clear hs he
  refine wN [(0, 1), (1, 1), (2, 1), (3, 1), (4, 1), (5, 1), (6, 1), (7, 1), (8, 1), (9, 1), (10, 1), (11, 1), (12, 1), (13, 1), (14, 1), (15, 1), (16, 1), (17, 3), (18, 1), (19, 1)] (wT [0] ?_)
  refine wL 1 (stC (a).s) (HM8.out.sub 1 rfl (rgC_st)) Tryz.underlying39 ?_
  refine wT [2] ?_
  refine wL 3 (stC (b).s) (HM8.out.sub 0 rfl (rgC_st)) Tryz.underlying39 ?_
  refine wR 4 (run_eqSt (f := a.s) (g := b.s) (gs) rfl rfl rfl) ?_
  refine wT [5, 6] ?_
  refine wL 7 (enC (a).e) (HM8.out.sub 1 rfl (rgC_en)) Tryz.underlying76 ?_
  refine wT [8] ?_
  refine wL 9 (enC (b).e) (HM8.out.sub 0 rfl (rgC_en)) Tryz.underlying76 ?_
  refine wR 10 (run_eqEn (f := a.e) (g := b.e) (ge) rfl rfl rfl) ?_
  refine wT [11, 12, 13] ?_
  refine wK 14 ?_
  refine wT [15] ?_
  refine wK 16 ?_
  refine wK 17 ?_
  refine wT [18, 19] ?_
  refine wZ (wp_ret (bodyPost_ret (results_tmp rfl _ _ _) rfl ?_))
  rw [hc.out]
  exact does_ret (Mem.only (M := [_]) HM8.out [2] rfl) rfl rfl
 ·have gs := decide_eq_true hs
  have ge := decide_eq_true he
  have hc : Hid (sameR a b = (cmpP a.p b.p == 0)) := Lib.hid (by unfold sameR; rw [gs, ge]; rfl)
  clear hs he
  refine wN [(0, 1), (1, 1), (2, 1), (3, 1), (4, 1), (5, 1), (6, 1), (7, 1), (8, 1), (9, 1), (10, 1), (11, 1), (12, 1), (13, 1), (14, 1), (15, 1), (16, 1), (17, 3), (18, 1), (19, 1)] (wT [0] ?_)
  refine wL 1 (stC (a).s) (HM8.out.sub 1 rfl (rgC_st)) Tryz.underlying39 ?_
  refine wT [2] ?_
  refine wL 3 (stC (b).s) (HM8.out.sub 0 rfl (rgC_st)) Tryz.underlying39 ?_
  refine wR 4 (run_eqSt (f := a.s) (g := b.s) (gs) rfl rfl rfl) ?_
  refine wT [5, 6] ?_
  refine wL 7 (enC (a).e) (HM8.out.sub 1 rfl (rgC_en)) Tryz.underlying76 ?_
  refine wT [8] ?_
  refine wL 9 (enC (b).e) (HM8.out.sub 0 rfl (rgC_en)) Tryz.underlying76 ?_
  refine wR 10 (run_eqEn (f := a.e) (g := b.e) (ge) rfl rfl rfl) ?_
  refine wT [11, 12, 13] ?_
  refine wL 14 (plC (a).p (.slice pa a.p.2.2.length ca)) (HM8.out.sub 1 rfl (rgC_pl)) Tryz.underlying73 ?_
  dsimp only [plC]
  refine wT [15] ?_
  refine wL 16 (plC (b).p (.slice pb b.p.2.2.length cb)) (HM8.out.sub 0 rfl (rgC_pl)) Tryz.underlying73 ?_
  dsimp only [plC]
  refine wD2 17 [_, _] [_, _, _] Tryz.call156 (psame_d R _ a.p.1 a.p.2.1 a.p.2.2 ha la _ b.p.1 b.p.2.1 b.p.2.2 hb lb) HM8 [2] fun W10 hm9 => ?_
  rw [cmpB a.p b.p]
  have HM11 := Lib.hid hm9
  clear hm9
  refine wT [18, 19] ?_
  refine wZ (wp_ret (bodyPost_ret (results_tmp rfl _ _ _) rfl ?_))
  rw [hc.out]
  exact does_ret (Mem.only (M := [_]) HM11.out [0] rfl) rfl rfl
end
end Go.Proofs.YtcbnhakfijiioaaGreat
