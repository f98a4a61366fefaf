/- Vaults: VaultLasts. -/
import Derived.Test.YthaabnlhhfnalaaVtY
import Derived.Test.YthaabnlhhfnalaaVtL
import Derived.Test.YthaabnlhhfnalaaVtR
import Derived.Test.YthaabnlhhfnalaaPA
namespace Go.Proofs.Ythaabnlhhfnalaa
open Go Go.RowKit Go.BigFrame
theorem nodup_one {κ α : Type} {l : List (κ × α × Nat)} (h : (l.map fun e => e.2.2).Nodup) {x e : κ × α × Nat} (hx : x ∈ l) (he : e ∈ l) (q : x.2.2 = e.2.2) : x = e := by
 induction l with
 | nil => cases hx
 | cons z l ih =>
  obtain ⟨h1, h2⟩ := List.nodup_cons.1 h
  rcases List.mem_cons.1 hx with hx1 | hx1
  ·rcases List.mem_cons.1 he with he1 | he1
   ·rw [hx1, he1]
   ·exact absurd (List.mem_map.2 ⟨e, he1, by rw [← q, hx1]⟩) h1
  ·rcases List.mem_cons.1 he with he1 | he1
   ·exact absurd (List.mem_map.2 ⟨x, hx1, by rw [q, he1]⟩) h1
   ·exact ih h2 hx1 he1
set_option maxHeartbeats 4000000 in
set_option maxRecDepth 100000 in
theorem vlasts_d (R : At) (v : Value) (l : List Cv) (hR : ∀ W H, R.p W H → RowAt elemC W v l) (hl : ∀ y ∈ l, CvL R y) : Does Try.prog 3 #[v] [R] (.bool true) [R] := by
 intro w H hp
 have HM0 := Lib.hid (mem_refl hp)
 clear hp
 obtain ⟨p0, cap0, rfl, -⟩ := (HM0.out.row 0 rfl hR).form
 go_enter Try.func3, Try.ntmps3
 refine wp_seq (wQ ?_)
 refine wp_seq (wp_seq ?_)
 cases hlit' : litC l
 ·have hlit := Lib.hid hlit'
  clear hlit'
  refine wN [(0, 1), (1, 3), (2, 1)] (wT [0] ?_)
  refine wD1 1 [] [_] Try.call6 (lightV_d R _ l hR hl) HM0 [0] fun W2 hm1 => ?_
  rw [hlit.out]
  have HM3 := Lib.hid hm1
  clear hm1
  refine wT [2] ?_
  refine wZ (wp_cond_true rfl (wp_seq (wN [(0, 3), (1, 1)] ?_)))
  refine wD0h 0 [_] [_] Try.call7 (vawake_d) HM3 [] fun W5 HM6 => ?_
  refine wT [1] ?_
  refine wZ (wp_ret (then_ret (bodyPost_ret (results_tmp rfl _ _ _) rfl ?_)))
  exact does_ret (Mem.only (M := [_]) HM6.out [0] rfl) rfl rfl
 ·have hlit := Lib.hid hlit'
  clear hlit'
  refine wN [(0, 1), (1, 3), (2, 1)] (wT [0] ?_)
  refine wD1 1 [] [_] Try.call6 (lightV_d R _ l hR hl) HM0 [0] fun W8 hm7 => ?_
  rw [hlit.out]
  have HM9 := Lib.hid hm7
  clear hm7
  refine wT [2] ?_
  refine wZ (wp_cond_false rfl (wp_skip (then_normal (wp_seq (wN [(0, 3), (1, 1)] ?_)))))
  refine wU1 0 [_] Try.call8 (lnew_d 200) HM9 [] fun u12 W11 hm10 => ?_
  obtain ⟨dl, rfl, hm10q⟩ := Mem.lgN hm10
  clear hm10
  have HM13 := Lib.hid hm10q
  clear hm10q
  refine wT [1] ?_
  refine wZ (wp_seq (wN [(0, 1), (1, 3), (2, 1)] (wT [0] ?_)))
  refine wU1 1 [_] Try.call9 (vopen_d dl (newL 200) (LgOk.new 200)) HM13 [0] fun u16 W15 hm14 => ?_
  obtain ⟨dv, rfl, hm14q⟩ := Mem.vtN hm14
  clear hm14
  have HM17 := Lib.hid hm14q
  clear hm14q
  refine wT [2] ?_
  refine wZ (wp_seq (wN [(0, 3), (1, 1)] ?_))
  refine wpS_mkM strK valB (i := 0) (dd := 22) rfl (by rfl) rfl HM17.out covS_nil rfl ?_
  rintro bs W19 hm18 -
  have HM20 := Lib.hid hm18
  clear hm18
  simp only [Act.put, List.setIfInBounds_toArray, List.set_cons_succ, List.set_cons_zero]
  refine wT [1] ?_
  refine wZ (wp_seq (wN [(0, 3), (1, 1)] ?_))
  refine wpS_mkM dotK valI (i := 0) (dd := 23) rfl (by rfl) rfl HM20.out covS_nil rfl ?_
  rintro bd W22 hm21 -
  have HM23 := Lib.hid hm21
  clear hm21
  simp only [Act.put, List.setIfInBounds_toArray, List.set_cons_succ, List.set_cons_zero]
  refine wT [1] ?_
  refine wZ (wp_seq (wQ ?_))
  refine wp_seq (wp_seq ?_)
  have HNL := Lib.hid (Mem.nilL HM23.out)
  have hll := (litC_of hlit.out).1
  refine wQ ?_
  refine wp_block ?_
  refine wp_loop_F [2, 4, 7, 9, 10, 11, 12, 13, 14, 26, 27, 28, 29, 30, 31, 32, 33, 34, 35, 36, 37, 38, 39, 40, 41, 42, 43, 44, 45, 46, 47, 48, 49, 50, 51, 52, 53, 54, 55, 56, 57, 58, 59, 60, 61, 62, 63, 64, 65, 66, 67, 68, 69, 70, 71, 72, 73, 74, 75, 76, 77, 78, 79, 80, 81, 82, 83, 84, 85, 86, 87, 88, 89, 90, 91, 92, 93, 94, 95, 96, 97, 98, 99, 100, 101, 102, 103, 104, 105, 106, 107, 108, 109, 110, 111, 112, 113, 114, 115, 116, 117, 118, 119, 120, 121, 122, 123, 124, 125, 126, 127, 128, 129, 130, 131, 132, 133, 134, 135, 136, 137, 138, 139, 140, 141, 142, 143, 144, 145, 146, 147, 148, 149, 150] (fun n vs W' => ∃ (i dv : Nat) (X : Vl2) (M : Mp ByteArray Hv) (D : Mp En Int) (top : Int) (rs : List At), n = l.length - i ∧ vs 26 = .int .i64 (i : Int) ∧ vs 4 = .pointer (some ⟨dv, 0, none⟩) ∧ vs 7 = .int .i64 top ∧ i ≤ l.length ∧ La X M D top (listT rs) i ∧ Mem [vtT dv dl X.1, lgT dl X.2, mapT strK valB bs M, mapT dotK valI bd D, listT rs, R] H w W') (n0 := l.length) ?_ ?_
  ·exact ⟨0, dv, _, _, _, 0, [], rfl, rfl, rfl, rfl, Nat.zero_le _, La.start, (Mem.only (M := [_, _, _, _, _, _]) HNL.out [3, 3, 2, 1, 0, 0] rfl)⟩
  rintro n vs W' ⟨i, dv, X, M, D, top, rs, rfl, e26, e4, e7, hi, hI', hm⟩
  simp only [putAll, List.map_cons, List.map_nil, Act.put, List.setIfInBounds_toArray, List.set_cons_succ, List.set_cons_zero]
  rw [e26, e4, e7]
  clear e26 e4 e7
  have hI := Lib.hid hI'
  clear hI'
  have htop := hI.out.upto
  have HM24 := Lib.hid hm
  clear hm
  refine wp_seq (wQ ?_)
  refine wp_seq ?_
  refine wp_cond_split rfl (fun h25 => ?_) (fun h25 => ?_)
  ·have hi1 : i + 1 ≤ l.length := by have : (i : Int) < ((l.length : Nat) : Int) := (by simpa using h25); omega
   clear h25
   obtain ⟨y, hy'⟩ : ∃ y, l[i]? = some y := ⟨_, List.getElem?_eq_getElem (hi1)⟩
   have hy := Lib.hid hy'
   clear hy'
   refine wp_skip (then_normal (wp_seq (wp_block (wp_seq (wN [(0, 1), (1, 1), (2, 3), (3, 3)] ?_)))))
   refine wI elemC 0 (HM24.out.row 5 rfl hR) (hy.out) fun eb26 eo27 hc28 => ?_
   refine wL 1 (cvC y) hc28 Try.underlying45 ?_
   refine wpS_alloc (i := 2) (dd := 9) (z := .agg (cvC default).toArray) (cs := (cvC default).toArray) rfl (by rfl) rfl (by kernel_rfl) rfl HM24.out covS_nil rfl ?_
   rintro b31 W30 hm29 -
   have HM32 := Lib.hid hm29
   clear hm29
   simp only [Act.put, List.setIfInBounds_toArray, List.set_cons_succ, List.set_cons_zero]
   refine wXkh (hone := (List.all_eq_true.2 (elemC.one y))) 3 [_, _, _, _, _, _] (cvC y) HM32 0 fun W34 HM35 => ?_
   refine wZ (wp_seq (wp_seq (wN [(0, 1), (1, 1)] (wT [0] ?_))))
   refine wM 1 (.int .i64 y.op) (HM35.out.part1 0 rfl cvC_op) Try.underlying3 ?_
   refine wZ (wp_block (wp_seq ?_))
   rcases (show y.op = 3 ∨ y.op = 5 ∨ y.op = 2 ∨ y.op = 4 ∨ (y.op ≠ 3 ∧ y.op ≠ 5 ∧ y.op ≠ 2 ∧ y.op ≠ 4) from by omega) with hop | hop | hop | hop | hop
   ·have o3 : (y.op == 3) = true := beq_iff_eq.2 hop
    replace hop := Lib.hid hop
    refine wQ ?_
    refine wp_cond_true rfl (wp_seq ?_)
    obtain ⟨Y, e0, hd'⟩ : ∃ a b, dropV X y.n = (a, b) := ⟨_, _, rfl⟩
    have hYk : Hid (Kept Y) := Lib.hid (by have h := hI.out.kept.drop y.n; rw [hd'] at h; exact h)
    have hd := Lib.hid hd'
    clear hd'
    refine wN [(0, 1), (1, 1), (2, 1), (3, 3)] (wT [0, 1] ?_)
    refine wM 2 (.int .i64 y.n) (HM35.out.part1 0 rfl cvC_n) Try.underlying3 ?_
    refine wD2h 3 [_, _, _, _, _] [_, _, _, _, _, _, _] Try.call10 (vdrop_e hI.out.kept hd.out) HM35 [1, 1] fun W37 HM38 => ?_
    refine wZ (wp_seq (wN [(0, 1), (1, 3)] (wT [0] ?_)))
    refine wD1h 1 [_, _, _, _, _] [_, _, _, _, _, _, _] Try.call11 (vsync_d dv dl Y hYk.out) HM38 [0, 0] fun W40 HM41 => ?_
    refine wZ (wp_seq (wN [(0, 1), (1, 3)] (wT [0] ?_)))
    refine wpS_rangeM (K := strK) (val := valB) (i := 1) (dd := 93) Try.underlying29 rfl (by rfl) rfl rfl HM41.out 3 rfl covS_nil rfl ?_
    rintro it W43 hm42 -
    have HM44 := Lib.hid hm42
    clear hm42
    simp only [Act.put, List.setIfInBounds_toArray, List.set_cons_succ, List.set_cons_zero]
    refine wZ (wp_block ?_)
    refine wp_loop_F [10, 94, 95, 96, 97, 98, 99, 100, 101, 102, 103, 104] (fun n us W' => ∃ (M2 : Mp ByteArray Hv) (seen : List Nat), n = leftN M2 seen ∧ MpOk M2 ∧ M2.clock = M.clock ∧ (∀ x ∈ M2.es, x ∈ M.es) ∧ (∀ x ∈ M2.es, x.2.2 ∈ seen → ofK x.1 ≠ y.n) ∧ Mem [iterT it bs M.clock seen, mapT strK valB bs M2, vtT dv dl Y.1, lgT dl (syncL Y.2).1, mapT dotK valI bd D, listT rs, R, boxT b31 (.cells (cvC y).toArray 45 (0, 0))] H w W') (n0 := leftN M []) ?_ ?_
    ·exact ⟨M, [], rfl, hI.out.mok, rfl, (fun x h => h), (fun x _ h => by cases h), (Mem.only (M := [_, _, _, _, _, _, _, _]) HM44.out [0, 3, 0, 0, 1, 1, 1, 0] rfl)⟩
    rintro n us W' ⟨M2, seen, rfl, hM2', hcl', hsub', hdn', hm3⟩
    simp only [putAll, List.map_cons, List.map_nil, Act.put, List.setIfInBounds_toArray, List.set_cons_succ, List.set_cons_zero]
    have hM2 := Lib.hid hM2'
    clear hM2'
    have hcl := Lib.hid hcl'
    clear hcl'
    have hsub := Lib.hid hsub'
    clear hsub'
    have hdn := Lib.hid hdn'
    clear hdn'
    have HM45 := Lib.hid hm3
    clear hm3
    refine wp_seq ?_
    by_cases hsn : ∀ e ∈ M2.es, e.2.2 ∈ seen
    ·have hall := Lib.hid hsn
     clear hsn
     refine wN [(0, 3), (1, 1)] ?_
     refine wpS_overM (i := 0) (d := some 94) hM2.out hcl.out hall.out rfl (by rfl) rfl rfl HM45.out 0 rfl 1 rfl rfl ?_
     simp only [Act.put, List.setIfInBounds_toArray, List.set_cons_succ, List.set_cons_zero]
     refine wT [1] ?_
     refine wZ (wp_seq (wp_cond_false rfl (wp_exit ?_)))
     refine then_exit (then_exit (block_exit ?_))
     refine block_normal (then_normal (wp_seq ?_))
     have hL : Hid (La (Y.1, (syncL Y.2).1) M2 D top (listT rs) (i + 1)) := Lib.hid (hI.out.drop (by have := hll; omega) hd.out hM2.out hsub.out fun x hx => hdn.out x hx (hall.out x hx))
     replace hall := Lib.hid hall
     refine wN [(0, 1), (1, 3)] (wT [0] ?_)
     refine wpS_rangeM (K := strK) (val := valB) (i := 1) (dd := 138) Try.underlying29 rfl (by rfl) rfl rfl HM45.out 1 rfl covS_nil rfl ?_
     rintro it2 W47 hm46 -
     have HM48 := Lib.hid hm46
     clear hm46
     simp only [Act.put, List.setIfInBounds_toArray, List.set_cons_succ, List.set_cons_zero]
     refine wZ (wp_block ?_)
     refine wp_loop_F [2, 13, 14, 139, 140, 141, 142, 143, 144, 145, 146, 147, 148, 149] (fun n ts W' => ∃ seen : List Nat, n = leftN M2 seen ∧ Mem [iterT it2 bs M2.clock seen, mapT strK valB bs M2, vtT dv dl Y.1, lgT dl (syncL Y.2).1, mapT dotK valI bd D, listT rs, R] H w W') (n0 := leftN M2 []) ?_ ?_
     ·exact ⟨[], rfl, (Mem.only (M := [_, _, _, _, _, _, _]) HM48.out [0, 1, 1, 1, 1, 1, 1] rfl)⟩
     rintro n ts W' ⟨seen, rfl, hm4⟩
     simp only [putAll, List.map_cons, List.map_nil, Act.put, List.setIfInBounds_toArray, List.set_cons_succ, List.set_cons_zero]
     have HM49 := Lib.hid hm4
     clear hm4
     refine wp_seq ?_
     by_cases hsn : ∀ e ∈ M2.es, e.2.2 ∈ seen
     ·have hall := Lib.hid hsn
      clear hsn
      refine wN [(0, 3), (1, 1)] ?_
      refine wpS_overM (i := 0) (d := some 139) hL.out.mok rfl hall.out rfl (by rfl) rfl rfl HM49.out 0 rfl 1 rfl rfl ?_
      simp only [Act.put, List.setIfInBounds_toArray, List.set_cons_succ, List.set_cons_zero]
      refine wT [1] ?_
      refine wZ (wp_seq (wp_cond_false rfl (wp_exit ?_)))
      refine then_exit (then_exit (block_exit ?_))
      refine block_normal (then_normal (wQ ?_))
      refine ⟨by kernel_rfl, ?_⟩
      exact ⟨l.length - (i + 1), by omega, i + 1, dv, (Y.1, (syncL Y.2).1), M2, D, top, rs, rfl, rfl, rfl, rfl, hi1, hL.out, (Mem.only (M := [_, _, _, _, _, _]) HM49.out [2, 2, 1, 1, 1, 1] rfl)⟩
     ·have hsome := Lib.hid hsn
      clear hsn
      refine wN [(0, 3), (1, 1)] ?_
      refine wpS_nextM (i := 0) (d := some 139) (L2 := [_, _, _, _, _, _]) hL.out.mok rfl hsome.out rfl (by rfl) rfl rfl HM49.out 0 rfl 1 rfl rfl covS_nil rfl ?_
      rintro e W51 he' hns' hm50 -
      have he := Lib.hid he'
      have hns := Lib.hid hns'
      clear he' hns'
      have HM52 := Lib.hid hm50
      clear hm50
      simp only [Act.put, List.setIfInBounds_toArray, List.set_cons_succ, List.set_cons_zero]
      refine wT [1] ?_
      refine wZ (wp_seq (wp_cond_true rfl (wp_skip (then_normal (wp_block (wp_seq (wN [(0, 1), (1, 1), (2, 1), (3, 3), (4, 1), (5, 3)] ?_)))))))
      refine wR 0 (run_entryM (show strK.key e.1 = .string e.1 from rfl) (show valB e.2.1 = bgV e.2.1.b.k (.slice e.2.1.p e.2.1.n e.2.1.c) from rfl) hL.out.mok he.out rfl (HM52.out.box 1 rfl) (HM52.out.box 0 rfl) rfl rfl) ?_
      refine wT [1, 2] ?_
      refine wpS_alloc (i := 3) (dd := 14) (z := bgV noB.k (.slice none 0 0)) (cs := (bgC noB.k (.slice none 0 0)).toArray) rfl (by rfl) rfl (by kernel_rfl) rfl HM52.out covS_nil rfl ?_
      rintro b55 W54 hm53 -
      have HM56 := Lib.hid hm53
      clear hm53
      simp only [Act.put, List.setIfInBounds_toArray, List.set_cons_succ, List.set_cons_zero]
      refine wT [4] ?_
      refine wXkh (hone := (bgC_one _ _ _)) 5 [_, _, _, _, _, _, _] (bgC (e.2.1.b.k) (.slice e.2.1.p e.2.1.n e.2.1.c)) HM56 0 fun W58 HM59 => ?_
      refine wZ (wp_seq ?_)
      have hbe : Hid (bagV Y.1 e.1 = e.2.1.b) := Lib.hid (hL.out.bag e he.out).1
      have hrr := Lib.hid (hL.out.rd e he.out).1
      have hrl := Lib.hid (hL.out.rd e he.out).2
      refine wp_region_M (fun k => k ∈ ([b55] : List Nat)) [(0, 1), (1, 1), (3, 2), (2, 3), (4, 3), (5, 1)] (by kernel_rfl) (by kernel_rfl) HM59.out ?_
      intro W60 hm61
      have HM62 := Lib.hid hm61
      clear hm61
      refine wT [0, 1] ?_
      refine wL2 3 (bgC (e.2.1.b.k) (.slice e.2.1.p e.2.1.n e.2.1.c)) (HM62.out.part 0 rfl (bgC_all)) Try.underlying43 ?_
      refine wU2 (hS := (covS_box 0 rfl covS_nil)) 2 [_, _, _, _, _, _, _] Try.call16 (vbag_e hL.out.kept.ok hbe.out) HM62 [3] fun u66 W64 hm63 => ?_
      obtain ⟨pq, cq, rfl, hm63q⟩ := Mem.bag rfl hm63
      clear hm63
      have HM67 := Lib.hid hm63q
      clear hm63q
      refine wD2 (hS := (covS_box 1 rfl covS_nil)) 4 [_, _, _, _, _, _, _] [_, _, _, _, _, _, _, _, _] Try.call18 (Does.ofList (bsame_d (listT [_, _]) _ e.2.1.b (vL 0 rfl rowT_reads) (Nat.le_trans hrl.out (by decide)) _ e.2.1.b (vL 1 rfl hrr.out) (Nat.le_trans hrl.out (by decide)))) HM67 [0, 6] fun W69 hm68 => ?_
      rw [sameB_refl]
      have HM71 := Lib.hid hm68
      clear hm68
      refine wT [5] ?_
      refine wZ (wp_cond_false rfl (wp_skip (block_normal (then_normal ?_))))
      refine ⟨by kernel_rfl, ?_⟩
      exact ⟨_, left_lt he.out hns.out, seen ++ [e.2.2], rfl, (Mem.only (M := [_, _, _, _, _, _, _]) HM71.out [4, 4, 2, 3, 3, 1, 2] rfl)⟩
    ·have hsome := Lib.hid hsn
     clear hsn
     refine wN [(0, 3), (1, 1)] ?_
     refine wpS_nextM (i := 0) (d := some 94) (L2 := [_, _, _, _, _, _, _]) hM2.out hcl.out hsome.out rfl (by rfl) rfl rfl HM45.out 0 rfl 1 rfl rfl covS_nil rfl ?_
     rintro e W73 he' hns' hm72 -
     have he := Lib.hid he'
     have hns := Lib.hid hns'
     clear he' hns'
     have HM74 := Lib.hid hm72
     clear hm72
     simp only [Act.put, List.setIfInBounds_toArray, List.set_cons_succ, List.set_cons_zero]
     refine wT [1] ?_
     refine wZ (wp_seq (wp_cond_true rfl (wp_skip (then_normal (wp_block (wp_seq (wN [(0, 1), (1, 1), (2, 1)] ?_)))))))
     refine wR 0 (run_entryM (show strK.key e.1 = .string e.1 from rfl) (show valB e.2.1 = bgV e.2.1.b.k (.slice e.2.1.p e.2.1.n e.2.1.c) from rfl) hM2.out he.out hcl.out (HM74.out.box 1 rfl) (HM74.out.box 0 rfl) rfl rfl) ?_
     refine wT [1, 2] ?_
     refine wZ (wp_seq ?_)
     obtain ⟨oe, hofe'⟩ := int_letter (ofK e.1)
     have hks : Hid (e.1.size ≤ 1000) := Lib.hid (by have := (hI.out.bag e (hsub.out e he.out)).2; omega)
     have hofe := Lib.hid hofe'
     clear hofe'
     by_cases hof0 : ofK e.1 = y.n
     ·have hof := Lib.hid hof0
      have g30 : (oe == y.n) = true := beq_iff_eq.2 (by rw [← hofe.out]; exact hof0)
      clear hof0
      refine wp_region_M (fun k => k ∈ ([b31] : List Nat)) [(0, 1), (2, 0), (3, 2), (1, 3), (4, 1)] (by kernel_rfl) (by kernel_rfl) HM74.out ?_
      intro W75 hm76
      have HM77 := Lib.hid hm76
      clear hm76
      refine wT [0] ?_
      refine wA [2] ?_
      refine wM2 3 (.int .i64 y.n) (HM77.out.part1 7 rfl cvC_n) Try.underlying3 ?_
      refine wD1 (hS := (covS_box 7 rfl covS_nil)) 1 [_, _, _, _, _, _, _, _] [_, _, _, _, _, _, _, _] Try.call12 (ofrd_d e.1 hks.out) HM77 [] fun W79 hm78 => ?_
      rw [hofe.out]
      have HM81 := Lib.hid hm78
      clear hm78
      refine wT [4] ?_
      refine wZ (wp_cond_true rfl (wN [(0, 1), (1, 1), (2, 3)] (wT [0, 1] ?_)))
      refine wpS_delM (i := 2) (k := e.1) (L2 := [_, _, _, _, _, _, _]) rfl Try.underlying29 rfl (by rfl) rfl rfl rfl HM81.out 1 rfl rfl covS_nil rfl ?_
      rintro W83 hm82 -
      have HM84 := Lib.hid hm82
      clear hm82
      refine wpS_nil (block_normal (then_normal ?_))
      refine ⟨by kernel_rfl, ?_⟩
      refine ⟨leftN (M2.del e.1) (seen ++ [e.2.2]), Nat.lt_of_le_of_lt (left_del M2 e.1 _) (left_lt he.out hns.out), M2.del e.1, seen ++ [e.2.2], rfl, hM2.out.del _, hcl.out, (fun x hx => hsub.out x (delE_sub.subset hx)), fun x hx hs => ?_, (Mem.only (M := [_, _, _, _, _, _, _, _]) HM84.out [1, 0, 0, 0, 0, 0, 0, 0] rfl)⟩
      rcases List.mem_append.1 hs with h | h
      ·exact hdn.out x (delE_sub.subset hx) h
      ·exact absurd (nodup_one hM2.out.borns (delE_sub.subset hx) he.out (List.mem_singleton.1 h) ▸ rfl) (delE_ne hM2.out.keys x hx)
     ·have hof := Lib.hid hof0
      have g30 : (oe == y.n) = false := beq_eq_false_iff_ne.2 (by rw [← hofe.out]; exact hof0)
      clear hof0
      refine wp_region_M (fun k => k ∈ ([b31] : List Nat)) [(0, 1), (2, 0), (3, 2), (1, 3), (4, 1)] (by kernel_rfl) (by kernel_rfl) HM74.out ?_
      intro W85 hm86
      have HM87 := Lib.hid hm86
      clear hm86
      refine wT [0] ?_
      refine wA [2] ?_
      refine wM2 3 (.int .i64 y.n) (HM87.out.part1 7 rfl cvC_n) Try.underlying3 ?_
      refine wD1 (hS := (covS_box 7 rfl covS_nil)) 1 [_, _, _, _, _, _, _, _] [_, _, _, _, _, _, _, _] Try.call12 (ofrd_d e.1 hks.out) HM87 [] fun W89 hm88 => ?_
      rw [hofe.out]
      have HM91 := Lib.hid hm88
      clear hm88
      refine wT [4] ?_
      refine wZ (wp_cond_false rfl (wp_skip (block_normal (then_normal ?_))))
      refine ⟨by kernel_rfl, ?_⟩
      refine ⟨leftN M2 (seen ++ [e.2.2]), left_lt he.out hns.out, M2, seen ++ [e.2.2], rfl, hM2.out, hcl.out, hsub.out, fun x hx hs => ?_, (Mem.only (M := [_, _, _, _, _, _, _, _]) HM91.out [0, 0, 0, 0, 0, 0, 0, 0] rfl)⟩
      rcases List.mem_append.1 hs with h | h
      ·exact hdn.out x hx h
      ·rw [nodup_one hM2.out.borns hx he.out (List.mem_singleton.1 h)]
       exact hof.out
   ·have o3 : (y.op == 3) = false := beq_eq_false_iff_ne.2 (by omega)
    have o5 : (y.op == 5) = true := beq_iff_eq.2 hop
    replace hop := Lib.hid hop
    refine wQ ?_
    refine wp_cond_false rfl (wp_seq (wQ ?_))
    refine wp_cond_true rfl (wp_seq ?_)
    have hcr : Hid ((crashL X.2 0).1 = X.2) := Lib.hid (by rw [crash_all hI.out.all])
    refine wN [(0, 1), (1, 3)] (wT [0] ?_)
    refine wD2 1 [_, _, _, _, _, _] [_, _, _, _, _, _, _] Try.call13 (lcrash_d dl X.2 hI.out.kept.lg 0) HM35 [2] fun W93 hm92 => ?_
    rw [hcr.out] at hm92
    have HM94 := Lib.hid hm92
    clear hm92
    refine wZ (wp_seq (wN [(0, 1), (1, 3), (2, 1)] (wT [0] ?_)))
    refine wU1 1 [_, _, _, _, _, _] Try.call9 (vopen_d dl X.2 hI.out.kept.lg) HM94 [0] fun u97 W96 hm95 => ?_
    obtain ⟨dv2, rfl, hm95q⟩ := Mem.vtN hm95
    clear hm95
    rw [hI.out.again] at hm95q
    have HM98 := Lib.hid hm95q
    clear hm95q
    refine wT [2] ?_
    refine wZ (wp_seq ?_)
    have HM99 := Lib.hid (Mem.only (M := [_, _, _, _, _, _, _]) HM98.out [0, 0, 0, 1, 1, 1, 1] rfl)
    have g35 : decide (top < top) = false := decide_eq_false (Int.lt_irrefl _)
    refine wN [(0, 1), (1, 1), (2, 1), (3, 1), (4, 3), (5, 1), (6, 1), (7, 1)] (wT [0, 1, 2, 3] ?_)
    refine wD1 4 [_, _, _, _, _, _] [_, _, _, _, _, _, _] Try.call14 (vdots_d dv2 dl X.1 hI.out.kept.ok) HM99 [0] fun W101 hm100 => ?_
    rw [hI.out.dots]
    have HM102 := Lib.hid hm100
    clear hm100
    refine wT [5, 6, 7] ?_
    refine wZ (wp_cond_false rfl (wp_skip (block_normal (then_normal (wp_seq (wN [(0, 1), (1, 3)] (wT [0] ?_)))))))
    refine wpS_rangeM (K := strK) (val := valB) (i := 1) (dd := 138) Try.underlying29 rfl (by rfl) rfl rfl HM102.out 3 rfl covS_nil rfl ?_
    rintro it2 W104 hm103 -
    have HM105 := Lib.hid hm103
    clear hm103
    simp only [Act.put, List.setIfInBounds_toArray, List.set_cons_succ, List.set_cons_zero]
    refine wZ (wp_block ?_)
    refine wp_loop_F [2, 13, 14, 139, 140, 141, 142, 143, 144, 145, 146, 147, 148, 149] (fun n ts W' => ∃ seen : List Nat, n = leftN M seen ∧ Mem [iterT it2 bs M.clock seen, mapT strK valB bs M, vtT dv2 dl X.1, lgT dl X.2, mapT dotK valI bd D, listT rs, R] H w W') (n0 := leftN M []) ?_ ?_
    ·exact ⟨[], rfl, (Mem.only (M := [_, _, _, _, _, _, _]) HM105.out [0, 3, 0, 0, 1, 1, 1] rfl)⟩
    rintro n ts W' ⟨seen, rfl, hm4⟩
    simp only [putAll, List.map_cons, List.map_nil, Act.put, List.setIfInBounds_toArray, List.set_cons_succ, List.set_cons_zero]
    have HM106 := Lib.hid hm4
    clear hm4
    refine wp_seq ?_
    by_cases hsn : ∀ e ∈ M.es, e.2.2 ∈ seen
    ·have hall := Lib.hid hsn
     clear hsn
     refine wN [(0, 3), (1, 1)] ?_
     refine wpS_overM (i := 0) (d := some 139) hI.out.mok rfl hall.out rfl (by rfl) rfl rfl HM106.out 0 rfl 1 rfl rfl ?_
     simp only [Act.put, List.setIfInBounds_toArray, List.set_cons_succ, List.set_cons_zero]
     refine wT [1] ?_
     refine wZ (wp_seq (wp_cond_false rfl (wp_exit ?_)))
     refine then_exit (then_exit (block_exit ?_))
     refine block_normal (then_normal (wQ ?_))
     refine ⟨by kernel_rfl, ?_⟩
     exact ⟨l.length - (i + 1), by omega, i + 1, dv2, X, M, D, top, rs, rfl, rfl, rfl, rfl, hi1, hI.out.next, (Mem.only (M := [_, _, _, _, _, _]) HM106.out [2, 2, 1, 1, 1, 1] rfl)⟩
    ·have hsome := Lib.hid hsn
     clear hsn
     refine wN [(0, 3), (1, 1)] ?_
     refine wpS_nextM (i := 0) (d := some 139) (L2 := [_, _, _, _, _, _]) hI.out.mok rfl hsome.out rfl (by rfl) rfl rfl HM106.out 0 rfl 1 rfl rfl covS_nil rfl ?_
     rintro e W108 he' hns' hm107 -
     have he := Lib.hid he'
     have hns := Lib.hid hns'
     clear he' hns'
     have HM109 := Lib.hid hm107
     clear hm107
     simp only [Act.put, List.setIfInBounds_toArray, List.set_cons_succ, List.set_cons_zero]
     refine wT [1] ?_
     refine wZ (wp_seq (wp_cond_true rfl (wp_skip (then_normal (wp_block (wp_seq (wN [(0, 1), (1, 1), (2, 1), (3, 3), (4, 1), (5, 3)] ?_)))))))
     refine wR 0 (run_entryM (show strK.key e.1 = .string e.1 from rfl) (show valB e.2.1 = bgV e.2.1.b.k (.slice e.2.1.p e.2.1.n e.2.1.c) from rfl) hI.out.mok he.out rfl (HM109.out.box 1 rfl) (HM109.out.box 0 rfl) rfl rfl) ?_
     refine wT [1, 2] ?_
     refine wpS_alloc (i := 3) (dd := 14) (z := bgV noB.k (.slice none 0 0)) (cs := (bgC noB.k (.slice none 0 0)).toArray) rfl (by rfl) rfl (by kernel_rfl) rfl HM109.out covS_nil rfl ?_
     rintro b112 W111 hm110 -
     have HM113 := Lib.hid hm110
     clear hm110
     simp only [Act.put, List.setIfInBounds_toArray, List.set_cons_succ, List.set_cons_zero]
     refine wT [4] ?_
     refine wXkh (hone := (bgC_one _ _ _)) 5 [_, _, _, _, _, _, _] (bgC (e.2.1.b.k) (.slice e.2.1.p e.2.1.n e.2.1.c)) HM113 0 fun W115 HM116 => ?_
     refine wZ (wp_seq ?_)
     have hbe : Hid (bagV X.1 e.1 = e.2.1.b) := Lib.hid (hI.out.bag e he.out).1
     have hrr := Lib.hid (hI.out.rd e he.out).1
     have hrl := Lib.hid (hI.out.rd e he.out).2
     refine wp_region_M (fun k => k ∈ ([b112] : List Nat)) [(0, 1), (1, 1), (3, 2), (2, 3), (4, 3), (5, 1)] (by kernel_rfl) (by kernel_rfl) HM116.out ?_
     intro W117 hm118
     have HM119 := Lib.hid hm118
     clear hm118
     refine wT [0, 1] ?_
     refine wL2 3 (bgC (e.2.1.b.k) (.slice e.2.1.p e.2.1.n e.2.1.c)) (HM119.out.part 0 rfl (bgC_all)) Try.underlying43 ?_
     refine wU2 (hS := (covS_box 0 rfl covS_nil)) 2 [_, _, _, _, _, _, _] Try.call16 (vbag_e hI.out.kept.ok hbe.out) HM119 [3] fun u123 W121 hm120 => ?_
     obtain ⟨pq, cq, rfl, hm120q⟩ := Mem.bag rfl hm120
     clear hm120
     have HM124 := Lib.hid hm120q
     clear hm120q
     refine wD2 (hS := (covS_box 1 rfl covS_nil)) 4 [_, _, _, _, _, _, _] [_, _, _, _, _, _, _, _, _] Try.call18 (Does.ofList (bsame_d (listT [_, _]) _ e.2.1.b (vL 0 rfl rowT_reads) (Nat.le_trans hrl.out (by decide)) _ e.2.1.b (vL 1 rfl hrr.out) (Nat.le_trans hrl.out (by decide)))) HM124 [0, 6] fun W126 hm125 => ?_
     rw [sameB_refl]
     have HM128 := Lib.hid hm125
     clear hm125
     refine wT [5] ?_
     refine wZ (wp_cond_false rfl (wp_skip (block_normal (then_normal ?_))))
     refine ⟨by kernel_rfl, ?_⟩
     exact ⟨_, left_lt he.out hns.out, seen ++ [e.2.2], rfl, (Mem.only (M := [_, _, _, _, _, _, _]) HM128.out [4, 4, 2, 3, 3, 1, 2] rfl)⟩
   ·have o3 : (y.op == 3) = false := beq_eq_false_iff_ne.2 (by omega)
    have o5 : (y.op == 5) = false := beq_eq_false_iff_ne.2 (by omega)
    have o2 : (y.op == 2) = true := beq_iff_eq.2 hop
    replace hop := Lib.hid hop
    refine wQ ?_
    refine wp_cond_false rfl (wp_seq (wQ ?_))
    refine wp_cond_false rfl (wp_seq (wQ ?_))
    refine wp_cond_true rfl (wp_seq ?_)
    obtain ⟨Y, e0, hmg'⟩ : ∃ a b, mergeV X y.key y.b = (a, b) := ⟨_, _, rfl⟩
    have hyl := Lib.hid (hl y (List.mem_of_getElem? hy.out))
    have hmg := Lib.hid hmg'
    clear hmg'
    by_cases he0 : e0 = 0
    ·subst he0
     have g38 : ((0 : Int) == 0) = true := by decide
     obtain ⟨q1, q2, q3, q4, q5, q6⟩ := hI.out.merge hmg.out
     have hYk := Lib.hid q2
     have hmr : Hid (y.key.size ≤ 32 ∧ Y.2.room = 200 ∧ Y.2.l.length ≤ i + 1 ∧ Y.1.dots = top ∧ ∀ q, q ≠ y.key → bagV Y.1 q = bagV X.1 q) := Lib.hid ⟨q1, q3, q4, q5, q6⟩
     clear q1 q2 q3 q4 q5 q6
     refine wN [(0, 1), (1, 1), (2, 1), (3, 1), (4, 1), (5, 3), (6, 1)] (wT [0, 1] ?_)
     refine wM 2 (.string y.key) (HM35.out.part1 0 rfl cvC_key) Try.underlying9 ?_
     refine wT [3] ?_
     refine wL 4 (bgC y.b.k (.slice y.vp y.vn y.vc)) (HM35.out.part 0 rfl (cvC_bag)) Try.underlying43 ?_
     refine wD3h 5 [_, _, _, _] [_, _, _, _, _, _, _] Try.call15 (vmerge_e hI.out.kept hyl.out.v hyl.out.lv hmg.out) HM35 [1, 1, 4] fun W130 HM131 => ?_
     refine wT [6] ?_
     refine wZ (wp_cond_true rfl (wp_seq (wN [(0, 1), (1, 3)] (wT [0] ?_))))
     refine wD1h 1 [_, _, _, _, _] [_, _, _, _, _, _, _] Try.call11 (vsync_d dv dl Y hYk.out) HM131 [0, 0] fun W133 HM134 => ?_
     refine wZ ?_
     obtain ⟨b, hb'⟩ : ∃ z, bagV Y.1 y.key = z := ⟨_, rfl⟩
     have hb := Lib.hid hb'
     clear hb'
     refine wp_region_M (fun k => k ∈ ([b31] : List Nat)) [(0, 0), (1, 0), (2, 2), (3, 1), (4, 1), (5, 1), (6, 3), (7, 3)] (by kernel_rfl) (by kernel_rfl) HM134.out ?_
     intro W135 hm136
     have HM137 := Lib.hid hm136
     clear hm136
     refine wA [0, 1] ?_
     refine wM2 2 (.string y.key) (HM137.out.part1 3 rfl cvC_key) Try.underlying9 ?_
     refine wT [3, 4] ?_
     refine wM 5 (.string y.key) (HM137.out.part1 3 rfl cvC_key) Try.underlying9 ?_
     refine wU2 (hS := (covS_box 2 rfl covS_nil)) 6 [_, _, _, _, _, _] Try.call16 (vbag_e hYk.out.ok hb.out) HM137 [0] fun u141 W139 hm138 => ?_
     obtain ⟨pb, cb, rfl, hm138q⟩ := Mem.bag rfl hm138
     clear hm138
     have HM142 := Lib.hid hm138q
     clear hm138q
     refine wpS_putM (i := 7) (k := y.key) (v := ⟨b, pb, b.v.length, cb⟩) (L2 := [_, _, _, _, _, _, _]) Try.underlying29 rfl (by rfl) rfl rfl rfl rfl HM142.out 5 rfl rfl (covS_box 4 rfl covS_nil) rfl ?_
     rintro W144 hm143 hg145
     have HM146 := Lib.hid hm143
     clear hm143
     have HM147 := Lib.hid (Mem.cons1 (Mem.only (M := [_, _, _, _, _, _, _, _]) HM146.out [1, 6, 0, 0, 0, 0, 0, 0] rfl))
     have hL := Lib.hid (hI.out.lay hmr.out.1 hYk.out hmr.out.2.1 hmr.out.2.2.1 hmr.out.2.2.2.1 hmr.out.2.2.2.2 hI.out.dok hI.out.dle hb.out (p := pb) (n := b.v.length) (c := cb) (A := rowT elemV (.slice pb b.v.length cb) b.v) rowT_reads)
     refine wpS_nil (block_normal (then_normal (wp_seq (wN [(0, 1), (1, 3)] (wT [0] ?_)))))
     refine wpS_rangeM (K := strK) (val := valB) (i := 1) (dd := 138) Try.underlying29 rfl (by rfl) rfl rfl HM147.out 1 rfl covS_nil rfl ?_
     rintro it2 W149 hm148 -
     have HM150 := Lib.hid hm148
     clear hm148
     simp only [Act.put, List.setIfInBounds_toArray, List.set_cons_succ, List.set_cons_zero]
     refine wZ (wp_block ?_)
     refine wp_loop_F [2, 13, 14, 139, 140, 141, 142, 143, 144, 145, 146, 147, 148, 149] (fun n ts W' => ∃ seen : List Nat, n = leftN (M.put y.key ⟨b, pb, b.v.length, cb⟩) seen ∧ Mem [iterT it2 bs (M.put y.key ⟨b, pb, b.v.length, cb⟩).clock seen, mapT strK valB bs (M.put y.key ⟨b, pb, b.v.length, cb⟩), vtT dv dl Y.1, lgT dl (syncL Y.2).1, mapT dotK valI bd D, listT (rowT elemV (.slice pb b.v.length cb) b.v :: rs), R] H w W') (n0 := leftN (M.put y.key ⟨b, pb, b.v.length, cb⟩) []) ?_ ?_
     ·exact ⟨[], rfl, (Mem.only (M := [_, _, _, _, _, _, _]) HM150.out [0, 1, 1, 1, 3, 0, 0] rfl)⟩
     rintro n ts W' ⟨seen, rfl, hm4⟩
     simp only [putAll, List.map_cons, List.map_nil, Act.put, List.setIfInBounds_toArray, List.set_cons_succ, List.set_cons_zero]
     have HM151 := Lib.hid hm4
     clear hm4
     refine wp_seq ?_
     by_cases hsn : ∀ e ∈ (M.put y.key ⟨b, pb, b.v.length, cb⟩).es, e.2.2 ∈ seen
     ·have hall := Lib.hid hsn
      clear hsn
      refine wN [(0, 3), (1, 1)] ?_
      refine wpS_overM (i := 0) (d := some 139) hL.out.mok rfl hall.out rfl (by rfl) rfl rfl HM151.out 0 rfl 1 rfl rfl ?_
      simp only [Act.put, List.setIfInBounds_toArray, List.set_cons_succ, List.set_cons_zero]
      refine wT [1] ?_
      refine wZ (wp_seq (wp_cond_false rfl (wp_exit ?_)))
      refine then_exit (then_exit (block_exit ?_))
      refine block_normal (then_normal (wQ ?_))
      refine ⟨by kernel_rfl, ?_⟩
      exact ⟨l.length - (i + 1), by omega, i + 1, dv, (Y.1, (syncL Y.2).1), _, D, top, (_ :: rs), rfl, rfl, rfl, rfl, hi1, hL.out, (Mem.only (M := [_, _, _, _, _, _]) HM151.out [2, 2, 1, 1, 1, 1] rfl)⟩
     ·have hsome := Lib.hid hsn
      clear hsn
      refine wN [(0, 3), (1, 1)] ?_
      refine wpS_nextM (i := 0) (d := some 139) (L2 := [_, _, _, _, _, _]) hL.out.mok rfl hsome.out rfl (by rfl) rfl rfl HM151.out 0 rfl 1 rfl rfl covS_nil rfl ?_
      rintro e W153 he' hns' hm152 -
      have he := Lib.hid he'
      have hns := Lib.hid hns'
      clear he' hns'
      have HM154 := Lib.hid hm152
      clear hm152
      simp only [Act.put, List.setIfInBounds_toArray, List.set_cons_succ, List.set_cons_zero]
      refine wT [1] ?_
      refine wZ (wp_seq (wp_cond_true rfl (wp_skip (then_normal (wp_block (wp_seq (wN [(0, 1), (1, 1), (2, 1), (3, 3), (4, 1), (5, 3)] ?_)))))))
      refine wR 0 (run_entryM (show strK.key e.1 = .string e.1 from rfl) (show valB e.2.1 = bgV e.2.1.b.k (.slice e.2.1.p e.2.1.n e.2.1.c) from rfl) hL.out.mok he.out rfl (HM154.out.box 1 rfl) (HM154.out.box 0 rfl) rfl rfl) ?_
      refine wT [1, 2] ?_
      refine wpS_alloc (i := 3) (dd := 14) (z := bgV noB.k (.slice none 0 0)) (cs := (bgC noB.k (.slice none 0 0)).toArray) rfl (by rfl) rfl (by kernel_rfl) rfl HM154.out covS_nil rfl ?_
      rintro b157 W156 hm155 -
      have HM158 := Lib.hid hm155
      clear hm155
      simp only [Act.put, List.setIfInBounds_toArray, List.set_cons_succ, List.set_cons_zero]
      refine wT [4] ?_
      refine wXkh (hone := (bgC_one _ _ _)) 5 [_, _, _, _, _, _, _] (bgC (e.2.1.b.k) (.slice e.2.1.p e.2.1.n e.2.1.c)) HM158 0 fun W160 HM161 => ?_
      refine wZ (wp_seq ?_)
      have hbe : Hid (bagV Y.1 e.1 = e.2.1.b) := Lib.hid (hL.out.bag e he.out).1
      have hrr := Lib.hid (hL.out.rd e he.out).1
      have hrl := Lib.hid (hL.out.rd e he.out).2
      refine wp_region_M (fun k => k ∈ ([b157] : List Nat)) [(0, 1), (1, 1), (3, 2), (2, 3), (4, 3), (5, 1)] (by kernel_rfl) (by kernel_rfl) HM161.out ?_
      intro W162 hm163
      have HM164 := Lib.hid hm163
      clear hm163
      refine wT [0, 1] ?_
      refine wL2 3 (bgC (e.2.1.b.k) (.slice e.2.1.p e.2.1.n e.2.1.c)) (HM164.out.part 0 rfl (bgC_all)) Try.underlying43 ?_
      refine wU2 (hS := (covS_box 0 rfl covS_nil)) 2 [_, _, _, _, _, _, _] Try.call16 (vbag_e hL.out.kept.ok hbe.out) HM164 [3] fun u168 W166 hm165 => ?_
      obtain ⟨pq, cq, rfl, hm165q⟩ := Mem.bag rfl hm165
      clear hm165
      have HM169 := Lib.hid hm165q
      clear hm165q
      refine wD2 (hS := (covS_box 1 rfl covS_nil)) 4 [_, _, _, _, _, _, _] [_, _, _, _, _, _, _, _, _] Try.call18 (Does.ofList (bsame_d (listT [_, _]) _ e.2.1.b (vL 0 rfl rowT_reads) (Nat.le_trans hrl.out (by decide)) _ e.2.1.b (vL 1 rfl hrr.out) (Nat.le_trans hrl.out (by decide)))) HM169 [0, 6] fun W171 hm170 => ?_
      rw [sameB_refl]
      have HM173 := Lib.hid hm170
      clear hm170
      refine wT [5] ?_
      refine wZ (wp_cond_false rfl (wp_skip (block_normal (then_normal ?_))))
      refine ⟨by kernel_rfl, ?_⟩
      exact ⟨_, left_lt he.out hns.out, seen ++ [e.2.2], rfl, (Mem.only (M := [_, _, _, _, _, _, _]) HM173.out [4, 4, 2, 3, 3, 1, 2] rfl)⟩
    ·have g38 : (e0 == 0) = false := beq_eq_false_iff_ne.2 he0
     obtain rfl := (merge_no hmg.out he0).symm
     replace he0 := Lib.hid he0
     refine wN [(0, 1), (1, 1), (2, 1), (3, 1), (4, 1), (5, 3), (6, 1)] (wT [0, 1] ?_)
     refine wM 2 (.string y.key) (HM35.out.part1 0 rfl cvC_key) Try.underlying9 ?_
     refine wT [3] ?_
     refine wL 4 (bgC y.b.k (.slice y.vp y.vn y.vc)) (HM35.out.part 0 rfl (cvC_bag)) Try.underlying43 ?_
     refine wD3h 5 [_, _, _, _] [_, _, _, _, _, _, _] Try.call15 (vmerge_e hI.out.kept hyl.out.v hyl.out.lv hmg.out) HM35 [1, 1, 4] fun W175 HM176 => ?_
     refine wT [6] ?_
     refine wZ (wp_cond_false rfl (wp_skip (block_normal (then_normal (wp_seq (wN [(0, 1), (1, 3)] (wT [0] ?_)))))))
     refine wpS_rangeM (K := strK) (val := valB) (i := 1) (dd := 138) Try.underlying29 rfl (by rfl) rfl rfl HM176.out 4 rfl covS_nil rfl ?_
     rintro it2 W178 hm177 -
     have HM179 := Lib.hid hm177
     clear hm177
     simp only [Act.put, List.setIfInBounds_toArray, List.set_cons_succ, List.set_cons_zero]
     refine wZ (wp_block ?_)
     refine wp_loop_F [2, 13, 14, 139, 140, 141, 142, 143, 144, 145, 146, 147, 148, 149] (fun n ts W' => ∃ seen : List Nat, n = leftN M seen ∧ Mem [iterT it2 bs M.clock seen, mapT strK valB bs M, vtT dv dl X.1, lgT dl X.2, mapT dotK valI bd D, listT rs, R] H w W') (n0 := leftN M []) ?_ ?_
     ·exact ⟨[], rfl, (Mem.only (M := [_, _, _, _, _, _, _]) HM179.out [0, 4, 0, 0, 2, 2, 0] rfl)⟩
     rintro n ts W' ⟨seen, rfl, hm4⟩
     simp only [putAll, List.map_cons, List.map_nil, Act.put, List.setIfInBounds_toArray, List.set_cons_succ, List.set_cons_zero]
     have HM180 := Lib.hid hm4
     clear hm4
     refine wp_seq ?_
     by_cases hsn : ∀ e ∈ M.es, e.2.2 ∈ seen
     ·have hall := Lib.hid hsn
      clear hsn
      refine wN [(0, 3), (1, 1)] ?_
      refine wpS_overM (i := 0) (d := some 139) hI.out.mok rfl hall.out rfl (by rfl) rfl rfl HM180.out 0 rfl 1 rfl rfl ?_
      simp only [Act.put, List.setIfInBounds_toArray, List.set_cons_succ, List.set_cons_zero]
      refine wT [1] ?_
      refine wZ (wp_seq (wp_cond_false rfl (wp_exit ?_)))
      refine then_exit (then_exit (block_exit ?_))
      refine block_normal (then_normal (wQ ?_))
      refine ⟨by kernel_rfl, ?_⟩
      exact ⟨l.length - (i + 1), by omega, i + 1, dv, X, M, D, top, rs, rfl, rfl, rfl, rfl, hi1, hI.out.next, (Mem.only (M := [_, _, _, _, _, _]) HM180.out [2, 2, 1, 1, 1, 1] rfl)⟩
     ·have hsome := Lib.hid hsn
      clear hsn
      refine wN [(0, 3), (1, 1)] ?_
      refine wpS_nextM (i := 0) (d := some 139) (L2 := [_, _, _, _, _, _]) hI.out.mok rfl hsome.out rfl (by rfl) rfl rfl HM180.out 0 rfl 1 rfl rfl covS_nil rfl ?_
      rintro e W182 he' hns' hm181 -
      have he := Lib.hid he'
      have hns := Lib.hid hns'
      clear he' hns'
      have HM183 := Lib.hid hm181
      clear hm181
      simp only [Act.put, List.setIfInBounds_toArray, List.set_cons_succ, List.set_cons_zero]
      refine wT [1] ?_
      refine wZ (wp_seq (wp_cond_true rfl (wp_skip (then_normal (wp_block (wp_seq (wN [(0, 1), (1, 1), (2, 1), (3, 3), (4, 1), (5, 3)] ?_)))))))
      refine wR 0 (run_entryM (show strK.key e.1 = .string e.1 from rfl) (show valB e.2.1 = bgV e.2.1.b.k (.slice e.2.1.p e.2.1.n e.2.1.c) from rfl) hI.out.mok he.out rfl (HM183.out.box 1 rfl) (HM183.out.box 0 rfl) rfl rfl) ?_
      refine wT [1, 2] ?_
      refine wpS_alloc (i := 3) (dd := 14) (z := bgV noB.k (.slice none 0 0)) (cs := (bgC noB.k (.slice none 0 0)).toArray) rfl (by rfl) rfl (by kernel_rfl) rfl HM183.out covS_nil rfl ?_
      rintro b186 W185 hm184 -
      have HM187 := Lib.hid hm184
      clear hm184
      simp only [Act.put, List.setIfInBounds_toArray, List.set_cons_succ, List.set_cons_zero]
      refine wT [4] ?_
      refine wXkh (hone := (bgC_one _ _ _)) 5 [_, _, _, _, _, _, _] (bgC (e.2.1.b.k) (.slice e.2.1.p e.2.1.n e.2.1.c)) HM187 0 fun W189 HM190 => ?_
      refine wZ (wp_seq ?_)
      have hbe : Hid (bagV X.1 e.1 = e.2.1.b) := Lib.hid (hI.out.bag e he.out).1
      have hrr := Lib.hid (hI.out.rd e he.out).1
      have hrl := Lib.hid (hI.out.rd e he.out).2
      refine wp_region_M (fun k => k ∈ ([b186] : List Nat)) [(0, 1), (1, 1), (3, 2), (2, 3), (4, 3), (5, 1)] (by kernel_rfl) (by kernel_rfl) HM190.out ?_
      intro W191 hm192
      have HM193 := Lib.hid hm192
      clear hm192
      refine wT [0, 1] ?_
      refine wL2 3 (bgC (e.2.1.b.k) (.slice e.2.1.p e.2.1.n e.2.1.c)) (HM193.out.part 0 rfl (bgC_all)) Try.underlying43 ?_
      refine wU2 (hS := (covS_box 0 rfl covS_nil)) 2 [_, _, _, _, _, _, _] Try.call16 (vbag_e hI.out.kept.ok hbe.out) HM193 [3] fun u197 W195 hm194 => ?_
      obtain ⟨pq, cq, rfl, hm194q⟩ := Mem.bag rfl hm194
      clear hm194
      have HM198 := Lib.hid hm194q
      clear hm194q
      refine wD2 (hS := (covS_box 1 rfl covS_nil)) 4 [_, _, _, _, _, _, _] [_, _, _, _, _, _, _, _, _] Try.call18 (Does.ofList (bsame_d (listT [_, _]) _ e.2.1.b (vL 0 rfl rowT_reads) (Nat.le_trans hrl.out (by decide)) _ e.2.1.b (vL 1 rfl hrr.out) (Nat.le_trans hrl.out (by decide)))) HM198 [0, 6] fun W200 hm199 => ?_
      rw [sameB_refl]
      have HM202 := Lib.hid hm199
      clear hm199
      refine wT [5] ?_
      refine wZ (wp_cond_false rfl (wp_skip (block_normal (then_normal ?_))))
      refine ⟨by kernel_rfl, ?_⟩
      exact ⟨_, left_lt he.out hns.out, seen ++ [e.2.2], rfl, (Mem.only (M := [_, _, _, _, _, _, _]) HM202.out [4, 4, 2, 3, 3, 1, 2] rfl)⟩
   ·have o3 : (y.op == 3) = false := beq_eq_false_iff_ne.2 (by omega)
    have o5 : (y.op == 5) = false := beq_eq_false_iff_ne.2 (by omega)
    have o2 : (y.op == 2) = false := beq_eq_false_iff_ne.2 (by omega)
    have o4 : (y.op == 4) = true := beq_iff_eq.2 hop
    replace hop := Lib.hid hop
    refine wQ ?_
    refine wp_cond_false rfl (wp_seq (wQ ?_))
    refine wp_cond_false rfl (wp_seq (wQ ?_))
    refine wp_cond_false rfl (wp_seq ?_)
    obtain ⟨Y, d, e0, hp'⟩ : ∃ a b c, putV X 0 y.key y.known y.data = (a, b, c) := ⟨_, _, _, rfl⟩
    have hp := Lib.hid hp'
    clear hp'
    refine wN [(0, 1), (1, 1), (2, 1), (3, 1), (4, 1), (5, 1), (6, 1), (7, 3), (8, 1), (9, 1), (10, 1), (11, 3), (12, 3), (13, 1)] (wT [0, 1] ?_)
    refine wM 2 (.string y.key) (HM35.out.part1 0 rfl cvC_key) Try.underlying9 ?_
    refine wT [3] ?_
    refine wL 4 (vcC y.known) (HM35.out.part 0 rfl (cvC_known)) Try.underlying40 ?_
    refine wT [5] ?_
    refine wM 6 (.string y.data) (HM35.out.part1 0 rfl cvC_data) Try.underlying9 ?_
    refine wD5h 7 [_, _, _, _, _] [_, _, _, _, _, _, _] Try.call17 (vput_e hI.out.kept hp.out) HM35 [1, 1] fun W204 HM205 => ?_
    refine wT [8, 9, 10] ?_
    refine wpS_alloc (i := 11) (dd := 11) (z := .agg #[.int .i64 0, .int .i64 0]) (cs := #[.int .i64 0, .int .i64 0]) rfl (by rfl) rfl (by kernel_rfl) rfl HM205.out covS_nil rfl ?_
    rintro b208 W207 hm206 -
    have HM209 := Lib.hid hm206
    clear hm206
    simp only [Act.put, List.setIfInBounds_toArray, List.set_cons_succ, List.set_cons_zero]
    refine wXh 12 [_, _, _, _, _, _, _] [_, _] HM209 0 fun W211 HM212 => ?_
    refine wT [13] ?_
    refine wZ (wp_seq (wp_seq ?_))
    by_cases he0 : e0 = 0
    ·subst he0
     have g13 : ((0 : Int) != 0) = false := by decide
     obtain ⟨q1, q2, q3, q4, q5, q6, q7, q8⟩ := hI.out.put hp.out
     subst q5
     have hYk := Lib.hid q2
     have hcr : Hid ((crashL Y.2 0).1 = X.2) := Lib.hid q8
     have hYl := Lib.hid q2.lg
     have hput : Hid (y.key.size ≤ 32 ∧ Y.2.room = 200 ∧ Y.2.l.length ≤ i + 1 ∧ Y.1.dots = top + 1 ∧ ∀ q, q ≠ y.key → bagV Y.1 q = bagV X.1 q) := Lib.hid ⟨q1, q3, q4, q6, q7⟩
     clear q1 q2 q3 q4 q6 q7 q8
     refine wQ ?_
     refine wp_cond_false rfl (wp_skip (then_normal (wp_seq (wp_seq (wN [(0, 1), (1, 1), (2, 1)] (wT [0] ?_))))))
     refine wM 1 (.int .i64 y.op) (HM212.out.part1 3 rfl cvC_op) Try.underlying3 ?_
     refine wT [2] ?_
     refine wZ (wp_cond_true rfl (wp_seq (wN [(0, 1), (1, 3)] (wT [0] ?_))))
     refine wD2 1 [_, _, _, _, _, _, _] [_, _, _, _, _, _, _, _] Try.call13 (lcrash_d dl Y.2 hYl.out 0) HM212 [2] fun W214 hm213 => ?_
     rw [hcr.out] at hm213
     have HM215 := Lib.hid hm213
     clear hm213
     refine wZ (wp_seq (wN [(0, 1), (1, 3), (2, 1)] (wT [0] ?_)))
     refine wU1 1 [_, _, _, _, _, _, _] Try.call9 (vopen_d dl X.2 hI.out.kept.lg) HM215 [0] fun u218 W217 hm216 => ?_
     obtain ⟨dv2, rfl, hm216q⟩ := Mem.vtN hm216
     clear hm216
     rw [hI.out.again] at hm216q
     have HM219 := Lib.hid hm216q
     clear hm216q
     refine wT [2] ?_
     refine wZ (wp_seq (wp_seq ?_))
     have HM220 := Lib.hid (Mem.only (M := [_, _, _, _, _, _, _, _]) HM219.out [0, 0, 0, 1, 1, 1, 1, 1] rfl)
     have g17 : (top != top) = false := bne_self_eq_false _
     refine wN [(0, 1), (1, 1), (2, 1), (3, 1), (4, 3), (5, 1), (6, 1), (7, 1)] (wT [0, 1, 2, 3] ?_)
     refine wD1 4 [_, _, _, _, _, _, _] [_, _, _, _, _, _, _, _] Try.call14 (vdots_d dv2 dl X.1 hI.out.kept.ok) HM220 [0] fun W222 hm221 => ?_
     rw [hI.out.dots]
     have HM223 := Lib.hid hm221
     clear hm221
     refine wT [5, 6, 7] ?_
     refine wZ (wp_cond_false rfl (wp_skip (then_normal (wp_exit ?_))))
     refine then_exit (block_out (by decide) (then_exit (block_exit ?_)))
     refine then_normal (wQ ?_)
     refine ⟨by kernel_rfl, ?_⟩
     exact ⟨l.length - (i + 1), by omega, i + 1, dv2, X, M, D, top, rs, rfl, rfl, rfl, rfl, hi1, hI.out.next, (Mem.only (M := [_, _, _, _, _, _]) HM223.out [0, 0, 2, 2, 2, 2] rfl)⟩
    ·have g13 : (e0 != 0) = true := bne_iff_ne.2 he0
     obtain rfl := (put_no hp.out he0).symm
     replace he0 := Lib.hid he0
     refine wQ ?_
     refine wp_cond_true rfl (wp_exit ?_)
     refine then_exit (block_out (by decide) (then_exit (block_exit ?_)))
     refine then_normal (wQ ?_)
     refine ⟨by kernel_rfl, ?_⟩
     exact ⟨l.length - (i + 1), by omega, i + 1, dv, X, M, D, top, rs, rfl, rfl, rfl, rfl, hi1, hI.out.next, (Mem.only (M := [_, _, _, _, _, _]) HM212.out [1, 1, 2, 2, 2, 2] rfl)⟩
   ·have o3 : (y.op == 3) = false := beq_eq_false_iff_ne.2 (by omega)
    have o5 : (y.op == 5) = false := beq_eq_false_iff_ne.2 (by omega)
    have o2 : (y.op == 2) = false := beq_eq_false_iff_ne.2 (by omega)
    have o4 : (y.op == 4) = false := beq_eq_false_iff_ne.2 (by omega)
    replace hop := Lib.hid hop
    refine wQ ?_
    refine wp_cond_false rfl (wp_seq (wQ ?_))
    refine wp_cond_false rfl (wp_seq (wQ ?_))
    refine wp_cond_false rfl (wp_seq ?_)
    obtain ⟨Y, d, e0, hp'⟩ : ∃ a b c, putV X 0 y.key y.known y.data = (a, b, c) := ⟨_, _, _, rfl⟩
    have hp := Lib.hid hp'
    clear hp'
    refine wN [(0, 1), (1, 1), (2, 1), (3, 1), (4, 1), (5, 1), (6, 1), (7, 3), (8, 1), (9, 1), (10, 1), (11, 3), (12, 3), (13, 1)] (wT [0, 1] ?_)
    refine wM 2 (.string y.key) (HM35.out.part1 0 rfl cvC_key) Try.underlying9 ?_
    refine wT [3] ?_
    refine wL 4 (vcC y.known) (HM35.out.part 0 rfl (cvC_known)) Try.underlying40 ?_
    refine wT [5] ?_
    refine wM 6 (.string y.data) (HM35.out.part1 0 rfl cvC_data) Try.underlying9 ?_
    refine wD5h 7 [_, _, _, _, _] [_, _, _, _, _, _, _] Try.call17 (vput_e hI.out.kept hp.out) HM35 [1, 1] fun W225 HM226 => ?_
    refine wT [8, 9, 10] ?_
    refine wpS_alloc (i := 11) (dd := 11) (z := .agg #[.int .i64 0, .int .i64 0]) (cs := #[.int .i64 0, .int .i64 0]) rfl (by rfl) rfl (by kernel_rfl) rfl HM226.out covS_nil rfl ?_
    rintro b229 W228 hm227 -
    have HM230 := Lib.hid hm227
    clear hm227
    simp only [Act.put, List.setIfInBounds_toArray, List.set_cons_succ, List.set_cons_zero]
    refine wXh 12 [_, _, _, _, _, _, _] [_, _] HM230 0 fun W232 HM233 => ?_
    refine wT [13] ?_
    refine wZ (wp_seq (wp_seq ?_))
    by_cases he0 : e0 = 0
    ·subst he0
     have g13 : ((0 : Int) != 0) = false := by decide
     obtain ⟨q1, q2, q3, q4, q5, q6, q7, q8⟩ := hI.out.put hp.out
     subst q5
     have hYk := Lib.hid q2
     have hcr : Hid ((crashL Y.2 0).1 = X.2) := Lib.hid q8
     have hYl := Lib.hid q2.lg
     have hput : Hid (y.key.size ≤ 32 ∧ Y.2.room = 200 ∧ Y.2.l.length ≤ i + 1 ∧ Y.1.dots = top + 1 ∧ ∀ q, q ≠ y.key → bagV Y.1 q = bagV X.1 q) := Lib.hid ⟨q1, q3, q4, q6, q7⟩
     clear q1 q2 q3 q4 q6 q7 q8
     refine wQ ?_
     refine wp_cond_false rfl (wp_skip (then_normal (wp_seq (wp_seq (wN [(0, 1), (1, 1), (2, 1)] (wT [0] ?_))))))
     refine wM 1 (.int .i64 y.op) (HM233.out.part1 3 rfl cvC_op) Try.underlying3 ?_
     refine wT [2] ?_
     refine wZ (wp_cond_false rfl (wp_skip (then_normal (wp_seq (wN [(0, 1), (1, 3)] (wT [0] ?_))))))
     refine wD1h 1 [_, _, _, _, _, _] [_, _, _, _, _, _, _, _] Try.call11 (vsync_d dv dl Y hYk.out) HM233 [1, 1] fun W235 HM236 => ?_
     refine wZ (wp_seq (wp_seq ?_))
     have g20 : (top + 1 != top + 1) = false := bne_self_eq_false _
     have htop2 := htop.2
     refine wN [(0, 1), (1, 1), (2, 1), (3, 1), (4, 1), (5, 1), (6, 1), (7, 1), (8, 1), (9, 1), (10, 1)] ?_
     have Cb11 := Mem.cell HM236.out 2 rfl
     refine wT [0, 1] ?_
     clear Cb11
     refine wR 2 (run_get0 (z := .int .i64 0) (hI.out.fresh) Try.underlying30 (by kernel_rfl) (HM236.out.box 5 rfl) rfl rfl rfl) ?_
     have Cb11 := Mem.cell HM236.out 2 rfl
     refine wT [3, 4, 5, 6, 7, 8, 9, 10] ?_
     clear Cb11
     refine wZ (wp_cond_false rfl (wp_skip (then_normal (wp_seq ?_))))
     refine wp_region_M (fun k => k ∈ ([b229] : List Nat)) [(0, 1), (1, 1), (2, 0), (3, 2), (4, 3), (5, 1)] (by kernel_rfl) (by kernel_rfl) HM236.out ?_
     intro W237 hm238
     have HM239 := Lib.hid hm238
     clear hm238
     have Cb11 := Mem.cell HM239.out 2 rfl
     refine wT [0, 1] ?_
     clear Cb11
     refine wA [2] ?_
     have Cb11 := Mem.cell HM239.out 2 rfl
     refine wS [3] ?_
     clear Cb11
     refine wpS_putM (i := 4) (k := (0, top + 1)) (v := 1) (L2 := [_, _, _, _, _, _, _]) Try.underlying30 rfl (by rfl) rfl rfl rfl rfl HM239.out 5 rfl rfl (covS_box 2 rfl covS_nil) rfl ?_
     rintro W241 hm240 hg242
     have HM243 := Lib.hid hm240
     clear hm240
     refine wT [5] ?_
     refine wZ ?_
     obtain ⟨b, hb'⟩ : ∃ z, bagV Y.1 y.key = z := ⟨_, rfl⟩
     have hb := Lib.hid hb'
     clear hb'
     refine wp_region_M (fun k => k ∈ ([b31] : List Nat)) [(0, 0), (1, 0), (2, 2), (3, 1), (4, 1), (5, 1), (6, 3), (7, 3)] (by kernel_rfl) (by kernel_rfl) HM243.out ?_
     intro W244 hm245
     have HM246 := Lib.hid hm245
     clear hm245
     refine wA [0, 1] ?_
     refine wM2 2 (.string y.key) (HM246.out.part1 4 rfl cvC_key) Try.underlying9 ?_
     refine wT [3, 4] ?_
     refine wM 5 (.string y.key) (HM246.out.part1 4 rfl cvC_key) Try.underlying9 ?_
     refine wU2 (hS := (covS_box 3 rfl covS_nil)) 6 [_, _, _, _, _, _, _] Try.call16 (vbag_e hYk.out.ok hb.out) HM246 [1] fun u250 W248 hm247 => ?_
     obtain ⟨pb, cb, rfl, hm247q⟩ := Mem.bag rfl hm247
     clear hm247
     have HM251 := Lib.hid hm247q
     clear hm247q
     refine wpS_putM (i := 7) (k := y.key) (v := ⟨b, pb, b.v.length, cb⟩) (L2 := [_, _, _, _, _, _, _, _]) Try.underlying29 rfl (by rfl) rfl rfl rfl rfl HM251.out 6 rfl rfl (covS_box 5 rfl covS_nil) rfl ?_
     rintro W253 hm252 hg254
     have HM255 := Lib.hid hm252
     clear hm252
     have HM256 := Lib.hid (Mem.cons1 (Mem.only (M := [_, _, _, _, _, _, _, _, _]) HM255.out [1, 6, 0, 0, 0, 0, 0, 0, 0] rfl))
     have hL := Lib.hid (hI.out.lay hput.out.1 hYk.out hput.out.2.1 hput.out.2.2.1 hput.out.2.2.2.1 hput.out.2.2.2.2 hI.out.dput.1 hI.out.dput.2 hb.out (p := pb) (n := b.v.length) (c := cb) (A := rowT elemV (.slice pb b.v.length cb) b.v) rowT_reads)
     refine wpS_nil (block_normal (then_normal (wp_seq (wN [(0, 1), (1, 3)] (wT [0] ?_)))))
     refine wpS_rangeM (K := strK) (val := valB) (i := 1) (dd := 138) Try.underlying29 rfl (by rfl) rfl rfl HM256.out 1 rfl covS_nil rfl ?_
     rintro it2 W258 hm257 -
     have HM259 := Lib.hid hm257
     clear hm257
     simp only [Act.put, List.setIfInBounds_toArray, List.set_cons_succ, List.set_cons_zero]
     refine wZ (wp_block ?_)
     refine wp_loop_F [2, 13, 14, 139, 140, 141, 142, 143, 144, 145, 146, 147, 148, 149] (fun n ts W' => ∃ seen : List Nat, n = leftN (M.put y.key ⟨b, pb, b.v.length, cb⟩) seen ∧ Mem [iterT it2 bs (M.put y.key ⟨b, pb, b.v.length, cb⟩).clock seen, mapT strK valB bs (M.put y.key ⟨b, pb, b.v.length, cb⟩), vtT dv dl Y.1, lgT dl (syncL Y.2).1, mapT dotK valI bd (D.put (0, top + 1) 1), listT (rowT elemV (.slice pb b.v.length cb) b.v :: rs), R] H w W') (n0 := leftN (M.put y.key ⟨b, pb, b.v.length, cb⟩) []) ?_ ?_
     ·exact ⟨[], rfl, (Mem.only (M := [_, _, _, _, _, _, _]) HM259.out [0, 1, 1, 2, 1, 0, 2] rfl)⟩
     rintro n ts W' ⟨seen, rfl, hm4⟩
     simp only [putAll, List.map_cons, List.map_nil, Act.put, List.setIfInBounds_toArray, List.set_cons_succ, List.set_cons_zero]
     have HM260 := Lib.hid hm4
     clear hm4
     refine wp_seq ?_
     by_cases hsn : ∀ e ∈ (M.put y.key ⟨b, pb, b.v.length, cb⟩).es, e.2.2 ∈ seen
     ·have hall := Lib.hid hsn
      clear hsn
      refine wN [(0, 3), (1, 1)] ?_
      refine wpS_overM (i := 0) (d := some 139) hL.out.mok rfl hall.out rfl (by rfl) rfl rfl HM260.out 0 rfl 1 rfl rfl ?_
      simp only [Act.put, List.setIfInBounds_toArray, List.set_cons_succ, List.set_cons_zero]
      refine wT [1] ?_
      refine wZ (wp_seq (wp_cond_false rfl (wp_exit ?_)))
      refine then_exit (then_exit (block_exit ?_))
      refine block_normal (then_normal (wQ ?_))
      refine ⟨by kernel_rfl, ?_⟩
      exact ⟨l.length - (i + 1), by omega, i + 1, dv, (Y.1, (syncL Y.2).1), _, _, (top + 1), (_ :: rs), rfl, rfl, rfl, rfl, hi1, hL.out, (Mem.only (M := [_, _, _, _, _, _]) HM260.out [2, 2, 1, 1, 1, 1] rfl)⟩
     ·have hsome := Lib.hid hsn
      clear hsn
      refine wN [(0, 3), (1, 1)] ?_
      refine wpS_nextM (i := 0) (d := some 139) (L2 := [_, _, _, _, _, _]) hL.out.mok rfl hsome.out rfl (by rfl) rfl rfl HM260.out 0 rfl 1 rfl rfl covS_nil rfl ?_
      rintro e W262 he' hns' hm261 -
      have he := Lib.hid he'
      have hns := Lib.hid hns'
      clear he' hns'
      have HM263 := Lib.hid hm261
      clear hm261
      simp only [Act.put, List.setIfInBounds_toArray, List.set_cons_succ, List.set_cons_zero]
      refine wT [1] ?_
      refine wZ (wp_seq (wp_cond_true rfl (wp_skip (then_normal (wp_block (wp_seq (wN [(0, 1), (1, 1), (2, 1), (3, 3), (4, 1), (5, 3)] ?_)))))))
      refine wR 0 (run_entryM (show strK.key e.1 = .string e.1 from rfl) (show valB e.2.1 = bgV e.2.1.b.k (.slice e.2.1.p e.2.1.n e.2.1.c) from rfl) hL.out.mok he.out rfl (HM263.out.box 1 rfl) (HM263.out.box 0 rfl) rfl rfl) ?_
      refine wT [1, 2] ?_
      refine wpS_alloc (i := 3) (dd := 14) (z := bgV noB.k (.slice none 0 0)) (cs := (bgC noB.k (.slice none 0 0)).toArray) rfl (by rfl) rfl (by kernel_rfl) rfl HM263.out covS_nil rfl ?_
      rintro b266 W265 hm264 -
      have HM267 := Lib.hid hm264
      clear hm264
      simp only [Act.put, List.setIfInBounds_toArray, List.set_cons_succ, List.set_cons_zero]
      refine wT [4] ?_
      refine wXkh (hone := (bgC_one _ _ _)) 5 [_, _, _, _, _, _, _] (bgC (e.2.1.b.k) (.slice e.2.1.p e.2.1.n e.2.1.c)) HM267 0 fun W269 HM270 => ?_
      refine wZ (wp_seq ?_)
      have hbe : Hid (bagV Y.1 e.1 = e.2.1.b) := Lib.hid (hL.out.bag e he.out).1
      have hrr := Lib.hid (hL.out.rd e he.out).1
      have hrl := Lib.hid (hL.out.rd e he.out).2
      refine wp_region_M (fun k => k ∈ ([b266] : List Nat)) [(0, 1), (1, 1), (3, 2), (2, 3), (4, 3), (5, 1)] (by kernel_rfl) (by kernel_rfl) HM270.out ?_
      intro W271 hm272
      have HM273 := Lib.hid hm272
      clear hm272
      refine wT [0, 1] ?_
      refine wL2 3 (bgC (e.2.1.b.k) (.slice e.2.1.p e.2.1.n e.2.1.c)) (HM273.out.part 0 rfl (bgC_all)) Try.underlying43 ?_
      refine wU2 (hS := (covS_box 0 rfl covS_nil)) 2 [_, _, _, _, _, _, _] Try.call16 (vbag_e hL.out.kept.ok hbe.out) HM273 [3] fun u277 W275 hm274 => ?_
      obtain ⟨pq, cq, rfl, hm274q⟩ := Mem.bag rfl hm274
      clear hm274
      have HM278 := Lib.hid hm274q
      clear hm274q
      refine wD2 (hS := (covS_box 1 rfl covS_nil)) 4 [_, _, _, _, _, _, _] [_, _, _, _, _, _, _, _, _] Try.call18 (Does.ofList (bsame_d (listT [_, _]) _ e.2.1.b (vL 0 rfl rowT_reads) (Nat.le_trans hrl.out (by decide)) _ e.2.1.b (vL 1 rfl hrr.out) (Nat.le_trans hrl.out (by decide)))) HM278 [0, 6] fun W280 hm279 => ?_
      rw [sameB_refl]
      have HM282 := Lib.hid hm279
      clear hm279
      refine wT [5] ?_
      refine wZ (wp_cond_false rfl (wp_skip (block_normal (then_normal ?_))))
      refine ⟨by kernel_rfl, ?_⟩
      exact ⟨_, left_lt he.out hns.out, seen ++ [e.2.2], rfl, (Mem.only (M := [_, _, _, _, _, _, _]) HM282.out [4, 4, 2, 3, 3, 1, 2] rfl)⟩
    ·have g13 : (e0 != 0) = true := bne_iff_ne.2 he0
     obtain rfl := (put_no hp.out he0).symm
     replace he0 := Lib.hid he0
     refine wQ ?_
     refine wp_cond_true rfl (wp_exit ?_)
     refine then_exit (block_out (by decide) (then_exit (block_exit ?_)))
     refine then_normal (wQ ?_)
     refine ⟨by kernel_rfl, ?_⟩
     exact ⟨l.length - (i + 1), by omega, i + 1, dv, X, M, D, top, rs, rfl, rfl, rfl, rfl, hi1, hI.out.next, (Mem.only (M := [_, _, _, _, _, _]) HM233.out [1, 1, 2, 2, 2, 2] rfl)⟩
  ·have hge : Hid (l.length ≤ i) := Lib.hid (by have : ¬ (i : Int) < ((l.length : Nat) : Int) := (by simpa using h25); omega)
   clear h25
   refine wp_exit ?_
   refine then_exit (then_exit (block_exit ?_))
   refine then_normal (wp_seq (wN [(0, 3), (1, 1)] ?_))
   refine wD0h 0 [_, _, _, _, _, _] [_, _, _, _, _, _] Try.call7 (vawake_d) HM24 [] fun W284 HM285 => ?_
   refine wT [1] ?_
   refine wZ (wp_ret (bodyPost_ret (results_tmp rfl _ _ _) rfl ?_))
   exact does_ret (Mem.only (M := [_]) HM285.out [5] rfl) rfl rfl
end Go.Proofs.Ythaabnlhhfnalaa
