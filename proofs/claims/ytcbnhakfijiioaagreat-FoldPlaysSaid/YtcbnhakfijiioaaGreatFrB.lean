/- The reference's vault: a deed that lays a bag. -/
import Derived.Test.YtcbnhakfijiioaaGreatPQ
import Derived.Test.YtcbnhakfijiioaaGreatVtX
import Derived.Test.YtcbnhakfijiioaaGreatPA
namespace Go.Proofs.YtcbnhakfijiioaaGreat
open Go Go.RowKit Go.BigFrame
theorem opT_S4 {P : Program} {s : List Nat} {S : Nat → Prop} {a : Act} {w : World} {i : Nat} {ops : Array Oper} {K : Act → World → Prop} (hi : (ops[i]?).isSome = true) (hs : s.contains i = true) (h : wpS P ops S K [(i, 4)] a w) : opT P ops (GS s S) i K a w := by
 obtain ⟨o, ho⟩ := Option.isSome_iff_exists.1 hi
 have h' : opS P ops S i 4 K a w := h
 unfold opS at h'
 rw [ho] at h'
 dsimp only at h'
 rw [if_neg (by omega), if_neg (by omega)] at h'
 exact opG_mono (fun x _ => .inl hs) (fun _ _ h => h) h'
def tlR (s : Rs) (S : Vt) (k : ByteArray) : List Px := if hasK S k = true then s.ys.drop (atK S.b k + 1) else s.ys.drop (atK S.b k)
theorem RsOk.put {s : Rs} {S T : Vt} {A : At} {key : ByteArray} {b : Bg} {pv : Option Addr} {cv : Nat} (hs : RsOk s S) (hV : VtOk S) (hT : T.b = putK key b S.b) (hR : T.ring = S.ring) (hv : Reads elemV A (.slice pv b.v.length cv) b.v) (up : Option Addr) (uc : Nat) :
  RsOk ⟨s.ys.take (atK S.b key) ++ (⟨key, b, pv, b.v.length, cv⟩ : Px) :: tlR s S key, up, uc, s.rp, s.rc, listT [A, s.G]⟩ T := by
 refine ⟨?_, ?_, fun y hy => ?_⟩
 ·rw [hT, at_put hV.srt]
  show List.map Px.kb (s.ys.take (atK S.b key) ++ (⟨key, b, pv, b.v.length, cv⟩ : Px) :: tlR s S key) = _
  rw [List.map_append, List.map_cons, List.map_take, hs.row]
  congr 2
  unfold tlR hasK
  split
  ·rw [List.map_drop, hs.row]
  ·rw [List.map_drop, hs.row]
 ·rw [hR]
  exact vL 1 rfl hs.ring
 ·rcases List.mem_append.1 hy with h | h
  ·have := hs.rd y (List.take_subset _ _ h)
   exact ⟨this.1, vL 1 rfl this.2⟩
  ·rcases List.mem_cons.1 h with rfl | h
   ·exact ⟨rfl, vL 0 rfl hv⟩
   ·have h2 : y ∈ s.ys := by
     unfold tlR at h
     split at h
     ·exact List.drop_subset _ _ h
     ·exact List.drop_subset _ _ h
    have := hs.rd y h2
    exact ⟨this.1, vL 1 rfl this.2⟩
theorem RsOk.drop {s : Rs} {S T : Vt} {q : Int} (hs : RsOk s S) (hT : T.b = dropK q S.b) (hR : T.ring = S.ring) (up : Option Addr) (uc : Nat) : RsOk ⟨s.ys.filter fun y => decide (ofK y.k ≠ q), up, uc, s.rp, s.rc, s.G⟩ T := by
 refine ⟨?_, by rw [hR]; exact hs.ring, fun y hy => hs.rd y (List.mem_filter.1 hy).1⟩
 rw [hT]
 unfold dropK
 rw [← hs.row, List.filter_map]
 congr 1
 refine List.filter_congr fun y _ => ?_
 show decide (ofK y.k ≠ q) = _
 by_cases h : ofK y.k = q <;> simp [Px.kb, h]
theorem at_len {s : Rs} {S : Vt} (hs : RsOk s S) (k : ByteArray) : atK S.b k ≤ s.ys.length := by rw [hs.len]; exact atK_le _ _
theorem at_has {s : Rs} {S : Vt} (hs : RsOk s S) (hV : VtOk S) {k : ByteArray} (h : hasK S k = true) : atK S.b k < s.ys.length := by
 rcases bag_ways hs hV k with ⟨_, y, hy, _⟩ | ⟨h2, _⟩
 ·exact (List.getElem?_eq_some_iff.1 hy).1
 ·rw [h] at h2
  cases h2
set_option maxHeartbeats 4000000 in
set_option maxRecDepth 100000 in
theorem rcount3_d (A : At) (d dl : Nat) (S : Vt) (hV : VtOk S) (hl : S.b.length ≤ 3000) (n : Int) (key : ByteArray) (b : Bg) (r : Rg) (part : Int) (vx rx : Value) (hA : DdR A (⟨3, n, key, b, r, part⟩ : Dd) vx rx) : Does Tryz.prog 34 #[.pointer (some ⟨d, 0, none⟩), ddV (⟨3, n, key, b, r, part⟩ : Dd) vx rx] [rvT d dl S, A] (.tuple #[]) [rvT d dl (countD S (⟨3, n, key, b, r, part⟩ : Dd))] := by
 intro w H hp
 have HM0 := Lib.hid (mem_refl hp)
 clear hp
 obtain ⟨s, hs', HM1'⟩ := Mem.rv HM0.out
 clear HM0
 have HM0 := Lib.hid HM1'
 clear HM1'
 have hs := Lib.hid hs'
 clear hs'
 have hyl : s.ys.length ≤ 3000 := by rw [hs.out.len]; exact hl
 have hyc := Lib.hid (row_cap (Mem.src HM0.out 1 rfl rowT_reads))
 have hv : Reads elemV A vx b.v := hA.v
 have hr : Reads elemI A rx r.p.2.2 := hA.r
 clear hA
 obtain ⟨pv, cv, rfl⟩ := row_form (Mem.src HM0.out 3 rfl hv)
 obtain ⟨pr, cr, rfl⟩ := row_form (Mem.src HM0.out 3 rfl hr)
 go_enter Tryz.func34, Tryz.ntmps34
 refine wp_seq (wN [(0, 3)] ?_)
 refine wBh 0 HM0 fun b3 W2 HM4 => ?_
 refine wZ (wp_seq (wN [(0, 1), (1, 1)] (wT [0] ?_)))
 refine wM 1 (.int .i64 3) (HM4.out.part1 0 rfl rfl) Tryz.underlying3 ?_
 refine wZ (wp_block (wp_seq (wQ ?_)))
 refine wp_cond_false rfl (wp_seq (wQ ?_))
 refine wp_cond_false rfl (wp_seq (wQ ?_))
 refine wp_cond_true rfl (wp_seq ?_)
 obtain ⟨z, hhk'⟩ := bool_letter (hasK S key)
 obtain ⟨i, hati'⟩ : ∃ i, atK S.b key = i := ⟨_, rfl⟩
 have hil0 := at_len hs.out key
 have hil : i ≤ s.ys.length := by rw [← hati']; exact hil0
 clear hil0
 cases z
 ·have hnew : Hid ([] ++ s.ys.take i ++ [(⟨key, b, pv, b.v.length, cv⟩ : Px)] ++ s.ys.drop i = (s.ys.take (atK S.b key) ++ (⟨key, b, pv, b.v.length, cv⟩ : Px) :: tlR s S key)) := Lib.hid (by unfold tlR; rw [if_neg (by rw [hhk']; exact Bool.false_ne_true), hati']; simp)
  have hhk := Lib.hid hhk'
  clear hhk'
  have hati := Lib.hid hati'
  clear hati'
  refine wN [(0, 1), (1, 1), (2, 1), (3, 3), (4, 1), (5, 1), (6, 1), (7, 1), (8, 1)] (wT [0, 1] ?_)
  refine wM 2 (.string key) (HM4.out.part1 0 rfl rfl) Tryz.underlying9 ?_
  refine wD2 3 [_, _, _] [_, _, _, _, _] Tryz.call71 (rat_d d dl S hV hl s hs.out key) HM4 [1, 1] fun W6 hm5 => ?_
  rw [hhk.out, hati.out]
  have HM7 := Lib.hid hm5
  clear hm5
  refine wT [4, 5, 6, 7, 8] ?_
  refine wZ (wp_seq (wN [(0, 1), (1, 1), (2, 1), (3, 1), (4, 1), (5, 3), (6, 3)] (wT [0] ?_)))
  refine wM 1 (.string key) (HM7.out.part1 2 rfl rfl) Tryz.underlying9 ?_
  refine wT [2] ?_
  refine wL 3 (bgC ((⟨3, n, key, b, r, part⟩ : Dd)).b.k (.slice pv b.v.length cv)) (HM7.out.part 2 rfl (ddC_bag)) Tryz.underlying43 ?_
  refine wR 4 (v := prV key b.k (.slice pv b.v.length cv)) (by kernel_rfl) ?_
  refine wpS_alloc (i := 5) (dd := 6) (z := prV ⟨#[]⟩ noB.k (.slice none 0 0)) (cs := (prC ⟨#[]⟩ noB.k (.slice none 0 0)).toArray) rfl (by rfl) rfl (by kernel_rfl) rfl HM7.out covS_nil rfl ?_
  rintro b10 W9 hm8 -
  have HM11 := Lib.hid hm8
  clear hm8
  simp only [Act.put, List.setIfInBounds_toArray, List.set_cons_succ, List.set_cons_zero]
  refine wpS_storeA (i := 6) (L2 := [_, _, _, _, _]) (cs' := prC key b.k (.slice pv b.v.length cv)) rfl (by rfl) rfl rfl rfl (by kernel_rfl) (prC_one _ _ _) HM11.out 0 rfl rfl (by kernel_rfl) (by kernel_rfl) covS_nil rfl ?_
  rintro W13 hm12 -
  have HM14 := Lib.hid hm12
  clear hm12
  refine wZ (wp_seq (wp_seq (wQ ?_)))
  refine wp_cond_false rfl ?_
  have HNL := Lib.hid (Mem.nilRow elemPx HM14.out)
  have htl : (s.ys.take i).length = i := by rw [List.length_take]; omega
  have hb1 : Hid ((([] : List Px).length + (s.ys.take i).length) * elemPx.bytes ≤ 140737488355328) := Lib.hid (by rw [List.length_nil, htl]; show _ * 104 ≤ _; omega)
  have hb2 : Hid ((([] ++ s.ys.take i : List Px).length + [(⟨key, b, pv, b.v.length, cv⟩ : Px)].length) * elemPx.bytes ≤ 140737488355328) := Lib.hid (by rw [List.nil_append, htl, List.length_singleton]; show _ * 104 ≤ _; omega)
  have hb3 : Hid ((([] ++ s.ys.take i ++ [(⟨key, b, pv, b.v.length, cv⟩ : Px)] : List Px).length + (s.ys.drop (i)).length) * elemPx.bytes ≤ 140737488355328) := Lib.hid (by rw [List.nil_append, List.length_append, htl, List.length_singleton, List.length_drop]; show _ * 104 ≤ _; omega)
  clear htl
  refine wp_cut_F [65, 66, 67, 68, 69, 70, 71, 72, 73, 74, 75, 76, 77, 78, 79, 80, 81, 82, 83, 84] (fun vs W' => ∃ (up : Option Addr) (uc : Nat), Mem [boxT d (.cells (rvC dl S.inc S.dots S.has S.ring (.slice s.rp S.ring.p.2.2.length s.rc) (.slice up (s.ys.take (atK S.b key) ++ (⟨key, b, pv, b.v.length, cv⟩ : Px) :: tlR s S key).length uc)).toArray 91 (0, 0)), rowT elemPx (.slice up (s.ys.take (atK S.b key) ++ (⟨key, b, pv, b.v.length, cv⟩ : Px) :: tlR s S key).length uc) (s.ys.take (atK S.b key) ++ (⟨key, b, pv, b.v.length, cv⟩ : Px) :: tlR s S key), rowT elemPx (.slice s.p s.ys.length s.c) s.ys, s.G, A, boxT b10 (.cells (prC key b.k (.slice pv b.v.length cv)).toArray 45 (0, 0)), boxT b3 (.cells (ddC (⟨3, n, key, b, r, part⟩ : Dd) (.slice pv b.v.length cv) (.slice pr r.p.2.2.length cr)).toArray 85 (0, 0))] H w W') ?_ ?_
  ·refine wp_region_taken [20] (fun k => k ∈ ([d, b10, b3] : List Nat)) (by kernel_rfl) rfl rfl ?_
   have hm15 := HNL.out.drew
   have HM16 := Lib.hid hm15
   clear hm15
   refine wpT_takeS (i := 0) (by kernel_rfl) (by kernel_rfl) ?_
   refine wS [0] ?_
   refine wpS_nil ?_
   refine wpT_takeS (i := 1) (by kernel_rfl) (by kernel_rfl) ?_
   refine wS [1] ?_
   refine wpS_nil ?_
   refine wpT_takeS (i := 2) (by kernel_rfl) (by kernel_rfl) ?_
   refine wS [2] ?_
   refine wpS_nil ?_
   refine wpT_takeS (i := 3) (by kernel_rfl) (by kernel_rfl) ?_
   refine wS [3] ?_
   refine wpS_nil ?_
   refine wpT_takeS (i := 4) (by kernel_rfl) (by kernel_rfl) ?_
   refine wM2 4 (.slice s.p s.ys.length s.c) (HM16.out.part1 2 rfl rvC_bags) Tryz.underlying89 ?_
   refine wpS_nil ?_
   refine wpT_takeS (i := 5) (by kernel_rfl) (by kernel_rfl) ?_
   refine wS [5] ?_
   refine wpS_nil ?_
   refine wpT_takeS (i := 6) (by kernel_rfl) (by kernel_rfl) ?_
   refine wpS_read2 (i := 6) (d := some 71) rfl (by rfl) (fun _ _ => run_headE (E := elemPx) (k := i) (by have := hyc.out; omega) rfl rfl rfl) rfl ?_
   simp only [Act.put, List.setIfInBounds_toArray, List.set_cons_succ, List.set_cons_zero]
   refine wpS_nil ?_
   refine wpT_takeS (i := 8) (by kernel_rfl) (by kernel_rfl) ?_
   refine wL2 8 (prC key b.k (.slice pv b.v.length cv)) (HM16.out.part 1 rfl (prC_all)) Tryz.underlying45 ?_
   refine wpS_nil ?_
   refine wpT_takeS (i := 11) (by kernel_rfl) (by kernel_rfl) ?_
   refine wS [11] ?_
   refine wpS_nil ?_
   refine wpT_takeS (i := 12) (by kernel_rfl) (by kernel_rfl) ?_
   refine wS [12] ?_
   refine wpS_nil ?_
   refine wpT_takeS (i := 13) (by kernel_rfl) (by kernel_rfl) ?_
   refine wS [13] ?_
   refine wpS_nil ?_
   refine wpT_takeS (i := 14) (by kernel_rfl) (by kernel_rfl) ?_
   refine wM2 14 (.slice s.p s.ys.length s.c) (HM16.out.part1 2 rfl rvC_bags) Tryz.underlying89 ?_
   refine wpS_nil ?_
   refine wpT_takeS (i := 15) (by kernel_rfl) (by kernel_rfl) ?_
   refine wS [15] ?_
   refine wpS_nil ?_
   refine wpT_takeS (i := 16) (by kernel_rfl) (by kernel_rfl) ?_
   refine wpS_read2 (i := 16) (d := some 81) rfl (by rfl) (fun _ _ => run_tailE (E := elemPx) (k := i) (by omega) rfl rfl rfl) rfl ?_
   simp only [Act.put, List.setIfInBounds_toArray, List.set_cons_succ, List.set_cons_zero]
   refine wpS_nil ?_
   refine wpT_ready 7 [9] (by kernel_rfl) (allT_cons ?_ (allT_cons ?_ allT_nil))
   ·refine opT_S (by kernel_rfl) ?_
    refine wpS_append (E := elemPx) (i := 7) (d := some 72) (L2 := [_, _, _, _, _, _]) rfl (by rfl) rfl HM16.out 0 rfl rfl ((Mem.src HM16.out 3 rfl rowT_reads).take (by omega)) rfl (hb1.out) rfl (covS_box 1 rfl (covS_box 0 rfl (covS_box 3 rfl covS_nil))) rfl ?_
    rintro nv20 W21 hm22 hg23
    have HM24 := Lib.hid hm22
    clear hm22
    simp only [Act.put, List.setIfInBounds_toArray, List.set_cons_succ, List.set_cons_zero]
    obtain ⟨np, nc, hnp⟩ := row_form (Mem.src HM24.out 0 rfl rowT_reads)
    subst hnp
    refine wpS_nil ?_
    refine wpT_ready 9 [] (by kernel_rfl) (allT_cons ?_ allT_nil)
    refine opT_S (by kernel_rfl) ?_
    refine wpS_build1 elemPx (i := 9) (dd := 74) (y := (⟨key, b, pv, b.v.length, cv⟩ : Px)) rfl (by rfl) rfl rfl rfl (by decide) HM24.out (covS_box 2 rfl (covS_box 1 rfl (covS_box 4 rfl covS_nil))) rfl ?_
    rintro b28 W29 hm30 hg31
    have HM32 := Lib.hid hm30
    clear hm30
    simp only [Act.put, List.setIfInBounds_toArray, List.set_cons_succ, List.set_cons_zero]
    refine wpS_nil ?_
    refine wpT_ready 10 [] (by kernel_rfl) (allT_cons ?_ allT_nil)
    refine opT_S (by kernel_rfl) ?_
    refine wpS_append (E := elemPx) (i := 10) (d := some 75) (L2 := [_, _, _, _, _, _, _]) rfl (by rfl) rfl HM32.out 1 rfl rfl (Mem.src HM32.out 0 rfl rowT_reads) rfl (hb2.out) rfl (covS_box 2 rfl (covS_box 1 rfl (covS_box 4 rfl covS_nil))) rfl ?_
    rintro nv36 W37 hm38 hg39
    have HM40 := Lib.hid hm38
    clear hm38
    simp only [Act.put, List.setIfInBounds_toArray, List.set_cons_succ, List.set_cons_zero]
    obtain ⟨np, nc, hnp⟩ := row_form (Mem.src HM40.out 0 rfl rowT_reads)
    subst hnp
    refine wpS_nil ?_
    refine wpT_ready 17 [] (by kernel_rfl) (allT_cons ?_ allT_nil)
    refine opT_S (by kernel_rfl) ?_
    refine wpS_append (E := elemPx) (i := 17) (d := some 82) (L2 := [_, _, _, _, _, _, _]) rfl (by rfl) rfl HM40.out 0 rfl rfl ((Mem.src HM40.out 4 rfl rowT_reads).drop (by omega)) rfl (hb3.out) rfl (covS_box 2 rfl (covS_box 1 rfl (covS_box 4 rfl covS_nil))) rfl ?_
    rintro nv44 W45 hm46 hg47
    have HM48 := Lib.hid hm46
    clear hm46
    simp only [Act.put, List.setIfInBounds_toArray, List.set_cons_succ, List.set_cons_zero]
    obtain ⟨np, nc, hnp⟩ := row_form (Mem.src HM48.out 0 rfl rowT_reads)
    subst hnp
    have HL := HM48.out
    rw [hnew.out] at HL
    rw [hnew.out]
    have HM49 := Lib.hid HL
    clear HL
    refine wpS_nil ?_
    refine wpT_takeS (i := 18) (by kernel_rfl) (by kernel_rfl) ?_
    refine wS [18] ?_
    refine wpS_nil ?_
    refine wpT_takeS (i := 19) (by kernel_rfl) (by kernel_rfl) ?_
    refine wS [19] ?_
    refine wpS_nil ?_
    refine wpT_ready 20 [] (by kernel_rfl) (allT_cons ?_ allT_nil)
    refine opT_S4 (by kernel_rfl) (by kernel_rfl) ?_
    refine wpS_store14 (i := 20) (v := .slice _ _ _) (L2 := [_, _, _, _, _, _, _]) (cs' := rvC dl S.inc S.dots S.has S.ring (.slice s.rp S.ring.p.2.2.length s.rc) (.slice np (s.ys.take (atK S.b key) ++ (⟨key, b, pv, b.v.length, cv⟩ : Px) :: tlR s S key).length nc)) rfl (by rfl) rfl rfl rfl rfl (by kernel_rfl) rfl HM49.out 3 rfl rfl (by kernel_rfl) (rvC_setBags _)  rfl ?_
    rintro W51 hm50
    have HM52 := Lib.hid hm50
    clear hm50
    refine wpS_nil ?_
    refine wpT_end (by kernel_rfl) ?_
    refine then_normal ?_
    refine ⟨by kernel_rfl, ?_⟩
    refine ⟨np, nc, ?_⟩
    exact (Mem.only (M := [_, _, _, _, _, _, _]) HM52.out [0, 0, 2, 3, 3, 1, 1] rfl)
   ·refine opT_S (by kernel_rfl) ?_
    refine wpS_build1 elemPx (i := 9) (dd := 74) (y := (⟨key, b, pv, b.v.length, cv⟩ : Px)) rfl (by rfl) rfl rfl rfl (by decide) HM16.out (covS_box 2 rfl (covS_box 1 rfl (covS_box 4 rfl covS_nil))) rfl ?_
    rintro b56 W57 hm58 hg59
    have HM60 := Lib.hid hm58
    clear hm58
    simp only [Act.put, List.setIfInBounds_toArray, List.set_cons_succ, List.set_cons_zero]
    refine wpS_nil ?_
    refine wpT_ready 7 [] (by kernel_rfl) (allT_cons ?_ allT_nil)
    refine opT_S (by kernel_rfl) ?_
    refine wpS_append (E := elemPx) (i := 7) (d := some 72) (L2 := [_, _, _, _, _, _, _]) rfl (by rfl) rfl HM60.out 1 rfl rfl ((Mem.src HM60.out 4 rfl rowT_reads).take (by omega)) rfl (hb1.out) rfl (covS_box 2 rfl (covS_box 1 rfl (covS_box 4 rfl covS_nil))) rfl ?_
    rintro nv64 W65 hm66 hg67
    have HM68 := Lib.hid hm66
    clear hm66
    simp only [Act.put, List.setIfInBounds_toArray, List.set_cons_succ, List.set_cons_zero]
    obtain ⟨np, nc, hnp⟩ := row_form (Mem.src HM68.out 0 rfl rowT_reads)
    subst hnp
    refine wpS_nil ?_
    refine wpT_ready 10 [] (by kernel_rfl) (allT_cons ?_ allT_nil)
    refine opT_S (by kernel_rfl) ?_
    refine wpS_append (E := elemPx) (i := 10) (d := some 75) (L2 := [_, _, _, _, _, _, _]) rfl (by rfl) rfl HM68.out 0 rfl rfl (Mem.src HM68.out 1 rfl rowT_reads) rfl (hb2.out) rfl (covS_box 2 rfl (covS_box 1 rfl (covS_box 4 rfl covS_nil))) rfl ?_
    rintro nv72 W73 hm74 hg75
    have HM76 := Lib.hid hm74
    clear hm74
    simp only [Act.put, List.setIfInBounds_toArray, List.set_cons_succ, List.set_cons_zero]
    obtain ⟨np, nc, hnp⟩ := row_form (Mem.src HM76.out 0 rfl rowT_reads)
    subst hnp
    refine wpS_nil ?_
    refine wpT_ready 17 [] (by kernel_rfl) (allT_cons ?_ allT_nil)
    refine opT_S (by kernel_rfl) ?_
    refine wpS_append (E := elemPx) (i := 17) (d := some 82) (L2 := [_, _, _, _, _, _, _]) rfl (by rfl) rfl HM76.out 0 rfl rfl ((Mem.src HM76.out 4 rfl rowT_reads).drop (by omega)) rfl (hb3.out) rfl (covS_box 2 rfl (covS_box 1 rfl (covS_box 4 rfl covS_nil))) rfl ?_
    rintro nv80 W81 hm82 hg83
    have HM84 := Lib.hid hm82
    clear hm82
    simp only [Act.put, List.setIfInBounds_toArray, List.set_cons_succ, List.set_cons_zero]
    obtain ⟨np, nc, hnp⟩ := row_form (Mem.src HM84.out 0 rfl rowT_reads)
    subst hnp
    have HL := HM84.out
    rw [hnew.out] at HL
    rw [hnew.out]
    have HM85 := Lib.hid HL
    clear HL
    refine wpS_nil ?_
    refine wpT_takeS (i := 18) (by kernel_rfl) (by kernel_rfl) ?_
    refine wS [18] ?_
    refine wpS_nil ?_
    refine wpT_takeS (i := 19) (by kernel_rfl) (by kernel_rfl) ?_
    refine wS [19] ?_
    refine wpS_nil ?_
    refine wpT_ready 20 [] (by kernel_rfl) (allT_cons ?_ allT_nil)
    refine opT_S4 (by kernel_rfl) (by kernel_rfl) ?_
    refine wpS_store14 (i := 20) (v := .slice _ _ _) (L2 := [_, _, _, _, _, _, _]) (cs' := rvC dl S.inc S.dots S.has S.ring (.slice s.rp S.ring.p.2.2.length s.rc) (.slice np (s.ys.take (atK S.b key) ++ (⟨key, b, pv, b.v.length, cv⟩ : Px) :: tlR s S key).length nc)) rfl (by rfl) rfl rfl rfl rfl (by kernel_rfl) rfl HM85.out 3 rfl rfl (by kernel_rfl) (rvC_setBags _)  rfl ?_
    rintro W87 hm86
    have HM88 := Lib.hid hm86
    clear hm86
    refine wpS_nil ?_
    refine wpT_end (by kernel_rfl) ?_
    refine then_normal ?_
    refine ⟨by kernel_rfl, ?_⟩
    refine ⟨np, nc, ?_⟩
    exact (Mem.only (M := [_, _, _, _, _, _, _]) HM88.out [0, 0, 2, 3, 3, 1, 1] rfl)
  rintro vs W' ⟨up, uc, hm⟩
  simp only [putAll, List.map_cons, List.map_nil, Act.put, List.setIfInBounds_toArray, List.set_cons_succ, List.set_cons_zero]
  have HM89 := Lib.hid hm
  clear hm
  refine then_normal ?_
  refine wp_region_M (fun k => k ∈ ([] : List Nat)) [(0, 1), (1, 1), (2, 1), (3, 1), (4, 1), (5, 1), (6, 1), (7, 1), (8, 1), (9, 1), (10, 3)] (by kernel_rfl) (by kernel_rfl) HM89.out ?_
  intro W90 hm91
  have HM92 := Lib.hid hm91
  clear hm91
  refine wT [0, 1, 2, 3] ?_
  refine wM 4 (.int .i64 S.dots) (HM92.out.part1 0 rfl rvC_dots) Tryz.underlying3 ?_
  refine wT [5] ?_
  refine wM 6 (.int .i64 n) (HM92.out.part1 6 rfl rfl) Tryz.underlying3 ?_
  refine wT [7, 8, 9] ?_
  refine wpS_store1 (i := 10) (v := .int _ _) (L2 := [_, _, _, _, _, _]) (cs' := rvC dl S.inc (max S.dots n) S.has S.ring (.slice s.rp S.ring.p.2.2.length s.rc) (.slice up (s.ys.take (atK S.b key) ++ (⟨key, b, pv, b.v.length, cv⟩ : Px) :: tlR s S key).length uc)) rfl (by rfl) rfl rfl rfl rfl (by kernel_rfl) rfl HM92.out 0 rfl rfl (by kernel_rfl) (rvC_setDots _) covS_nil rfl ?_
  rintro W94 hm93 -
  have HM95 := Lib.hid hm93
  clear hm93
  refine wpS_nil (block_normal ?_)
  refine bodyPost_end (results_none rfl _ _ _) rfl ?_
  rw [countD_3 rfl]
  exact does_ret (Mem.toRv (S := ⟨S.inc, S.has, S.ring, max S.dots n, putK key b S.b⟩) ⟨(s.ys.take (atK S.b key) ++ (⟨key, b, pv, b.v.length, cv⟩ : Px) :: tlR s S key), up, uc, s.rp, s.rc, listT [A, s.G]⟩ (RsOk.put (T := ⟨S.inc, S.has, S.ring, max S.dots n, putK key b S.b⟩) hs.out hV rfl rfl hv up uc) (Mem.only (M := [_, _, _]) (Mem.two (Mem.only (M := [_, _, _, _]) HM95.out [4, 3, 0, 0] rfl)) [1, 1, 0] rfl)) rfl rfl
 ·have hil2 : i + 1 ≤ s.ys.length := by rw [← hati']; exact at_has hs.out hV hhk'
  have hnew : Hid ([] ++ s.ys.take i ++ [(⟨key, b, pv, b.v.length, cv⟩ : Px)] ++ s.ys.drop (i + 1) = (s.ys.take (atK S.b key) ++ (⟨key, b, pv, b.v.length, cv⟩ : Px) :: tlR s S key)) := Lib.hid (by unfold tlR; rw [if_pos hhk', hati']; simp)
  have hhk := Lib.hid hhk'
  clear hhk'
  have hati := Lib.hid hati'
  clear hati'
  refine wN [(0, 1), (1, 1), (2, 1), (3, 3), (4, 1), (5, 1), (6, 1), (7, 1), (8, 1)] (wT [0, 1] ?_)
  refine wM 2 (.string key) (HM4.out.part1 0 rfl rfl) Tryz.underlying9 ?_
  refine wD2 3 [_, _, _] [_, _, _, _, _] Tryz.call71 (rat_d d dl S hV hl s hs.out key) HM4 [1, 1] fun W97 hm96 => ?_
  rw [hhk.out, hati.out]
  have HM98 := Lib.hid hm96
  clear hm96
  refine wT [4, 5, 6, 7, 8] ?_
  refine wZ (wp_seq (wN [(0, 1), (1, 1), (2, 1), (3, 1), (4, 1), (5, 3), (6, 3)] (wT [0] ?_)))
  refine wM 1 (.string key) (HM98.out.part1 2 rfl rfl) Tryz.underlying9 ?_
  refine wT [2] ?_
  refine wL 3 (bgC ((⟨3, n, key, b, r, part⟩ : Dd)).b.k (.slice pv b.v.length cv)) (HM98.out.part 2 rfl (ddC_bag)) Tryz.underlying43 ?_
  refine wR 4 (v := prV key b.k (.slice pv b.v.length cv)) (by kernel_rfl) ?_
  refine wpS_alloc (i := 5) (dd := 6) (z := prV ⟨#[]⟩ noB.k (.slice none 0 0)) (cs := (prC ⟨#[]⟩ noB.k (.slice none 0 0)).toArray) rfl (by rfl) rfl (by kernel_rfl) rfl HM98.out covS_nil rfl ?_
  rintro b101 W100 hm99 -
  have HM102 := Lib.hid hm99
  clear hm99
  simp only [Act.put, List.setIfInBounds_toArray, List.set_cons_succ, List.set_cons_zero]
  refine wpS_storeA (i := 6) (L2 := [_, _, _, _, _]) (cs' := prC key b.k (.slice pv b.v.length cv)) rfl (by rfl) rfl rfl rfl (by kernel_rfl) (prC_one _ _ _) HM102.out 0 rfl rfl (by kernel_rfl) (by kernel_rfl) covS_nil rfl ?_
  rintro W104 hm103 -
  have HM105 := Lib.hid hm103
  clear hm103
  refine wZ (wp_seq (wp_seq (wQ ?_)))
  refine wp_cond_true rfl ?_
  have HNL := Lib.hid (Mem.nilRow elemPx HM105.out)
  have htl : (s.ys.take i).length = i := by rw [List.length_take]; omega
  have hb1 : Hid ((([] : List Px).length + (s.ys.take i).length) * elemPx.bytes ≤ 140737488355328) := Lib.hid (by rw [List.length_nil, htl]; show _ * 104 ≤ _; omega)
  have hb2 : Hid ((([] ++ s.ys.take i : List Px).length + [(⟨key, b, pv, b.v.length, cv⟩ : Px)].length) * elemPx.bytes ≤ 140737488355328) := Lib.hid (by rw [List.nil_append, htl, List.length_singleton]; show _ * 104 ≤ _; omega)
  have hb3 : Hid ((([] ++ s.ys.take i ++ [(⟨key, b, pv, b.v.length, cv⟩ : Px)] : List Px).length + (s.ys.drop (i + 1)).length) * elemPx.bytes ≤ 140737488355328) := Lib.hid (by rw [List.nil_append, List.length_append, htl, List.length_singleton, List.length_drop]; show _ * 104 ≤ _; omega)
  clear htl
  refine wp_cut_F [44, 45, 46, 47, 48, 49, 50, 51, 52, 53, 54, 55, 56, 57, 58, 59, 60, 61, 62, 63, 64] (fun vs W' => ∃ (up : Option Addr) (uc : Nat), Mem [boxT d (.cells (rvC dl S.inc S.dots S.has S.ring (.slice s.rp S.ring.p.2.2.length s.rc) (.slice up (s.ys.take (atK S.b key) ++ (⟨key, b, pv, b.v.length, cv⟩ : Px) :: tlR s S key).length uc)).toArray 91 (0, 0)), rowT elemPx (.slice up (s.ys.take (atK S.b key) ++ (⟨key, b, pv, b.v.length, cv⟩ : Px) :: tlR s S key).length uc) (s.ys.take (atK S.b key) ++ (⟨key, b, pv, b.v.length, cv⟩ : Px) :: tlR s S key), rowT elemPx (.slice s.p s.ys.length s.c) s.ys, s.G, A, boxT b101 (.cells (prC key b.k (.slice pv b.v.length cv)).toArray 45 (0, 0)), boxT b3 (.cells (ddC (⟨3, n, key, b, r, part⟩ : Dd) (.slice pv b.v.length cv) (.slice pr r.p.2.2.length cr)).toArray 85 (0, 0))] H w W') ?_ ?_
  ·refine wp_region_taken [21] (fun k => k ∈ ([d, b101, b3] : List Nat)) (by kernel_rfl) rfl rfl ?_
   have hm106 := HNL.out.drew
   have HM107 := Lib.hid hm106
   clear hm106
   refine wpT_takeS (i := 0) (by kernel_rfl) (by kernel_rfl) ?_
   refine wS [0] ?_
   refine wpS_nil ?_
   refine wpT_takeS (i := 1) (by kernel_rfl) (by kernel_rfl) ?_
   refine wS [1] ?_
   refine wpS_nil ?_
   refine wpT_takeS (i := 2) (by kernel_rfl) (by kernel_rfl) ?_
   refine wS [2] ?_
   refine wpS_nil ?_
   refine wpT_takeS (i := 3) (by kernel_rfl) (by kernel_rfl) ?_
   refine wS [3] ?_
   refine wpS_nil ?_
   refine wpT_takeS (i := 4) (by kernel_rfl) (by kernel_rfl) ?_
   refine wM2 4 (.slice s.p s.ys.length s.c) (HM107.out.part1 2 rfl rvC_bags) Tryz.underlying89 ?_
   refine wpS_nil ?_
   refine wpT_takeS (i := 5) (by kernel_rfl) (by kernel_rfl) ?_
   refine wS [5] ?_
   refine wpS_nil ?_
   refine wpT_takeS (i := 6) (by kernel_rfl) (by kernel_rfl) ?_
   refine wpS_read2 (i := 6) (d := some 50) rfl (by rfl) (fun _ _ => run_headE (E := elemPx) (k := i) (by have := hyc.out; omega) rfl rfl rfl) rfl ?_
   simp only [Act.put, List.setIfInBounds_toArray, List.set_cons_succ, List.set_cons_zero]
   refine wpS_nil ?_
   refine wpT_takeS (i := 8) (by kernel_rfl) (by kernel_rfl) ?_
   refine wL2 8 (prC key b.k (.slice pv b.v.length cv)) (HM107.out.part 1 rfl (prC_all)) Tryz.underlying45 ?_
   refine wpS_nil ?_
   refine wpT_takeS (i := 11) (by kernel_rfl) (by kernel_rfl) ?_
   refine wS [11] ?_
   refine wpS_nil ?_
   refine wpT_takeS (i := 12) (by kernel_rfl) (by kernel_rfl) ?_
   refine wS [12] ?_
   refine wpS_nil ?_
   refine wpT_takeS (i := 13) (by kernel_rfl) (by kernel_rfl) ?_
   refine wS [13] ?_
   refine wpS_nil ?_
   refine wpT_takeS (i := 14) (by kernel_rfl) (by kernel_rfl) ?_
   refine wM2 14 (.slice s.p s.ys.length s.c) (HM107.out.part1 2 rfl rvC_bags) Tryz.underlying89 ?_
   refine wpS_nil ?_
   refine wpT_takeS (i := 15) (by kernel_rfl) (by kernel_rfl) ?_
   refine wS [15] ?_
   refine wpS_nil ?_
   refine wpT_takeS (i := 16) (by kernel_rfl) (by kernel_rfl) ?_
   refine wS [16] ?_
   refine wpS_nil ?_
   refine wpT_takeS (i := 17) (by kernel_rfl) (by kernel_rfl) ?_
   refine wpS_read2 (i := 17) (d := some 61) rfl (by rfl) (fun _ _ => run_tailE (E := elemPx) (k := i + 1) (by omega) rfl rfl rfl) rfl ?_
   simp only [Act.put, List.setIfInBounds_toArray, List.set_cons_succ, List.set_cons_zero]
   refine wpS_nil ?_
   refine wpT_ready 7 [9] (by kernel_rfl) (allT_cons ?_ (allT_cons ?_ allT_nil))
   ·refine opT_S (by kernel_rfl) ?_
    refine wpS_append (E := elemPx) (i := 7) (d := some 51) (L2 := [_, _, _, _, _, _]) rfl (by rfl) rfl HM107.out 0 rfl rfl ((Mem.src HM107.out 3 rfl rowT_reads).take (by omega)) rfl (hb1.out) rfl (covS_box 1 rfl (covS_box 0 rfl (covS_box 3 rfl covS_nil))) rfl ?_
    rintro nv111 W112 hm113 hg114
    have HM115 := Lib.hid hm113
    clear hm113
    simp only [Act.put, List.setIfInBounds_toArray, List.set_cons_succ, List.set_cons_zero]
    obtain ⟨np, nc, hnp⟩ := row_form (Mem.src HM115.out 0 rfl rowT_reads)
    subst hnp
    refine wpS_nil ?_
    refine wpT_ready 9 [] (by kernel_rfl) (allT_cons ?_ allT_nil)
    refine opT_S (by kernel_rfl) ?_
    refine wpS_build1 elemPx (i := 9) (dd := 53) (y := (⟨key, b, pv, b.v.length, cv⟩ : Px)) rfl (by rfl) rfl rfl rfl (by decide) HM115.out (covS_box 2 rfl (covS_box 1 rfl (covS_box 4 rfl covS_nil))) rfl ?_
    rintro b119 W120 hm121 hg122
    have HM123 := Lib.hid hm121
    clear hm121
    simp only [Act.put, List.setIfInBounds_toArray, List.set_cons_succ, List.set_cons_zero]
    refine wpS_nil ?_
    refine wpT_ready 10 [] (by kernel_rfl) (allT_cons ?_ allT_nil)
    refine opT_S (by kernel_rfl) ?_
    refine wpS_append (E := elemPx) (i := 10) (d := some 54) (L2 := [_, _, _, _, _, _, _]) rfl (by rfl) rfl HM123.out 1 rfl rfl (Mem.src HM123.out 0 rfl rowT_reads) rfl (hb2.out) rfl (covS_box 2 rfl (covS_box 1 rfl (covS_box 4 rfl covS_nil))) rfl ?_
    rintro nv127 W128 hm129 hg130
    have HM131 := Lib.hid hm129
    clear hm129
    simp only [Act.put, List.setIfInBounds_toArray, List.set_cons_succ, List.set_cons_zero]
    obtain ⟨np, nc, hnp⟩ := row_form (Mem.src HM131.out 0 rfl rowT_reads)
    subst hnp
    refine wpS_nil ?_
    refine wpT_ready 18 [] (by kernel_rfl) (allT_cons ?_ allT_nil)
    refine opT_S (by kernel_rfl) ?_
    refine wpS_append (E := elemPx) (i := 18) (d := some 62) (L2 := [_, _, _, _, _, _, _]) rfl (by rfl) rfl HM131.out 0 rfl rfl ((Mem.src HM131.out 4 rfl rowT_reads).drop (by omega)) rfl (hb3.out) rfl (covS_box 2 rfl (covS_box 1 rfl (covS_box 4 rfl covS_nil))) rfl ?_
    rintro nv135 W136 hm137 hg138
    have HM139 := Lib.hid hm137
    clear hm137
    simp only [Act.put, List.setIfInBounds_toArray, List.set_cons_succ, List.set_cons_zero]
    obtain ⟨np, nc, hnp⟩ := row_form (Mem.src HM139.out 0 rfl rowT_reads)
    subst hnp
    have HL := HM139.out
    rw [hnew.out] at HL
    rw [hnew.out]
    have HM140 := Lib.hid HL
    clear HL
    refine wpS_nil ?_
    refine wpT_takeS (i := 19) (by kernel_rfl) (by kernel_rfl) ?_
    refine wS [19] ?_
    refine wpS_nil ?_
    refine wpT_takeS (i := 20) (by kernel_rfl) (by kernel_rfl) ?_
    refine wS [20] ?_
    refine wpS_nil ?_
    refine wpT_ready 21 [] (by kernel_rfl) (allT_cons ?_ allT_nil)
    refine opT_S4 (by kernel_rfl) (by kernel_rfl) ?_
    refine wpS_store14 (i := 21) (v := .slice _ _ _) (L2 := [_, _, _, _, _, _, _]) (cs' := rvC dl S.inc S.dots S.has S.ring (.slice s.rp S.ring.p.2.2.length s.rc) (.slice np (s.ys.take (atK S.b key) ++ (⟨key, b, pv, b.v.length, cv⟩ : Px) :: tlR s S key).length nc)) rfl (by rfl) rfl rfl rfl rfl (by kernel_rfl) rfl HM140.out 3 rfl rfl (by kernel_rfl) (rvC_setBags _)  rfl ?_
    rintro W142 hm141
    have HM143 := Lib.hid hm141
    clear hm141
    refine wpS_nil ?_
    refine wpT_end (by kernel_rfl) ?_
    refine then_normal ?_
    refine ⟨by kernel_rfl, ?_⟩
    refine ⟨np, nc, ?_⟩
    exact (Mem.only (M := [_, _, _, _, _, _, _]) HM143.out [0, 0, 2, 3, 3, 1, 1] rfl)
   ·refine opT_S (by kernel_rfl) ?_
    refine wpS_build1 elemPx (i := 9) (dd := 53) (y := (⟨key, b, pv, b.v.length, cv⟩ : Px)) rfl (by rfl) rfl rfl rfl (by decide) HM107.out (covS_box 2 rfl (covS_box 1 rfl (covS_box 4 rfl covS_nil))) rfl ?_
    rintro b147 W148 hm149 hg150
    have HM151 := Lib.hid hm149
    clear hm149
    simp only [Act.put, List.setIfInBounds_toArray, List.set_cons_succ, List.set_cons_zero]
    refine wpS_nil ?_
    refine wpT_ready 7 [] (by kernel_rfl) (allT_cons ?_ allT_nil)
    refine opT_S (by kernel_rfl) ?_
    refine wpS_append (E := elemPx) (i := 7) (d := some 51) (L2 := [_, _, _, _, _, _, _]) rfl (by rfl) rfl HM151.out 1 rfl rfl ((Mem.src HM151.out 4 rfl rowT_reads).take (by omega)) rfl (hb1.out) rfl (covS_box 2 rfl (covS_box 1 rfl (covS_box 4 rfl covS_nil))) rfl ?_
    rintro nv155 W156 hm157 hg158
    have HM159 := Lib.hid hm157
    clear hm157
    simp only [Act.put, List.setIfInBounds_toArray, List.set_cons_succ, List.set_cons_zero]
    obtain ⟨np, nc, hnp⟩ := row_form (Mem.src HM159.out 0 rfl rowT_reads)
    subst hnp
    refine wpS_nil ?_
    refine wpT_ready 10 [] (by kernel_rfl) (allT_cons ?_ allT_nil)
    refine opT_S (by kernel_rfl) ?_
    refine wpS_append (E := elemPx) (i := 10) (d := some 54) (L2 := [_, _, _, _, _, _, _]) rfl (by rfl) rfl HM159.out 0 rfl rfl (Mem.src HM159.out 1 rfl rowT_reads) rfl (hb2.out) rfl (covS_box 2 rfl (covS_box 1 rfl (covS_box 4 rfl covS_nil))) rfl ?_
    rintro nv163 W164 hm165 hg166
    have HM167 := Lib.hid hm165
    clear hm165
    simp only [Act.put, List.setIfInBounds_toArray, List.set_cons_succ, List.set_cons_zero]
    obtain ⟨np, nc, hnp⟩ := row_form (Mem.src HM167.out 0 rfl rowT_reads)
    subst hnp
    refine wpS_nil ?_
    refine wpT_ready 18 [] (by kernel_rfl) (allT_cons ?_ allT_nil)
    refine opT_S (by kernel_rfl) ?_
    refine wpS_append (E := elemPx) (i := 18) (d := some 62) (L2 := [_, _, _, _, _, _, _]) rfl (by rfl) rfl HM167.out 0 rfl rfl ((Mem.src HM167.out 4 rfl rowT_reads).drop (by omega)) rfl (hb3.out) rfl (covS_box 2 rfl (covS_box 1 rfl (covS_box 4 rfl covS_nil))) rfl ?_
    rintro nv171 W172 hm173 hg174
    have HM175 := Lib.hid hm173
    clear hm173
    simp only [Act.put, List.setIfInBounds_toArray, List.set_cons_succ, List.set_cons_zero]
    obtain ⟨np, nc, hnp⟩ := row_form (Mem.src HM175.out 0 rfl rowT_reads)
    subst hnp
    have HL := HM175.out
    rw [hnew.out] at HL
    rw [hnew.out]
    have HM176 := Lib.hid HL
    clear HL
    refine wpS_nil ?_
    refine wpT_takeS (i := 19) (by kernel_rfl) (by kernel_rfl) ?_
    refine wS [19] ?_
    refine wpS_nil ?_
    refine wpT_takeS (i := 20) (by kernel_rfl) (by kernel_rfl) ?_
    refine wS [20] ?_
    refine wpS_nil ?_
    refine wpT_ready 21 [] (by kernel_rfl) (allT_cons ?_ allT_nil)
    refine opT_S4 (by kernel_rfl) (by kernel_rfl) ?_
    refine wpS_store14 (i := 21) (v := .slice _ _ _) (L2 := [_, _, _, _, _, _, _]) (cs' := rvC dl S.inc S.dots S.has S.ring (.slice s.rp S.ring.p.2.2.length s.rc) (.slice np (s.ys.take (atK S.b key) ++ (⟨key, b, pv, b.v.length, cv⟩ : Px) :: tlR s S key).length nc)) rfl (by rfl) rfl rfl rfl rfl (by kernel_rfl) rfl HM176.out 3 rfl rfl (by kernel_rfl) (rvC_setBags _)  rfl ?_
    rintro W178 hm177
    have HM179 := Lib.hid hm177
    clear hm177
    refine wpS_nil ?_
    refine wpT_end (by kernel_rfl) ?_
    refine then_normal ?_
    refine ⟨by kernel_rfl, ?_⟩
    refine ⟨np, nc, ?_⟩
    exact (Mem.only (M := [_, _, _, _, _, _, _]) HM179.out [0, 0, 2, 3, 3, 1, 1] rfl)
  rintro vs W' ⟨up, uc, hm⟩
  simp only [putAll, List.map_cons, List.map_nil, Act.put, List.setIfInBounds_toArray, List.set_cons_succ, List.set_cons_zero]
  have HM180 := Lib.hid hm
  clear hm
  refine then_normal ?_
  refine wp_region_M (fun k => k ∈ ([] : List Nat)) [(0, 1), (1, 1), (2, 1), (3, 1), (4, 1), (5, 1), (6, 1), (7, 1), (8, 1), (9, 1), (10, 3)] (by kernel_rfl) (by kernel_rfl) HM180.out ?_
  intro W181 hm182
  have HM183 := Lib.hid hm182
  clear hm182
  refine wT [0, 1, 2, 3] ?_
  refine wM 4 (.int .i64 S.dots) (HM183.out.part1 0 rfl rvC_dots) Tryz.underlying3 ?_
  refine wT [5] ?_
  refine wM 6 (.int .i64 n) (HM183.out.part1 6 rfl rfl) Tryz.underlying3 ?_
  refine wT [7, 8, 9] ?_
  refine wpS_store1 (i := 10) (v := .int _ _) (L2 := [_, _, _, _, _, _]) (cs' := rvC dl S.inc (max S.dots n) S.has S.ring (.slice s.rp S.ring.p.2.2.length s.rc) (.slice up (s.ys.take (atK S.b key) ++ (⟨key, b, pv, b.v.length, cv⟩ : Px) :: tlR s S key).length uc)) rfl (by rfl) rfl rfl rfl rfl (by kernel_rfl) rfl HM183.out 0 rfl rfl (by kernel_rfl) (rvC_setDots _) covS_nil rfl ?_
  rintro W185 hm184 -
  have HM186 := Lib.hid hm184
  clear hm184
  refine wpS_nil (block_normal ?_)
  refine bodyPost_end (results_none rfl _ _ _) rfl ?_
  rw [countD_3 rfl]
  exact does_ret (Mem.toRv (S := ⟨S.inc, S.has, S.ring, max S.dots n, putK key b S.b⟩) ⟨(s.ys.take (atK S.b key) ++ (⟨key, b, pv, b.v.length, cv⟩ : Px) :: tlR s S key), up, uc, s.rp, s.rc, listT [A, s.G]⟩ (RsOk.put (T := ⟨S.inc, S.has, S.ring, max S.dots n, putK key b S.b⟩) hs.out hV rfl rfl hv up uc) (Mem.only (M := [_, _, _]) (Mem.two (Mem.only (M := [_, _, _, _]) HM186.out [4, 3, 0, 0] rfl)) [1, 1, 0] rfl)) rfl rfl
theorem fl_step {l : List Px} {i : Nat} {y : Px} (q : Int) (h : l[i]? = some y) : ((l.take (i + 1)).filter fun y => decide (ofK y.k ≠ q)) = if ofK y.k ≠ q then ((l.take i).filter fun y => decide (ofK y.k ≠ q)) ++ [y] else (l.take i).filter fun y => decide (ofK y.k ≠ q) := by
 rw [List.take_add_one, h, Option.toList_some, List.filter_append]
 by_cases e : ofK y.k = q
 ·rw [if_neg (fun h => h e), List.filter_cons_of_neg (by simpa using e)]
  exact List.append_nil _
 ·rw [if_pos e, List.filter_cons_of_pos (by simpa using e)]
  rfl
set_option maxHeartbeats 4000000 in
set_option maxRecDepth 100000 in
theorem rcount4_d (A : At) (d dl : Nat) (S : Vt) (hV : VtOk S) (hl : S.b.length ≤ 3000) (z : Int) (key : ByteArray) (b : Bg) (r : Rg) (q : Int) (vx rx : Value) (hA : DdR A (⟨4, z, key, b, r, q⟩ : Dd) vx rx) : Does Tryz.prog 34 #[.pointer (some ⟨d, 0, none⟩), ddV (⟨4, z, key, b, r, q⟩ : Dd) vx rx] [rvT d dl S, A] (.tuple #[]) [rvT d dl (countD S (⟨4, z, key, b, r, q⟩ : Dd))] := by
 intro w H hp
 have HM0 := Lib.hid (mem_refl hp)
 clear hp
 obtain ⟨s, hs', HM1'⟩ := Mem.rv HM0.out
 clear HM0
 have HM0 := Lib.hid HM1'
 clear HM1'
 have hs := Lib.hid hs'
 clear hs'
 have hyl : s.ys.length ≤ 3000 := by rw [hs.out.len]; exact hl
 have hv : Reads elemV A vx b.v := hA.v
 have hr : Reads elemI A rx r.p.2.2 := hA.r
 clear hA
 obtain ⟨pv, cv, rfl⟩ := row_form (Mem.src HM0.out 3 rfl hv)
 obtain ⟨pr, cr, rfl⟩ := row_form (Mem.src HM0.out 3 rfl hr)
 go_enter Tryz.func34, Tryz.ntmps34
 refine wp_seq (wN [(0, 3)] ?_)
 refine wBh 0 HM0 fun b3 W2 HM4 => ?_
 refine wZ (wp_seq (wN [(0, 1), (1, 1)] (wT [0] ?_)))
 refine wM 1 (.int .i64 4) (HM4.out.part1 0 rfl rfl) Tryz.underlying3 ?_
 refine wZ (wp_block (wp_seq (wQ ?_)))
 refine wp_cond_false rfl (wp_seq (wQ ?_))
 refine wp_cond_false rfl (wp_seq (wQ ?_))
 refine wp_cond_false rfl (wp_seq (wQ ?_))
 refine wp_cond_true rfl (wp_seq (wQ ?_))
 refine wp_seq (wp_seq (wN [(0, 1), (1, 1), (2, 1), (3, 1), (4, 1), (5, 1)] (wT [0, 1, 2] ?_)))
 refine wM 3 (.slice s.p s.ys.length s.c) (HM4.out.part1 1 rfl rvC_bags) Tryz.underlying89 ?_
 refine wT [4, 5] ?_
 refine wZ (wp_block ?_)
 refine wp_loop_F [7, 9, 102, 103, 104, 105, 106, 107, 108, 109, 110, 111, 112, 113, 114, 115, 116] (fun n vs W' => ∃ (i : Nat) (pu : Option Addr) (cu : Nat), n = s.ys.length - i ∧ vs 102 = .int .i64 (i : Int) ∧ vs 7 = .slice pu ((s.ys.take i).filter fun y : Px => decide (ofK y.k ≠ q)).length cu ∧ i ≤ s.ys.length ∧ Mem [rowT elemPx (.slice pu ((s.ys.take i).filter fun y : Px => decide (ofK y.k ≠ q)).length cu) ((s.ys.take i).filter fun y : Px => decide (ofK y.k ≠ q)), boxT d (.cells (rvC dl S.inc S.dots S.has S.ring (.slice s.rp S.ring.p.2.2.length s.rc) (.slice s.p s.ys.length s.c)).toArray 91 (0, 0)), rowT elemPx (.slice s.p s.ys.length s.c) s.ys, s.G, boxT b3 (.cells (ddC (⟨4, z, key, b, r, q⟩ : Dd) (.slice pv b.v.length cv) (.slice pr r.p.2.2.length cr)).toArray 85 (0, 0))] H w W') (n0 := s.ys.length) ?_ ?_
 ·exact ⟨0, none, 0, rfl, rfl, rfl, Nat.zero_le _, Mem.nilRow elemPx (Mem.only (M := [_, _, _, _]) HM4.out [1, 1, 1, 0] rfl)⟩
 rintro n vs W' ⟨i, pu, cu, rfl, e102, e7, hi, hm⟩
 simp only [putAll, List.map_cons, List.map_nil, Act.put, List.setIfInBounds_toArray, List.set_cons_succ, List.set_cons_zero]
 rw [e102, e7]
 clear e102 e7
 have HM5 := Lib.hid hm
 clear hm
 refine wp_seq (wQ ?_)
 refine wp_seq ?_
 refine wp_cond_split rfl (fun h6 => ?_) (fun h6 => ?_)
 ·have hi1 : i + 1 ≤ s.ys.length := by have : (i : Int) < ((s.ys.length : Nat) : Int) := (by simpa using h6); omega
  clear h6
  obtain ⟨y, hy'⟩ : ∃ y, s.ys[i]? = some y := ⟨_, List.getElem?_eq_getElem (hi1)⟩
  have hy := Lib.hid hy'
  clear hy'
  refine wp_skip (then_normal (wp_seq (wp_block (wp_seq (wN [(0, 1), (1, 1), (2, 3), (3, 3)] ?_)))))
  refine wI elemPx 0 (rowAt_src (Mem.src HM5.out 2 rfl rowT_reads)) (hy.out) fun eb7 eo8 hc9 => ?_
  refine wL 1 y.enc hc9 Tryz.underlying45 ?_
  refine wpS_alloc (i := 2) (dd := 9) (z := prV ⟨#[]⟩ noB.k (.slice none 0 0)) (cs := (prC ⟨#[]⟩ noB.k (.slice none 0 0)).toArray) rfl (by rfl) rfl (by kernel_rfl) rfl HM5.out covS_nil rfl ?_
  rintro b12 W11 hm10 -
  have HM13 := Lib.hid hm10
  clear hm10
  simp only [Act.put, List.setIfInBounds_toArray, List.set_cons_succ, List.set_cons_zero]
  refine wpS_storeA (i := 3) (L2 := [_, _, _, _, _]) (cs' := prC y.k y.b.k (.slice y.p y.n y.c)) rfl (by rfl) rfl rfl rfl (by kernel_rfl) (prC_one _ _ _) HM13.out 0 rfl rfl (by kernel_rfl) (by kernel_rfl) covS_nil rfl ?_
  rintro W15 hm14 -
  have HM16 := Lib.hid hm14
  clear hm14
  refine wZ (wp_seq ?_)
  have hst' := fl_step q hy.out
  by_cases hq : ofK y.k ≠ q
  ·rw [if_pos hq] at hst'
   have g1 : (ofK y.k != q) = true := bne_iff_ne.2 hq
   replace hq := Lib.hid hq
   have hst := Lib.hid hst'
   clear hst'
   refine wp_region_M (fun k => k ∈ ([b3] : List Nat)) [(0, 1), (1, 1), (3, 0), (4, 2), (2, 3), (5, 1)] (by kernel_rfl) (by kernel_rfl) HM16.out ?_
   intro W17 hm18
   have HM19 := Lib.hid hm18
   clear hm18
   refine wT [0] ?_
   refine wM 1 (.string y.k) (HM19.out.part1 0 rfl prC_key) Tryz.underlying9 ?_
   refine wA [3] ?_
   refine wM2 4 (.int .i64 q) (HM19.out.part1 5 rfl ddC_part) Tryz.underlying3 ?_
   refine wD1h (hS := (covS_box 5 rfl covS_nil)) 2 [_, _, _, _, _, _] [_, _, _, _, _, _] Tryz.call31 (ofrd_d y.k (Nat.le_trans (keyB_size (hs.out.key hV hy.out)) (by decide))) HM19 [] fun W21 HM23 => ?_
   refine wT [5] ?_
   refine wZ (wp_cond_true rfl (wN [(0, 1), (1, 1), (2, 3), (3, 3), (4, 1)] (wT [0] ?_)))
   refine wL 1 (prC y.k y.b.k (.slice y.p y.n y.c)) (HM23.out.part 0 rfl (prC_all)) Tryz.underlying45 ?_
   refine wpS_build1 elemPx (i := 2) (dd := 114) (y := y) rfl (by rfl) rfl rfl rfl (by decide) HM23.out covS_nil rfl ?_
   rintro b26 W27 hm28 -
   have HM29 := Lib.hid hm28
   clear hm28
   simp only [Act.put, List.setIfInBounds_toArray, List.set_cons_succ, List.set_cons_zero]
   refine wpS_append (E := elemPx) (i := 3) (d := some 115) (L2 := [_, _, _, _, _, _]) rfl (by rfl) rfl HM29.out 2 rfl rfl (HM29.out.src 0 rfl rowT_reads) rfl (by have h1 := List.length_filter_le (fun y : Px => decide (ofK y.k ≠ q)) (s.ys.take i); have h2 := (List.take_sublist i s.ys).length_le; show (_ + 1) * 104 ≤ 140737488355328; omega) rfl covS_nil rfl ?_
   rintro u32 W33 hm34 -
   have HM35 := Lib.hid hm34
   clear hm34
   simp only [Act.put, List.setIfInBounds_toArray, List.set_cons_succ, List.set_cons_zero]
   obtain ⟨up, uc, hup⟩ := row_form (Mem.src HM35.out 0 rfl rowT_reads)
   subst hup
   refine wT [4] ?_
   refine wpS_nil (block_normal (then_normal (wQ ?_)))
   refine ⟨by kernel_rfl, ?_⟩
   refine ⟨s.ys.length - (i + 1), by omega, i + 1, up, uc, rfl, rfl, (by rw [hst.out]; rfl), hi1, ?_⟩
   rw [hst.out]
   exact (Mem.only (M := [_, _, _, _, _]) HM35.out [0, 2, 2, 2, 2] rfl)
  ·rw [if_neg hq] at hst'
   have g1 : (ofK y.k != q) = false := bne_eq_false_iff_eq.2 (Classical.not_not.1 hq)
   replace hq := Lib.hid hq
   have hst := Lib.hid hst'
   clear hst'
   refine wp_region_M (fun k => k ∈ ([b3] : List Nat)) [(0, 1), (1, 1), (3, 0), (4, 2), (2, 3), (5, 1)] (by kernel_rfl) (by kernel_rfl) HM16.out ?_
   intro W36 hm37
   have HM38 := Lib.hid hm37
   clear hm37
   refine wT [0] ?_
   refine wM 1 (.string y.k) (HM38.out.part1 0 rfl prC_key) Tryz.underlying9 ?_
   refine wA [3] ?_
   refine wM2 4 (.int .i64 q) (HM38.out.part1 5 rfl ddC_part) Tryz.underlying3 ?_
   refine wD1h (hS := (covS_box 5 rfl covS_nil)) 2 [_, _, _, _, _, _] [_, _, _, _, _, _] Tryz.call31 (ofrd_d y.k (Nat.le_trans (keyB_size (hs.out.key hV hy.out)) (by decide))) HM38 [] fun W40 HM42 => ?_
   refine wT [5] ?_
   refine wZ (wp_cond_false rfl (wp_skip (block_normal (then_normal (wQ ?_)))))
   refine ⟨by kernel_rfl, ?_⟩
   refine ⟨s.ys.length - (i + 1), by omega, i + 1, pu, cu, rfl, rfl, (by rw [hst.out]; rfl), hi1, ?_⟩
   rw [hst.out]
   exact (Mem.only (M := [_, _, _, _, _]) HM42.out [1, 1, 1, 1, 1] rfl)
 ·have hge : Hid (s.ys.length ≤ i) := Lib.hid (by have : ¬ (i : Int) < ((s.ys.length : Nat) : Int) := (by simpa using h6); omega)
  clear h6
  refine wp_exit ?_
  refine then_exit (then_exit (block_exit ?_))
  refine then_normal (wN [(0, 1), (1, 1), (2, 1), (3, 1), (4, 3)] (wT [0, 1, 2, 3] ?_))
  refine wpS_store1 (i := 4) (v := .slice _ _ _) (L2 := [_, _, _, _]) (cs' := rvC dl S.inc S.dots S.has S.ring (.slice s.rp S.ring.p.2.2.length s.rc) (.slice pu ((s.ys.take i).filter fun y : Px => decide (ofK y.k ≠ q)).length cu)) rfl (by rfl) rfl rfl rfl rfl (by kernel_rfl) rfl HM5.out 1 rfl rfl (by kernel_rfl) (rvC_setBags _) covS_nil rfl ?_
  rintro W44 hm43 -
  have HM45 := Lib.hid hm43
  clear hm43
  refine wpS_nil (block_normal ?_)
  refine bodyPost_end (results_none rfl _ _ _) rfl ?_
  rw [countD_4 rfl]
  exact does_ret (Mem.toRv (S := ⟨S.inc, S.has, S.ring, S.dots, dropK q S.b⟩) ⟨s.ys.filter fun y : Px => decide (ofK y.k ≠ q), pu, cu, s.rp, s.rc, s.G⟩ (RsOk.drop (T := ⟨S.inc, S.has, S.ring, S.dots, dropK q S.b⟩) hs.out rfl rfl pu cu) (by have hq := (Mem.only (M := [_, _, _]) HM45.out [0, 0, 1] rfl); rw [List.take_of_length_le hge.out] at hq; exact hq)) rfl rfl
end Go.Proofs.YtcbnhakfijiioaaGreat
