/- Vaults: the reference's PutBag. -/
import Derived.Test.YtcbnhakfijiioaaGreatLgR
import Derived.Test.YtcbnhakfijiioaaGreatBgN
import Derived.Test.YtcbnhakfijiioaaGreatPB
import Derived.Test.YtcbnhakfijiioaaGreatPA
namespace Go.Proofs.YtcbnhakfijiioaaGreat
open Go Go.RowKit Go.BigFrame
theorem posB_stop {d : En} : ∀ {l : List Vl} {x : Vl}, l[posB d l]? = some x → ¬ cmpE x.1 d < 0
 | [], _, h => by simp at h
 | y :: l, x, h => by
  unfold posB at h
  split at h
  ·exact posB_stop (l := l) (by simpa using h)
  ·rename_i hy
   obtain rfl : y = x := by simpa using h
   exact hy
theorem pos_ways {d : En} {l : List Vl} {k : Nat} (h : k ≤ posB d l) : (k + 1 ≤ posB d l ∧ ∃ z, l[k]? = some z ∧ cmpE z.1 d < 0) ∨ (k = posB d l ∧ ∃ z, l[k]? = some z ∧ ¬ cmpE z.1 d < 0) ∨ (k = posB d l ∧ l.length ≤ k) := by
 have h1 := posB_le d l
 rcases Nat.lt_or_ge k (posB d l) with h2 | h2
 ·obtain ⟨z, hz⟩ : ∃ z, l[k]? = some z := ⟨_, List.getElem?_eq_getElem (by omega)⟩
  exact .inl ⟨h2, z, hz, posB_lt hz h2⟩
 ·obtain rfl : k = posB d l := by omega
  rcases Nat.lt_or_ge (posB d l) l.length with h3 | h3
  ·obtain ⟨z, hz⟩ : ∃ z, l[posB d l]? = some z := ⟨_, List.getElem?_eq_getElem h3⟩
   exact .inr (.inl ⟨rfl, z, hz, posB_stop hz⟩)
  ·exact .inr (.inr ⟨rfl, h3⟩)
theorem put_waysR {b x : Bg} {k : Nat → Int} {d1 d2 : Int} {t : ByteArray} {e : Int} (h : putBR b k (d1, d2) t = (x, e)) : (mayB b = false ∧ x = noB ∧ e = 1) ∨ (mayB b = true ∧ mayV k = false ∧ x = noB ∧ e = 1) ∨ (mayB b = true ∧ mayV k = true ∧ nodeE d1 = false ∧ x = noB ∧ e = 1) ∨ (mayB b = true ∧ mayV k = true ∧ nodeE d1 = true ∧ d2 < 1 ∧ x = noB ∧ e = 1) ∨ (mayB b = true ∧ mayV k = true ∧ nodeE d1 = true ∧ ¬ d2 < 1 ∧ 1000000 < d2 ∧ x = noB ∧ e = 1) ∨ (mayB b = true ∧ mayV k = true ∧ nodeE d1 = true ∧ ¬ d2 < 1 ∧ ¬ 1000000 < d2 ∧ hasV b.k (d1, d2) = true ∧ x = noB ∧ e = 1) ∨ (mayB b = true ∧ mayV k = true ∧ nodeE d1 = true ∧ ¬ d2 < 1 ∧ ¬ 1000000 < d2 ∧ hasV b.k (d1, d2) = false ∧ 64 < t.size ∧ x = noB ∧ e = 1) ∨ (mayB b = true ∧ mayV k = true ∧ nodeE d1 = true ∧ ¬ d2 < 1 ∧ ¬ 1000000 < d2 ∧ hasV b.k (d1, d2) = false ∧ ¬ 64 < t.size ∧ ¬ (putB b k (d1, d2) t).v.length ≤ 32 ∧ x = noB ∧ e = 5) ∨ (mayB b = true ∧ mayV k = true ∧ nodeE d1 = true ∧ ¬ d2 < 1 ∧ ¬ 1000000 < d2 ∧ hasV b.k (d1, d2) = false ∧ ¬ 64 < t.size ∧ (putB b k (d1, d2) t).v.length ≤ 32 ∧ x = putB b k (d1, d2) t ∧ e = 0) := by
 have key : dotB (d1, d2) = (nodeE d1 && decide (1 ≤ d2 ∧ d2 ≤ 1000000)) := rfl
 have yes : dotB (d1, d2) = true → nodeE d1 = true ∧ ¬ d2 < 1 ∧ ¬ 1000000 < d2 := fun q => by
  rw [key, Bool.and_eq_true, decide_eq_true_iff] at q
  exact ⟨q.1, by omega, by omega⟩
 rcases put_ways5 h with ⟨h1, q⟩ | ⟨h1, h2, q⟩ | ⟨h1, h2, h3, q⟩ | ⟨h1, h2, h3, h4, q⟩ | ⟨h1, h2, h3, h4, h5, q⟩ | ⟨h1, h2, h3, h4, h5, h6, q⟩ | ⟨h1, h2, h3, h4, h5, h6, q⟩
 ·exact .inl ⟨h1, q⟩
 ·exact .inr (.inl ⟨h1, h2, q⟩)
 ·cases hn : nodeE d1 with
  | false => exact .inr (.inr (.inl ⟨h1, h2, rfl, q⟩))
  | true =>
   by_cases a : d2 < 1
   ·exact .inr (.inr (.inr (.inl ⟨h1, h2, rfl, a, q⟩)))
   ·by_cases c : 1000000 < d2
    ·exact .inr (.inr (.inr (.inr (.inl ⟨h1, h2, rfl, a, c, q⟩))))
    ·rw [key, hn, Bool.true_and, decide_eq_false_iff_not] at h3
     omega
 ·obtain ⟨a, b, c⟩ := yes h3
  exact .inr (.inr (.inr (.inr (.inr (.inl ⟨h1, h2, a, b, c, h4, q⟩)))))
 ·obtain ⟨a, b, c⟩ := yes h3
  exact .inr (.inr (.inr (.inr (.inr (.inr (.inl ⟨h1, h2, a, b, c, h4, by omega, q⟩))))))
 ·obtain ⟨a, b, c⟩ := yes h3
  exact .inr (.inr (.inr (.inr (.inr (.inr (.inr (.inl ⟨h1, h2, a, b, c, h4, by omega, h6, q⟩)))))))
 ·obtain ⟨a, b, c⟩ := yes h3
  exact .inr (.inr (.inr (.inr (.inr (.inr (.inr (.inr ⟨h1, h2, a, b, c, h4, by omega, h6, q⟩)))))))
theorem foldI_nil {l : List Vl} (h : Srt l) : foldI [] l = l := by
 refine srt_ext (srt_foldI List.Pairwise.nil h fun _ hx => by cases hx) h fun x => ?_
 rw [mem_foldI]
 exact ⟨fun h => h.elim (fun h => by cases h) id, .inr⟩
def keptF (a : Bg) (kn : Nat → Int) (k : Nat) : List Vl := foldI [] ((a.v.take k).filter fun x => !hasV kn x.1)
theorem keptF_len (a : Bg) (kn : Nat → Int) (k : Nat) : (keptF a kn k).length ≤ a.v.length := by
 unfold keptF
 rw [foldI_len]
 exact Nat.le_trans (by simp) (filter_le (fun x : Vl => !hasV kn x.1) a.v k)
theorem keptF_hit {a : Bg} {kn : Nat → Int} {k : Nat} {y : Vl} (hy : a.v[k]? = some y) (h : hasV kn y.1 = false) : keptF a kn (k + 1) = insB y (keptF a kn k) := by
 unfold keptF
 rw [foldI_step [] (fun x => !hasV kn x.1) hy]
 exact if_pos (by show (!hasV kn y.1) = true; rw [h]; rfl)
theorem keptF_miss {a : Bg} {kn : Nat → Int} {k : Nat} {y : Vl} (hy : a.v[k]? = some y) (h : hasV kn y.1 = true) : keptF a kn (k + 1) = keptF a kn k := by
 unfold keptF
 rw [foldI_step [] (fun x => !hasV kn x.1) hy]
 exact if_neg (by show ¬ (!hasV kn y.1) = true; rw [h]; decide)
theorem keptF_end {a : Bg} {kn : Nat → Int} {k : Nat} (h : mayB a = true) (hk : a.v.length ≤ k) : keptF a kn k = leftB a kn := by
 unfold keptF
 rw [List.take_of_length_le hk]
 exact foldI_nil ((mayB_iff.1 h).srt.sublist List.filter_sublist)
set_option maxHeartbeats 4000000 in
set_option maxRecDepth 100000 in
theorem rputv_d (R : At) (v : Value) (l : List Vl) (hR : Reads elemV R v l) (hl : l.length ≤ 4398046510976) (y : Vl) : DoesU Tryz.prog 94 #[v, vlV y] [R] (fun u => [rowT elemV u (insB y l), R]) := by
 intro w H hp
 have HM0 := Lib.hid (mem_refl hp)
 clear hp
 have hlc := Mem.src HM0.out 0 rfl hR
 obtain ⟨p0, c0, rfl⟩ := row_form hlc
 have hlc0 := Lib.hid (row_cap hlc)
 clear hlc
 go_enter Tryz.func94, Tryz.ntmps94
 refine wp_seq (wN [(0, 3), (1, 1)] ?_)
 refine wBh 0 HM0 fun b3 W2 HM4 => ?_
 refine wT [1] ?_
 refine wZ (wp_seq (wQ ?_))
 refine wp_seq (wp_block ?_)
 refine wp_loop_F [5, 6, 7, 8, 9, 10, 11, 12, 13, 14, 15, 16, 17, 18, 19, 20, 21, 22] (fun n vs W' => ∃ k : Nat, n = l.length + 1 - k ∧ vs 5 = .int .i64 (k : Int) ∧ k ≤ posB y.1 l ∧ Mem [boxT b3 (.cells #[.int .i64 y.1.1, .int .i64 y.1.2, .string y.2] 104 (0, 0)), R] H w W') (n0 := l.length + 1) ?_ ?_
 ·exact ⟨0, rfl, rfl, Nat.zero_le _, (Mem.only (M := [_, _]) HM4.out [0, 0] rfl)⟩
 rintro n vs W' ⟨k, rfl, e5, hkp, hm⟩
 simp only [putAll, List.map_cons, List.map_nil, Act.put, List.setIfInBounds_toArray, List.set_cons_succ, List.set_cons_zero]
 rw [e5]
 clear e5
 have hpl := posB_le y.1 l
 have HM5 := Lib.hid hm
 clear hm
 refine wp_seq (wp_seq ?_)
 rcases pos_ways hkp with ⟨hkq, z, hz', hc⟩ | ⟨hkq, z, hz', hc⟩ | ⟨hkq, hll⟩
 ·have hkl : k < l.length := (List.getElem?_eq_some_iff.1 hz').1
  have g3 : decide ((k : Int) < (l.length : Int)) = true := decide_eq_true (by omega)
  have g3n : decide (k < l.length) = true := decide_eq_true (by omega)
  obtain ⟨cu, hcu'⟩ := int_letter (cmpE z.1 y.1)
  have hcu : Hid (cmpE (z.1.1, z.1.2) (y.1.1, y.1.2) = cu) := Lib.hid hcu'
  have g4 : decide (cu < 0) = true := decide_eq_true (by rw [← hcu']; exact hc)
  clear hcu' hc
  have hz := Lib.hid hz'
  clear hz'
  refine wp_region_M (fun k => k ∈ ([b3] : List Nat)) [(0, 1), (1, 1), (2, 1), (3, 1), (4, 1), (5, 1), (6, 1), (7, 1), (8, 1), (9, 1), (10, 1), (11, 1), (12, 3), (13, 1), (14, 1)] (by kernel_rfl) (by kernel_rfl) HM5.out ?_
  intro W6 hm7
  have HM8 := Lib.hid hm7
  clear hm7
  refine wT [0, 1, 2, 3, 4, 5, 6] ?_
  refine wI elemV 7 (HM8.out.row 1 rfl (fun W H h => rowAt_src (hR W H h))) (hz.out) fun eb9 eo10 hc11 => ?_
  refine wT [8] ?_
  refine wL 9 [.int .i64 z.1.1, .int .i64 z.1.2] (vl_dot hc11) Tryz.underlying56 ?_
  have Cb3 := Mem.cell HM8.out 0 rfl
  refine wT [10, 11] ?_
  clear Cb3
  refine wpS_does2 (i := 12) (d := some 18) (rem := [_, _]) (out := [_, _]) rfl (by rfl) rfl Tryz.call111 (rvcmp_d z.1.1 z.1.2 y.1.1 y.1.2) rfl rfl HM8.out [] rfl (covS_box 0 rfl covS_nil) rfl rfl ?_
  rintro W13 hm12 hg14
  rw [hcu.out]
  have HM15 := Lib.hid hm12
  clear hm12
  simp only [Act.put, List.setIfInBounds_toArray, List.set_cons_succ, List.set_cons_zero]
  refine wT [13, 14] ?_
  refine wZ (wp_cond_true rfl (wp_skip (then_normal (wp_block (wN [(0, 1), (1, 1), (2, 1)] (wT [0, 1, 2] ?_))))))
  refine wpS_nil (block_normal (then_normal ?_))
  refine ⟨by kernel_rfl, ?_⟩
  exact ⟨l.length + 1 - (k + 1), by omega, k + 1, rfl, rfl, hkq, (Mem.only (M := [_, _]) HM15.out [0, 0] rfl)⟩
 ·have hkl : k < l.length := (List.getElem?_eq_some_iff.1 hz').1
  have g3 : decide ((k : Int) < (l.length : Int)) = true := decide_eq_true (by omega)
  have g3n : decide (k < l.length) = true := decide_eq_true (by omega)
  obtain ⟨cu, hcu'⟩ := int_letter (cmpE z.1 y.1)
  have hcu : Hid (cmpE (z.1.1, z.1.2) (y.1.1, y.1.2) = cu) := Lib.hid hcu'
  have g4 : decide (cu < 0) = false := decide_eq_false (by rw [← hcu']; exact hc)
  clear hcu' hc
  have hz := Lib.hid hz'
  clear hz'
  replace hkq := Lib.hid hkq
  refine wp_region_M (fun k => k ∈ ([b3] : List Nat)) [(0, 1), (1, 1), (2, 1), (3, 1), (4, 1), (5, 1), (6, 1), (7, 1), (8, 1), (9, 1), (10, 1), (11, 1), (12, 3), (13, 1), (14, 1)] (by kernel_rfl) (by kernel_rfl) HM5.out ?_
  intro W16 hm17
  have HM18 := Lib.hid hm17
  clear hm17
  refine wT [0, 1, 2, 3, 4, 5, 6] ?_
  refine wI elemV 7 (HM18.out.row 1 rfl (fun W H h => rowAt_src (hR W H h))) (hz.out) fun eb19 eo20 hc21 => ?_
  refine wT [8] ?_
  refine wL 9 [.int .i64 z.1.1, .int .i64 z.1.2] (vl_dot hc21) Tryz.underlying56 ?_
  have Cb3 := Mem.cell HM18.out 0 rfl
  refine wT [10, 11] ?_
  clear Cb3
  refine wpS_does2 (i := 12) (d := some 18) (rem := [_, _]) (out := [_, _]) rfl (by rfl) rfl Tryz.call111 (rvcmp_d z.1.1 z.1.2 y.1.1 y.1.2) rfl rfl HM18.out [] rfl (covS_box 0 rfl covS_nil) rfl rfl ?_
  rintro W23 hm22 hg24
  rw [hcu.out]
  have HM25 := Lib.hid hm22
  clear hm22
  simp only [Act.put, List.setIfInBounds_toArray, List.set_cons_succ, List.set_cons_zero]
  refine wT [13, 14] ?_
  refine wZ (wp_cond_false rfl (wp_exit ?_))
  refine then_exit (then_exit (block_exit ?_))
  refine then_normal (wp_seq ?_)
  have HNL := Lib.hid (Mem.nilRow elemV HM25.out)
  have hkc : k ≤ c0 := by have := hlc0.out; omega
  have htl : (l.take k).length ≤ l.length := by simp; omega
  have hdl : (l.take k).length + (l.drop k).length = l.length := by rw [← List.length_append, List.take_append_drop]
  have hb1 : Hid ((([] : List Vl).length + (l.take k).length) * 32 ≤ 140737488355328) := Lib.hid (by rw [List.length_nil]; omega)
  have hb2 : Hid ((([] ++ l.take k : List Vl).length + [y].length) * 32 ≤ 140737488355328) := Lib.hid (by rw [List.nil_append, List.length_singleton]; omega)
  have hb3 : Hid ((([] ++ l.take k ++ [y] : List Vl).length + (l.drop k).length) * 32 ≤ 140737488355328) := Lib.hid (by rw [List.nil_append, List.length_append, List.length_singleton]; omega)
  have hins : Hid ([] ++ l.take k ++ [y] ++ l.drop k = insB y l) := Lib.hid (by rw [insB_at, ← hkq.out]; simp)
  clear htl hdl
  refine wp_cut_F [4, 23, 24, 25, 26, 27, 28, 29, 30, 31, 32, 33] (fun vs W' => ∃ u, vs 4 = u ∧ Mem [rowT elemV u (insB y l), R] H w W') ?_ ?_
  ·refine wp_region_taken [] (fun k => k ∈ ([b3] : List Nat)) (by kernel_rfl) rfl rfl ?_
   have hm26 := HNL.out.drew
   have HM27 := Lib.hid hm26
   clear hm26
   refine wpT_takeS (i := 0) (by kernel_rfl) (by kernel_rfl) ?_
   refine wS [0] ?_
   refine wpS_nil ?_
   refine wpT_takeS (i := 1) (by kernel_rfl) (by kernel_rfl) ?_
   refine wS [1] ?_
   refine wpS_nil ?_
   refine wpT_takeS (i := 2) (by kernel_rfl) (by kernel_rfl) ?_
   refine wpS_read2 (i := 2) (d := some 25) rfl (by rfl) (fun _ _ => run_headE (E := elemV) (k := k) (by omega) rfl rfl rfl) rfl ?_
   simp only [Act.put, List.setIfInBounds_toArray, List.set_cons_succ, List.set_cons_zero]
   refine wpS_nil ?_
   refine wpT_takeS (i := 4) (by kernel_rfl) (by kernel_rfl) ?_
   have Cb3 := Mem.cell HM27.out 1 rfl
   refine wS [4] ?_
   clear Cb3
   refine wpS_nil ?_
   refine wpT_takeS (i := 7) (by kernel_rfl) (by kernel_rfl) ?_
   refine wS [7] ?_
   refine wpS_nil ?_
   refine wpT_takeS (i := 8) (by kernel_rfl) (by kernel_rfl) ?_
   refine wS [8] ?_
   refine wpS_nil ?_
   refine wpT_takeS (i := 9) (by kernel_rfl) (by kernel_rfl) ?_
   refine wpS_read2 (i := 9) (d := some 32) rfl (by rfl) (fun _ _ => run_tailE (E := elemV) (k := k) (by omega) rfl rfl rfl) rfl ?_
   simp only [Act.put, List.setIfInBounds_toArray, List.set_cons_succ, List.set_cons_zero]
   refine wpS_nil ?_
   refine wpT_ready 3 [5] (by kernel_rfl) (allT_cons ?_ (allT_cons ?_ allT_nil))
   ·refine opT_S (by kernel_rfl) ?_
    refine wpS_append (E := elemV) (i := 3) (d := some 26) (L2 := [_, _]) rfl (by rfl) rfl HM27.out 0 rfl rfl ((Mem.src HM27.out 2 rfl hR).take (by omega)) rfl (hb1.out) rfl (covS_box 0 rfl covS_nil) rfl ?_
    rintro u31 W32 hm33 hg34
    have HM35 := Lib.hid hm33
    clear hm33
    simp only [Act.put, List.setIfInBounds_toArray, List.set_cons_succ, List.set_cons_zero]
    refine wpS_nil ?_
    refine wpT_ready 5 [] (by kernel_rfl) (allT_cons ?_ allT_nil)
    refine opT_S (by kernel_rfl) ?_
    refine wpS_build1 elemV (i := 5) (dd := 28) (y := y) rfl (by rfl) rfl rfl rfl (by decide) HM35.out (covS_box 1 rfl covS_nil) rfl ?_
    rintro b39 W40 hm41 hg42
    have HM43 := Lib.hid hm41
    clear hm41
    simp only [Act.put, List.setIfInBounds_toArray, List.set_cons_succ, List.set_cons_zero]
    refine wpS_nil ?_
    refine wpT_ready 6 [] (by kernel_rfl) (allT_cons ?_ allT_nil)
    refine opT_S (by kernel_rfl) ?_
    refine wpS_append (E := elemV) (i := 6) (d := some 29) (L2 := [_, _, _]) rfl (by rfl) rfl HM43.out 1 rfl rfl (Mem.src HM43.out 0 rfl rowT_reads) rfl (hb2.out) rfl (covS_box 1 rfl covS_nil) rfl ?_
    rintro u47 W48 hm49 hg50
    have HM51 := Lib.hid hm49
    clear hm49
    simp only [Act.put, List.setIfInBounds_toArray, List.set_cons_succ, List.set_cons_zero]
    refine wpS_nil ?_
    refine wpT_ready 10 [] (by kernel_rfl) (allT_cons ?_ allT_nil)
    refine opT_S (by kernel_rfl) ?_
    refine wpS_append (E := elemV) (i := 10) (d := some 33) (L2 := [_, _, _]) rfl (by rfl) rfl HM51.out 0 rfl rfl ((Mem.src HM51.out 3 rfl hR).drop (by omega)) rfl (hb3.out) rfl (covS_box 1 rfl covS_nil) rfl ?_
    rintro u55 W56 hm57 hg58
    have HM59 := Lib.hid hm57
    clear hm57
    simp only [Act.put, List.setIfInBounds_toArray, List.set_cons_succ, List.set_cons_zero]
    refine wpS_nil ?_
    refine wpT_takeS (i := 11) (by kernel_rfl) (by kernel_rfl) ?_
    refine wS [11] ?_
    refine wpS_nil ?_
    refine wpT_end (by kernel_rfl) ?_
    refine then_normal ?_
    refine ⟨by kernel_rfl, ?_⟩
    refine ⟨_, rfl, ?_⟩
    rw [← hins.out]
    exact (Mem.only (M := [_, _]) HM59.out [0, 2] rfl)
   ·refine opT_S (by kernel_rfl) ?_
    refine wpS_build1 elemV (i := 5) (dd := 28) (y := y) rfl (by rfl) rfl rfl rfl (by decide) HM27.out (covS_box 1 rfl covS_nil) rfl ?_
    rintro b63 W64 hm65 hg66
    have HM67 := Lib.hid hm65
    clear hm65
    simp only [Act.put, List.setIfInBounds_toArray, List.set_cons_succ, List.set_cons_zero]
    refine wpS_nil ?_
    refine wpT_ready 3 [] (by kernel_rfl) (allT_cons ?_ allT_nil)
    refine opT_S (by kernel_rfl) ?_
    refine wpS_append (E := elemV) (i := 3) (d := some 26) (L2 := [_, _, _]) rfl (by rfl) rfl HM67.out 1 rfl rfl ((Mem.src HM67.out 3 rfl hR).take (by omega)) rfl (hb1.out) rfl (covS_box 1 rfl covS_nil) rfl ?_
    rintro u71 W72 hm73 hg74
    have HM75 := Lib.hid hm73
    clear hm73
    simp only [Act.put, List.setIfInBounds_toArray, List.set_cons_succ, List.set_cons_zero]
    refine wpS_nil ?_
    refine wpT_ready 6 [] (by kernel_rfl) (allT_cons ?_ allT_nil)
    refine opT_S (by kernel_rfl) ?_
    refine wpS_append (E := elemV) (i := 6) (d := some 29) (L2 := [_, _, _]) rfl (by rfl) rfl HM75.out 0 rfl rfl (Mem.src HM75.out 1 rfl rowT_reads) rfl (hb2.out) rfl (covS_box 1 rfl covS_nil) rfl ?_
    rintro u79 W80 hm81 hg82
    have HM83 := Lib.hid hm81
    clear hm81
    simp only [Act.put, List.setIfInBounds_toArray, List.set_cons_succ, List.set_cons_zero]
    refine wpS_nil ?_
    refine wpT_ready 10 [] (by kernel_rfl) (allT_cons ?_ allT_nil)
    refine opT_S (by kernel_rfl) ?_
    refine wpS_append (E := elemV) (i := 10) (d := some 33) (L2 := [_, _, _]) rfl (by rfl) rfl HM83.out 0 rfl rfl ((Mem.src HM83.out 3 rfl hR).drop (by omega)) rfl (hb3.out) rfl (covS_box 1 rfl covS_nil) rfl ?_
    rintro u87 W88 hm89 hg90
    have HM91 := Lib.hid hm89
    clear hm89
    simp only [Act.put, List.setIfInBounds_toArray, List.set_cons_succ, List.set_cons_zero]
    refine wpS_nil ?_
    refine wpT_takeS (i := 11) (by kernel_rfl) (by kernel_rfl) ?_
    refine wS [11] ?_
    refine wpS_nil ?_
    refine wpT_end (by kernel_rfl) ?_
    refine then_normal ?_
    refine ⟨by kernel_rfl, ?_⟩
    refine ⟨_, rfl, ?_⟩
    rw [← hins.out]
    exact (Mem.only (M := [_, _]) HM91.out [0, 2] rfl)
  rintro vs W' ⟨u, e4, hm⟩
  simp only [putAll, List.map_cons, List.map_nil, Act.put, List.setIfInBounds_toArray, List.set_cons_succ, List.set_cons_zero]
  rw [e4]
  clear e4
  have HM92 := Lib.hid hm
  clear hm
  refine then_normal (wp_ret (bodyPost_ret (results_tmp rfl _ _ _) rfl ?_))
  exact doesU_ret (post := fun u => [rowT elemV u (insB y l), R]) (Mem.only (M := [_, _]) HM92.out [0, 0] rfl) rfl
 ·have hll2 : ¬ k < l.length := by omega
  have g3 : decide ((k : Int) < (l.length : Int)) = false := decide_eq_false (by omega)
  have g3n : decide (k < l.length) = false := decide_eq_false (by omega)
  replace hkq := Lib.hid hkq
  refine wp_region_M (fun k => k ∈ ([b3] : List Nat)) [(0, 1), (1, 1), (2, 1), (3, 1), (4, 1), (5, 1), (6, 1), (7, 1), (8, 1), (9, 1), (10, 1), (11, 1), (12, 3), (13, 1), (14, 1)] (by kernel_rfl) (by kernel_rfl) HM5.out ?_
  intro W93 hm94
  have HM95 := Lib.hid hm94
  clear hm94
  refine wT [0, 1, 2, 3, 4, 5, 6] ?_
  refine wK 7 ?_
  refine wT [8] ?_
  refine wK 9 ?_
  have Cb3 := Mem.cell HM95.out 0 rfl
  refine wT [10, 11] ?_
  clear Cb3
  refine wK 12 ?_
  refine wT [13, 14] ?_
  refine wZ (wp_cond_false rfl (wp_exit ?_))
  refine then_exit (then_exit (block_exit ?_))
  refine then_normal (wp_seq ?_)
  have HNL := Lib.hid (Mem.nilRow elemV HM95.out)
  have hkc : k ≤ c0 := by have := hlc0.out; omega
  have htl : (l.take k).length ≤ l.length := by simp; omega
  have hdl : (l.take k).length + (l.drop k).length = l.length := by rw [← List.length_append, List.take_append_drop]
  have hb1 : Hid ((([] : List Vl).length + (l.take k).length) * 32 ≤ 140737488355328) := Lib.hid (by rw [List.length_nil]; omega)
  have hb2 : Hid ((([] ++ l.take k : List Vl).length + [y].length) * 32 ≤ 140737488355328) := Lib.hid (by rw [List.nil_append, List.length_singleton]; omega)
  have hb3 : Hid ((([] ++ l.take k ++ [y] : List Vl).length + (l.drop k).length) * 32 ≤ 140737488355328) := Lib.hid (by rw [List.nil_append, List.length_append, List.length_singleton]; omega)
  have hins : Hid ([] ++ l.take k ++ [y] ++ l.drop k = insB y l) := Lib.hid (by rw [insB_at, ← hkq.out]; simp)
  clear htl hdl
  refine wp_cut_F [4, 23, 24, 25, 26, 27, 28, 29, 30, 31, 32, 33] (fun vs W' => ∃ u, vs 4 = u ∧ Mem [rowT elemV u (insB y l), R] H w W') ?_ ?_
  ·refine wp_region_taken [] (fun k => k ∈ ([b3] : List Nat)) (by kernel_rfl) rfl rfl ?_
   have hm96 := HNL.out.drew
   have HM97 := Lib.hid hm96
   clear hm96
   refine wpT_takeS (i := 0) (by kernel_rfl) (by kernel_rfl) ?_
   refine wS [0] ?_
   refine wpS_nil ?_
   refine wpT_takeS (i := 1) (by kernel_rfl) (by kernel_rfl) ?_
   refine wS [1] ?_
   refine wpS_nil ?_
   refine wpT_takeS (i := 2) (by kernel_rfl) (by kernel_rfl) ?_
   refine wpS_read2 (i := 2) (d := some 25) rfl (by rfl) (fun _ _ => run_headE (E := elemV) (k := k) (by omega) rfl rfl rfl) rfl ?_
   simp only [Act.put, List.setIfInBounds_toArray, List.set_cons_succ, List.set_cons_zero]
   refine wpS_nil ?_
   refine wpT_takeS (i := 4) (by kernel_rfl) (by kernel_rfl) ?_
   have Cb3 := Mem.cell HM97.out 1 rfl
   refine wS [4] ?_
   clear Cb3
   refine wpS_nil ?_
   refine wpT_takeS (i := 7) (by kernel_rfl) (by kernel_rfl) ?_
   refine wS [7] ?_
   refine wpS_nil ?_
   refine wpT_takeS (i := 8) (by kernel_rfl) (by kernel_rfl) ?_
   refine wS [8] ?_
   refine wpS_nil ?_
   refine wpT_takeS (i := 9) (by kernel_rfl) (by kernel_rfl) ?_
   refine wpS_read2 (i := 9) (d := some 32) rfl (by rfl) (fun _ _ => run_tailE (E := elemV) (k := k) (by omega) rfl rfl rfl) rfl ?_
   simp only [Act.put, List.setIfInBounds_toArray, List.set_cons_succ, List.set_cons_zero]
   refine wpS_nil ?_
   refine wpT_ready 3 [5] (by kernel_rfl) (allT_cons ?_ (allT_cons ?_ allT_nil))
   ·refine opT_S (by kernel_rfl) ?_
    refine wpS_append (E := elemV) (i := 3) (d := some 26) (L2 := [_, _]) rfl (by rfl) rfl HM97.out 0 rfl rfl ((Mem.src HM97.out 2 rfl hR).take (by omega)) rfl (hb1.out) rfl (covS_box 0 rfl covS_nil) rfl ?_
    rintro u101 W102 hm103 hg104
    have HM105 := Lib.hid hm103
    clear hm103
    simp only [Act.put, List.setIfInBounds_toArray, List.set_cons_succ, List.set_cons_zero]
    refine wpS_nil ?_
    refine wpT_ready 5 [] (by kernel_rfl) (allT_cons ?_ allT_nil)
    refine opT_S (by kernel_rfl) ?_
    refine wpS_build1 elemV (i := 5) (dd := 28) (y := y) rfl (by rfl) rfl rfl rfl (by decide) HM105.out (covS_box 1 rfl covS_nil) rfl ?_
    rintro b109 W110 hm111 hg112
    have HM113 := Lib.hid hm111
    clear hm111
    simp only [Act.put, List.setIfInBounds_toArray, List.set_cons_succ, List.set_cons_zero]
    refine wpS_nil ?_
    refine wpT_ready 6 [] (by kernel_rfl) (allT_cons ?_ allT_nil)
    refine opT_S (by kernel_rfl) ?_
    refine wpS_append (E := elemV) (i := 6) (d := some 29) (L2 := [_, _, _]) rfl (by rfl) rfl HM113.out 1 rfl rfl (Mem.src HM113.out 0 rfl rowT_reads) rfl (hb2.out) rfl (covS_box 1 rfl covS_nil) rfl ?_
    rintro u117 W118 hm119 hg120
    have HM121 := Lib.hid hm119
    clear hm119
    simp only [Act.put, List.setIfInBounds_toArray, List.set_cons_succ, List.set_cons_zero]
    refine wpS_nil ?_
    refine wpT_ready 10 [] (by kernel_rfl) (allT_cons ?_ allT_nil)
    refine opT_S (by kernel_rfl) ?_
    refine wpS_append (E := elemV) (i := 10) (d := some 33) (L2 := [_, _, _]) rfl (by rfl) rfl HM121.out 0 rfl rfl ((Mem.src HM121.out 3 rfl hR).drop (by omega)) rfl (hb3.out) rfl (covS_box 1 rfl covS_nil) rfl ?_
    rintro u125 W126 hm127 hg128
    have HM129 := Lib.hid hm127
    clear hm127
    simp only [Act.put, List.setIfInBounds_toArray, List.set_cons_succ, List.set_cons_zero]
    refine wpS_nil ?_
    refine wpT_takeS (i := 11) (by kernel_rfl) (by kernel_rfl) ?_
    refine wS [11] ?_
    refine wpS_nil ?_
    refine wpT_end (by kernel_rfl) ?_
    refine then_normal ?_
    refine ⟨by kernel_rfl, ?_⟩
    refine ⟨_, rfl, ?_⟩
    rw [← hins.out]
    exact (Mem.only (M := [_, _]) HM129.out [0, 2] rfl)
   ·refine opT_S (by kernel_rfl) ?_
    refine wpS_build1 elemV (i := 5) (dd := 28) (y := y) rfl (by rfl) rfl rfl rfl (by decide) HM97.out (covS_box 1 rfl covS_nil) rfl ?_
    rintro b133 W134 hm135 hg136
    have HM137 := Lib.hid hm135
    clear hm135
    simp only [Act.put, List.setIfInBounds_toArray, List.set_cons_succ, List.set_cons_zero]
    refine wpS_nil ?_
    refine wpT_ready 3 [] (by kernel_rfl) (allT_cons ?_ allT_nil)
    refine opT_S (by kernel_rfl) ?_
    refine wpS_append (E := elemV) (i := 3) (d := some 26) (L2 := [_, _, _]) rfl (by rfl) rfl HM137.out 1 rfl rfl ((Mem.src HM137.out 3 rfl hR).take (by omega)) rfl (hb1.out) rfl (covS_box 1 rfl covS_nil) rfl ?_
    rintro u141 W142 hm143 hg144
    have HM145 := Lib.hid hm143
    clear hm143
    simp only [Act.put, List.setIfInBounds_toArray, List.set_cons_succ, List.set_cons_zero]
    refine wpS_nil ?_
    refine wpT_ready 6 [] (by kernel_rfl) (allT_cons ?_ allT_nil)
    refine opT_S (by kernel_rfl) ?_
    refine wpS_append (E := elemV) (i := 6) (d := some 29) (L2 := [_, _, _]) rfl (by rfl) rfl HM145.out 0 rfl rfl (Mem.src HM145.out 1 rfl rowT_reads) rfl (hb2.out) rfl (covS_box 1 rfl covS_nil) rfl ?_
    rintro u149 W150 hm151 hg152
    have HM153 := Lib.hid hm151
    clear hm151
    simp only [Act.put, List.setIfInBounds_toArray, List.set_cons_succ, List.set_cons_zero]
    refine wpS_nil ?_
    refine wpT_ready 10 [] (by kernel_rfl) (allT_cons ?_ allT_nil)
    refine opT_S (by kernel_rfl) ?_
    refine wpS_append (E := elemV) (i := 10) (d := some 33) (L2 := [_, _, _]) rfl (by rfl) rfl HM153.out 0 rfl rfl ((Mem.src HM153.out 3 rfl hR).drop (by omega)) rfl (hb3.out) rfl (covS_box 1 rfl covS_nil) rfl ?_
    rintro u157 W158 hm159 hg160
    have HM161 := Lib.hid hm159
    clear hm159
    simp only [Act.put, List.setIfInBounds_toArray, List.set_cons_succ, List.set_cons_zero]
    refine wpS_nil ?_
    refine wpT_takeS (i := 11) (by kernel_rfl) (by kernel_rfl) ?_
    refine wS [11] ?_
    refine wpS_nil ?_
    refine wpT_end (by kernel_rfl) ?_
    refine then_normal ?_
    refine ⟨by kernel_rfl, ?_⟩
    refine ⟨_, rfl, ?_⟩
    rw [← hins.out]
    exact (Mem.only (M := [_, _]) HM161.out [0, 2] rfl)
  rintro vs W' ⟨u, e4, hm⟩
  simp only [putAll, List.map_cons, List.map_nil, Act.put, List.setIfInBounds_toArray, List.set_cons_succ, List.set_cons_zero]
  rw [e4]
  clear e4
  have HM162 := Lib.hid hm
  clear hm
  refine then_normal (wp_ret (bodyPost_ret (results_tmp rfl _ _ _) rfl ?_))
  exact doesU_ret (post := fun u => [rowT elemV u (insB y l), R]) (Mem.only (M := [_, _]) HM162.out [0, 0] rfl) rfl
set_option maxHeartbeats 4000000 in
set_option maxRecDepth 100000 in
theorem rputBag_d (R : At) (sa : Value) (a : Bg) (ha : Reads elemV R sa a.v) (la : a.v.length ≤ 4398046510976) (k : Nat → Int) (d1 d2 : Int) (t : ByteArray) (x : Bg) (e : Int) (hx : putBR a k (d1, d2) t = (x, e)) : DoesU Tryz.prog 59 #[bgV a.k sa, vV k, .agg #[.int .i64 d1, .int .i64 d2], .string t] [R] (fun u => [bagE u x e, R]) := by
 intro w H hp
 have HM0 := Lib.hid (mem_refl hp)
 clear hp
 obtain ⟨pa, ca, rfl⟩ := row_form (Mem.src HM0.out 0 rfl ha)
 go_enter Tryz.func59, Tryz.ntmps59
 refine wp_seq (wN [(0, 3), (1, 3), (2, 3), (3, 3), (4, 1)] ?_)
 refine wBh 0 HM0 fun b3 W2 HM4 => ?_
 refine wBh 1 HM4 fun b7 W6 HM8 => ?_
 refine wBh 2 HM8 fun b11 W10 HM12 => ?_
 refine wpS_alloc (i := 3) (dd := 8) (z := bgV noB.k (.slice none 0 0)) (cs := (bgC noB.k (.slice none 0 0)).toArray) rfl (by rfl) rfl (by kernel_rfl) rfl HM12.out covS_nil rfl ?_
 rintro b15 W14 hm13 -
 have HM16 := Lib.hid hm13
 clear hm13
 simp only [Act.put, List.setIfInBounds_toArray, List.set_cons_succ, List.set_cons_zero]
 refine wT [4] ?_
 refine wZ (wp_seq (wp_seq ?_))
 rcases put_waysR hx with ⟨hm1, rfl, rfl⟩ | ⟨hm1, hm2, rfl, rfl⟩ | ⟨hm1, hm2, hm3, rfl, rfl⟩ | ⟨hm1, hm2, hm3, hd1, rfl, rfl⟩ | ⟨hm1, hm2, hm3, hd1, hd2, rfl, rfl⟩ | ⟨hm1, hm2, hm3, hd1, hd2, hm4, rfl, rfl⟩ | ⟨hm1, hm2, hm3, hd1, hd2, hm4, hsz, rfl, rfl⟩ | ⟨hm1, hm2, hm3, hd1, hd2, hm4, hsz, hjl, rfl, rfl⟩ | ⟨hm1, hm2, hm3, hd1, hd2, hm4, hsz, hjl, hxe, rfl⟩
 ·clear hx
  replace hm1 := Lib.hid hm1
  refine wN [(0, 1), (1, 3), (2, 1), (3, 1), (4, 1), (5, 3), (6, 1), (7, 1), (8, 1), (9, 1), (10, 1), (11, 3), (12, 1), (13, 1), (14, 1), (15, 1), (16, 1), (17, 1), (18, 1), (19, 1), (20, 1), (21, 1), (22, 1), (23, 1), (24, 1), (25, 1), (26, 1), (27, 1), (28, 3), (29, 1), (30, 1), (31, 1), (32, 1), (33, 1), (34, 1)] ?_
  refine wL 0 (bgC (a.k) (.slice pa a.v.length ca)) (HM16.out.part 3 rfl (bgC_all)) Tryz.underlying43 ?_
  refine wpS_does1 (i := 1) (d := some 14) (rem := [_, _, _, _]) (out := [_, _, _, _, _]) rfl (by rfl) rfl Tryz.call89 (rmayB_d R _ a ha la) rfl HM16.out [4] rfl covS_nil rfl rfl ?_
  rintro W18 hm17 -
  rw [hm1.out]
  have HM19 := Lib.hid hm17
  clear hm17
  simp only [Act.put, List.setIfInBounds_toArray, List.set_cons_succ, List.set_cons_zero]
  refine wT [2, 3] ?_
  refine wK 4 ?_
  refine wK 5 ?_
  have Cb6 := Mem.cell HM19.out 2 rfl
  refine wT [6, 7, 8, 9, 10] ?_
  clear Cb6
  refine wK 11 ?_
  have Cb6 := Mem.cell HM19.out 2 rfl
  refine wT [12, 13, 14, 15, 16, 17, 18, 19, 20, 21, 22, 23, 24, 25] ?_
  clear Cb6
  refine wK 26 ?_
  have Cb6 := Mem.cell HM19.out 2 rfl
  refine wT [27] ?_
  clear Cb6
  refine wK 28 ?_
  refine wT [29, 30, 31, 32, 33, 34] ?_
  refine wZ (wp_cond_true rfl (wp_seq (wN [(0, 1), (1, 3), (2, 1)] (wT [0] ?_))))
  refine wpS_storeA (i := 1) (L2 := [_, _, _, _]) (cs' := bgC (noB.k) (.slice none 0 0)) rfl (by rfl) rfl rfl rfl (by kernel_rfl) (bgC_one _ _ _) HM19.out 1 rfl rfl (by kernel_rfl) (by kernel_rfl) covS_nil rfl ?_
  rintro W21 hm20 -
  have HM22 := Lib.hid hm20
  clear hm20
  refine wT [2] ?_
  refine wZ (wp_ret (then_ret ?_))
  refine ret_cell_tmp rfl HM22.out 0 rfl rfl Tryz.underlying43 rfl (by kernel_rfl) rfl rfl ?_
  exact doesU_ret (post := fun u => [bagE u noB 1, R]) (Mem.toBagE (x := noB) (Mem.nilRow elemV (Mem.only (M := [_]) HM22.out [1] rfl))) rfl
 ·clear hx
  replace hm1 := Lib.hid hm1
  replace hm2 := Lib.hid hm2
  refine wN [(0, 1), (1, 3), (2, 1), (3, 1), (4, 1), (5, 3), (6, 1), (7, 1), (8, 1), (9, 1), (10, 1), (11, 3), (12, 1), (13, 1), (14, 1), (15, 1), (16, 1), (17, 1), (18, 1), (19, 1), (20, 1), (21, 1), (22, 1), (23, 1), (24, 1), (25, 1), (26, 1), (27, 1), (28, 3), (29, 1), (30, 1), (31, 1), (32, 1), (33, 1), (34, 1)] ?_
  refine wL 0 (bgC (a.k) (.slice pa a.v.length ca)) (HM16.out.part 3 rfl (bgC_all)) Tryz.underlying43 ?_
  refine wpS_does1 (i := 1) (d := some 14) (rem := [_, _, _, _]) (out := [_, _, _, _, _]) rfl (by rfl) rfl Tryz.call89 (rmayB_d R _ a ha la) rfl HM16.out [4] rfl covS_nil rfl rfl ?_
  rintro W24 hm23 -
  rw [hm1.out]
  have HM25 := Lib.hid hm23
  clear hm23
  simp only [Act.put, List.setIfInBounds_toArray, List.set_cons_succ, List.set_cons_zero]
  refine wT [2, 3] ?_
  refine wL 4 (vcC (k)) (HM25.out.cells0 3 rfl) Tryz.underlying40 ?_
  refine wpS_does1 (i := 5) (d := some 18) (rem := [_, _, _, _, _]) (out := [_, _, _, _, _]) rfl (by rfl) rfl Tryz.call90 (rvmay_d k) rfl HM25.out [] rfl covS_nil rfl rfl ?_
  rintro W27 hm26 -
  rw [hm2.out]
  have HM28 := Lib.hid hm26
  clear hm26
  simp only [Act.put, List.setIfInBounds_toArray, List.set_cons_succ, List.set_cons_zero]
  have Cb6 := Mem.cell HM28.out 2 rfl
  refine wT [6, 7, 8, 9, 10] ?_
  clear Cb6
  refine wK 11 ?_
  have Cb6 := Mem.cell HM28.out 2 rfl
  refine wT [12, 13, 14, 15, 16, 17, 18, 19, 20, 21, 22, 23, 24, 25] ?_
  clear Cb6
  refine wK 26 ?_
  have Cb6 := Mem.cell HM28.out 2 rfl
  refine wT [27] ?_
  clear Cb6
  refine wK 28 ?_
  refine wT [29, 30, 31, 32, 33, 34] ?_
  refine wZ (wp_cond_true rfl (wp_seq (wN [(0, 1), (1, 3), (2, 1)] (wT [0] ?_))))
  refine wpS_storeA (i := 1) (L2 := [_, _, _, _]) (cs' := bgC (noB.k) (.slice none 0 0)) rfl (by rfl) rfl rfl rfl (by kernel_rfl) (bgC_one _ _ _) HM28.out 1 rfl rfl (by kernel_rfl) (by kernel_rfl) covS_nil rfl ?_
  rintro W30 hm29 -
  have HM31 := Lib.hid hm29
  clear hm29
  refine wT [2] ?_
  refine wZ (wp_ret (then_ret ?_))
  refine ret_cell_tmp rfl HM31.out 0 rfl rfl Tryz.underlying43 rfl (by kernel_rfl) rfl rfl ?_
  exact doesU_ret (post := fun u => [bagE u noB 1, R]) (Mem.toBagE (x := noB) (Mem.nilRow elemV (Mem.only (M := [_]) HM31.out [1] rfl))) rfl
 ·clear hx
  replace hm1 := Lib.hid hm1
  replace hm2 := Lib.hid hm2
  replace hm3 := Lib.hid hm3
  refine wN [(0, 1), (1, 3), (2, 1), (3, 1), (4, 1), (5, 3), (6, 1), (7, 1), (8, 1), (9, 1), (10, 1), (11, 3), (12, 1), (13, 1), (14, 1), (15, 1), (16, 1), (17, 1), (18, 1), (19, 1), (20, 1), (21, 1), (22, 1), (23, 1), (24, 1), (25, 1), (26, 1), (27, 1), (28, 3), (29, 1), (30, 1), (31, 1), (32, 1), (33, 1), (34, 1)] ?_
  refine wL 0 (bgC (a.k) (.slice pa a.v.length ca)) (HM16.out.part 3 rfl (bgC_all)) Tryz.underlying43 ?_
  refine wpS_does1 (i := 1) (d := some 14) (rem := [_, _, _, _]) (out := [_, _, _, _, _]) rfl (by rfl) rfl Tryz.call89 (rmayB_d R _ a ha la) rfl HM16.out [4] rfl covS_nil rfl rfl ?_
  rintro W33 hm32 -
  rw [hm1.out]
  have HM34 := Lib.hid hm32
  clear hm32
  simp only [Act.put, List.setIfInBounds_toArray, List.set_cons_succ, List.set_cons_zero]
  refine wT [2, 3] ?_
  refine wL 4 (vcC (k)) (HM34.out.cells0 3 rfl) Tryz.underlying40 ?_
  refine wpS_does1 (i := 5) (d := some 18) (rem := [_, _, _, _, _]) (out := [_, _, _, _, _]) rfl (by rfl) rfl Tryz.call90 (rvmay_d k) rfl HM34.out [] rfl covS_nil rfl rfl ?_
  rintro W36 hm35 -
  rw [hm2.out]
  have HM37 := Lib.hid hm35
  clear hm35
  simp only [Act.put, List.setIfInBounds_toArray, List.set_cons_succ, List.set_cons_zero]
  have Cb6 := Mem.cell HM37.out 2 rfl
  refine wT [6, 7, 8, 9, 10] ?_
  clear Cb6
  refine wpS_does1 (i := 11) (d := some 24) (rem := [_, _, _, _, _]) (out := [_, _, _, _, _]) rfl (by rfl) rfl Tryz.call56 (rnode_d d1) rfl HM37.out [] rfl covS_nil rfl rfl ?_
  rintro W39 hm38 -
  rw [hm3.out]
  have HM40 := Lib.hid hm38
  clear hm38
  simp only [Act.put, List.setIfInBounds_toArray, List.set_cons_succ, List.set_cons_zero]
  have Cb6 := Mem.cell HM40.out 2 rfl
  refine wT [12, 13, 14, 15, 16, 17, 18, 19, 20, 21, 22, 23, 24, 25] ?_
  clear Cb6
  refine wK 26 ?_
  have Cb6 := Mem.cell HM40.out 2 rfl
  refine wT [27] ?_
  clear Cb6
  refine wK 28 ?_
  refine wT [29, 30, 31, 32, 33, 34] ?_
  refine wZ (wp_cond_true rfl (wp_seq (wN [(0, 1), (1, 3), (2, 1)] (wT [0] ?_))))
  refine wpS_storeA (i := 1) (L2 := [_, _, _, _]) (cs' := bgC (noB.k) (.slice none 0 0)) rfl (by rfl) rfl rfl rfl (by kernel_rfl) (bgC_one _ _ _) HM40.out 1 rfl rfl (by kernel_rfl) (by kernel_rfl) covS_nil rfl ?_
  rintro W42 hm41 -
  have HM43 := Lib.hid hm41
  clear hm41
  refine wT [2] ?_
  refine wZ (wp_ret (then_ret ?_))
  refine ret_cell_tmp rfl HM43.out 0 rfl rfl Tryz.underlying43 rfl (by kernel_rfl) rfl rfl ?_
  exact doesU_ret (post := fun u => [bagE u noB 1, R]) (Mem.toBagE (x := noB) (Mem.nilRow elemV (Mem.only (M := [_]) HM43.out [1] rfl))) rfl
 ·clear hx
  have g1 : decide (d2 < 1) = true := decide_eq_true hd1
  replace hm1 := Lib.hid hm1
  replace hm2 := Lib.hid hm2
  replace hm3 := Lib.hid hm3
  replace hd1 := Lib.hid hd1
  refine wN [(0, 1), (1, 3), (2, 1), (3, 1), (4, 1), (5, 3), (6, 1), (7, 1), (8, 1), (9, 1), (10, 1), (11, 3), (12, 1), (13, 1), (14, 1), (15, 1), (16, 1), (17, 1), (18, 1), (19, 1), (20, 1), (21, 1), (22, 1), (23, 1), (24, 1), (25, 1), (26, 1), (27, 1), (28, 3), (29, 1), (30, 1), (31, 1), (32, 1), (33, 1), (34, 1)] ?_
  refine wL 0 (bgC (a.k) (.slice pa a.v.length ca)) (HM16.out.part 3 rfl (bgC_all)) Tryz.underlying43 ?_
  refine wpS_does1 (i := 1) (d := some 14) (rem := [_, _, _, _]) (out := [_, _, _, _, _]) rfl (by rfl) rfl Tryz.call89 (rmayB_d R _ a ha la) rfl HM16.out [4] rfl covS_nil rfl rfl ?_
  rintro W45 hm44 -
  rw [hm1.out]
  have HM46 := Lib.hid hm44
  clear hm44
  simp only [Act.put, List.setIfInBounds_toArray, List.set_cons_succ, List.set_cons_zero]
  refine wT [2, 3] ?_
  refine wL 4 (vcC (k)) (HM46.out.cells0 3 rfl) Tryz.underlying40 ?_
  refine wpS_does1 (i := 5) (d := some 18) (rem := [_, _, _, _, _]) (out := [_, _, _, _, _]) rfl (by rfl) rfl Tryz.call90 (rvmay_d k) rfl HM46.out [] rfl covS_nil rfl rfl ?_
  rintro W48 hm47 -
  rw [hm2.out]
  have HM49 := Lib.hid hm47
  clear hm47
  simp only [Act.put, List.setIfInBounds_toArray, List.set_cons_succ, List.set_cons_zero]
  have Cb6 := Mem.cell HM49.out 2 rfl
  refine wT [6, 7, 8, 9, 10] ?_
  clear Cb6
  refine wpS_does1 (i := 11) (d := some 24) (rem := [_, _, _, _, _]) (out := [_, _, _, _, _]) rfl (by rfl) rfl Tryz.call56 (rnode_d d1) rfl HM49.out [] rfl covS_nil rfl rfl ?_
  rintro W51 hm50 -
  rw [hm3.out]
  have HM52 := Lib.hid hm50
  clear hm50
  simp only [Act.put, List.setIfInBounds_toArray, List.set_cons_succ, List.set_cons_zero]
  have Cb6 := Mem.cell HM52.out 2 rfl
  refine wT [12, 13, 14, 15, 16, 17, 18, 19, 20, 21, 22, 23, 24, 25] ?_
  clear Cb6
  refine wK 26 ?_
  have Cb6 := Mem.cell HM52.out 2 rfl
  refine wT [27] ?_
  clear Cb6
  refine wK 28 ?_
  refine wT [29, 30, 31, 32, 33, 34] ?_
  refine wZ (wp_cond_true rfl (wp_seq (wN [(0, 1), (1, 3), (2, 1)] (wT [0] ?_))))
  refine wpS_storeA (i := 1) (L2 := [_, _, _, _]) (cs' := bgC (noB.k) (.slice none 0 0)) rfl (by rfl) rfl rfl rfl (by kernel_rfl) (bgC_one _ _ _) HM52.out 1 rfl rfl (by kernel_rfl) (by kernel_rfl) covS_nil rfl ?_
  rintro W54 hm53 -
  have HM55 := Lib.hid hm53
  clear hm53
  refine wT [2] ?_
  refine wZ (wp_ret (then_ret ?_))
  refine ret_cell_tmp rfl HM55.out 0 rfl rfl Tryz.underlying43 rfl (by kernel_rfl) rfl rfl ?_
  exact doesU_ret (post := fun u => [bagE u noB 1, R]) (Mem.toBagE (x := noB) (Mem.nilRow elemV (Mem.only (M := [_]) HM55.out [1] rfl))) rfl
 ·clear hx
  have g1 : decide (d2 < 1) = false := decide_eq_false hd1
  have g2 : decide (1000000 < d2) = true := decide_eq_true hd2
  replace hm1 := Lib.hid hm1
  replace hm2 := Lib.hid hm2
  replace hm3 := Lib.hid hm3
  replace hd1 := Lib.hid hd1
  replace hd2 := Lib.hid hd2
  refine wN [(0, 1), (1, 3), (2, 1), (3, 1), (4, 1), (5, 3), (6, 1), (7, 1), (8, 1), (9, 1), (10, 1), (11, 3), (12, 1), (13, 1), (14, 1), (15, 1), (16, 1), (17, 1), (18, 1), (19, 1), (20, 1), (21, 1), (22, 1), (23, 1), (24, 1), (25, 1), (26, 1), (27, 1), (28, 3), (29, 1), (30, 1), (31, 1), (32, 1), (33, 1), (34, 1)] ?_
  refine wL 0 (bgC (a.k) (.slice pa a.v.length ca)) (HM16.out.part 3 rfl (bgC_all)) Tryz.underlying43 ?_
  refine wpS_does1 (i := 1) (d := some 14) (rem := [_, _, _, _]) (out := [_, _, _, _, _]) rfl (by rfl) rfl Tryz.call89 (rmayB_d R _ a ha la) rfl HM16.out [4] rfl covS_nil rfl rfl ?_
  rintro W57 hm56 -
  rw [hm1.out]
  have HM58 := Lib.hid hm56
  clear hm56
  simp only [Act.put, List.setIfInBounds_toArray, List.set_cons_succ, List.set_cons_zero]
  refine wT [2, 3] ?_
  refine wL 4 (vcC (k)) (HM58.out.cells0 3 rfl) Tryz.underlying40 ?_
  refine wpS_does1 (i := 5) (d := some 18) (rem := [_, _, _, _, _]) (out := [_, _, _, _, _]) rfl (by rfl) rfl Tryz.call90 (rvmay_d k) rfl HM58.out [] rfl covS_nil rfl rfl ?_
  rintro W60 hm59 -
  rw [hm2.out]
  have HM61 := Lib.hid hm59
  clear hm59
  simp only [Act.put, List.setIfInBounds_toArray, List.set_cons_succ, List.set_cons_zero]
  have Cb6 := Mem.cell HM61.out 2 rfl
  refine wT [6, 7, 8, 9, 10] ?_
  clear Cb6
  refine wpS_does1 (i := 11) (d := some 24) (rem := [_, _, _, _, _]) (out := [_, _, _, _, _]) rfl (by rfl) rfl Tryz.call56 (rnode_d d1) rfl HM61.out [] rfl covS_nil rfl rfl ?_
  rintro W63 hm62 -
  rw [hm3.out]
  have HM64 := Lib.hid hm62
  clear hm62
  simp only [Act.put, List.setIfInBounds_toArray, List.set_cons_succ, List.set_cons_zero]
  have Cb6 := Mem.cell HM64.out 2 rfl
  refine wT [12, 13, 14, 15, 16, 17, 18, 19, 20, 21, 22, 23, 24, 25] ?_
  clear Cb6
  refine wK 26 ?_
  have Cb6 := Mem.cell HM64.out 2 rfl
  refine wT [27] ?_
  clear Cb6
  refine wK 28 ?_
  refine wT [29, 30, 31, 32, 33, 34] ?_
  refine wZ (wp_cond_true rfl (wp_seq (wN [(0, 1), (1, 3), (2, 1)] (wT [0] ?_))))
  refine wpS_storeA (i := 1) (L2 := [_, _, _, _]) (cs' := bgC (noB.k) (.slice none 0 0)) rfl (by rfl) rfl rfl rfl (by kernel_rfl) (bgC_one _ _ _) HM64.out 1 rfl rfl (by kernel_rfl) (by kernel_rfl) covS_nil rfl ?_
  rintro W66 hm65 -
  have HM67 := Lib.hid hm65
  clear hm65
  refine wT [2] ?_
  refine wZ (wp_ret (then_ret ?_))
  refine ret_cell_tmp rfl HM67.out 0 rfl rfl Tryz.underlying43 rfl (by kernel_rfl) rfl rfl ?_
  exact doesU_ret (post := fun u => [bagE u noB 1, R]) (Mem.toBagE (x := noB) (Mem.nilRow elemV (Mem.only (M := [_]) HM67.out [1] rfl))) rfl
 ·clear hx
  have g1 : decide (d2 < 1) = false := decide_eq_false hd1
  have g2 : decide (1000000 < d2) = false := decide_eq_false hd2
  replace hm1 := Lib.hid hm1
  replace hm2 := Lib.hid hm2
  replace hm3 := Lib.hid hm3
  replace hd1 := Lib.hid hd1
  replace hd2 := Lib.hid hd2
  replace hm4 := Lib.hid hm4
  refine wN [(0, 1), (1, 3), (2, 1), (3, 1), (4, 1), (5, 3), (6, 1), (7, 1), (8, 1), (9, 1), (10, 1), (11, 3), (12, 1), (13, 1), (14, 1), (15, 1), (16, 1), (17, 1), (18, 1), (19, 1), (20, 1), (21, 1), (22, 1), (23, 1), (24, 1), (25, 1), (26, 1), (27, 1), (28, 3), (29, 1), (30, 1), (31, 1), (32, 1), (33, 1), (34, 1)] ?_
  refine wL 0 (bgC (a.k) (.slice pa a.v.length ca)) (HM16.out.part 3 rfl (bgC_all)) Tryz.underlying43 ?_
  refine wpS_does1 (i := 1) (d := some 14) (rem := [_, _, _, _]) (out := [_, _, _, _, _]) rfl (by rfl) rfl Tryz.call89 (rmayB_d R _ a ha la) rfl HM16.out [4] rfl covS_nil rfl rfl ?_
  rintro W69 hm68 -
  rw [hm1.out]
  have HM70 := Lib.hid hm68
  clear hm68
  simp only [Act.put, List.setIfInBounds_toArray, List.set_cons_succ, List.set_cons_zero]
  refine wT [2, 3] ?_
  refine wL 4 (vcC (k)) (HM70.out.cells0 3 rfl) Tryz.underlying40 ?_
  refine wpS_does1 (i := 5) (d := some 18) (rem := [_, _, _, _, _]) (out := [_, _, _, _, _]) rfl (by rfl) rfl Tryz.call90 (rvmay_d k) rfl HM70.out [] rfl covS_nil rfl rfl ?_
  rintro W72 hm71 -
  rw [hm2.out]
  have HM73 := Lib.hid hm71
  clear hm71
  simp only [Act.put, List.setIfInBounds_toArray, List.set_cons_succ, List.set_cons_zero]
  have Cb6 := Mem.cell HM73.out 2 rfl
  refine wT [6, 7, 8, 9, 10] ?_
  clear Cb6
  refine wpS_does1 (i := 11) (d := some 24) (rem := [_, _, _, _, _]) (out := [_, _, _, _, _]) rfl (by rfl) rfl Tryz.call56 (rnode_d d1) rfl HM73.out [] rfl covS_nil rfl rfl ?_
  rintro W75 hm74 -
  rw [hm3.out]
  have HM76 := Lib.hid hm74
  clear hm74
  simp only [Act.put, List.setIfInBounds_toArray, List.set_cons_succ, List.set_cons_zero]
  have Cb6 := Mem.cell HM76.out 2 rfl
  refine wT [12, 13, 14, 15, 16, 17, 18, 19, 20, 21, 22, 23, 24, 25] ?_
  clear Cb6
  refine wL 26 (vcC (a.k)) (HM76.out.part 4 rfl (bgC_vc)) Tryz.underlying40 ?_
  have Cb6 := Mem.cell HM76.out 2 rfl
  refine wT [27] ?_
  clear Cb6
  refine wpS_does2 (i := 28) (d := some 41) (rem := [_, _, _, _, _]) (out := [_, _, _, _, _]) rfl (by rfl) rfl Tryz.call91 (rvhas_d a.k d1 d2) rfl rfl HM76.out [] rfl covS_nil rfl rfl ?_
  rintro W78 hm77 -
  rw [hm4.out]
  have HM79 := Lib.hid hm77
  clear hm77
  simp only [Act.put, List.setIfInBounds_toArray, List.set_cons_succ, List.set_cons_zero]
  refine wT [29, 30, 31, 32, 33, 34] ?_
  refine wZ (wp_cond_true rfl (wp_seq (wN [(0, 1), (1, 3), (2, 1)] (wT [0] ?_))))
  refine wpS_storeA (i := 1) (L2 := [_, _, _, _]) (cs' := bgC (noB.k) (.slice none 0 0)) rfl (by rfl) rfl rfl rfl (by kernel_rfl) (bgC_one _ _ _) HM79.out 1 rfl rfl (by kernel_rfl) (by kernel_rfl) covS_nil rfl ?_
  rintro W81 hm80 -
  have HM82 := Lib.hid hm80
  clear hm80
  refine wT [2] ?_
  refine wZ (wp_ret (then_ret ?_))
  refine ret_cell_tmp rfl HM82.out 0 rfl rfl Tryz.underlying43 rfl (by kernel_rfl) rfl rfl ?_
  exact doesU_ret (post := fun u => [bagE u noB 1, R]) (Mem.toBagE (x := noB) (Mem.nilRow elemV (Mem.only (M := [_]) HM82.out [1] rfl))) rfl
 ·clear hx
  have g1 : decide (d2 < 1) = false := decide_eq_false hd1
  have g2 : decide (1000000 < d2) = false := decide_eq_false hd2
  have g5 : decide ((64 : Int) < (t.size : Int)) = true := decide_eq_true (by omega)
  have g5' : decide (64 < t.size) = true := decide_eq_true (by omega)
  replace hm1 := Lib.hid hm1
  replace hm2 := Lib.hid hm2
  replace hm3 := Lib.hid hm3
  replace hd1 := Lib.hid hd1
  replace hd2 := Lib.hid hd2
  replace hm4 := Lib.hid hm4
  replace hsz := Lib.hid hsz
  refine wN [(0, 1), (1, 3), (2, 1), (3, 1), (4, 1), (5, 3), (6, 1), (7, 1), (8, 1), (9, 1), (10, 1), (11, 3), (12, 1), (13, 1), (14, 1), (15, 1), (16, 1), (17, 1), (18, 1), (19, 1), (20, 1), (21, 1), (22, 1), (23, 1), (24, 1), (25, 1), (26, 1), (27, 1), (28, 3), (29, 1), (30, 1), (31, 1), (32, 1), (33, 1), (34, 1)] ?_
  refine wL 0 (bgC (a.k) (.slice pa a.v.length ca)) (HM16.out.part 3 rfl (bgC_all)) Tryz.underlying43 ?_
  refine wpS_does1 (i := 1) (d := some 14) (rem := [_, _, _, _]) (out := [_, _, _, _, _]) rfl (by rfl) rfl Tryz.call89 (rmayB_d R _ a ha la) rfl HM16.out [4] rfl covS_nil rfl rfl ?_
  rintro W84 hm83 -
  rw [hm1.out]
  have HM85 := Lib.hid hm83
  clear hm83
  simp only [Act.put, List.setIfInBounds_toArray, List.set_cons_succ, List.set_cons_zero]
  refine wT [2, 3] ?_
  refine wL 4 (vcC (k)) (HM85.out.cells0 3 rfl) Tryz.underlying40 ?_
  refine wpS_does1 (i := 5) (d := some 18) (rem := [_, _, _, _, _]) (out := [_, _, _, _, _]) rfl (by rfl) rfl Tryz.call90 (rvmay_d k) rfl HM85.out [] rfl covS_nil rfl rfl ?_
  rintro W87 hm86 -
  rw [hm2.out]
  have HM88 := Lib.hid hm86
  clear hm86
  simp only [Act.put, List.setIfInBounds_toArray, List.set_cons_succ, List.set_cons_zero]
  have Cb6 := Mem.cell HM88.out 2 rfl
  refine wT [6, 7, 8, 9, 10] ?_
  clear Cb6
  refine wpS_does1 (i := 11) (d := some 24) (rem := [_, _, _, _, _]) (out := [_, _, _, _, _]) rfl (by rfl) rfl Tryz.call56 (rnode_d d1) rfl HM88.out [] rfl covS_nil rfl rfl ?_
  rintro W90 hm89 -
  rw [hm3.out]
  have HM91 := Lib.hid hm89
  clear hm89
  simp only [Act.put, List.setIfInBounds_toArray, List.set_cons_succ, List.set_cons_zero]
  have Cb6 := Mem.cell HM91.out 2 rfl
  refine wT [12, 13, 14, 15, 16, 17, 18, 19, 20, 21, 22, 23, 24, 25] ?_
  clear Cb6
  refine wL 26 (vcC (a.k)) (HM91.out.part 4 rfl (bgC_vc)) Tryz.underlying40 ?_
  have Cb6 := Mem.cell HM91.out 2 rfl
  refine wT [27] ?_
  clear Cb6
  refine wpS_does2 (i := 28) (d := some 41) (rem := [_, _, _, _, _]) (out := [_, _, _, _, _]) rfl (by rfl) rfl Tryz.call91 (rvhas_d a.k d1 d2) rfl rfl HM91.out [] rfl covS_nil rfl rfl ?_
  rintro W93 hm92 -
  rw [hm4.out]
  have HM94 := Lib.hid hm92
  clear hm92
  simp only [Act.put, List.setIfInBounds_toArray, List.set_cons_succ, List.set_cons_zero]
  refine wT [29, 30, 31, 32, 33, 34] ?_
  refine wZ (wp_cond_true rfl (wp_seq (wN [(0, 1), (1, 3), (2, 1)] (wT [0] ?_))))
  refine wpS_storeA (i := 1) (L2 := [_, _, _, _]) (cs' := bgC (noB.k) (.slice none 0 0)) rfl (by rfl) rfl rfl rfl (by kernel_rfl) (bgC_one _ _ _) HM94.out 1 rfl rfl (by kernel_rfl) (by kernel_rfl) covS_nil rfl ?_
  rintro W96 hm95 -
  have HM97 := Lib.hid hm95
  clear hm95
  refine wT [2] ?_
  refine wZ (wp_ret (then_ret ?_))
  refine ret_cell_tmp rfl HM97.out 0 rfl rfl Tryz.underlying43 rfl (by kernel_rfl) rfl rfl ?_
  exact doesU_ret (post := fun u => [bagE u noB 1, R]) (Mem.toBagE (x := noB) (Mem.nilRow elemV (Mem.only (M := [_]) HM97.out [1] rfl))) rfl
 ·clear hx
  have g1 : decide (d2 < 1) = false := decide_eq_false hd1
  have g2 : decide (1000000 < d2) = false := decide_eq_false hd2
  have g5 : decide ((64 : Int) < (t.size : Int)) = false := decide_eq_false (by omega)
  have g5' : decide (64 < t.size) = false := decide_eq_false (by omega)
  have g11 : decide ((32 : Int) < ((putB a k (d1, d2) t).v.length : Int)) = true := decide_eq_true (by omega)
  have g11' : decide (32 < (putB a k (d1, d2) t).v.length) = true := decide_eq_true (by omega)
  replace hm1 := Lib.hid hm1
  replace hm2 := Lib.hid hm2
  replace hm3 := Lib.hid hm3
  replace hd1 := Lib.hid hd1
  replace hd2 := Lib.hid hd2
  replace hm4 := Lib.hid hm4
  replace hsz := Lib.hid hsz
  replace hjl := Lib.hid hjl
  refine wN [(0, 1), (1, 3), (2, 1), (3, 1), (4, 1), (5, 3), (6, 1), (7, 1), (8, 1), (9, 1), (10, 1), (11, 3), (12, 1), (13, 1), (14, 1), (15, 1), (16, 1), (17, 1), (18, 1), (19, 1), (20, 1), (21, 1), (22, 1), (23, 1), (24, 1), (25, 1), (26, 1), (27, 1), (28, 3), (29, 1), (30, 1), (31, 1), (32, 1), (33, 1), (34, 1)] ?_
  refine wL 0 (bgC (a.k) (.slice pa a.v.length ca)) (HM16.out.part 3 rfl (bgC_all)) Tryz.underlying43 ?_
  refine wpS_does1 (i := 1) (d := some 14) (rem := [_, _, _, _]) (out := [_, _, _, _, _]) rfl (by rfl) rfl Tryz.call89 (rmayB_d R _ a ha la) rfl HM16.out [4] rfl covS_nil rfl rfl ?_
  rintro W99 hm98 -
  rw [hm1.out]
  have HM100 := Lib.hid hm98
  clear hm98
  simp only [Act.put, List.setIfInBounds_toArray, List.set_cons_succ, List.set_cons_zero]
  refine wT [2, 3] ?_
  refine wL 4 (vcC (k)) (HM100.out.cells0 3 rfl) Tryz.underlying40 ?_
  refine wpS_does1 (i := 5) (d := some 18) (rem := [_, _, _, _, _]) (out := [_, _, _, _, _]) rfl (by rfl) rfl Tryz.call90 (rvmay_d k) rfl HM100.out [] rfl covS_nil rfl rfl ?_
  rintro W102 hm101 -
  rw [hm2.out]
  have HM103 := Lib.hid hm101
  clear hm101
  simp only [Act.put, List.setIfInBounds_toArray, List.set_cons_succ, List.set_cons_zero]
  have Cb6 := Mem.cell HM103.out 2 rfl
  refine wT [6, 7, 8, 9, 10] ?_
  clear Cb6
  refine wpS_does1 (i := 11) (d := some 24) (rem := [_, _, _, _, _]) (out := [_, _, _, _, _]) rfl (by rfl) rfl Tryz.call56 (rnode_d d1) rfl HM103.out [] rfl covS_nil rfl rfl ?_
  rintro W105 hm104 -
  rw [hm3.out]
  have HM106 := Lib.hid hm104
  clear hm104
  simp only [Act.put, List.setIfInBounds_toArray, List.set_cons_succ, List.set_cons_zero]
  have Cb6 := Mem.cell HM106.out 2 rfl
  refine wT [12, 13, 14, 15, 16, 17, 18, 19, 20, 21, 22, 23, 24, 25] ?_
  clear Cb6
  refine wL 26 (vcC (a.k)) (HM106.out.part 4 rfl (bgC_vc)) Tryz.underlying40 ?_
  have Cb6 := Mem.cell HM106.out 2 rfl
  refine wT [27] ?_
  clear Cb6
  refine wpS_does2 (i := 28) (d := some 41) (rem := [_, _, _, _, _]) (out := [_, _, _, _, _]) rfl (by rfl) rfl Tryz.call91 (rvhas_d a.k d1 d2) rfl rfl HM106.out [] rfl covS_nil rfl rfl ?_
  rintro W108 hm107 -
  rw [hm4.out]
  have HM109 := Lib.hid hm107
  clear hm107
  simp only [Act.put, List.setIfInBounds_toArray, List.set_cons_succ, List.set_cons_zero]
  refine wT [29, 30, 31, 32, 33, 34] ?_
  refine wZ (wp_cond_false rfl (wp_skip (then_normal (wp_seq ?_))))
  refine wp_cut_F [10, 49, 50, 51, 52, 53, 54, 55] (fun vs W' => ∃ ob, vs 10 = .pointer (some ⟨ob, 0, none⟩) ∧ Mem [boxT ob (.cells (bgC (withV (joinV a.k k) (d1, d2)) (.slice none 0 0)).toArray 43 (0, 0)), boxT b3 (.cells (bgC a.k (.slice pa a.v.length ca)).toArray 43 (0, 0)), boxT b7 (.cells (vcC k).toArray 40 (0, 0)), boxT b11 (.cells #[.int .i64 d1, .int .i64 d2] 56 (0, 0)), boxT b15 (.cells (bgC noB.k (.slice none 0 0)).toArray 43 (0, 0)), R] H w W') ?_ ?_
  ·refine wp_region_taken [] (fun k => k ∈ ([b3, b7, b11, b15] : List Nat)) (by kernel_rfl) rfl rfl ?_
   have hm110 := HM109.out.drew
   have HM111 := Lib.hid hm110
   clear hm110
   refine wpT_takeS (i := 0) (by kernel_rfl) (by kernel_rfl) ?_
   refine wS [0] ?_
   refine wpS_nil ?_
   refine wpT_takeS (i := 1) (by kernel_rfl) (by kernel_rfl) ?_
   refine wL2 1 (vcC (a.k)) (HM111.out.part 4 rfl (bgC_vc)) Tryz.underlying40 ?_
   refine wpS_nil ?_
   refine wpT_takeS (i := 2) (by kernel_rfl) (by kernel_rfl) ?_
   refine wL2 2 (vcC (k)) (HM111.out.cells0 3 rfl) Tryz.underlying40 ?_
   refine wpS_nil ?_
   refine wpT_takeS (i := 4) (by kernel_rfl) (by kernel_rfl) ?_
   have Cb6 := Mem.cell HM111.out 2 rfl
   refine wS [4] ?_
   clear Cb6
   refine wpS_nil ?_
   refine wpT_ready 3 [7] (by kernel_rfl) (allT_cons ?_ (allT_cons ?_ allT_nil))
   ·refine opT_S (by kernel_rfl) ?_
    refine wpS_does2 (i := 3) (d := some 52) (rem := [_, _, _, _, _]) (out := [_, _, _, _, _]) rfl (by rfl) rfl Tryz.call93 (rvjoin_d a.k k) rfl rfl HM111.out [] rfl (covS_box 4 rfl (covS_box 3 rfl (covS_box 2 rfl (covS_box 1 rfl covS_nil)))) rfl rfl ?_
    rintro W113 hm112 hg114
    have HM115 := Lib.hid hm112
    clear hm112
    simp only [Act.put, List.setIfInBounds_toArray, List.set_cons_succ, List.set_cons_zero]
    refine wpS_nil ?_
    refine wpT_ready 5 [7] (by kernel_rfl) (allT_cons ?_ (allT_cons ?_ allT_nil))
    ·refine opT_S (by kernel_rfl) ?_
     refine wpS_does2 (i := 5) (d := some 54) (rem := [_, _, _, _, _]) (out := [_, _, _, _, _]) rfl (by rfl) rfl Tryz.call92 (rvwith_d (joinV a.k k) d1 d2) rfl rfl HM115.out [] rfl (covS_box 4 rfl (covS_box 3 rfl (covS_box 2 rfl (covS_box 1 rfl covS_nil)))) rfl rfl ?_
     rintro W117 hm116 hg118
     have HM119 := Lib.hid hm116
     clear hm116
     simp only [Act.put, List.setIfInBounds_toArray, List.set_cons_succ, List.set_cons_zero]
     refine wpS_nil ?_
     refine wpT_takeS (i := 6) (by kernel_rfl) (by kernel_rfl) ?_
     refine wpS_read2 (i := 6) (d := some 55) (v := bgV ((withV (joinV a.k k) (d1, d2))) (.slice none 0 0)) rfl (by rfl) (fun _ _ => by kernel_rfl) rfl ?_
     simp only [Act.put, List.setIfInBounds_toArray, List.set_cons_succ, List.set_cons_zero]
     refine wpS_nil ?_
     refine wpT_ready 7 [] (by kernel_rfl) (allT_cons ?_ allT_nil)
     refine opT_S (by kernel_rfl) ?_
     refine wpS_alloc (i := 7) (dd := 10) (z := bgV noB.k (.slice none 0 0)) (cs := (bgC noB.k (.slice none 0 0)).toArray) rfl (by rfl) rfl (by kernel_rfl) rfl HM119.out (covS_box 4 rfl (covS_box 3 rfl (covS_box 2 rfl (covS_box 1 rfl covS_nil)))) rfl ?_
     rintro b123 W122 hm121 hg120
     have HM124 := Lib.hid hm121
     clear hm121
     simp only [Act.put, List.setIfInBounds_toArray, List.set_cons_succ, List.set_cons_zero]
     refine wpS_nil ?_
     refine wpT_ready 8 [] (by kernel_rfl) (allT_cons ?_ allT_nil)
     refine opT_S (by kernel_rfl) ?_
     refine wpS_storeA (i := 8) (L2 := [_, _, _, _, _]) (cs' := bgC ((withV (joinV a.k k) (d1, d2))) (.slice none 0 0)) rfl (by rfl) rfl rfl rfl (by kernel_rfl) (bgC_one _ _ _) HM124.out 0 rfl rfl (by kernel_rfl) (by kernel_rfl) (covS_box 4 rfl (covS_box 3 rfl (covS_box 2 rfl (covS_box 1 rfl covS_nil)))) rfl ?_
     rintro W127 hm126 hg125
     have HM128 := Lib.hid hm126
     clear hm126
     refine wpS_nil ?_
     refine wpT_end (by kernel_rfl) ?_
     refine then_normal ?_
     refine ⟨by kernel_rfl, ?_⟩
     exact ⟨_, rfl, (Mem.only (M := [_, _, _, _, _, _]) HM128.out [0, 4, 3, 2, 1, 0] rfl)⟩
    ·refine opT_S (by kernel_rfl) ?_
     refine wpS_alloc (i := 7) (dd := 10) (z := bgV noB.k (.slice none 0 0)) (cs := (bgC noB.k (.slice none 0 0)).toArray) rfl (by rfl) rfl (by kernel_rfl) rfl HM115.out (covS_box 4 rfl (covS_box 3 rfl (covS_box 2 rfl (covS_box 1 rfl covS_nil)))) rfl ?_
     rintro b132 W131 hm130 hg129
     have HM133 := Lib.hid hm130
     clear hm130
     simp only [Act.put, List.setIfInBounds_toArray, List.set_cons_succ, List.set_cons_zero]
     refine wpS_nil ?_
     refine wpT_ready 5 [] (by kernel_rfl) (allT_cons ?_ allT_nil)
     refine opT_S (by kernel_rfl) ?_
     refine wpS_does2 (i := 5) (d := some 54) (rem := [_, _, _, _, _, _]) (out := [_, _, _, _, _, _]) rfl (by rfl) rfl Tryz.call92 (rvwith_d (joinV a.k k) d1 d2) rfl rfl HM133.out [] rfl (covS_box 5 rfl (covS_box 4 rfl (covS_box 3 rfl (covS_box 2 rfl covS_nil)))) rfl rfl ?_
     rintro W135 hm134 hg136
     have HM137 := Lib.hid hm134
     clear hm134
     simp only [Act.put, List.setIfInBounds_toArray, List.set_cons_succ, List.set_cons_zero]
     refine wpS_nil ?_
     refine wpT_takeS (i := 6) (by kernel_rfl) (by kernel_rfl) ?_
     refine wpS_read2 (i := 6) (d := some 55) (v := bgV ((withV (joinV a.k k) (d1, d2))) (.slice none 0 0)) rfl (by rfl) (fun _ _ => by kernel_rfl) rfl ?_
     simp only [Act.put, List.setIfInBounds_toArray, List.set_cons_succ, List.set_cons_zero]
     refine wpS_nil ?_
     refine wpT_ready 8 [] (by kernel_rfl) (allT_cons ?_ allT_nil)
     refine opT_S (by kernel_rfl) ?_
     refine wpS_storeA (i := 8) (L2 := [_, _, _, _, _]) (cs' := bgC ((withV (joinV a.k k) (d1, d2))) (.slice none 0 0)) rfl (by rfl) rfl rfl rfl (by kernel_rfl) (bgC_one _ _ _) HM137.out 0 rfl rfl (by kernel_rfl) (by kernel_rfl) (covS_box 4 rfl (covS_box 3 rfl (covS_box 2 rfl (covS_box 1 rfl covS_nil)))) rfl ?_
     rintro W140 hm139 hg138
     have HM141 := Lib.hid hm139
     clear hm139
     refine wpS_nil ?_
     refine wpT_end (by kernel_rfl) ?_
     refine then_normal ?_
     refine ⟨by kernel_rfl, ?_⟩
     exact ⟨_, rfl, (Mem.only (M := [_, _, _, _, _, _]) HM141.out [0, 4, 3, 2, 1, 0] rfl)⟩
   ·refine opT_S (by kernel_rfl) ?_
    refine wpS_alloc (i := 7) (dd := 10) (z := bgV noB.k (.slice none 0 0)) (cs := (bgC noB.k (.slice none 0 0)).toArray) rfl (by rfl) rfl (by kernel_rfl) rfl HM111.out (covS_box 4 rfl (covS_box 3 rfl (covS_box 2 rfl (covS_box 1 rfl covS_nil)))) rfl ?_
    rintro b145 W144 hm143 hg142
    have HM146 := Lib.hid hm143
    clear hm143
    simp only [Act.put, List.setIfInBounds_toArray, List.set_cons_succ, List.set_cons_zero]
    refine wpS_nil ?_
    refine wpT_ready 3 [] (by kernel_rfl) (allT_cons ?_ allT_nil)
    refine opT_S (by kernel_rfl) ?_
    refine wpS_does2 (i := 3) (d := some 52) (rem := [_, _, _, _, _, _]) (out := [_, _, _, _, _, _]) rfl (by rfl) rfl Tryz.call93 (rvjoin_d a.k k) rfl rfl HM146.out [] rfl (covS_box 5 rfl (covS_box 4 rfl (covS_box 3 rfl (covS_box 2 rfl covS_nil)))) rfl rfl ?_
    rintro W148 hm147 hg149
    have HM150 := Lib.hid hm147
    clear hm147
    simp only [Act.put, List.setIfInBounds_toArray, List.set_cons_succ, List.set_cons_zero]
    refine wpS_nil ?_
    refine wpT_ready 5 [] (by kernel_rfl) (allT_cons ?_ allT_nil)
    refine opT_S (by kernel_rfl) ?_
    refine wpS_does2 (i := 5) (d := some 54) (rem := [_, _, _, _, _, _]) (out := [_, _, _, _, _, _]) rfl (by rfl) rfl Tryz.call92 (rvwith_d (joinV a.k k) d1 d2) rfl rfl HM150.out [] rfl (covS_box 5 rfl (covS_box 4 rfl (covS_box 3 rfl (covS_box 2 rfl covS_nil)))) rfl rfl ?_
    rintro W152 hm151 hg153
    have HM154 := Lib.hid hm151
    clear hm151
    simp only [Act.put, List.setIfInBounds_toArray, List.set_cons_succ, List.set_cons_zero]
    refine wpS_nil ?_
    refine wpT_takeS (i := 6) (by kernel_rfl) (by kernel_rfl) ?_
    refine wpS_read2 (i := 6) (d := some 55) (v := bgV ((withV (joinV a.k k) (d1, d2))) (.slice none 0 0)) rfl (by rfl) (fun _ _ => by kernel_rfl) rfl ?_
    simp only [Act.put, List.setIfInBounds_toArray, List.set_cons_succ, List.set_cons_zero]
    refine wpS_nil ?_
    refine wpT_ready 8 [] (by kernel_rfl) (allT_cons ?_ allT_nil)
    refine opT_S (by kernel_rfl) ?_
    refine wpS_storeA (i := 8) (L2 := [_, _, _, _, _]) (cs' := bgC ((withV (joinV a.k k) (d1, d2))) (.slice none 0 0)) rfl (by rfl) rfl rfl rfl (by kernel_rfl) (bgC_one _ _ _) HM154.out 0 rfl rfl (by kernel_rfl) (by kernel_rfl) (covS_box 4 rfl (covS_box 3 rfl (covS_box 2 rfl (covS_box 1 rfl covS_nil)))) rfl ?_
    rintro W157 hm156 hg155
    have HM158 := Lib.hid hm156
    clear hm156
    refine wpS_nil ?_
    refine wpT_end (by kernel_rfl) ?_
    refine then_normal ?_
    refine ⟨by kernel_rfl, ?_⟩
    exact ⟨_, rfl, (Mem.only (M := [_, _, _, _, _, _]) HM158.out [0, 4, 3, 2, 1, 0] rfl)⟩
  rintro vs W' ⟨ob, e10, hm⟩
  simp only [putAll, List.map_cons, List.map_nil, Act.put, List.setIfInBounds_toArray, List.set_cons_succ, List.set_cons_zero]
  rw [e10]
  clear e10
  have HM159 := Lib.hid hm
  clear hm
  have HNL := Lib.hid (Mem.nilRow elemV HM159.out)
  refine then_normal (wp_seq (wp_seq (wN [(0, 1), (1, 1), (2, 1), (3, 1)] (wT [0] ?_))))
  refine wM 1 (.slice pa a.v.length ca) (HNL.out.part1 2 rfl bgC_sl) Tryz.underlying41 ?_
  refine wT [2, 3] ?_
  refine wZ (wp_block ?_)
  refine wp_loop_F [12, 59, 60, 61, 62, 63, 64, 65, 66, 67, 68, 69, 70, 71, 72, 73] (fun n vs W' => ∃ (i : Nat) (xs : List Vl) (p : Option Addr) (c : Nat), n = a.v.length - i ∧ vs 59 = .int .i64 (i : Int) ∧ i ≤ a.v.length ∧ keptF a k i = xs ∧ Mem [boxT ob (.cells (bgC (withV (joinV a.k k) (d1, d2)) (.slice p xs.length c)).toArray 43 (0, 0)), rowT elemV (.slice p xs.length c) xs, boxT b3 (.cells (bgC a.k (.slice pa a.v.length ca)).toArray 43 (0, 0)), boxT b7 (.cells (vcC k).toArray 40 (0, 0)), boxT b11 (.cells #[.int .i64 d1, .int .i64 d2] 56 (0, 0)), boxT b15 (.cells (bgC noB.k (.slice none 0 0)).toArray 43 (0, 0)), R] H w W') (n0 := a.v.length) ?_ ?_
  ·exact ⟨0, [], none, 0, rfl, rfl, Nat.zero_le _, rfl, (Mem.only (M := [_, _, _, _, _, _, _]) HNL.out [1, 0, 0, 0, 0, 0, 0] rfl)⟩
  rintro n vs W' ⟨i, xs, p, c, rfl, e59, hi, hxs', hm⟩
  simp only [putAll, List.map_cons, List.map_nil, Act.put, List.setIfInBounds_toArray, List.set_cons_succ, List.set_cons_zero]
  rw [e59]
  clear e59
  have hxs := Lib.hid hxs'
  clear hxs'
  have hxl : Hid (xs.length ≤ 4398046510976) := Lib.hid (by rw [← hxs.out]; exact Nat.le_trans (keptF_len a k i) la)
  have HM160 := Lib.hid hm
  clear hm
  refine wp_seq (wQ ?_)
  refine wp_seq ?_
  refine wp_cond_split rfl (fun h161 => ?_) (fun h161 => ?_)
  ·have hi1 : i + 1 ≤ a.v.length := by have : (i : Int) < ((a.v.length : Nat) : Int) := (by simpa using h161); omega
   clear h161
   obtain ⟨y, hy'⟩ : ∃ y, a.v[i]? = some y := ⟨_, List.getElem?_eq_getElem (hi1)⟩
   have hy := Lib.hid hy'
   clear hy'
   refine wp_skip (then_normal (wp_seq (wp_block (wp_seq (wN [(0, 1), (1, 1), (2, 3), (3, 3)] ?_)))))
   refine wI elemV 0 (HM160.out.row 6 rfl (fun W H h => rowAt_src (ha W H h))) (hy.out) fun eb162 eo163 hc164 => ?_
   refine wL 1 [.int .i64 y.1.1, .int .i64 y.1.2, .string y.2] hc164 Tryz.underlying104 ?_
   refine wpS_alloc (i := 2) (dd := 12) (z := .agg #[.int .i64 0, .int .i64 0, .string ByteArray.empty]) (cs := #[.int .i64 0, .int .i64 0, .string ByteArray.empty]) rfl (by rfl) rfl (by kernel_rfl) rfl HM160.out covS_nil rfl ?_
   rintro b167 W166 hm165 -
   have HM168 := Lib.hid hm165
   clear hm165
   simp only [Act.put, List.setIfInBounds_toArray, List.set_cons_succ, List.set_cons_zero]
   refine wpS_storeA (i := 3) (L2 := [_, _, _, _, _, _, _]) (cs' := [.int .i64 y.1.1, .int .i64 y.1.2, .string y.2]) rfl (by rfl) rfl rfl rfl (by kernel_rfl) (by rfl) HM168.out 0 rfl rfl rfl rfl covS_nil rfl ?_
   rintro W170 hm169 -
   have HM171 := Lib.hid hm169
   clear hm169
   refine wZ (wp_seq ?_)
   cases hh : hasV k y.1
   ·have hhas : Hid (hasV k (y.1.1, y.1.2) = false) := Lib.hid hh
    clear hh
    refine wN [(0, 1), (1, 1), (2, 1), (3, 3), (4, 1)] ?_
    refine wL 0 (vcC (k)) (HM171.out.cells0 4 rfl) Tryz.underlying40 ?_
    have Cb12 := Mem.cell HM171.out 0 rfl
    refine wT [1, 2] ?_
    clear Cb12
    refine wpS_does2 (i := 3) (d := some 66) (rem := [_, _, _, _, _, _, _, _]) (out := [_, _, _, _, _, _, _, _]) rfl (by rfl) rfl Tryz.call91 (rvhas_d k y.1.1 y.1.2) rfl rfl HM171.out [] rfl covS_nil rfl rfl ?_
    rintro W173 hm172 -
    rw [hhas.out]
    have HM174 := Lib.hid hm172
    clear hm172
    simp only [Act.put, List.setIfInBounds_toArray, List.set_cons_succ, List.set_cons_zero]
    refine wT [4] ?_
    refine wZ (wp_cond_true rfl (wN [(0, 1), (1, 1), (2, 1), (3, 3), (4, 1), (5, 3)] (wT [0] ?_)))
    refine wM 1 (.slice p xs.length c) (HM174.out.part1 1 rfl bgC_sl) Tryz.underlying41 ?_
    have Cb12 := Mem.cell HM174.out 0 rfl
    refine wT [2] ?_
    clear Cb12
    refine wpS_doesU2 (i := 3) (d := some 71) (rem := [_, _, _, _, _, _, _]) rfl (by rfl) rfl Tryz.call94 (rputv_d _ _ xs rowT_reads hxl.out y) rfl rfl HM174.out [2] rfl covS_nil (fun _ => rfl) rfl ?_
    rintro u177 W176 hm175 -
    obtain ⟨p1, c1, hu1⟩ := row_form (Mem.src hm175 0 rfl rowT_reads)
    subst hu1
    have HM178 := Lib.hid hm175
    clear hm175
    simp only [Act.put, List.setIfInBounds_toArray, List.set_cons_succ, List.set_cons_zero]
    refine wT [4] ?_
    refine wpS_store1 (i := 5) (v := .slice _ _ _) (L2 := [_, _, _, _, _, _, _, _]) (cs' := bgC ((withV (joinV a.k k) (d1, d2))) (.slice p1 (insB y xs).length c1)) rfl (by rfl) rfl rfl rfl rfl (by kernel_rfl) rfl HM178.out 3 rfl rfl (by kernel_rfl) (bgC_setS _) covS_nil rfl ?_
    rintro W180 hm179 -
    have HM181 := Lib.hid hm179
    clear hm179
    refine wpS_nil (block_normal (then_normal (wQ ?_)))
    refine ⟨by kernel_rfl, ?_⟩
    exact ⟨a.v.length - (i + 1), by omega, i + 1, insB y xs, p1, c1, rfl, rfl, hi1, (keptF_hit hy.out hhas.out).trans (by rw [hxs.out]), (Mem.only (M := [_, _, _, _, _, _, _]) HM181.out [0, 0, 2, 2, 2, 2, 2] rfl)⟩
   ·have hhas : Hid (hasV k (y.1.1, y.1.2) = true) := Lib.hid hh
    clear hh
    refine wN [(0, 1), (1, 1), (2, 1), (3, 3), (4, 1)] ?_
    refine wL 0 (vcC (k)) (HM171.out.cells0 4 rfl) Tryz.underlying40 ?_
    have Cb12 := Mem.cell HM171.out 0 rfl
    refine wT [1, 2] ?_
    clear Cb12
    refine wpS_does2 (i := 3) (d := some 66) (rem := [_, _, _, _, _, _, _, _]) (out := [_, _, _, _, _, _, _, _]) rfl (by rfl) rfl Tryz.call91 (rvhas_d k y.1.1 y.1.2) rfl rfl HM171.out [] rfl covS_nil rfl rfl ?_
    rintro W183 hm182 -
    rw [hhas.out]
    have HM184 := Lib.hid hm182
    clear hm182
    simp only [Act.put, List.setIfInBounds_toArray, List.set_cons_succ, List.set_cons_zero]
    refine wT [4] ?_
    refine wZ (wp_cond_false rfl (wp_skip (block_normal (then_normal (wQ ?_)))))
    refine ⟨by kernel_rfl, ?_⟩
    exact ⟨a.v.length - (i + 1), by omega, i + 1, xs, p, c, rfl, rfl, hi1, (keptF_miss hy.out hhas.out).trans hxs.out, (Mem.only (M := [_, _, _, _, _, _, _]) HM184.out [1, 1, 1, 1, 1, 1, 1] rfl)⟩
  ·have hge : Hid (a.v.length ≤ i) := Lib.hid (by have : ¬ (i : Int) < ((a.v.length : Nat) : Int) := (by simpa using h161); omega)
   clear h161
   refine wp_exit ?_
   refine then_exit (then_exit (block_exit ?_))
   refine then_normal (wp_seq ?_)
   have hfin : Hid (insB ((d1, d2), t) xs = (putB a k (d1, d2) t).v) := Lib.hid (by rw [← hxs.out, keptF_end hm1.out hge.out]; rfl)
   refine wN [(0, 1), (1, 1), (2, 1), (3, 1), (4, 1), (5, 3), (6, 1), (7, 3)] (wT [0] ?_)
   refine wM 1 (.slice p xs.length c) (HM160.out.part1 0 rfl bgC_sl) Tryz.underlying41 ?_
   have Cb6 := Mem.cell HM160.out 4 rfl
   refine wT [2, 3, 4] ?_
   clear Cb6
   refine wpS_doesU2 (i := 5) (d := some 79) (rem := [_, _, _, _, _, _]) rfl (by rfl) rfl Tryz.call94 (rputv_d _ _ xs rowT_reads hxl.out ((d1, d2), t)) rfl rfl HM160.out [1] rfl covS_nil (fun _ => rfl) rfl ?_
   rintro u187 W186 hm185 -
   obtain ⟨p2, c2, hu2⟩ := row_form (Mem.src hm185 0 rfl rowT_reads)
   subst hu2
   rw [hfin.out] at hm185 ⊢
   have HM188 := Lib.hid hm185
   clear hm185
   simp only [Act.put, List.setIfInBounds_toArray, List.set_cons_succ, List.set_cons_zero]
   refine wT [6] ?_
   refine wpS_store1 (i := 7) (v := .slice _ _ _) (L2 := [_, _, _, _, _, _, _]) (cs' := bgC ((withV (joinV a.k k) (d1, d2))) (.slice p2 (putB a k (d1, d2) t).v.length c2)) rfl (by rfl) rfl rfl rfl rfl (by kernel_rfl) rfl HM188.out 2 rfl rfl (by kernel_rfl) (bgC_setS _) covS_nil rfl ?_
   rintro W190 hm189 -
   have HM191 := Lib.hid hm189
   clear hm189
   refine wZ (wp_seq (wp_seq (wN [(0, 1), (1, 1), (2, 1), (3, 1)] (wT [0] ?_))))
   refine wM 1 (.slice p2 (putB a k (d1, d2) t).v.length c2) (HM191.out.part1 0 rfl bgC_sl) Tryz.underlying41 ?_
   refine wT [2, 3] ?_
   refine wZ (wp_cond_true rfl (wp_seq (wN [(0, 1), (1, 3), (2, 1)] (wT [0] ?_))))
   refine wpS_storeA (i := 1) (L2 := [_, _, _, _, _, _, _]) (cs' := bgC (noB.k) (.slice none 0 0)) rfl (by rfl) rfl rfl rfl (by kernel_rfl) (bgC_one _ _ _) HM191.out 6 rfl rfl (by kernel_rfl) (by kernel_rfl) covS_nil rfl ?_
   rintro W193 hm192 -
   have HM194 := Lib.hid hm192
   clear hm192
   refine wT [2] ?_
   refine wZ (wp_ret (then_ret ?_))
   refine ret_cell_tmp rfl HM194.out 0 rfl rfl Tryz.underlying43 rfl (by kernel_rfl) rfl rfl ?_
   exact doesU_ret (post := fun u => [bagE u noB 5, R]) (Mem.toBagE (x := noB) (Mem.nilRow elemV (Mem.only (M := [_]) HM194.out [7] rfl))) rfl
 ·clear hx
  have g1 : decide (d2 < 1) = false := decide_eq_false hd1
  have g2 : decide (1000000 < d2) = false := decide_eq_false hd2
  have g5 : decide ((64 : Int) < (t.size : Int)) = false := decide_eq_false (by omega)
  have g5' : decide (64 < t.size) = false := decide_eq_false (by omega)
  have g11 : decide ((32 : Int) < ((putB a k (d1, d2) t).v.length : Int)) = false := decide_eq_false (by omega)
  have g11' : decide (32 < (putB a k (d1, d2) t).v.length) = false := decide_eq_false (by omega)
  replace hm1 := Lib.hid hm1
  replace hm2 := Lib.hid hm2
  replace hm3 := Lib.hid hm3
  replace hd1 := Lib.hid hd1
  replace hd2 := Lib.hid hd2
  replace hm4 := Lib.hid hm4
  replace hsz := Lib.hid hsz
  replace hjl := Lib.hid hjl
  replace hxe := Lib.hid hxe
  refine wN [(0, 1), (1, 3), (2, 1), (3, 1), (4, 1), (5, 3), (6, 1), (7, 1), (8, 1), (9, 1), (10, 1), (11, 3), (12, 1), (13, 1), (14, 1), (15, 1), (16, 1), (17, 1), (18, 1), (19, 1), (20, 1), (21, 1), (22, 1), (23, 1), (24, 1), (25, 1), (26, 1), (27, 1), (28, 3), (29, 1), (30, 1), (31, 1), (32, 1), (33, 1), (34, 1)] ?_
  refine wL 0 (bgC (a.k) (.slice pa a.v.length ca)) (HM16.out.part 3 rfl (bgC_all)) Tryz.underlying43 ?_
  refine wpS_does1 (i := 1) (d := some 14) (rem := [_, _, _, _]) (out := [_, _, _, _, _]) rfl (by rfl) rfl Tryz.call89 (rmayB_d R _ a ha la) rfl HM16.out [4] rfl covS_nil rfl rfl ?_
  rintro W196 hm195 -
  rw [hm1.out]
  have HM197 := Lib.hid hm195
  clear hm195
  simp only [Act.put, List.setIfInBounds_toArray, List.set_cons_succ, List.set_cons_zero]
  refine wT [2, 3] ?_
  refine wL 4 (vcC (k)) (HM197.out.cells0 3 rfl) Tryz.underlying40 ?_
  refine wpS_does1 (i := 5) (d := some 18) (rem := [_, _, _, _, _]) (out := [_, _, _, _, _]) rfl (by rfl) rfl Tryz.call90 (rvmay_d k) rfl HM197.out [] rfl covS_nil rfl rfl ?_
  rintro W199 hm198 -
  rw [hm2.out]
  have HM200 := Lib.hid hm198
  clear hm198
  simp only [Act.put, List.setIfInBounds_toArray, List.set_cons_succ, List.set_cons_zero]
  have Cb6 := Mem.cell HM200.out 2 rfl
  refine wT [6, 7, 8, 9, 10] ?_
  clear Cb6
  refine wpS_does1 (i := 11) (d := some 24) (rem := [_, _, _, _, _]) (out := [_, _, _, _, _]) rfl (by rfl) rfl Tryz.call56 (rnode_d d1) rfl HM200.out [] rfl covS_nil rfl rfl ?_
  rintro W202 hm201 -
  rw [hm3.out]
  have HM203 := Lib.hid hm201
  clear hm201
  simp only [Act.put, List.setIfInBounds_toArray, List.set_cons_succ, List.set_cons_zero]
  have Cb6 := Mem.cell HM203.out 2 rfl
  refine wT [12, 13, 14, 15, 16, 17, 18, 19, 20, 21, 22, 23, 24, 25] ?_
  clear Cb6
  refine wL 26 (vcC (a.k)) (HM203.out.part 4 rfl (bgC_vc)) Tryz.underlying40 ?_
  have Cb6 := Mem.cell HM203.out 2 rfl
  refine wT [27] ?_
  clear Cb6
  refine wpS_does2 (i := 28) (d := some 41) (rem := [_, _, _, _, _]) (out := [_, _, _, _, _]) rfl (by rfl) rfl Tryz.call91 (rvhas_d a.k d1 d2) rfl rfl HM203.out [] rfl covS_nil rfl rfl ?_
  rintro W205 hm204 -
  rw [hm4.out]
  have HM206 := Lib.hid hm204
  clear hm204
  simp only [Act.put, List.setIfInBounds_toArray, List.set_cons_succ, List.set_cons_zero]
  refine wT [29, 30, 31, 32, 33, 34] ?_
  refine wZ (wp_cond_false rfl (wp_skip (then_normal (wp_seq ?_))))
  refine wp_cut_F [10, 49, 50, 51, 52, 53, 54, 55] (fun vs W' => ∃ ob, vs 10 = .pointer (some ⟨ob, 0, none⟩) ∧ Mem [boxT ob (.cells (bgC (withV (joinV a.k k) (d1, d2)) (.slice none 0 0)).toArray 43 (0, 0)), boxT b3 (.cells (bgC a.k (.slice pa a.v.length ca)).toArray 43 (0, 0)), boxT b7 (.cells (vcC k).toArray 40 (0, 0)), boxT b11 (.cells #[.int .i64 d1, .int .i64 d2] 56 (0, 0)), boxT b15 (.cells (bgC noB.k (.slice none 0 0)).toArray 43 (0, 0)), R] H w W') ?_ ?_
  ·refine wp_region_taken [] (fun k => k ∈ ([b3, b7, b11, b15] : List Nat)) (by kernel_rfl) rfl rfl ?_
   have hm207 := HM206.out.drew
   have HM208 := Lib.hid hm207
   clear hm207
   refine wpT_takeS (i := 0) (by kernel_rfl) (by kernel_rfl) ?_
   refine wS [0] ?_
   refine wpS_nil ?_
   refine wpT_takeS (i := 1) (by kernel_rfl) (by kernel_rfl) ?_
   refine wL2 1 (vcC (a.k)) (HM208.out.part 4 rfl (bgC_vc)) Tryz.underlying40 ?_
   refine wpS_nil ?_
   refine wpT_takeS (i := 2) (by kernel_rfl) (by kernel_rfl) ?_
   refine wL2 2 (vcC (k)) (HM208.out.cells0 3 rfl) Tryz.underlying40 ?_
   refine wpS_nil ?_
   refine wpT_takeS (i := 4) (by kernel_rfl) (by kernel_rfl) ?_
   have Cb6 := Mem.cell HM208.out 2 rfl
   refine wS [4] ?_
   clear Cb6
   refine wpS_nil ?_
   refine wpT_ready 3 [7] (by kernel_rfl) (allT_cons ?_ (allT_cons ?_ allT_nil))
   ·refine opT_S (by kernel_rfl) ?_
    refine wpS_does2 (i := 3) (d := some 52) (rem := [_, _, _, _, _]) (out := [_, _, _, _, _]) rfl (by rfl) rfl Tryz.call93 (rvjoin_d a.k k) rfl rfl HM208.out [] rfl (covS_box 4 rfl (covS_box 3 rfl (covS_box 2 rfl (covS_box 1 rfl covS_nil)))) rfl rfl ?_
    rintro W210 hm209 hg211
    have HM212 := Lib.hid hm209
    clear hm209
    simp only [Act.put, List.setIfInBounds_toArray, List.set_cons_succ, List.set_cons_zero]
    refine wpS_nil ?_
    refine wpT_ready 5 [7] (by kernel_rfl) (allT_cons ?_ (allT_cons ?_ allT_nil))
    ·refine opT_S (by kernel_rfl) ?_
     refine wpS_does2 (i := 5) (d := some 54) (rem := [_, _, _, _, _]) (out := [_, _, _, _, _]) rfl (by rfl) rfl Tryz.call92 (rvwith_d (joinV a.k k) d1 d2) rfl rfl HM212.out [] rfl (covS_box 4 rfl (covS_box 3 rfl (covS_box 2 rfl (covS_box 1 rfl covS_nil)))) rfl rfl ?_
     rintro W214 hm213 hg215
     have HM216 := Lib.hid hm213
     clear hm213
     simp only [Act.put, List.setIfInBounds_toArray, List.set_cons_succ, List.set_cons_zero]
     refine wpS_nil ?_
     refine wpT_takeS (i := 6) (by kernel_rfl) (by kernel_rfl) ?_
     refine wpS_read2 (i := 6) (d := some 55) (v := bgV ((withV (joinV a.k k) (d1, d2))) (.slice none 0 0)) rfl (by rfl) (fun _ _ => by kernel_rfl) rfl ?_
     simp only [Act.put, List.setIfInBounds_toArray, List.set_cons_succ, List.set_cons_zero]
     refine wpS_nil ?_
     refine wpT_ready 7 [] (by kernel_rfl) (allT_cons ?_ allT_nil)
     refine opT_S (by kernel_rfl) ?_
     refine wpS_alloc (i := 7) (dd := 10) (z := bgV noB.k (.slice none 0 0)) (cs := (bgC noB.k (.slice none 0 0)).toArray) rfl (by rfl) rfl (by kernel_rfl) rfl HM216.out (covS_box 4 rfl (covS_box 3 rfl (covS_box 2 rfl (covS_box 1 rfl covS_nil)))) rfl ?_
     rintro b220 W219 hm218 hg217
     have HM221 := Lib.hid hm218
     clear hm218
     simp only [Act.put, List.setIfInBounds_toArray, List.set_cons_succ, List.set_cons_zero]
     refine wpS_nil ?_
     refine wpT_ready 8 [] (by kernel_rfl) (allT_cons ?_ allT_nil)
     refine opT_S (by kernel_rfl) ?_
     refine wpS_storeA (i := 8) (L2 := [_, _, _, _, _]) (cs' := bgC ((withV (joinV a.k k) (d1, d2))) (.slice none 0 0)) rfl (by rfl) rfl rfl rfl (by kernel_rfl) (bgC_one _ _ _) HM221.out 0 rfl rfl (by kernel_rfl) (by kernel_rfl) (covS_box 4 rfl (covS_box 3 rfl (covS_box 2 rfl (covS_box 1 rfl covS_nil)))) rfl ?_
     rintro W224 hm223 hg222
     have HM225 := Lib.hid hm223
     clear hm223
     refine wpS_nil ?_
     refine wpT_end (by kernel_rfl) ?_
     refine then_normal ?_
     refine ⟨by kernel_rfl, ?_⟩
     exact ⟨_, rfl, (Mem.only (M := [_, _, _, _, _, _]) HM225.out [0, 4, 3, 2, 1, 0] rfl)⟩
    ·refine opT_S (by kernel_rfl) ?_
     refine wpS_alloc (i := 7) (dd := 10) (z := bgV noB.k (.slice none 0 0)) (cs := (bgC noB.k (.slice none 0 0)).toArray) rfl (by rfl) rfl (by kernel_rfl) rfl HM212.out (covS_box 4 rfl (covS_box 3 rfl (covS_box 2 rfl (covS_box 1 rfl covS_nil)))) rfl ?_
     rintro b229 W228 hm227 hg226
     have HM230 := Lib.hid hm227
     clear hm227
     simp only [Act.put, List.setIfInBounds_toArray, List.set_cons_succ, List.set_cons_zero]
     refine wpS_nil ?_
     refine wpT_ready 5 [] (by kernel_rfl) (allT_cons ?_ allT_nil)
     refine opT_S (by kernel_rfl) ?_
     refine wpS_does2 (i := 5) (d := some 54) (rem := [_, _, _, _, _, _]) (out := [_, _, _, _, _, _]) rfl (by rfl) rfl Tryz.call92 (rvwith_d (joinV a.k k) d1 d2) rfl rfl HM230.out [] rfl (covS_box 5 rfl (covS_box 4 rfl (covS_box 3 rfl (covS_box 2 rfl covS_nil)))) rfl rfl ?_
     rintro W232 hm231 hg233
     have HM234 := Lib.hid hm231
     clear hm231
     simp only [Act.put, List.setIfInBounds_toArray, List.set_cons_succ, List.set_cons_zero]
     refine wpS_nil ?_
     refine wpT_takeS (i := 6) (by kernel_rfl) (by kernel_rfl) ?_
     refine wpS_read2 (i := 6) (d := some 55) (v := bgV ((withV (joinV a.k k) (d1, d2))) (.slice none 0 0)) rfl (by rfl) (fun _ _ => by kernel_rfl) rfl ?_
     simp only [Act.put, List.setIfInBounds_toArray, List.set_cons_succ, List.set_cons_zero]
     refine wpS_nil ?_
     refine wpT_ready 8 [] (by kernel_rfl) (allT_cons ?_ allT_nil)
     refine opT_S (by kernel_rfl) ?_
     refine wpS_storeA (i := 8) (L2 := [_, _, _, _, _]) (cs' := bgC ((withV (joinV a.k k) (d1, d2))) (.slice none 0 0)) rfl (by rfl) rfl rfl rfl (by kernel_rfl) (bgC_one _ _ _) HM234.out 0 rfl rfl (by kernel_rfl) (by kernel_rfl) (covS_box 4 rfl (covS_box 3 rfl (covS_box 2 rfl (covS_box 1 rfl covS_nil)))) rfl ?_
     rintro W237 hm236 hg235
     have HM238 := Lib.hid hm236
     clear hm236
     refine wpS_nil ?_
     refine wpT_end (by kernel_rfl) ?_
     refine then_normal ?_
     refine ⟨by kernel_rfl, ?_⟩
     exact ⟨_, rfl, (Mem.only (M := [_, _, _, _, _, _]) HM238.out [0, 4, 3, 2, 1, 0] rfl)⟩
   ·refine opT_S (by kernel_rfl) ?_
    refine wpS_alloc (i := 7) (dd := 10) (z := bgV noB.k (.slice none 0 0)) (cs := (bgC noB.k (.slice none 0 0)).toArray) rfl (by rfl) rfl (by kernel_rfl) rfl HM208.out (covS_box 4 rfl (covS_box 3 rfl (covS_box 2 rfl (covS_box 1 rfl covS_nil)))) rfl ?_
    rintro b242 W241 hm240 hg239
    have HM243 := Lib.hid hm240
    clear hm240
    simp only [Act.put, List.setIfInBounds_toArray, List.set_cons_succ, List.set_cons_zero]
    refine wpS_nil ?_
    refine wpT_ready 3 [] (by kernel_rfl) (allT_cons ?_ allT_nil)
    refine opT_S (by kernel_rfl) ?_
    refine wpS_does2 (i := 3) (d := some 52) (rem := [_, _, _, _, _, _]) (out := [_, _, _, _, _, _]) rfl (by rfl) rfl Tryz.call93 (rvjoin_d a.k k) rfl rfl HM243.out [] rfl (covS_box 5 rfl (covS_box 4 rfl (covS_box 3 rfl (covS_box 2 rfl covS_nil)))) rfl rfl ?_
    rintro W245 hm244 hg246
    have HM247 := Lib.hid hm244
    clear hm244
    simp only [Act.put, List.setIfInBounds_toArray, List.set_cons_succ, List.set_cons_zero]
    refine wpS_nil ?_
    refine wpT_ready 5 [] (by kernel_rfl) (allT_cons ?_ allT_nil)
    refine opT_S (by kernel_rfl) ?_
    refine wpS_does2 (i := 5) (d := some 54) (rem := [_, _, _, _, _, _]) (out := [_, _, _, _, _, _]) rfl (by rfl) rfl Tryz.call92 (rvwith_d (joinV a.k k) d1 d2) rfl rfl HM247.out [] rfl (covS_box 5 rfl (covS_box 4 rfl (covS_box 3 rfl (covS_box 2 rfl covS_nil)))) rfl rfl ?_
    rintro W249 hm248 hg250
    have HM251 := Lib.hid hm248
    clear hm248
    simp only [Act.put, List.setIfInBounds_toArray, List.set_cons_succ, List.set_cons_zero]
    refine wpS_nil ?_
    refine wpT_takeS (i := 6) (by kernel_rfl) (by kernel_rfl) ?_
    refine wpS_read2 (i := 6) (d := some 55) (v := bgV ((withV (joinV a.k k) (d1, d2))) (.slice none 0 0)) rfl (by rfl) (fun _ _ => by kernel_rfl) rfl ?_
    simp only [Act.put, List.setIfInBounds_toArray, List.set_cons_succ, List.set_cons_zero]
    refine wpS_nil ?_
    refine wpT_ready 8 [] (by kernel_rfl) (allT_cons ?_ allT_nil)
    refine opT_S (by kernel_rfl) ?_
    refine wpS_storeA (i := 8) (L2 := [_, _, _, _, _]) (cs' := bgC ((withV (joinV a.k k) (d1, d2))) (.slice none 0 0)) rfl (by rfl) rfl rfl rfl (by kernel_rfl) (bgC_one _ _ _) HM251.out 0 rfl rfl (by kernel_rfl) (by kernel_rfl) (covS_box 4 rfl (covS_box 3 rfl (covS_box 2 rfl (covS_box 1 rfl covS_nil)))) rfl ?_
    rintro W254 hm253 hg252
    have HM255 := Lib.hid hm253
    clear hm253
    refine wpS_nil ?_
    refine wpT_end (by kernel_rfl) ?_
    refine then_normal ?_
    refine ⟨by kernel_rfl, ?_⟩
    exact ⟨_, rfl, (Mem.only (M := [_, _, _, _, _, _]) HM255.out [0, 4, 3, 2, 1, 0] rfl)⟩
  rintro vs W' ⟨ob, e10, hm⟩
  simp only [putAll, List.map_cons, List.map_nil, Act.put, List.setIfInBounds_toArray, List.set_cons_succ, List.set_cons_zero]
  rw [e10]
  clear e10
  have HM256 := Lib.hid hm
  clear hm
  have HNL := Lib.hid (Mem.nilRow elemV HM256.out)
  refine then_normal (wp_seq (wp_seq (wN [(0, 1), (1, 1), (2, 1), (3, 1)] (wT [0] ?_))))
  refine wM 1 (.slice pa a.v.length ca) (HNL.out.part1 2 rfl bgC_sl) Tryz.underlying41 ?_
  refine wT [2, 3] ?_
  refine wZ (wp_block ?_)
  refine wp_loop_F [12, 59, 60, 61, 62, 63, 64, 65, 66, 67, 68, 69, 70, 71, 72, 73] (fun n vs W' => ∃ (i : Nat) (xs : List Vl) (p : Option Addr) (c : Nat), n = a.v.length - i ∧ vs 59 = .int .i64 (i : Int) ∧ i ≤ a.v.length ∧ keptF a k i = xs ∧ Mem [boxT ob (.cells (bgC (withV (joinV a.k k) (d1, d2)) (.slice p xs.length c)).toArray 43 (0, 0)), rowT elemV (.slice p xs.length c) xs, boxT b3 (.cells (bgC a.k (.slice pa a.v.length ca)).toArray 43 (0, 0)), boxT b7 (.cells (vcC k).toArray 40 (0, 0)), boxT b11 (.cells #[.int .i64 d1, .int .i64 d2] 56 (0, 0)), boxT b15 (.cells (bgC noB.k (.slice none 0 0)).toArray 43 (0, 0)), R] H w W') (n0 := a.v.length) ?_ ?_
  ·exact ⟨0, [], none, 0, rfl, rfl, Nat.zero_le _, rfl, (Mem.only (M := [_, _, _, _, _, _, _]) HNL.out [1, 0, 0, 0, 0, 0, 0] rfl)⟩
  rintro n vs W' ⟨i, xs, p, c, rfl, e59, hi, hxs', hm⟩
  simp only [putAll, List.map_cons, List.map_nil, Act.put, List.setIfInBounds_toArray, List.set_cons_succ, List.set_cons_zero]
  rw [e59]
  clear e59
  have hxs := Lib.hid hxs'
  clear hxs'
  have hxl : Hid (xs.length ≤ 4398046510976) := Lib.hid (by rw [← hxs.out]; exact Nat.le_trans (keptF_len a k i) la)
  have HM257 := Lib.hid hm
  clear hm
  refine wp_seq (wQ ?_)
  refine wp_seq ?_
  refine wp_cond_split rfl (fun h258 => ?_) (fun h258 => ?_)
  ·have hi1 : i + 1 ≤ a.v.length := by have : (i : Int) < ((a.v.length : Nat) : Int) := (by simpa using h258); omega
   clear h258
   obtain ⟨y, hy'⟩ : ∃ y, a.v[i]? = some y := ⟨_, List.getElem?_eq_getElem (hi1)⟩
   have hy := Lib.hid hy'
   clear hy'
   refine wp_skip (then_normal (wp_seq (wp_block (wp_seq (wN [(0, 1), (1, 1), (2, 3), (3, 3)] ?_)))))
   refine wI elemV 0 (HM257.out.row 6 rfl (fun W H h => rowAt_src (ha W H h))) (hy.out) fun eb259 eo260 hc261 => ?_
   refine wL 1 [.int .i64 y.1.1, .int .i64 y.1.2, .string y.2] hc261 Tryz.underlying104 ?_
   refine wpS_alloc (i := 2) (dd := 12) (z := .agg #[.int .i64 0, .int .i64 0, .string ByteArray.empty]) (cs := #[.int .i64 0, .int .i64 0, .string ByteArray.empty]) rfl (by rfl) rfl (by kernel_rfl) rfl HM257.out covS_nil rfl ?_
   rintro b264 W263 hm262 -
   have HM265 := Lib.hid hm262
   clear hm262
   simp only [Act.put, List.setIfInBounds_toArray, List.set_cons_succ, List.set_cons_zero]
   refine wpS_storeA (i := 3) (L2 := [_, _, _, _, _, _, _]) (cs' := [.int .i64 y.1.1, .int .i64 y.1.2, .string y.2]) rfl (by rfl) rfl rfl rfl (by kernel_rfl) (by rfl) HM265.out 0 rfl rfl rfl rfl covS_nil rfl ?_
   rintro W267 hm266 -
   have HM268 := Lib.hid hm266
   clear hm266
   refine wZ (wp_seq ?_)
   cases hh : hasV k y.1
   ·have hhas : Hid (hasV k (y.1.1, y.1.2) = false) := Lib.hid hh
    clear hh
    refine wN [(0, 1), (1, 1), (2, 1), (3, 3), (4, 1)] ?_
    refine wL 0 (vcC (k)) (HM268.out.cells0 4 rfl) Tryz.underlying40 ?_
    have Cb12 := Mem.cell HM268.out 0 rfl
    refine wT [1, 2] ?_
    clear Cb12
    refine wpS_does2 (i := 3) (d := some 66) (rem := [_, _, _, _, _, _, _, _]) (out := [_, _, _, _, _, _, _, _]) rfl (by rfl) rfl Tryz.call91 (rvhas_d k y.1.1 y.1.2) rfl rfl HM268.out [] rfl covS_nil rfl rfl ?_
    rintro W270 hm269 -
    rw [hhas.out]
    have HM271 := Lib.hid hm269
    clear hm269
    simp only [Act.put, List.setIfInBounds_toArray, List.set_cons_succ, List.set_cons_zero]
    refine wT [4] ?_
    refine wZ (wp_cond_true rfl (wN [(0, 1), (1, 1), (2, 1), (3, 3), (4, 1), (5, 3)] (wT [0] ?_)))
    refine wM 1 (.slice p xs.length c) (HM271.out.part1 1 rfl bgC_sl) Tryz.underlying41 ?_
    have Cb12 := Mem.cell HM271.out 0 rfl
    refine wT [2] ?_
    clear Cb12
    refine wpS_doesU2 (i := 3) (d := some 71) (rem := [_, _, _, _, _, _, _]) rfl (by rfl) rfl Tryz.call94 (rputv_d _ _ xs rowT_reads hxl.out y) rfl rfl HM271.out [2] rfl covS_nil (fun _ => rfl) rfl ?_
    rintro u274 W273 hm272 -
    obtain ⟨p1, c1, hu1⟩ := row_form (Mem.src hm272 0 rfl rowT_reads)
    subst hu1
    have HM275 := Lib.hid hm272
    clear hm272
    simp only [Act.put, List.setIfInBounds_toArray, List.set_cons_succ, List.set_cons_zero]
    refine wT [4] ?_
    refine wpS_store1 (i := 5) (v := .slice _ _ _) (L2 := [_, _, _, _, _, _, _, _]) (cs' := bgC ((withV (joinV a.k k) (d1, d2))) (.slice p1 (insB y xs).length c1)) rfl (by rfl) rfl rfl rfl rfl (by kernel_rfl) rfl HM275.out 3 rfl rfl (by kernel_rfl) (bgC_setS _) covS_nil rfl ?_
    rintro W277 hm276 -
    have HM278 := Lib.hid hm276
    clear hm276
    refine wpS_nil (block_normal (then_normal (wQ ?_)))
    refine ⟨by kernel_rfl, ?_⟩
    exact ⟨a.v.length - (i + 1), by omega, i + 1, insB y xs, p1, c1, rfl, rfl, hi1, (keptF_hit hy.out hhas.out).trans (by rw [hxs.out]), (Mem.only (M := [_, _, _, _, _, _, _]) HM278.out [0, 0, 2, 2, 2, 2, 2] rfl)⟩
   ·have hhas : Hid (hasV k (y.1.1, y.1.2) = true) := Lib.hid hh
    clear hh
    refine wN [(0, 1), (1, 1), (2, 1), (3, 3), (4, 1)] ?_
    refine wL 0 (vcC (k)) (HM268.out.cells0 4 rfl) Tryz.underlying40 ?_
    have Cb12 := Mem.cell HM268.out 0 rfl
    refine wT [1, 2] ?_
    clear Cb12
    refine wpS_does2 (i := 3) (d := some 66) (rem := [_, _, _, _, _, _, _, _]) (out := [_, _, _, _, _, _, _, _]) rfl (by rfl) rfl Tryz.call91 (rvhas_d k y.1.1 y.1.2) rfl rfl HM268.out [] rfl covS_nil rfl rfl ?_
    rintro W280 hm279 -
    rw [hhas.out]
    have HM281 := Lib.hid hm279
    clear hm279
    simp only [Act.put, List.setIfInBounds_toArray, List.set_cons_succ, List.set_cons_zero]
    refine wT [4] ?_
    refine wZ (wp_cond_false rfl (wp_skip (block_normal (then_normal (wQ ?_)))))
    refine ⟨by kernel_rfl, ?_⟩
    exact ⟨a.v.length - (i + 1), by omega, i + 1, xs, p, c, rfl, rfl, hi1, (keptF_miss hy.out hhas.out).trans hxs.out, (Mem.only (M := [_, _, _, _, _, _, _]) HM281.out [1, 1, 1, 1, 1, 1, 1] rfl)⟩
  ·have hge : Hid (a.v.length ≤ i) := Lib.hid (by have : ¬ (i : Int) < ((a.v.length : Nat) : Int) := (by simpa using h258); omega)
   clear h258
   refine wp_exit ?_
   refine then_exit (then_exit (block_exit ?_))
   refine then_normal (wp_seq ?_)
   have hfin : Hid (insB ((d1, d2), t) xs = (putB a k (d1, d2) t).v) := Lib.hid (by rw [← hxs.out, keptF_end hm1.out hge.out]; rfl)
   refine wN [(0, 1), (1, 1), (2, 1), (3, 1), (4, 1), (5, 3), (6, 1), (7, 3)] (wT [0] ?_)
   refine wM 1 (.slice p xs.length c) (HM257.out.part1 0 rfl bgC_sl) Tryz.underlying41 ?_
   have Cb6 := Mem.cell HM257.out 4 rfl
   refine wT [2, 3, 4] ?_
   clear Cb6
   refine wpS_doesU2 (i := 5) (d := some 79) (rem := [_, _, _, _, _, _]) rfl (by rfl) rfl Tryz.call94 (rputv_d _ _ xs rowT_reads hxl.out ((d1, d2), t)) rfl rfl HM257.out [1] rfl covS_nil (fun _ => rfl) rfl ?_
   rintro u284 W283 hm282 -
   obtain ⟨p2, c2, hu2⟩ := row_form (Mem.src hm282 0 rfl rowT_reads)
   subst hu2
   rw [hfin.out] at hm282 ⊢
   have HM285 := Lib.hid hm282
   clear hm282
   simp only [Act.put, List.setIfInBounds_toArray, List.set_cons_succ, List.set_cons_zero]
   refine wT [6] ?_
   refine wpS_store1 (i := 7) (v := .slice _ _ _) (L2 := [_, _, _, _, _, _, _]) (cs' := bgC ((withV (joinV a.k k) (d1, d2))) (.slice p2 (putB a k (d1, d2) t).v.length c2)) rfl (by rfl) rfl rfl rfl rfl (by kernel_rfl) rfl HM285.out 2 rfl rfl (by kernel_rfl) (bgC_setS _) covS_nil rfl ?_
   rintro W287 hm286 -
   have HM288 := Lib.hid hm286
   clear hm286
   refine wZ (wp_seq (wp_seq (wN [(0, 1), (1, 1), (2, 1), (3, 1)] (wT [0] ?_))))
   refine wM 1 (.slice p2 (putB a k (d1, d2) t).v.length c2) (HM288.out.part1 0 rfl bgC_sl) Tryz.underlying41 ?_
   refine wT [2, 3] ?_
   refine wZ (wp_cond_false rfl (wp_skip (then_normal (wp_seq (wN [(0, 1), (1, 3), (2, 1)] ?_)))))
   refine wL 0 (bgC ((withV (joinV a.k k) (d1, d2))) (.slice p2 (putB a k (d1, d2) t).v.length c2)) (HM288.out.part 0 rfl (bgC_all)) Tryz.underlying43 ?_
   refine wpS_storeA (i := 1) (L2 := [_, _, _, _, _, _, _]) (cs' := bgC ((putB a k (d1, d2) t).k) (.slice p2 (putB a k (d1, d2) t).v.length c2)) rfl (by rfl) rfl rfl rfl (by kernel_rfl) (bgC_one _ _ _) HM288.out 6 rfl rfl (by kernel_rfl) (by kernel_rfl) covS_nil rfl ?_
   rintro W290 hm289 -
   have HM291 := Lib.hid hm289
   clear hm289
   refine wT [2] ?_
   refine wZ (wp_ret ?_)
   refine ret_cell_tmp rfl HM291.out 0 rfl rfl Tryz.underlying43 rfl (by kernel_rfl) rfl rfl ?_
   rw [hxe.out]
   exact doesU_ret (post := fun u => [bagE u (putB a k (d1, d2) t) 0, R]) (Mem.toBagE (x := (putB a k (d1, d2) t)) (Mem.only (M := [_, _]) HM291.out [2, 6] rfl)) rfl
end Go.Proofs.YtcbnhakfijiioaaGreat
