/- The landed vault: Open. -/
import Derived.Test.YtcchkkdbagpgjaaGreatVtW
import Derived.Test.YtcchkkdbagpgjaaGreatLgX
import Derived.Test.YtcchkkdbagpgjaaGreatPA
namespace Go.Proofs.YtcchkkdbagpgjaaGreat
open Go Go.RowKit Go.BigFrame
def mbI (bk : Nat → Nat) (i : Nat) : Nat → Option Nat := fun q => if q < i then some (bk q) else none
def setF (bk : Nat → Nat) (i b : Nat) : Nat → Nat := fun q => if q = i then b else bk q
def noMaps (bk : Nat → Nat) (i : Nat) : List At := (List.range i).map fun q => mapT strK valB (bk q) (Mp.no : Mp ByteArray Hv)
theorem mbI_next (bk : Nat → Nat) (i b : Nat) : setM (mbI bk i) i (some b) = mbI (setF bk i b) (i + 1) := by
 funext q
 unfold setM mbI setF
 by_cases h : q = i
 ·rw [if_pos h, if_pos (by omega), if_pos h]
 ·rw [if_neg h, if_neg h]
  by_cases h2 : q < i
  ·rw [if_pos h2, if_pos (by omega)]
  ·rw [if_neg h2, if_neg (by omega)]
theorem noMaps_next (bk : Nat → Nat) (i b : Nat) : noMaps (setF bk i b) (i + 1) = noMaps bk i ++ [mapT strK valB b Mp.no] := by
 unfold noMaps
 rw [List.range_succ, List.map_append]
 congr 1
 ·refine List.map_congr_left fun q hq => ?_
  have := List.mem_range.1 hq
  unfold setF
  rw [if_neg (by omega)]
 ·show [mapT strK valB (setF bk i b i) Mp.no] = _
  unfold setF
  rw [if_pos rfl]
theorem Mem.noNext {bk : Nat → Nat} {i b : Nat} {L : List At} {H0 : Nat → Prop} {w W : World} (h : Mem (mapT strK valB b Mp.no :: listT (noMaps bk i) :: L) H0 w W) : Mem (listT (noMaps (setF bk i b) (i + 1)) :: L) H0 w W := SEnd.mono h fun _ h => star_mono (fun _ h => by
  show stars (noMaps (setF bk i b) (i + 1)) _ _
  rw [noMaps_next]
  exact stars_append (l := noMaps bk i) (m := [_]) (star_mono (fun _ h => h) (fun _ h => star_comm (starl_emp h)) (star_comm h))) (fun _ h => h) (star_assoc' h)
theorem mpC_congr {mb mb' : Nat → Option Nat} (h : ∀ i, i < 16 → mb i = mb' i) : mpC mb = mpC mb' := by
 unfold mpC
 exact List.map_congr_left fun i hi => by rw [h i (List.mem_range.1 hi)]
theorem vt_first (dl : Nat) (bk : Nat → Nat) : vtC dl 0 noR (.slice none 0 0) false 0 (mbI bk 16) = vtC dl noVt.inc noVt.ring (.slice none noVt.ring.p.2.2.length 0) noVt.has noVt.dots (fun i => some (bk i)) := by
 show vtC dl 0 noR (.slice none 0 0) false 0 (mbI bk 16) = vtC dl 0 noR (.slice none 0 0) false 0 (fun i => some (bk i))
 unfold vtC
 rw [mpC_congr (mb := mbI bk 16) (mb' := fun i => some (bk i)) fun i hi => if_pos hi]
theorem Mem.firstVt {dv dl : Nat} {bk : Nat → Nat} {L : List At} {H0 : Nat → Prop} {w W : World} (h : Mem (boxT dv (.cells (vtC dl 0 noR (.slice none 0 0) false 0 (mbI bk 16)).toArray 92 (0, 0)) :: listT (noMaps bk 16) :: L) H0 w W) : Mem (vtT dv dl noVt :: L) H0 w W := by
 rw [vt_first] at h
 have h1 := Mem.nilL h
 have h2 := h1.front [1, 1, 0] rfl
 exact Mem.toVt ⟨none, 0, bk, fun _ => Mp.no, listT []⟩ VsOk.start h2
theorem Mem.ownHead {y : Dx} {l : List Dx} {L : List At} {H0 : Nat → Prop} {w W : World} (h : Mem (ownX (y :: l) :: L) H0 w W) : Mem (listT (rowsX y) :: ownX l :: L) H0 w W := SEnd.mono h fun _ h => star_assoc (star_mono (fun _ h => stars_split (l := rowsX y) h) (fun _ h => h) h)
theorem ddr_rows {y : Dx} (h : mayD y.d = true) : DdR (listT (rowsX y)) y.d (.slice y.vp y.vn y.vc) (.slice y.rp y.rn y.rc) := by
 have hm := mayD_len h
 exact ⟨vL (l := rowsX y) 0 rfl rowT_reads, by omega, vL (l := rowsX y) 1 rfl rowT_reads, by omega⟩
theorem play_next {ys : List Dx} {i : Nat} {y : Dx} (hy : ys[i]? = some y) : playD ((ys.take (i + 1)).map fun z => z.d) = countD (playD ((ys.take i).map fun z => z.d)) y.d := by
 have hlt := (List.getElem?_eq_some_iff.1 hy).1
 have he := (List.getElem?_eq_some_iff.1 hy).2
 rw [List.take_succ_eq_append_getElem hlt, he, List.map_append]
 exact playD_snoc _ _
theorem drop_cons {ys : List Dx} {i : Nat} {y : Dx} (hy : ys[i]? = some y) : ys.drop i = y :: ys.drop (i + 1) := by
 have hlt := (List.getElem?_eq_some_iff.1 hy).1
 have he := (List.getElem?_eq_some_iff.1 hy).2
 rw [List.drop_eq_getElem_cons hlt, he]
theorem toVtN_mem {dv dl : Nat} {S : Vt} {L : List At} {H0 : Nat → Prop} {w W : World} (h : Mem (vtT dv dl S :: L) H0 w W) : Mem (vtN (.pointer (some ⟨dv, 0, none⟩)) dl S :: L) H0 w W := Mem.addEx dv (Mem.addPr rfl h)
set_option maxHeartbeats 4000000 in
set_option maxRecDepth 100000 in
theorem vopen_d (dl : Nat) (S : Lg) (hS : LgOk S) : DoesU Tryz.prog 11 #[.pointer (some ⟨dl, 0, none⟩)] [lgT dl S] (fun u => [vtN u dl (playD S.l), lgT dl S]) := by
 intro w H hp
 have HM0 := Lib.hid (mem_refl hp)
 clear hp
 go_enter Tryz.func11, Tryz.ntmps11
 refine wp_seq (wQ ?_)
 refine wp_seq (wp_seq (wQ ?_))
 refine wp_cond_false rfl (wp_skip (then_normal (wp_seq (wN [(0, 1), (1, 1), (2, 3), (3, 1)] (wT [0] ?_)))))
 refine wR 1 (v := .agg (vtC dl 0 noR (.slice none 0 0) false 0 (mbI (fun _ => 0) 0)).toArray) (by kernel_rfl) ?_
 refine wBh 2 HM0 fun dv W2 HM3 => ?_
 refine wT [3] ?_
 refine wZ (wp_seq (wp_seq ?_))
 have HN := Lib.hid (Mem.nilL HM3.out)
 refine wQ ?_
 refine wp_block ?_
 refine wp_loop_F [4, 12, 13, 14, 15, 16, 17, 18, 19, 20, 21] (fun n vs W' => ∃ (i : Nat) (bk : Nat → Nat), n = 16 - i ∧ vs 12 = .int .i64 (i : Int) ∧ i ≤ 16 ∧ Mem [boxT dv (.cells (vtC dl 0 noR (.slice none 0 0) false 0 (mbI bk i)).toArray 92 (0, 0)), listT (noMaps bk i), lgT dl S] H w W') (n0 := 16) ?_ ?_
 ·exact ⟨0, fun _ => 0, rfl, rfl, Nat.zero_le _, (Mem.only (M := [_, _, _]) HN.out [1, 0, 0] rfl)⟩
 rintro n vs W' ⟨i, bk, rfl, e12, hi, hm⟩
 simp only [putAll, List.map_cons, List.map_nil, Act.put, List.setIfInBounds_toArray, List.set_cons_succ, List.set_cons_zero]
 rw [e12]
 clear e12
 have HM4 := Lib.hid hm
 clear hm
 refine wp_seq (wQ ?_)
 refine wp_seq ?_
 refine wp_cond_split rfl (fun h5 => ?_) (fun h5 => ?_)
 ·have hi1 : i + 1 ≤ 16 := by have : (i : Int) < ((16 : Nat) : Int) := (by simpa using h5); omega
  clear h5
  refine wp_skip (then_normal (wp_seq (wp_block (wp_seq (wQ ?_)))))
  refine wN [(0, 1), (1, 1), (2, 3), (3, 1), (4, 1), (5, 1), (6, 3)] (wT [0, 1] ?_)
  refine wpS_mkM strK valB (i := 2) (dd := 17) rfl (by rfl) rfl HM4.out covS_nil rfl ?_
  rintro bq W7 hm6 -
  have HM8 := Lib.hid hm6
  clear hm6
  simp only [Act.put, List.setIfInBounds_toArray, List.set_cons_succ, List.set_cons_zero]
  refine wT [3, 4] ?_
  refine wR 5 (run_addrMp (j := i) (show i < 16 by omega) rfl rfl rfl) ?_
  refine wpS_store1 (i := 6) (v := .map (some bq)) (L2 := [_, _, _]) (cs' := vtC dl 0 noR (.slice none 0 0) false 0 (setM (mbI bk i) i (some bq))) rfl (by rfl) rfl rfl rfl rfl (by kernel_rfl) rfl HM8.out 1 rfl rfl (by rw [vtC_len]; exact Nat.ble_eq_true_of_le (by omega)) (vtC_setMap _ (show i < 16 by omega)) covS_nil rfl ?_
  rintro W10 hm9 -
  rw [mbI_next] at hm9
  have HM11 := Lib.hid hm9
  clear hm9
  refine wpS_nil (block_normal (then_normal (wQ ?_)))
  refine ⟨by kernel_rfl, ?_⟩
  exact ⟨16 - (i + 1), by omega, i + 1, setF bk i bq, rfl, rfl, hi1, (Mem.only (M := [_, _, _]) (Mem.noNext (Mem.only (M := [_, _, _, _]) HM11.out [1, 1, 0, 0] rfl)) [1, 0, 0] rfl)⟩
 ·have hge : Hid (16 ≤ i) := Lib.hid (by have : ¬ (i : Int) < 16 := (by simpa using h5); omega)
  clear h5
  refine wp_exit ?_
  refine then_exit (then_exit (block_exit ?_))
  refine then_normal (wp_seq (wp_seq ?_))
  have h16 : i = 16 := by have := hge.out; omega
  subst h16
  have HF := Lib.hid (Mem.firstVt (Mem.only (M := [_, _, _]) HM4.out [0, 0, 0] rfl))
  refine wN [(0, 1), (1, 3), (2, 1), (3, 1)] (wT [0] ?_)
  refine wU1 1 [_] Tryz.call37 (lall_d dl S hS) HF [1] fun u14 W13 hm12 => ?_
  obtain ⟨ys, py, cy, hys', rfl, hm12q⟩ := Mem.alR hm12
  clear hm12
  have hys := Lib.hid hys'
  clear hys'
  have hylen : ys.length ≤ 3000 := by rw [← List.length_map (f := fun x : Dx => x.d), hys.out]; exact Nat.le_trans hS.len hS.room
  have HM15 := Lib.hid hm12q
  clear hm12q
  refine wT [2, 3] ?_
  refine wZ (wp_block ?_)
  refine wp_loop_F [6, 25, 26, 27, 28, 29, 30, 31, 32] (fun n us W' => ∃ i : Nat, n = ys.length - i ∧ us 25 = .int .i64 (i : Int) ∧ i ≤ ys.length ∧ Mem [vtT dv dl (playD ((ys.take i).map fun z => z.d)), rowT elemDx (.slice py ys.length cy) ys, ownX (ys.drop i), lgT dl S] H w W') (n0 := ys.length) ?_ ?_
  ·exact ⟨0, rfl, rfl, Nat.zero_le _, (Mem.only (M := [_, _, _, _]) HM15.out [3, 0, 0, 0] rfl)⟩
  rintro n us W' ⟨i, rfl, e25, hi, hm2⟩
  simp only [putAll, List.map_cons, List.map_nil, Act.put, List.setIfInBounds_toArray, List.set_cons_succ, List.set_cons_zero]
  rw [e25]
  clear e25
  have HM16 := Lib.hid hm2
  clear hm2
  refine wp_seq (wQ ?_)
  refine wp_seq ?_
  refine wp_cond_split rfl (fun h17 => ?_) (fun h17 => ?_)
  ·have hi1 : i + 1 ≤ ys.length := by have : (i : Int) < ((ys.length : Nat) : Int) := (by simpa using h17); omega
   clear h17
   obtain ⟨y, hy'⟩ : ∃ y, ys[i]? = some y := ⟨_, List.getElem?_eq_getElem (hi1)⟩
   have hy := Lib.hid hy'
   clear hy'
   refine wp_skip (then_normal (wp_seq (wp_block (wp_seq (wN [(0, 1), (1, 1), (2, 3), (3, 3)] ?_)))))
   refine wI elemDx 0 (rowAt_src (Mem.src HM16.out 1 rfl rowT_reads)) (hy.out) fun eb18 eo19 hc20 => ?_
   refine wL 1 (Dx.enc y) hc20 Tryz.underlying96 ?_
   refine wpS_alloc (i := 2) (dd := 6) (z := ddV noD (.slice none 0 0) (.slice none 0 0)) (cs := (ddC noD (.slice none 0 0) (.slice none 0 0)).toArray) rfl (by rfl) rfl (by kernel_rfl) rfl HM16.out covS_nil rfl ?_
   rintro b23 W22 hm21 -
   have HM24 := Lib.hid hm21
   clear hm21
   simp only [Act.put, List.setIfInBounds_toArray, List.set_cons_succ, List.set_cons_zero]
   refine wXkh (hone := (ddC_one _ _ _ _ _ _)) 3 [_, _, _, _] (ddC (y.d) (.slice y.vp y.vn y.vc) (.slice y.rp y.rn y.rc)) HM24 0 fun W26 HM27 => ?_
   refine wZ ?_
   have HO' := Mem.only (M := [_, _, _, _, _]) HM27.out [3, 0, 0, 0, 0] rfl
   rw [drop_cons hy.out] at HO'
   have HO := Lib.hid (Mem.ownHead HO')
   clear HO'
   have hmt := Lib.hid (fun (i : Nat) (d : Dd) (hd : d ∈ (ys.take i).map fun z => z.d) => hS.may d (by rw [← hys.out]; obtain ⟨z, hz, rfl⟩ := List.mem_map.1 hd; exact List.mem_map.2 ⟨z, List.mem_of_mem_take hz, rfl⟩))
   have hmy : Hid (mayD y.d = true) := Lib.hid (hS.may _ (by rw [← hys.out]; exact List.mem_map.2 ⟨y, List.mem_of_getElem? hy.out, rfl⟩))
   refine wN [(0, 1), (1, 1), (2, 3)] (wT [0] ?_)
   refine wL 1 (ddC (y.d) (.slice y.vp y.vn y.vc) (.slice y.rp y.rn y.rc)) (HO.out.part 2 rfl (ddC_all)) Tryz.underlying96 ?_
   refine wD2h 2 [_, _, _, _] [_, _, _, _, _] Tryz.call38 (vapply_d (listT (rowsX y)) dv dl _ (VtOk.play (hmt.out i)) y.d _ _ (ddr_rows hmy.out) hmy.out) HO [3, 0] fun W29 HM30 => ?_
   refine wpS_nil (block_normal (then_normal (wQ ?_)))
   refine ⟨by kernel_rfl, ?_⟩
   exact ⟨ys.length - (i + 1), by omega, i + 1, rfl, rfl, hi1, (by have hq := (Mem.only (M := [_, _, _, _]) HM30.out [0, 2, 0, 1] rfl); rw [← play_next hy.out] at hq; exact hq)⟩
  ·have hge2 : Hid (ys.length ≤ i) := Lib.hid (by have : ¬ (i : Int) < (ys.length : Int) := (by simpa using h17); omega)
   clear h17
   refine wp_exit ?_
   refine then_exit (then_exit (block_exit ?_))
   refine then_normal (wp_seq (wQ ?_))
   refine wp_ret (bodyPost_ret (results_tmp rfl _ _ _) rfl ?_)
   have hq := (Mem.only (M := [_, _]) HM16.out [0, 2] rfl)
   have hit : (ys.take i).map (fun z => z.d) = S.l := by rw [List.take_of_length_le hge2.out]; exact hys.out
   rw [hit] at hq
   exact doesU_ret (post := fun u => [vtN u dl (playD S.l), lgT dl S]) (toVtN_mem hq) rfl
end Go.Proofs.YtcchkkdbagpgjaaGreat
