/- Givers: GiveEnds. -/
import Derived.Test.YtcchkkdbagpgjaaGreatGvT
import Derived.Test.YtcchkkdbagpgjaaGreatGvE
import Derived.Test.YtcchkkdbagpgjaaGreatPA
namespace Go.Proofs.YtcchkkdbagpgjaaGreat
open Go Go.RowKit Go.BigFrame
def kL20 : ByteArray := ⟨#[108, 97, 116, 101]⟩
theorem mod_len (n : Int) {m : Nat} (h : 1 ≤ m) (h2 : m ≤ 1000) : ∃ q : Nat, wrap64 ((IntKind.u64.wrap n).tmod (m : Int)) = (q : Int) ∧ q < m := by
 obtain ⟨k, hk⟩ := u64_letter n
 rw [hk]
 refine ⟨k % m, ?_, Nat.mod_lt _ h⟩
 rw [Int.tmod_eq_emod_of_nonneg (by omega)]
 have h3 : ((k : Int) % (m : Int)) = ((k % m : Nat) : Int) := rfl
 have h4 := Nat.mod_lt k h
 rw [h3]
 unfold wrap64
 omega
theorem has_more {X Y : Vl2} {l : List Int} {i : Nat} {y : Int} (hh : ∀ (j : Nat) (z : Int), j < i → l[j]? = some z → hasK X.1 (keyN z) = true) (hk : ∀ q, hasK Y.1 q = (hasK X.1 q || decide (q = keyN y))) (hy : l[i]? = some y) : ∀ (j : Nat) (z : Int), j < i + 1 → l[j]? = some z → hasK Y.1 (keyN z) = true := fun j z hj hz => by
 rw [hk, Bool.or_eq_true]
 rcases Nat.lt_succ_iff_lt_or_eq.1 hj with hj | rfl
 ·exact .inl (hh j z hj hz)
 ·rw [hy] at hz
  cases hz
  exact .inr (decide_eq_true rfl)
theorem rest_due {F : Fd} {ks : List ByteArray} (h : restF F ks = 0) : F.due.length < 2000 := by
 unfold restF at h
 omega
set_option maxHeartbeats 4000000 in
set_option maxRecDepth 100000 in
theorem gends_d (R : At) (v : Value) (l : List Int) (hR : ∀ W H, R.p W H → RowAt elemI W v l) (late : Int) : Does Tryz.prog 8 #[v, .int .i64 late] [R] (.bool true) [R] := by
 intro w H hp
 have HM0 := Lib.hid (mem_refl hp)
 clear hp
 obtain ⟨p, cap, rfl, -⟩ := (HM0.out.row 0 rfl hR).form
 go_enter Tryz.func8, Tryz.ntmps8
 refine wp_seq (wQ ?_)
 refine wp_seq (wp_seq ?_)
 rcases (show l.length = 0 ∨ 20 < l.length ∨ (1 ≤ l.length ∧ l.length ≤ 20) from by omega) with hl0 | hl0 | ⟨hl0, hl20⟩
 ·have g1 : decide ((l.length : Int) < 1) = true := decide_eq_true (by omega)
  have g1' : decide (l.length < 1) = true := decide_eq_true (by omega)
  refine wQ ?_
  refine wp_cond_true rfl (wp_seq (wN [(0, 3), (1, 1)] ?_))
  refine wD0h 0 [_] [_] Tryz.call10 (gawake_d) HM0 [] fun W2 HM3 => ?_
  refine wT [1] ?_
  refine wZ (wp_ret (then_ret (bodyPost_ret (results_tmp rfl _ _ _) rfl ?_)))
  exact does_ret (Mem.only (M := [_]) HM3.out [0] rfl) rfl rfl
 ·have g1 : decide ((l.length : Int) < 1) = false := decide_eq_false (by omega)
  have g1' : decide (l.length < 1) = false := decide_eq_false (by omega)
  have g2 : decide ((20 : Int) < (l.length : Int)) = true := decide_eq_true (by omega)
  have g2' : decide (20 < l.length) = true := decide_eq_true (by omega)
  refine wQ ?_
  refine wp_cond_true rfl (wp_seq (wN [(0, 3), (1, 1)] ?_))
  refine wD0h 0 [_] [_] Tryz.call10 (gawake_d) HM0 [] fun W5 HM6 => ?_
  refine wT [1] ?_
  refine wZ (wp_ret (then_ret (bodyPost_ret (results_tmp rfl _ _ _) rfl ?_)))
  exact does_ret (Mem.only (M := [_]) HM6.out [0] rfl) rfl rfl
 ·have g1 : decide ((l.length : Int) < 1) = false := decide_eq_false (by omega)
  have g1' : decide (l.length < 1) = false := decide_eq_false (by omega)
  have g2 : decide ((20 : Int) < (l.length : Int)) = false := decide_eq_false (by omega)
  have g2' : decide (20 < l.length) = false := decide_eq_false (by omega)
  refine wQ ?_
  refine wp_cond_false rfl (wp_skip (then_normal (wp_seq ?_)))
  obtain ⟨a0, h0'⟩ : ∃ y, l[0]? = some y := ⟨_, List.getElem?_eq_getElem (by omega)⟩
  have h0 := Lib.hid h0'
  clear h0'
  refine wN [(0, 1), (1, 1), (2, 1), (3, 3), (4, 3), (5, 1)] (wT [0] ?_)
  refine wI elemI 1 (HM0.out.row 0 rfl hR) (h0.out) fun eb7 eo8 hc9 => ?_
  refine wM 2 (.int .i64 a0) (hc9 0 _ rfl) Tryz.underlying3 ?_
  refine wD1h 3 [_] [_] Tryz.call17 (key_d a0) HM0 [] fun W11 HM12 => ?_
  refine wD1h 4 [_] [_] Tryz.call36 (spof_d (keyN a0) (keyN_key a0)) HM12 [] fun W14 HM15 => ?_
  refine wT [5] ?_
  refine wZ (wp_seq (wN [(0, 3), (1, 3), (2, 1)] ?_))
  refine wU1 0 [_] Tryz.call12 (lnew_d 100) HM15 [] fun u18 W17 hm16 => ?_
  obtain ⟨dl, rfl, hm16q⟩ := Mem.lgN hm16
  clear hm16
  have HM19 := Lib.hid hm16q
  clear hm16q
  refine wU1 1 [_] Tryz.call11 (vopen_d dl (newL 100) (LgOk.new 100)) HM19 [0] fun u22 W21 hm20 => ?_
  obtain ⟨dv, rfl, hm20q⟩ := Mem.vtN hm20
  clear hm20
  have HM23 := Lib.hid hm20q
  clear hm20q
  refine wT [2] ?_
  refine wZ (wp_seq (wp_seq (wQ ?_)))
  refine wp_block ?_
  refine wp_loop_F [8, 36, 37, 38, 39, 40, 41, 42, 43, 44, 45] (fun n vs W' => ∃ (i : Nat) (X : Vl2), n = l.length - i ∧ vs 36 = .int .i64 (i : Int) ∧ i ≤ l.length ∧ Few X i ∧ (∀ (j : Nat) (z : Int), j < i → l[j]? = some z → hasK X.1 (keyN z) = true) ∧ Mem [vtT dv dl X.1, lgT dl X.2, R] H w W') (n0 := l.length) ?_ ?_
  ·exact ⟨0, _, rfl, rfl, Nat.zero_le _, Few.start, (fun _ _ h => absurd h (Nat.not_lt_zero _)), (Mem.only (M := [_, _, _]) HM23.out [0, 0, 0] rfl)⟩
  rintro n vs W' ⟨i, X, rfl, e36, hi, hX', hh', hm⟩
  simp only [putAll, List.map_cons, List.map_nil, Act.put, List.setIfInBounds_toArray, List.set_cons_succ, List.set_cons_zero]
  rw [e36]
  clear e36
  have hX := Lib.hid hX'
  clear hX'
  have hh := Lib.hid hh'
  clear hh'
  have HM24 := Lib.hid hm
  clear hm
  refine wp_seq (wQ ?_)
  refine wp_seq ?_
  refine wp_cond_split rfl (fun h25 => ?_) (fun h25 => ?_)
  ·have hi1 : i + 1 ≤ l.length := by have : (i : Int) < ((l.length : Nat) : Int) := (by simpa using h25); omega
   clear h25
   obtain ⟨y, hy'⟩ : ∃ y, l[i]? = some y := ⟨_, List.getElem?_eq_getElem (hi1)⟩
   have hy := Lib.hid hy'
   clear hy'
   refine wp_skip (then_normal (wp_seq (wp_block (wp_seq (wN [(0, 1), (1, 1), (2, 1)] ?_)))))
   refine wI elemI 0 (HM24.out.row 2 rfl hR) (hy.out) fun eb26 eo27 hc28 => ?_
   refine wM 1 (.int .i64 y) (hc28 0 _ rfl) Tryz.underlying3 ?_
   refine wT [2] ?_
   refine wZ ?_
   obtain ⟨Y, hpv', hY', hhk, _⟩ := hX.out.put (by omega) (keyN_key y) (t := kV20) (by decide)
   have hh2 := Lib.hid (has_more hh.out hhk hy.out)
   clear hhk
   have hpv := Lib.hid hpv'
   clear hpv'
   have hY := Lib.hid hY'
   clear hY'
   refine wN [(0, 1), (1, 1), (2, 3), (3, 1), (4, 3)] (wT [0, 1] ?_)
   refine wD1h 2 [_, _, _] [_, _, _] Tryz.call17 (key_d y) HM24 [] fun W30 HM31 => ?_
   refine wR 3 (v := vV (fun _ => 0)) (by kernel_rfl) ?_
   refine wD5h 4 [_] [_, _, _] Tryz.call27 (vput_e hX.out.kept hpv.out) HM31 [0, 0] fun W33 HM34 => ?_
   refine wpS_nil (block_normal (then_normal (wQ ?_)))
   refine ⟨by kernel_rfl, ?_⟩
   exact ⟨l.length - (i + 1), by omega, i + 1, _, rfl, rfl, hi1, hY.out, hh2.out, (Mem.only (M := [_, _, _]) HM34.out [0, 0, 0] rfl)⟩
  ·have hgi : l.length ≤ i := by have : ¬ (i : Int) < (l.length : Int) := (by simpa using h25); omega
   clear h25
   refine wp_exit ?_
   refine then_exit (then_exit (block_exit ?_))
   refine then_normal (wp_seq ?_)
   obtain rfl : i = l.length := by omega
   have hpk : 0 ≤ (pK (keyN a0) : Int) ∧ (pK (keyN a0) : Int) < 16 := ⟨by omega, by have := pK_lt (keyN_key a0); omega⟩
   have hmay : Hid (mayG 0 (pK (keyN a0) : Int) 1 1) := Lib.hid ⟨by decide, by decide, by decide, hpk, by decide⟩
   have hRd : Hid (Rd keyN l X (l.length + 0)) := Lib.hid ⟨hX.out, fun z hz => by obtain ⟨j, hj⟩ := List.mem_iff_getElem?.1 hz; exact hh.out j z (List.getElem?_eq_some_iff.1 hj).1 hj⟩
   clear hpk
   refine wN [(0, 1), (1, 3), (2, 1)] (wT [0] ?_)
   refine wU4 1 [_, _, _] Tryz.call15 (gvnew_d 0 (pK (keyN a0) : Int) 1 1 hmay.out) HM24 [] fun u37 W36 hm35 => ?_
   obtain ⟨g, rfl, hm35q⟩ := Mem.gvN hm35
   clear hm35
   have HM38 := Lib.hid hm35q
   clear hm35q
   refine wT [2] ?_
   refine wZ (wp_seq (wN [(0, 1), (1, 1), (2, 3), (3, 3)] (wT [0] ?_)))
   refine wR 1 (v := msV (endedM (pK (keyN a0) : Int)) (.slice none 0 0) (.slice none 0 0) (.slice none 0 0)) (by kernel_rfl) ?_
   refine wpS_alloc (i := 2) (dd := 10) (z := msV noMs (.slice none 0 0) (.slice none 0 0) (.slice none 0 0)) (cs := (msC (noMs) (.slice none 0 0) (.slice none 0 0) (.slice none 0 0)).toArray) rfl (by rfl) rfl (by kernel_rfl) rfl HM38.out covS_nil rfl ?_
   rintro b41 W40 hm39 -
   have HM42 := Lib.hid hm39
   clear hm39
   simp only [Act.put, List.setIfInBounds_toArray, List.set_cons_succ, List.set_cons_zero]
   refine wpS_storeA (i := 3) (L2 := [_, _, _, _, _]) (cs' := msC (endedM (pK (keyN a0) : Int)) (.slice none 0 0) (.slice none 0 0) (.slice none 0 0)) rfl (by rfl) rfl rfl rfl (by kernel_rfl) (msC_one _ _ _ _ _ _ _ _ _) HM42.out 0 rfl rfl (by kernel_rfl) (by kernel_rfl) covS_nil rfl ?_
   rintro W44 hm43 -
   have HM45 := Lib.hid hm43
   clear hm43
   refine wZ (wp_seq (wp_seq (wQ ?_)))
   refine wp_block ?_
   refine wp_loop_F [4, 11, 12, 14, 15, 16, 17, 50, 51, 52, 53, 54, 55, 56, 57, 58, 59, 60, 61, 62, 63, 64, 65, 66, 67, 68, 69, 70, 71, 72, 73, 74, 75, 76, 77, 78, 79, 80, 81, 82, 83, 84, 85, 86, 87, 88, 89, 90, 91, 92, 93, 94, 95, 96, 97, 98, 99, 100, 101, 102, 103, 104, 105, 106, 107, 108, 109, 110, 111, 112, 113, 114, 115, 116, 117, 118, 119, 120, 121, 122, 123, 124, 125, 126, 127, 128, 129, 130, 131, 132, 133] (fun n us W' => ∃ (rd : Nat) (Z : Vl2) (G : Gv) (A : At), n = 2 - rd ∧ us 50 = .int .i64 (rd : Int) ∧ rd ≤ 2 ∧ Rd keyN l Z (l.length + rd) ∧ Id (pK (keyN a0) : Int) G ∧ G.out = [] ∧ restF G.F (keysV Z.1 (pK (keyN a0) : Int)) ≤ 20 ∧ G.ticks ≤ ((60 * rd : Nat) : Int) ∧ Mem [gvT g A G, A, boxT b41 (.cells (msC (endedM (pK (keyN a0) : Int)) (.slice none 0 0) (.slice none 0 0) (.slice none 0 0)).toArray 52 (0, 0)), vtT dv dl Z.1, lgT dl Z.2, R] H w W') (n0 := 2) ?_ ?_
   ·exact ⟨0, X, _, _, rfl, rfl, Nat.zero_le _, hRd.out, Id.new hmay.out.2.2.2.1, rfl, hRd.out.ks hl20 _, Int.le_refl 0, (Mem.only (M := [_, _, _, _, _, _]) HM45.out [1, 1, 0, 0, 0, 0] rfl)⟩
   rintro n us W' ⟨rd, Z, G, A, rfl, e50, hrd, hZ', hG', hGo', hGr', hGt', hm1⟩
   simp only [putAll, List.map_cons, List.map_nil, Act.put, List.setIfInBounds_toArray, List.set_cons_succ, List.set_cons_zero]
   rw [e50]
   clear e50
   have hZ := Lib.hid hZ'
   clear hZ'
   have hG := Lib.hid hG'
   clear hG'
   have hGo := Lib.hid hGo'
   clear hGo'
   have hGr := Lib.hid hGr'
   clear hGr'
   have hGt := Lib.hid hGt'
   clear hGt'
   obtain ⟨ks, hks'⟩ : ∃ z, keysV Z.1 (pK (keyN a0) : Int) = z := ⟨_, rfl⟩
   have hks := Lib.hid hks'
   clear hks'
   have hbl : Hid (Z.1.b.length ≤ 3000) := Lib.hid (by have := hZ.out.few.bl; omega)
   have HM46 := Lib.hid hm1
   clear hm1
   refine wp_seq (wQ ?_)
   refine wp_seq ?_
   refine wp_cond_split rfl (fun h47 => ?_) (fun h47 => ?_)
   ·have hrd1 : rd + 1 ≤ 2 := by have : (rd : Int) < ((2 : Nat) : Int) := (by simpa using h47); omega
    clear h47
    refine wp_skip (then_normal (wp_seq (wp_block (wp_seq (wQ ?_)))))
    refine wp_seq (wQ ?_)
    refine wp_seq (wp_seq (wQ ?_))
    refine wp_block ?_
    refine wp_loop_F [4, 12, 14, 53, 54, 55, 56, 57, 58, 59, 60, 61, 62, 63, 64, 65, 66, 67, 68, 69, 70, 71, 72, 73, 74] (fun n ts W' => ∃ (t : Nat) (K : Gv) (B : At) (e : Bool), n = 60 - t ∧ ts 53 = .int .i64 (t : Int) ∧ ts 12 = .bool e ∧ t ≤ 60 ∧ Tk (pK (keyN a0) : Int) ks (60 * rd) t K e ∧ Mem [gvT g B K, B, boxT b41 (.cells (msC (endedM (pK (keyN a0) : Int)) (.slice none 0 0) (.slice none 0 0) (.slice none 0 0)).toArray 52 (0, 0)), vtT dv dl Z.1, lgT dl Z.2, R] H w W') (n0 := 60) ?_ ?_
    ·exact ⟨0, G, A, false, rfl, rfl, rfl, Nat.zero_le _, ⟨hG.out, (by have := hGt.out; omega), hGo.out, .inl ⟨rfl, by rw [← hks.out]; exact hGr.out⟩⟩, (Mem.only (M := [_, _, _, _, _, _]) HM46.out [0, 0, 0, 0, 0, 0] rfl)⟩
    rintro n ts W' ⟨t, K, B, e, rfl, e53, e12, ht, hT', hm2⟩
    simp only [putAll, List.map_cons, List.map_nil, Act.put, List.setIfInBounds_toArray, List.set_cons_succ, List.set_cons_zero]
    rw [e53, e12]
    clear e53 e12
    have hT := Lib.hid hT'
    clear hT'
    have HM48 := Lib.hid hm2
    clear hm2
    refine wp_seq (wQ ?_)
    refine wp_seq ?_
    refine wp_cond_split rfl (fun h49 => ?_) (fun h49 => ?_)
    ·have ht1 : t + 1 ≤ 60 := by have : (t : Int) < ((60 : Nat) : Int) := (by simpa using h49); omega
     clear h49
     refine wp_skip (then_normal (wp_seq (wp_block (wp_seq ?_))))
     obtain ⟨w0, G1, ms, htk', hI0', hok1, hfw0, hml', hdn'⟩ := hT.out.tick hZ.out.few.kept.ok hks.out
     have htk := Lib.hid htk'
     clear htk'
     have hI0 := Lib.hid hI0'
     clear hI0'
     have hdn := Lib.hid hdn'
     clear hdn'
     replace hok1 := Lib.hid hok1
     replace hfw0 := Lib.hid hfw0
     refine wN [(0, 1), (1, 1), (2, 3), (3, 1), (4, 1)] (wT [0, 1] ?_)
     refine wU2 2 [_, _, _] Tryz.call19 (gtick_e hT.out.id.ok hZ.out.few.kept.ok hbl.out (by have := hT.out.tk; omega) htk.out) HM48 [0, 0, 1] fun u52 W51 hm50 => ?_
     obtain ⟨rs, hm50a⟩ := Mem.gt hm50
     clear hm50
     obtain ⟨xs, pm, cm, rfl, hxsm', hxso', hm50q⟩ := Mem.tells hm50a
     clear hm50a
     have hxsm := Lib.hid hxsm'
     clear hxsm'
     have hxso := Lib.hid hxso'
     clear hxso'
     have hxl : Hid (xs.length = ms.length) := Lib.hid (by rw [← hxsm.out, List.length_map])
     have hfw : Hid (∀ x ∈ xs, x.m.b.v.length ≤ 4398046510976) := Lib.hid (fun x hx => Nat.le_trans (hfw0.out x.m (by rw [← hxsm.out]; exact List.mem_map.2 ⟨x, hx, rfl⟩)) (by decide))
     have hxl4 : xs.length ≤ 4 := by have := hxl.out; omega
     have HM53 := Lib.hid hm50q
     clear hm50q
     refine wT [3, 4] ?_
     refine wZ (wp_block ?_)
     refine wp_loop_F [4, 12, 14, 59, 60, 61, 62, 63, 64, 65, 66, 67, 68, 69, 70, 71, 72, 73] (fun n qs W' => ∃ (i : Nat) (L : Gv) (e2 : Bool), n = xs.length - i ∧ qs 59 = .int .i64 (i : Int) ∧ qs 12 = .bool e2 ∧ i ≤ xs.length ∧ InT (pK (keyN a0) : Int) w0 ms G1 i L e2 ∧ Mem [gvT g (listT (rs ++ [B])) L, (listT (rs ++ [B])), rowT elemMx (.slice pm xs.length cm) xs, boxT b41 (.cells (msC (endedM (pK (keyN a0) : Int)) (.slice none 0 0) (.slice none 0 0) (.slice none 0 0)).toArray 52 (0, 0)), vtT dv dl Z.1, lgT dl Z.2, R] H w W') (n0 := xs.length) ?_ ?_
     ·exact ⟨0, G1, e, rfl, rfl, rfl, Nat.zero_le _, hI0.out, (Mem.only (M := [_, _, _, _, _, _, _]) HM53.out [1, 1, 0, 1, 0, 0, 0] rfl)⟩
     rintro n qs W' ⟨i, L, e2, rfl, e59, e12, hi, hI', hm3⟩
     simp only [putAll, List.map_cons, List.map_nil, Act.put, List.setIfInBounds_toArray, List.set_cons_succ, List.set_cons_zero]
     rw [e59, e12]
     clear e59 e12
     have hI := Lib.hid hI'
     clear hI'
     have HM54 := Lib.hid hm3
     clear hm3
     refine wp_seq (wQ ?_)
     refine wp_seq ?_
     refine wp_cond_split rfl (fun h55 => ?_) (fun h55 => ?_)
     ·have hi1 : i + 1 ≤ xs.length := by have : (i : Int) < ((xs.length : Nat) : Int) := (by simpa using h55); omega
      clear h55
      obtain ⟨x, hx'⟩ : ∃ y, xs[i]? = some y := ⟨_, List.getElem?_eq_getElem (hi1)⟩
      have hx := Lib.hid hx'
      clear hx'
      have hmx : Hid (ms[i]? = some x.m) := Lib.hid (by rw [← hxsm.out, List.getElem?_map, hx.out]; rfl)
      have hxm := Lib.hid (List.mem_of_getElem? hx.out)
      refine wp_skip (then_normal (wp_seq (wp_block (wp_seq (wN [(0, 1), (1, 1), (2, 3), (3, 3)] ?_)))))
      refine wI elemMx 0 (HM54.out.row 2 rfl vRow) (hx.out) fun eb56 eo57 hc58 => ?_
      refine wL 1 (msC (x.m) (.slice x.vp x.vn x.vc) (.slice x.rp x.rn x.rc) (.slice x.cp x.cn x.cc)) hc58 Tryz.underlying52 ?_
      refine wpS_alloc (i := 2) (dd := 14) (z := msV noMs (.slice none 0 0) (.slice none 0 0) (.slice none 0 0)) (cs := (msC (noMs) (.slice none 0 0) (.slice none 0 0) (.slice none 0 0)).toArray) rfl (by rfl) rfl (by kernel_rfl) rfl HM54.out covS_nil rfl ?_
      rintro b61 W60 hm59 -
      have HM62 := Lib.hid hm59
      clear hm59
      simp only [Act.put, List.setIfInBounds_toArray, List.set_cons_succ, List.set_cons_zero]
      refine wpS_storeA (i := 3) (L2 := [_, _, _, _, _, _, _]) (cs' := msC (x.m) (.slice x.vp x.vn x.vc) (.slice x.rp x.rn x.rc) (.slice x.cp x.cn x.cc)) rfl (by rfl) rfl rfl rfl (by kernel_rfl) (msC_one _ _ _ _ _ _ _ _ _) HM62.out 0 rfl rfl (by kernel_rfl) (by kernel_rfl) covS_nil rfl ?_
      rintro W64 hm63 -
      have HM65 := Lib.hid hm63
      clear hm63
      refine wZ (wp_seq (wp_seq ?_))
      rcases hI.out.at hmx.out with ⟨_, hk7, hI2'⟩ | ⟨_, hk5, he2, L2, hg2', hI2'⟩
      ·have g21 : (x.m.kind == 7) = true := beq_iff_eq.2 hk7
       replace hk7 := Lib.hid hk7
       have hI2 := Lib.hid hI2'
       clear hI2'
       refine wN [(0, 1), (1, 1), (2, 1)] (wT [0] ?_)
       refine wM 1 (.int .i64 x.m.kind) (HM65.out.part1 0 rfl msC_kind) Tryz.underlying3 ?_
       refine wT [2] ?_
       refine wZ (wp_cond_true rfl (wp_seq (wQ ?_)))
       refine wp_exit ?_
       refine then_exit (block_exit ?_)
       refine then_normal (wQ ?_)
       refine ⟨by kernel_rfl, ?_⟩
       exact ⟨xs.length - (i + 1), by omega, i + 1, L, true, rfl, rfl, rfl, hi1, hI2.out, (Mem.only (M := [_, _, _, _, _, _, _]) HM65.out [1, 1, 1, 1, 1, 1, 1] rfl)⟩
      ·subst he2
       have g21 : (x.m.kind == 7) = false := by rw [hk5]; rfl
       replace hk5 := Lib.hid hk5
       have hg2 := Lib.hid hg2'
       clear hg2'
       have hI2 := Lib.hid hI2'
       clear hI2'
       refine wN [(0, 1), (1, 1), (2, 1)] (wT [0] ?_)
       refine wM 1 (.int .i64 x.m.kind) (HM65.out.part1 0 rfl msC_kind) Tryz.underlying3 ?_
       refine wT [2] ?_
       refine wZ (wp_cond_false rfl (wp_skip (then_normal (wp_seq (wp_seq (wQ ?_))))))
       refine wp_cond_false rfl (wp_skip (then_normal (wp_seq (wN [(0, 1), (1, 3), (2, 1), (3, 3), (4, 1), (5, 3)] (wT [0] ?_)))))
       refine wpS_store1 (i := 1) (v := .int .i64 (6)) (L2 := [_, _, _, _, _, _, _]) (cs' := msC (⟨6, x.m.frm, x.m.dst, x.m.seq, x.m.re, x.m.abt, x.m.part, x.m.epoch, x.m.key, x.m.b, x.m.r⟩) (.slice x.vp x.vn x.vc) (.slice x.rp x.rn x.rc) (.slice x.cp x.cn x.cc)) rfl (by rfl) rfl rfl rfl rfl (by kernel_rfl) rfl HM65.out 0 rfl rfl (by kernel_rfl) (msC_setKind _) covS_nil rfl ?_
       rintro W67 hm66 -
       have HM68 := Lib.hid hm66
       clear hm66
       refine wT [2] ?_
       refine wpS_store1 (i := 3) (v := .int .i64 (1)) (L2 := [_, _, _, _, _, _, _]) (cs' := msC (⟨6, 1, x.m.dst, x.m.seq, x.m.re, x.m.abt, x.m.part, x.m.epoch, x.m.key, x.m.b, x.m.r⟩) (.slice x.vp x.vn x.vc) (.slice x.rp x.rn x.rc) (.slice x.cp x.cn x.cc)) rfl (by rfl) rfl rfl rfl rfl (by kernel_rfl) rfl HM68.out 0 rfl rfl (by kernel_rfl) (msC_setFrm _) covS_nil rfl ?_
       rintro W70 hm69 -
       have HM71 := Lib.hid hm69
       clear hm69
       refine wT [4] ?_
       refine wpS_store1 (i := 5) (v := .int .i64 (0)) (L2 := [_, _, _, _, _, _, _]) (cs' := msC (⟨6, 1, 0, x.m.seq, x.m.re, x.m.abt, x.m.part, x.m.epoch, x.m.key, x.m.b, x.m.r⟩) (.slice x.vp x.vn x.vc) (.slice x.rp x.rn x.rc) (.slice x.cp x.cn x.cc)) rfl (by rfl) rfl rfl rfl rfl (by kernel_rfl) rfl HM71.out 0 rfl rfl (by kernel_rfl) (msC_setDst _) covS_nil rfl ?_
       rintro W73 hm72 -
       have HM74 := Lib.hid hm72
       clear hm72
       refine wZ (wN [(0, 1), (1, 1), (2, 3)] (wT [0] ?_))
       refine wL 1 (msC (⟨6, 1, 0, x.m.seq, x.m.re, x.m.abt, x.m.part, x.m.epoch, x.m.key, x.m.b, x.m.r⟩) (.slice x.vp x.vn x.vc) (.slice x.rp x.rn x.rc) (.slice x.cp x.cn x.cc)) (HM74.out.part 0 rfl (msC_all)) Tryz.underlying52 ?_
       refine wD2h 2 [_, _, _, _, _, _] [_, _, _, _, _, _, _, _] Tryz.call23 (ggot_e (m := ansM x.m) (b := gotB L (ansM x.m)) hI.out.id.ok rfl hg2.out (hxso.out x hxm.out).rd (hfw.out x hxm.out)) HM74 [1, 1] fun W76 HM77 => ?_
       refine wpS_nil (block_normal (then_normal (wQ ?_)))
       refine ⟨by kernel_rfl, ?_⟩
       exact ⟨xs.length - (i + 1), by omega, i + 1, L2, false, rfl, rfl, rfl, hi1, hI2.out, (Mem.only (M := [_, _, _, _, _, _, _]) HM77.out [0, 0, 1, 1, 1, 1, 1] rfl)⟩
     ·have hge : Hid (xs.length ≤ i) := Lib.hid (by have : ¬ (i : Int) < (xs.length : Int) := (by simpa using h55); omega)
      clear h55
      refine wp_exit ?_
      refine then_exit (then_exit (block_exit ?_))
      refine block_normal (then_normal (wQ ?_))
      refine ⟨by kernel_rfl, ?_⟩
      exact ⟨60 - (t + 1), by omega, t + 1, L, _, e2, rfl, rfl, rfl, ht1, hdn.out i L e2 (by have h1 := hge.out; have h2 := hxl.out; omega) hI.out, (Mem.only (M := [_, _, _, _, _, _]) HM54.out [0, 0, 1, 1, 1, 1] rfl)⟩
    ·have hge60 : Hid (60 ≤ t) := Lib.hid (by have : ¬ (t : Int) < 60 := (by simpa using h49); omega)
     clear h49
     refine wp_exit ?_
     refine then_exit (then_exit (block_exit ?_))
     refine then_normal (wp_seq (wp_seq ?_))
     obtain ⟨he1, hr', hen'⟩ := hT.out.done (by have := hge60.out; omega)
     subst he1
     have hend := Lib.hid ((hT.out.id.ended hT.out.out hks.out hr').trans hen')
     have hr := Lib.hid hr'
     clear hr'
     have hen := Lib.hid hen'
     clear hen'
     refine wN [(0, 1), (1, 1), (2, 1), (3, 1), (4, 1), (5, 1), (6, 3), (7, 1), (8, 1), (9, 1), (10, 1), (11, 3), (12, 1), (13, 1), (14, 1)] (wT [0, 1, 2, 3] ?_)
     refine wL 4 (msC (endedM (pK (keyN a0) : Int)) (.slice none 0 0) (.slice none 0 0) (.slice none 0 0)) (HM48.out.part 2 rfl (msC_all)) Tryz.underlying52 ?_
     refine wT [5] ?_
     refine wD3h 6 [_, _, _, _] [_, _, _, _, _, _] Tryz.call25 (gended_e (m := endedM (pK (keyN a0) : Int)) (vp := none) (rp := none) (cp := none) (vn := 0) (vc := 0) (rn := 0) (rc := 0) (cn := 0) (cc := 0) hT.out.id.ok hZ.out.few.kept.ok hbl.out hend.out) HM48 [0, 2] fun W79 HM80 => ?_
     refine wT [7, 8, 9, 10] ?_
     refine wU1 11 [_, _, _, _, _] Tryz.call29 (gout_e (l := []) hT.out.id.ok (by rw [seqsG, hT.out.out]; rfl)) HM80 [0] fun u83 W82 hm81 => ?_
     obtain ⟨po1, co1, rfl, hm81q⟩ := Mem.nums (n := 0) rfl hm81
     clear hm81
     have HM84 := Lib.hid hm81q
     clear hm81q
     refine wT [12, 13, 14] ?_
     refine wZ (wp_cond_false rfl (wp_skip (then_normal (wp_seq ?_))))
     obtain ⟨q, hlm', hql⟩ := mod_len late hl0 (by omega)
     obtain ⟨y, hy'⟩ : ∃ y, l[q]? = some y := ⟨_, List.getElem?_eq_getElem hql⟩
     have hlm := Lib.hid hlm'
     clear hlm'
     have hy := Lib.hid hy'
     clear hy'
     refine wN [(0, 1), (1, 1), (2, 1), (3, 1), (4, 1), (5, 1), (6, 1), (7, 1), (8, 1), (9, 1), (10, 3), (11, 1)] (wT [0, 1, 2, 3, 4, 5, 6] ?_)
     refine wT [7] ?_
     rw [hlm.out]
     refine wI elemI 8 (HM84.out.row 6 rfl hR) (hy.out) fun eb85 eo86 hc87 => ?_
     refine wM 9 (.int .i64 y) (hc87 0 _ rfl) Tryz.underlying3 ?_
     refine wD1h 10 [_, _, _, _, _, _, _] [_, _, _, _, _, _, _] Tryz.call17 (key_d y) HM84 [] fun W89 HM90 => ?_
     refine wT [11] ?_
     refine wZ (wp_seq (wp_seq ?_))
     obtain ⟨Y, G2, hpv', hRd2', hbk', hwr', hid2', hout2', hed', hrs2', hlt2'⟩ := hZ.out.late keyN_key (by omega) hT.out.id hT.out.out (by rw [hks.out]; exact hr.out) hen.out (List.mem_of_getElem? hy.out) (t := kL20) (by decide)
     have hpv := Lib.hid hpv'
     clear hpv'
     have hRd2 := Lib.hid hRd2'
     clear hRd2'
     have hbk := Lib.hid hbk'
     clear hbk'
     have hwr := Lib.hid hwr'
     clear hwr'
     have hid2 := Lib.hid hid2'
     clear hid2'
     have hout2 := Lib.hid hout2'
     clear hout2'
     have hed := Lib.hid hed'
     clear hed'
     have hrs2 := Lib.hid hrs2'
     clear hrs2'
     have hlt2 := Lib.hid hlt2'
     clear hlt2'
     have hbl2 : Hid (Y.1.b.length ≤ 3000) := Lib.hid (by have := hRd2.out.few.bl; omega)
     have grd : decide ((1 : Int) < (rd : Int)) = false := decide_eq_false (by omega)
     have grd' : decide (1 < rd) = false := decide_eq_false (by omega)
     refine wN [(0, 1), (1, 1), (2, 1), (3, 3), (4, 1), (5, 1), (6, 1), (7, 3), (8, 3), (9, 1)] (wT [0, 1] ?_)
     refine wR 2 (v := vV (fun _ => 0)) (by kernel_rfl) ?_
     refine wD5h 3 [_, _, _, _, _] [_, _, _, _, _, _, _] Tryz.call27 (vput_e hZ.out.few.kept hpv.out) HM90 [2, 4] fun W92 HM93 => ?_
     refine wT [4, 5, 6] ?_
     refine wpS_alloc (i := 7) (dd := 16) (z := .agg #[.int .i64 0, .int .i64 0]) (cs := #[.int .i64 0, .int .i64 0]) rfl (by rfl) rfl (by kernel_rfl) rfl HM93.out covS_nil rfl ?_
     rintro b96 W95 hm94 -
     have HM97 := Lib.hid hm94
     clear hm94
     simp only [Act.put, List.setIfInBounds_toArray, List.set_cons_succ, List.set_cons_zero]
     refine wpS_storeA (i := 8) (L2 := [_, _, _, _, _, _, _]) (cs' := [_, _]) rfl (by rfl) rfl rfl rfl (by kernel_rfl) (by rfl) HM97.out 0 rfl rfl rfl rfl covS_nil rfl ?_
     rintro W99 hm98 -
     have HM100 := Lib.hid hm98
     clear hm98
     refine wT [9] ?_
     refine wZ (wp_seq (wQ ?_))
     refine wp_cond_false rfl (wp_skip (then_normal (wp_seq ?_)))
     by_cases hp : ofK (keyN y) = (pK (keyN a0) : Int)
     ·have hbw := Lib.hid (hbk.out.trans (decide_eq_true hp))
      have hew := Lib.hid (hed.out.trans (by rw [decide_eq_true hp]; rfl : _ = false))
      have hpe : pK (keyN y) = pK (keyN a0) := by have := pK_of (keyN_key y); omega
      have g1 : ((pK (keyN y) : Int) == (pK (keyN a0) : Int)) = true := by rw [hpe]; exact beq_self_eq_true _
      have g1' : (pK (keyN y) == pK (keyN a0)) = true := by rw [hpe]; exact beq_self_eq_true _
      have g2 : ((pK (keyN y) : Int) != (pK (keyN a0) : Int)) = false := by rw [hpe]; exact bne_self_eq_false _
      have g2' : (pK (keyN y) != pK (keyN a0)) = false := by rw [hpe]; exact bne_self_eq_false _
      clear hpe
      replace hp := Lib.hid hp
      refine wN [(0, 1), (1, 1), (2, 3), (3, 1), (4, 3), (5, 1), (6, 1), (7, 1), (8, 1), (9, 1), (10, 1), (11, 1), (12, 3), (13, 1), (14, 3), (15, 1), (16, 1), (17, 1), (18, 1), (19, 1), (20, 1), (21, 1), (22, 1)] (wT [0, 1] ?_)
      refine wD2h 2 [_, _, _, _, _, _, _] [_, _, _, _, _, _, _, _] Tryz.call21 (gwrote_e hT.out.id.ok hbw.out hwr.out (keyN_key y) (rest_due hr.out)) HM100 [4] fun W102 HM103 => ?_
      refine wT [3] ?_
      refine wD1h 4 [_, _, _, _, _, _, _, _] [_, _, _, _, _, _, _, _] Tryz.call36 (spof_d (keyN y) (keyN_key y)) HM103 [] fun W105 HM106 => ?_
      refine wT [5, 6, 7, 8, 9] ?_
      refine wL 10 (msC (endedM (pK (keyN a0) : Int)) (.slice none 0 0) (.slice none 0 0) (.slice none 0 0)) (HM106.out.part 6 rfl (msC_all)) Tryz.underlying52 ?_
      refine wT [11] ?_
      refine wD3h 12 [_, _, _, _, _, _] [_, _, _, _, _, _, _, _] Tryz.call25 (gended_e (m := endedM (pK (keyN a0) : Int)) (vp := none) (rp := none) (cp := none) (vn := 0) (vc := 0) (rn := 0) (rc := 0) (cn := 0) (cc := 0) hid2.out.ok hRd2.out.few.kept.ok hbl2.out hew.out) HM106 [0, 1] fun W108 HM109 => ?_
      refine wT [13] ?_
      refine wD1h 14 [_, _, _, _, _, _, _, _] [_, _, _, _, _, _, _, _] Tryz.call36 (spof_d (keyN y) (keyN_key y)) HM109 [] fun W111 HM112 => ?_
      refine wT [15, 16, 17, 18, 19, 20, 21, 22] ?_
      refine wZ (wp_cond_false rfl (wp_skip (block_normal (then_normal (wQ ?_)))))
      refine ⟨by kernel_rfl, ?_⟩
      exact ⟨2 - (rd + 1), by omega, rd + 1, Y, G2, B, rfl, rfl, hrd1, hRd2.out, hid2.out, hout2.out, hrs2.out, (by have h1 := hlt2.out; have h2 := hT.out.tk; omega), (Mem.only (M := [_, _, _, _, _, _]) HM112.out [0, 4, 4, 0, 1, 2] rfl)⟩
     ·have hbw := Lib.hid (hbk.out.trans (decide_eq_false hp))
      have hew := Lib.hid (hed.out.trans (by rw [decide_eq_false hp]; rfl : _ = true))
      have hpe : pK (keyN y) ≠ pK (keyN a0) := by have := pK_of (keyN_key y); omega
      have g1 : ((pK (keyN y) : Int) == (pK (keyN a0) : Int)) = false := beq_eq_false_iff_ne.2 (by omega)
      have g1' : (pK (keyN y) == pK (keyN a0)) = false := beq_eq_false_iff_ne.2 hpe
      have g2 : ((pK (keyN y) : Int) != (pK (keyN a0) : Int)) = true := bne_iff_ne.2 (by omega)
      have g2' : (pK (keyN y) != pK (keyN a0)) = true := bne_iff_ne.2 hpe
      replace hpe := Lib.hid hpe
      replace hp := Lib.hid hp
      refine wN [(0, 1), (1, 1), (2, 3), (3, 1), (4, 3), (5, 1), (6, 1), (7, 1), (8, 1), (9, 1), (10, 1), (11, 1), (12, 3), (13, 1), (14, 3), (15, 1), (16, 1), (17, 1), (18, 1), (19, 1), (20, 1), (21, 1), (22, 1)] (wT [0, 1] ?_)
      refine wD2h 2 [_, _, _, _, _, _, _] [_, _, _, _, _, _, _, _] Tryz.call21 (gwrote_e hT.out.id.ok hbw.out hwr.out (keyN_key y) (rest_due hr.out)) HM100 [4] fun W114 HM115 => ?_
      refine wT [3] ?_
      refine wD1h 4 [_, _, _, _, _, _, _, _] [_, _, _, _, _, _, _, _] Tryz.call36 (spof_d (keyN y) (keyN_key y)) HM115 [] fun W117 HM118 => ?_
      refine wT [5, 6, 7, 8, 9] ?_
      refine wL 10 (msC (endedM (pK (keyN a0) : Int)) (.slice none 0 0) (.slice none 0 0) (.slice none 0 0)) (HM118.out.part 6 rfl (msC_all)) Tryz.underlying52 ?_
      refine wT [11] ?_
      refine wD3h 12 [_, _, _, _, _, _] [_, _, _, _, _, _, _, _] Tryz.call25 (gended_e (m := endedM (pK (keyN a0) : Int)) (vp := none) (rp := none) (cp := none) (vn := 0) (vc := 0) (rn := 0) (rc := 0) (cn := 0) (cc := 0) hid2.out.ok hRd2.out.few.kept.ok hbl2.out hew.out) HM118 [0, 1] fun W120 HM121 => ?_
      refine wT [13] ?_
      refine wD1h 14 [_, _, _, _, _, _, _, _] [_, _, _, _, _, _, _, _] Tryz.call36 (spof_d (keyN y) (keyN_key y)) HM121 [] fun W123 HM124 => ?_
      refine wT [15, 16, 17, 18, 19, 20, 21, 22] ?_
      refine wZ (wp_cond_false rfl (wp_skip (block_normal (then_normal (wQ ?_)))))
      refine ⟨by kernel_rfl, ?_⟩
      exact ⟨2 - (rd + 1), by omega, rd + 1, Y, G2, B, rfl, rfl, hrd1, hRd2.out, hid2.out, hout2.out, hrs2.out, (by have h1 := hlt2.out; have h2 := hT.out.tk; omega), (Mem.only (M := [_, _, _, _, _, _]) HM124.out [0, 4, 4, 0, 1, 2] rfl)⟩
   ·clear h47
    refine wp_exit ?_
    refine then_exit (then_exit (block_exit ?_))
    refine then_normal (wp_seq (wN [(0, 3), (1, 1)] ?_))
    refine wD0h 0 [_, _, _, _, _, _] [_, _, _, _, _, _] Tryz.call10 (gawake_d) HM46 [] fun W126 HM127 => ?_
    refine wT [1] ?_
    refine wZ (wp_ret (bodyPost_ret (results_tmp rfl _ _ _) rfl ?_))
    exact does_ret (Mem.only (M := [_]) HM127.out [5] rfl) rfl rfl
end Go.Proofs.YtcchkkdbagpgjaaGreat
