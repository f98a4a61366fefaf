/- Givers: GiveAgain. -/
import Derived.Test.YtcchkkdbagpgjaaGreatQ07
import Derived.Test.YtcchkkdbagpgjaaGreatGvS
import Derived.Test.YtcchkkdbagpgjaaGreatGvP
import Derived.Test.YtcchkkdbagpgjaaGreatVtY
import Derived.Test.YtcchkkdbagpgjaaGreatPA
namespace Go.Proofs.YtcchkkdbagpgjaaGreat
open Go Go.RowKit Go.BigFrame
theorem mod_twelve (n : Int) : ∃ m : Nat, wrap64 ((IntKind.u64.wrap n).tmod 12) = (m : Int) ∧ m < 12 := by
 obtain ⟨m, hm⟩ := u64_letter n
 rw [hm]
 refine ⟨m % 12, ?_, Nat.mod_lt _ (by decide)⟩
 rw [Int.tmod_eq_emod_of_nonneg (by omega)]
 unfold wrap64
 omega
theorem odd_one {j : Nat} (h : j % 2 = 0) : ((j : Int) + 1) % 2 = 1 := by omega
theorem odd_no {j : Nat} (h : ¬ j % 2 = 0) : ((j : Int) + 1) % 2 = 0 := by omega
def kV20 : ByteArray := ⟨#[118]⟩
structure Agn (a0 : Int) (X : Vl2) (i : Nat) : Prop where
 kept : Kept X
 len : X.2.l.length ≤ i
 zero : i = 0 → X = (playD (newL 100).l, newL 100)
 has : 1 ≤ i → hasK X.1 (keyN a0) = true
theorem Agn.start (a0 : Int) : Agn a0 (playD (newL 100).l, newL 100) 0 := ⟨Kept.open (LgOk.new 100), Nat.le_refl _, fun _ => rfl, fun h => by omega⟩
theorem Agn.put {a0 y : Int} {X : Vl2} {i : Nat} (h : Agn a0 X i) (hy : i = 0 → y = a0) : Agn a0 (putV X 0 (keyN y) (fun _ => 0) kV20).1 (i + 1) := by
 refine ⟨h.kept.put 0 _ _ _, Nat.le_trans (put_len1 _ _ _ _ _) (Nat.succ_le_succ h.len), fun h => by omega, fun _ => ?_⟩
 rcases Nat.eq_zero_or_pos i with hi | hi
 ·obtain ⟨Y, h1, _, h2, _⟩ := Few.start.put (by decide) (keyN_key a0) (t := kV20) (by decide)
  rw [h.zero hi, hy hi, h1]
  show hasK Y.1 _ = true
  rw [h2, Bool.or_eq_true]
  exact .inr (decide_eq_true rfl)
 ·exact hasK_putV h.kept 0 _ _ _ (h.has hi)
theorem Agn.mem {a0 : Int} {X : Vl2} {i : Nat} (h : Agn a0 X i) (hi : 1 ≤ i) : keyN a0 ∈ keysV X.1 (pK (keyN a0) : Int) := mem_keysV.2 ⟨(hasK_iff h.kept.ok.srt).1 (h.has hi), (pK_of (keyN_key a0)).symm⟩
theorem sameMs_self : ∀ {f : List Ms}, (∀ m ∈ f, m.re = 0 ∧ m.abt = 0) → sameMs f f = true
 | [], _ => rfl
 | m :: l, h => by
  obtain ⟨h1, h2⟩ := h m List.mem_cons_self
  unfold sameMs
  rw [sameMs_self fun x hx => h x (List.mem_cons_of_mem _ hx), Bool.and_true]
  unfold sameM
  rw [sameB_self, decide_eq_true ⟨rfl, rfl, rfl, rfl, rfl, rfl, rfl, h1, h2⟩]
  rfl
theorem Ag.same {ep P : Int} {ks : List ByteArray} {f : List Ms} {n : Nat} {G : Gv} {a : Int} (h : Ag ep P ks f n G a) {xs ys : List Mx} (hx : xs.map (fun x => x.m) = f) (hy : ys.map (fun x => x.m) = f) : sameMx ys xs = 0 := if_pos (by
 rw [hx, hy, ← h.ms]
 refine sameMs_self fun m hm => ?_
 obtain ⟨o, _, rfl⟩ := List.mem_map.1 hm
 exact ⟨rfl, rfl⟩)
theorem OwnM.more {A : At} {rs : List At} {x : Mx} (h : OwnM A x) : OwnM (listT (rs ++ [A])) x := ⟨vL rs.length (by rw [List.getElem?_append_right (Nat.le_refl _), Nat.sub_self]; rfl) h.rd, h.n⟩
theorem few_of {f : List Ms} {xs : List Mx} (hx : xs.map (fun x => x.m) = f) (hf : ∀ m ∈ f, m.b.v.length ≤ 32) {x : Mx} (hm : x ∈ xs) : x.m.b.v.length ≤ 4398046510976 := Nat.le_trans (hf _ (hx ▸ List.mem_map.2 ⟨x, hm, rfl⟩)) (by decide)
theorem first_few {S : Vt} (hS : VtOk S) {ep P : Int} {G : Gv} {f : List Ms} (h : tickG (newG 0 P ep 1) S = (G, f)) {ks : List ByteArray} {n : Nat} {a : Int} (hA : Ag ep P ks f n G a) : ∀ m ∈ f, m.b.v.length ≤ 32 := fun m hm => by
 have h1 := first_bags h m hm (by
  rw [← hA.ms] at hm
  obtain ⟨o, _, rfl⟩ := List.mem_map.1 hm
  rfl)
 rw [h1.1]
 exact bagV_len hS _
set_option maxHeartbeats 4000000 in
set_option maxRecDepth 100000 in
theorem gagain_d (R : At) (v : Value) (l : List Int) (hR : ∀ W H, R.p W H → RowAt elemI W v l) (ticks : Int) : Does Tryz.prog 6 #[v, .int .i64 ticks] [R] (.bool true) [R] := by
 intro w H hp
 have HM0 := Lib.hid (mem_refl hp)
 clear hp
 obtain ⟨p, cap, rfl, -⟩ := (HM0.out.row 0 rfl hR).form
 go_enter Tryz.func6, Tryz.ntmps6
 refine wp_seq (wQ ?_)
 refine wp_seq (wp_seq ?_)
 rcases (show l.length = 0 ∨ 40 < l.length ∨ (1 ≤ l.length ∧ l.length ≤ 40) from by omega) with hl0 | hl0 | ⟨hl0, hl40⟩
 ·have g1 : decide ((l.length : Int) < 1) = true := decide_eq_true (by omega)
  have g1' : decide (l.length < 1) = true := decide_eq_true (by omega)
  refine wQ ?_
  refine wp_cond_true rfl (wp_seq (wN [(0, 3), (1, 1)] ?_))
  refine wD0h 0 [_] [_] Tryz.call10 (gawake_d) HM0 [] fun W2 HM3 => ?_
  refine wT [1] ?_
  refine wZ (wp_ret (then_ret (bodyPost_ret (results_tmp rfl _ _ _) rfl ?_)))
  exact does_ret (Mem.only (M := [_]) HM3.out [0] rfl) rfl rfl
 ·have g1 : decide ((l.length : Int) < 1) = false := decide_eq_false (by omega)
  have g1' : decide (l.length < 1) = false := decide_eq_false (by omega)
  have g2 : decide ((40 : Int) < (l.length : Int)) = true := decide_eq_true (by omega)
  have g2' : decide (40 < l.length) = true := decide_eq_true (by omega)
  refine wQ ?_
  refine wp_cond_true rfl (wp_seq (wN [(0, 3), (1, 1)] ?_))
  refine wD0h 0 [_] [_] Tryz.call10 (gawake_d) HM0 [] fun W5 HM6 => ?_
  refine wT [1] ?_
  refine wZ (wp_ret (then_ret (bodyPost_ret (results_tmp rfl _ _ _) rfl ?_)))
  exact does_ret (Mem.only (M := [_]) HM6.out [0] rfl) rfl rfl
 ·have g1 : decide ((l.length : Int) < 1) = false := decide_eq_false (by omega)
  have g1' : decide (l.length < 1) = false := decide_eq_false (by omega)
  have g2 : decide ((40 : Int) < (l.length : Int)) = false := decide_eq_false (by omega)
  have g2' : decide (40 < l.length) = false := decide_eq_false (by omega)
  refine wQ ?_
  refine wp_cond_false rfl (wp_skip (then_normal (wp_seq ?_)))
  obtain ⟨mt, hm', hmt⟩ := mod_twelve ticks
  have hm := Lib.hid hm'
  clear hm'
  refine wN [(0, 1), (1, 1), (2, 1), (3, 1), (4, 1)] (wT [0, 1, 2] ?_)
  refine wT [3] ?_
  rw [hm.out]
  refine wT [4] ?_
  refine wZ (wp_seq ?_)
  obtain ⟨a0, h0'⟩ : ∃ y, l[0]? = some y := ⟨_, List.getElem?_eq_getElem (by omega)⟩
  have h0 := Lib.hid h0'
  clear h0'
  refine wN [(0, 1), (1, 1), (2, 1), (3, 3), (4, 3), (5, 1)] (wT [0] ?_)
  refine wI elemI 1 (HM0.out.row 0 rfl hR) (h0.out) fun eb7 eo8 hc9 => ?_
  refine wM 2 (.int .i64 a0) (hc9 0 _ rfl) Tryz.underlying3 ?_
  refine wD1h 3 [_] [_] Tryz.call17 (key_d a0) HM0 [] fun W11 HM12 => ?_
  refine wD1h 4 [_] [_] Tryz.call36 (spof_d (keyN a0) (keyN_key a0)) HM12 [] fun W14 HM15 => ?_
  refine wT [5] ?_
  refine wZ (wp_seq (wN [(0, 3), (1, 3), (2, 1)] ?_))
  refine wU1 0 [_] Tryz.call12 (lnew_d 100) HM15 [] fun u18 W17 hm16 => ?_
  obtain ⟨dl, rfl, hm16q⟩ := Mem.lgN hm16
  clear hm16
  have HM19 := Lib.hid hm16q
  clear hm16q
  refine wU1 1 [_] Tryz.call11 (vopen_d dl (newL 100) (LgOk.new 100)) HM19 [0] fun u22 W21 hm20 => ?_
  obtain ⟨dv, rfl, hm20q⟩ := Mem.vtN hm20
  clear hm20
  have HM23 := Lib.hid hm20q
  clear hm20q
  refine wT [2] ?_
  refine wZ (wp_seq (wp_seq (wQ ?_)))
  refine wp_block ?_
  refine wp_loop_F [8, 37, 38, 39, 40, 41, 42, 43, 44, 45, 46] (fun n vs W' => ∃ (i : Nat) (X : Vl2), n = l.length - i ∧ vs 37 = .int .i64 (i : Int) ∧ i ≤ l.length ∧ Agn a0 X i ∧ Mem [vtT dv dl X.1, lgT dl X.2, R] H w W') (n0 := l.length) ?_ ?_
  ·exact ⟨0, _, rfl, rfl, Nat.zero_le _, Agn.start a0, (Mem.only (M := [_, _, _]) HM23.out [0, 0, 0] rfl)⟩
  rintro n vs W' ⟨i, X, rfl, e37, hi, hX', hm⟩
  simp only [putAll, List.map_cons, List.map_nil, Act.put, List.setIfInBounds_toArray, List.set_cons_succ, List.set_cons_zero]
  rw [e37]
  clear e37
  have hX := Lib.hid hX'
  clear hX'
  have HM24 := Lib.hid hm
  clear hm
  refine wp_seq (wQ ?_)
  refine wp_seq ?_
  refine wp_cond_split rfl (fun h25 => ?_) (fun h25 => ?_)
  ·have hi1 : i + 1 ≤ l.length := by have : (i : Int) < ((l.length : Nat) : Int) := (by simpa using h25); omega
   clear h25
   obtain ⟨y, hy'⟩ : ∃ y, l[i]? = some y := ⟨_, List.getElem?_eq_getElem (hi1)⟩
   have hy := Lib.hid hy'
   clear hy'
   refine wp_skip (then_normal (wp_seq (wp_block (wp_seq (wN [(0, 1), (1, 1), (2, 1)] ?_)))))
   refine wI elemI 0 (HM24.out.row 2 rfl hR) (hy.out) fun eb26 eo27 hc28 => ?_
   refine wM 1 (.int .i64 y) (hc28 0 _ rfl) Tryz.underlying3 ?_
   refine wT [2] ?_
   refine wZ (wN [(0, 1), (1, 1), (2, 3), (3, 1), (4, 3)] (wT [0, 1] ?_))
   refine wD1h 2 [_, _, _] [_, _, _] Tryz.call17 (key_d y) HM24 [] fun W30 HM31 => ?_
   refine wR 3 (v := vV (fun _ => 0)) (by kernel_rfl) ?_
   refine wD5h 4 [_] [_, _, _] Tryz.call27 (vput_d dv dl X hX.out.kept 0 (keyN y) (fun _ => 0) kV20) HM31 [0, 0] fun W33 HM34 => ?_
   refine wpS_nil (block_normal (then_normal (wQ ?_)))
   refine ⟨by kernel_rfl, ?_⟩
   exact ⟨l.length - (i + 1), by omega, i + 1, _, rfl, rfl, hi1, hX.out.put (fun e => by have h1 := hy.out; rw [e, h0.out] at h1; exact (Option.some.inj h1).symm), (Mem.only (M := [_, _, _]) HM34.out [0, 0, 0] rfl)⟩
  ·have hgi : l.length ≤ i := by have : ¬ (i : Int) < (l.length : Int) := (by simpa using h25); omega
   clear h25
   refine wp_exit ?_
   refine then_exit (then_exit (block_exit ?_))
   refine then_normal (wp_seq ?_)
   obtain rfl : i = l.length := by omega
   have hbl : Hid (X.1.b.length ≤ 3000) := Lib.hid (by have h1 := hX.out.kept.len; have h2 := hX.out.len; omega)
   have hpk : 0 ≤ (pK (keyN a0) : Int) ∧ (pK (keyN a0) : Int) < 16 := ⟨by omega, by have := pK_lt (keyN_key a0); omega⟩
   have hmay : Hid (mayG 0 (pK (keyN a0) : Int) 1 1) := Lib.hid ⟨by decide, by decide, by decide, hpk, by decide⟩
   obtain ⟨ks, hks'⟩ : ∃ z, keysV X.1 (pK (keyN a0) : Int) = z := ⟨_, rfl⟩
   have hk1 : 1 ≤ ks.length := by rw [← hks']; exact List.length_pos_iff.2 (List.ne_nil_of_mem (hX.out.mem hl0))
   have hsr : Hid (ks.Pairwise ltK) := Lib.hid (by rw [← hks']; exact keysV_srt hX.out.kept.ok.srt _)
   obtain ⟨nq, hn'⟩ : ∃ z, min 4 ks.length = z := ⟨_, rfl⟩
   obtain ⟨G1, fm, htk', hA1', ht1'⟩ := Ag.first (ep := 1) (by decide) hpk hks' hsr.out hk1
   rw [hn'] at hA1'
   have hks := Lib.hid hks'
   clear hks'
   have htk := Lib.hid htk'
   clear htk'
   have hA1 := Lib.hid hA1'
   clear hA1'
   have ht1 := Lib.hid ht1'
   clear ht1'
   have hmn : Hid (min (4 : Int) (ks.length : Int) = (nq : Int)) := Lib.hid (by omega)
   have hn1 : 1 ≤ nq := by omega
   have hn4 : nq ≤ 4 := by omega
   have hfew := Lib.hid (first_few hX.out.kept.ok htk.out hA1.out)
   clear hn' hpk
   refine wN [(0, 1), (1, 3), (2, 1)] (wT [0] ?_)
   refine wU4 1 [_, _, _] Tryz.call15 (gvnew_d 0 (pK (keyN a0) : Int) 1 1 hmay.out) HM24 [] fun u37 W36 hm35 => ?_
   obtain ⟨g, rfl, hm35q⟩ := Mem.gvN hm35
   clear hm35
   have HM38 := Lib.hid hm35q
   clear hm35q
   refine wT [2] ?_
   refine wZ (wp_seq (wN [(0, 1), (1, 1), (2, 3), (3, 1)] (wT [0, 1] ?_)))
   refine wU2 2 [_, _] Tryz.call19 (gtick_e (GvOk.new hmay.out) hX.out.kept.ok hbl.out (show (0 : Int) < 1000000 by decide) htk.out) HM38 [0, 0, 0] fun u41 W40 hm39 => ?_
   obtain ⟨rs, hm39a⟩ := Mem.gt hm39
   clear hm39
   obtain ⟨xs, pm, cm, rfl, hxsm', hxso', hm39q⟩ := Mem.tells hm39a
   clear hm39a
   have hxsm := Lib.hid hxsm'
   clear hxsm'
   have hxso := Lib.hid hxso'
   clear hxso'
   have HM42 := Lib.hid hm39q
   clear hm39q
   refine wT [3] ?_
   refine wZ (wp_seq (wN [(0, 1), (1, 1), (2, 3), (3, 1), (4, 1), (5, 1)] (wT [0, 1] ?_)))
   refine wU2 2 [_, _, _, _, _] Tryz.call33 (vkeys_e hX.out.kept.ok hbl.out hks.out) HM42 [3] fun u45 W44 hm43 => ?_
   obtain ⟨pk, ck, rfl, hm43q⟩ := Mem.texts rfl hm43
   clear hm43
   have HM46 := Lib.hid hm43q
   clear hm43q
   refine wT [3] ?_
   refine wT [4] ?_
   rw [hmn.out]
   refine wT [5] ?_
   refine wZ (wp_seq (wp_seq ?_))
   have hxl := congrArg List.length hxsm.out
   rw [List.length_map, hA1.out.flen] at hxl
   have g1 : decide ((nq : Int) < 1) = false := decide_eq_false (by omega)
   have g1' : decide (nq < 1) = false := decide_eq_false (by omega)
   have g2 : ((xs.length : Int) != (nq : Int)) = false := by rw [hxl]; exact bne_self_eq_false _
   have g2' : (xs.length != nq) = false := by rw [hxl]; exact bne_self_eq_false _
   have g3 : ((nq : Int) != (nq : Int)) = false := bne_self_eq_false _
   have g3' : (nq != nq) = false := bne_self_eq_false _
   replace hxl := Lib.hid hxl
   refine wN [(0, 1), (1, 1), (2, 1), (3, 1), (4, 1), (5, 1), (6, 1), (7, 1), (8, 1), (9, 1), (10, 3), (11, 1), (12, 1), (13, 1), (14, 1)] (wT [0, 1, 2, 3, 4, 5, 6, 7, 8, 9] ?_)
   refine wU1 10 [_, _, _, _, _, _] Tryz.call29 (gout_e hA1.out.ok rfl) HM46 [3] fun u49 W48 hm47 => ?_
   obtain ⟨poo1, coo1, rfl, hm47q⟩ := Mem.nums (show (seqsG G1).length = nq by rw [seqsG, List.length_map]; exact hA1.out.len) hm47
   clear hm47
   have HM50 := Lib.hid hm47q
   clear hm47q
   refine wT [11, 12, 13, 14] ?_
   refine wZ (wp_cond_false rfl (wp_skip (then_normal (wp_seq (wp_seq (wQ ?_))))))
   refine wp_block ?_
   refine wp_loop_F [4, 12, 13, 73, 74, 75, 76, 77, 78, 79, 80, 81, 82, 83, 84, 85, 86, 87, 88, 89, 90] (fun n us W' => ∃ (j : Nat) (G : Gv) (A : At) (a : Int), n = mt - j ∧ us 73 = .int .i64 (j : Int) ∧ j ≤ mt ∧ Ag 1 (pK (keyN a0) : Int) ks fm nq G a ∧ G.ticks = (j : Int) + 1 ∧ a = (if j % 2 = 0 then (j : Int) + 1 else j) ∧ (∀ x ∈ xs, OwnM A x) ∧ Mem [gvT g A G, A, rowT elemMx (.slice pm xs.length cm) xs, vtT dv dl X.1, lgT dl X.2, R] H w W') (n0 := mt) ?_ ?_
   ·exact ⟨0, _, _, _, rfl, rfl, Nat.zero_le _, hA1.out, ht1.out, rfl, hxso.out, (Mem.only (M := [_, _, _, _, _, _]) HM50.out [1, 4, 3, 2, 2, 2] rfl)⟩
   rintro n us W' ⟨j, G, A, a, rfl, e73, hj, hA', ht', ha', hxo', hm2⟩
   simp only [putAll, List.map_cons, List.map_nil, Act.put, List.setIfInBounds_toArray, List.set_cons_succ, List.set_cons_zero]
   rw [e73]
   clear e73
   have hA := Lib.hid hA'
   clear hA'
   have ht := Lib.hid ht'
   clear ht'
   have ha := Lib.hid ha'
   clear ha'
   have hxo := Lib.hid hxo'
   clear hxo'
   have HM51 := Lib.hid hm2
   clear hm2
   refine wp_seq (wQ ?_)
   refine wp_seq ?_
   refine wp_cond_split rfl (fun h52 => ?_) (fun h52 => ?_)
   ·have hj1 : j + 1 ≤ mt := by have : (j : Int) < ((mt : Nat) : Int) := (by simpa using h52); omega
    clear h52
    refine wp_skip (then_normal (wp_seq (wp_block (wp_seq (wQ ?_)))))
    refine wp_seq ?_
    obtain ⟨G', htk2', hA2', ht2'⟩ := hA.out.tick hks.out hsr.out
    have htk2 := Lib.hid htk2'
    clear htk2'
    have hA2 := Lib.hid hA2'
    clear hA2'
    have ht2 := Lib.hid ht2'
    clear ht2'
    refine wN [(0, 1), (1, 1), (2, 3), (3, 1)] (wT [0, 1] ?_)
    refine wU2 2 [_, _, _] Tryz.call19 (gtick_e hA.out.ok hX.out.kept.ok hbl.out (by have := ht.out; omega) htk2.out) HM51 [0, 0, 1] fun u55 W54 hm53 => ?_
    obtain ⟨rs, hm53a⟩ := Mem.gt hm53
    clear hm53
    obtain ⟨ys, py, cy, rfl, hysm', hyso', hm53q⟩ := Mem.tells hm53a
    clear hm53a
    have hysm := Lib.hid hysm'
    clear hysm'
    have hyso := Lib.hid hyso'
    clear hyso'
    have HM56 := Lib.hid hm53q
    clear hm53q
    refine wT [3] ?_
    refine wZ (wp_seq (wp_seq ?_))
    by_cases hj2 : j % 2 = 0
    ·have hrm := Lib.hid (odd_one hj2)
     have hno := hysm.out
     rw [if_neg (by have e1 := ht.out; have e2 := ha.out; rw [if_pos hj2] at e2; omega)] at hno
     obtain rfl : ys = [] := List.map_eq_nil_iff.1 hno
     clear hno hysm
     refine wN [(0, 1), (1, 1), (2, 1), (3, 1)] (wT [0, 1] ?_)
     refine wT [2] ?_
     rw [hrm.out]
     refine wT [3] ?_
     refine wZ (wp_cond_true rfl (wp_seq (wp_seq (wQ ?_))))
     refine wp_cond_false rfl (wp_skip (then_normal (wp_exit ?_)))
     refine then_exit (block_exit ?_)
     refine then_normal (wQ ?_)
     refine ⟨by kernel_rfl, ?_⟩
     exact ⟨mt - (j + 1), by omega, j + 1, G', _, _, rfl, rfl, hj1, hA2.out, (by rw [ht2.out, ht.out]; omega), (by have e1 := ht.out; have e2 := ha.out; rw [e1, e2]; split <;> split <;> omega), (fun x hx => (hxo.out x hx).more), (Mem.only (M := [_, _, _, _, _, _]) HM56.out [1, 1, 2, 1, 1, 1] rfl)⟩
    ·have hrm := Lib.hid (odd_no hj2)
     have hysf : Hid (ys.map (fun x => x.m) = fm) := Lib.hid (by have hno := hysm.out; rwa [if_pos (by have e1 := ht.out; have e2 := ha.out; rw [if_neg hj2] at e2; omega)] at hno)
     have hsm : Hid (sameMx ys xs = 0) := Lib.hid (hA.out.same hxsm.out hysf.out)
     have hyl : Hid (ys.length ≤ 1000000) := Lib.hid (by have e1 := congrArg List.length hysf.out; rw [List.length_map, hA.out.flen] at e1; have e2 := hA.out.nk.1; omega)
     clear hysm
     refine wN [(0, 1), (1, 1), (2, 1), (3, 1)] (wT [0, 1] ?_)
     refine wT [2] ?_
     rw [hrm.out]
     refine wT [3] ?_
     refine wZ (wp_cond_false rfl (wp_skip (then_normal (wp_seq (wN [(0, 1), (1, 1), (2, 3), (3, 1)] (wT [0, 1] ?_))))))
     refine wD2 2 [_, _, _, _] [_, _, _, _, _, _, _] Tryz.call18 (Does.ofList (gvsame_d (listT [_, _, _]) _ _ ys xs (vL 0 rfl rowT_reads) (vL 1 rfl rowT_reads) (fun x hx => ⟨vL 2 rfl (hyso.out x hx).rd, few_of hysf.out hfew.out hx⟩) (fun x hx => ⟨vL 2 rfl (hxo.out x hx).more.rd, few_of hxsm.out hfew.out hx⟩) (fun x hx => (hyso.out x hx).n.2.2.2.2.2.1) hyl.out)) HM56 [0, 3, 1] fun W58 hm57 => ?_
     rw [hsm.out]
     have HM59 := Lib.hid hm57
     clear hm57
     refine wT [3] ?_
     refine wZ (wp_cond_false rfl (wp_skip (block_normal (then_normal (wQ ?_)))))
     refine ⟨by kernel_rfl, ?_⟩
     exact ⟨mt - (j + 1), by omega, j + 1, G', _, _, rfl, rfl, hj1, hA2.out, (by rw [ht2.out, ht.out]; omega), (by have e1 := ht.out; have e2 := ha.out; rw [e1, e2]; split <;> split <;> omega), (fun x hx => (hxo.out x hx).more), (Mem.only (M := [_, _, _, _, _, _]) HM59.out [3, 2, 1, 1, 1, 1] rfl)⟩
   ·clear h52
    refine wp_exit ?_
    refine then_exit (then_exit (block_exit ?_))
    refine then_normal (wp_seq ?_)
    obtain ⟨x, hx0'⟩ : ∃ y, xs[0]? = some y := ⟨_, List.getElem?_eq_getElem (by have := hxl.out; omega)⟩
    have hxm := Lib.hid (List.mem_of_getElem? hx0')
    obtain ⟨G2, hg1', hg2', hg3', hg4', hg5', hg6'⟩ := hA.out.got (m := x.m) (by rw [← hxsm.out, List.getElem?_map, hx0']; rfl)
    have hx0 := Lib.hid hx0'
    clear hx0'
    have hg1 := Lib.hid hg1'
    clear hg1'
    have hg2 := Lib.hid hg2'
    clear hg2'
    have hg3 := Lib.hid hg3'
    clear hg3'
    have hg4 := Lib.hid hg4'
    clear hg4'
    have hg5 := Lib.hid hg5'
    clear hg5'
    obtain ⟨q2, hq2'⟩ : ∃ z, (seqsG G2).length = z := ⟨_, rfl⟩
    rw [hq2'] at hg6'
    have hq2 := Lib.hid hq2'
    clear hq2'
    have gq2 : ((q2 : Int) == (nq : Int) - 1) = true := beq_iff_eq.2 (by omega)
    replace hg6' := Lib.hid hg6'
    refine wN [(0, 1), (1, 1), (2, 1), (3, 3), (4, 3)] (wT [0] ?_)
    refine wI elemMx 1 (HM51.out.row 2 rfl vRow) (hx0.out) fun eb60 eo61 hc62 => ?_
    refine wL 2 (msC (x.m) (.slice x.vp x.vn x.vc) (.slice x.rp x.rn x.rc) (.slice x.cp x.cn x.cc)) hc62 Tryz.underlying52 ?_
    refine wpS_alloc (i := 3) (dd := 14) (z := msV noMs (.slice none 0 0) (.slice none 0 0) (.slice none 0 0)) (cs := (msC (noMs) (.slice none 0 0) (.slice none 0 0) (.slice none 0 0)).toArray) rfl (by rfl) rfl (by kernel_rfl) rfl HM51.out covS_nil rfl ?_
    rintro b65 W64 hm63 -
    have HM66 := Lib.hid hm63
    clear hm63
    simp only [Act.put, List.setIfInBounds_toArray, List.set_cons_succ, List.set_cons_zero]
    refine wpS_storeA (i := 4) (L2 := [_, _, _, _, _, _]) (cs' := msC (x.m) (.slice x.vp x.vn x.vc) (.slice x.rp x.rn x.rc) (.slice x.cp x.cn x.cc)) rfl (by rfl) rfl rfl rfl (by kernel_rfl) (msC_one _ _ _ _ _ _ _ _ _) HM66.out 0 rfl rfl (by kernel_rfl) (by kernel_rfl) covS_nil rfl ?_
    rintro W68 hm67 -
    have HM69 := Lib.hid hm67
    clear hm67
    refine wZ (wp_seq (wN [(0, 1), (1, 3), (2, 1), (3, 3), (4, 1), (5, 3)] (wT [0] ?_)))
    refine wpS_store1 (i := 1) (v := .int .i64 (6)) (L2 := [_, _, _, _, _, _]) (cs' := msC (⟨6, x.m.frm, x.m.dst, x.m.seq, x.m.re, x.m.abt, x.m.part, x.m.epoch, x.m.key, x.m.b, x.m.r⟩) (.slice x.vp x.vn x.vc) (.slice x.rp x.rn x.rc) (.slice x.cp x.cn x.cc)) rfl (by rfl) rfl rfl rfl rfl (by kernel_rfl) rfl HM69.out 0 rfl rfl (by kernel_rfl) (msC_setKind _) covS_nil rfl ?_
    rintro W71 hm70 -
    have HM72 := Lib.hid hm70
    clear hm70
    refine wT [2] ?_
    refine wpS_store1 (i := 3) (v := .int .i64 (1)) (L2 := [_, _, _, _, _, _]) (cs' := msC (⟨6, 1, x.m.dst, x.m.seq, x.m.re, x.m.abt, x.m.part, x.m.epoch, x.m.key, x.m.b, x.m.r⟩) (.slice x.vp x.vn x.vc) (.slice x.rp x.rn x.rc) (.slice x.cp x.cn x.cc)) rfl (by rfl) rfl rfl rfl rfl (by kernel_rfl) rfl HM72.out 0 rfl rfl (by kernel_rfl) (msC_setFrm _) covS_nil rfl ?_
    rintro W74 hm73 -
    have HM75 := Lib.hid hm73
    clear hm73
    refine wT [4] ?_
    refine wpS_store1 (i := 5) (v := .int .i64 (0)) (L2 := [_, _, _, _, _, _]) (cs' := msC (⟨6, 1, 0, x.m.seq, x.m.re, x.m.abt, x.m.part, x.m.epoch, x.m.key, x.m.b, x.m.r⟩) (.slice x.vp x.vn x.vc) (.slice x.rp x.rn x.rc) (.slice x.cp x.cn x.cc)) rfl (by rfl) rfl rfl rfl rfl (by kernel_rfl) rfl HM75.out 0 rfl rfl (by kernel_rfl) (msC_setDst _) covS_nil rfl ?_
    rintro W77 hm76 -
    have HM78 := Lib.hid hm76
    clear hm76
    refine wZ (wp_seq (wN [(0, 1), (1, 1), (2, 3), (3, 1), (4, 1), (5, 1), (6, 3), (7, 1), (8, 1), (9, 1), (10, 1), (11, 3), (12, 1), (13, 1), (14, 1), (15, 1), (16, 1), (17, 1), (18, 3), (19, 1), (20, 1)] (wT [0] ?_)))
    refine wL 1 (msC (⟨6, 1, 0, x.m.seq, x.m.re, x.m.abt, x.m.part, x.m.epoch, x.m.key, x.m.b, x.m.r⟩) (.slice x.vp x.vn x.vc) (.slice x.rp x.rn x.rc) (.slice x.cp x.cn x.cc)) (HM78.out.part 0 rfl (msC_all)) Tryz.underlying52 ?_
    refine wD2h 2 [_, _, _, _, _] [_, _, _, _, _, _, _] Tryz.call23 (ggot_e (m := ansM x.m) hA.out.ok hg1.out hg2.out (hxo.out x hxm.out).rd (few_of hxsm.out hfew.out hxm.out)) HM78 [1, 1] fun W80 HM81 => ?_
    refine wT [3, 4] ?_
    refine wL 5 (msC (⟨6, 1, 0, x.m.seq, x.m.re, x.m.abt, x.m.part, x.m.epoch, x.m.key, x.m.b, x.m.r⟩) (.slice x.vp x.vn x.vc) (.slice x.rp x.rn x.rc) (.slice x.cp x.cn x.cc)) (HM81.out.part 2 rfl (msC_all)) Tryz.underlying52 ?_
    refine wD2h 6 [_, _, _, _, _] [_, _, _, _, _, _, _] Tryz.call23 (ggot_e (m := ansM x.m) hg3.out hg4.out hg5.out (hxo.out x hxm.out).rd (few_of hxsm.out hfew.out hxm.out)) HM81 [0, 0] fun W83 HM84 => ?_
    refine wT [7, 8, 9, 10] ?_
    refine wU1 11 [_, _, _, _, _, _] Tryz.call29 (gout_e hg3.out rfl) HM84 [0] fun u87 W86 hm85 => ?_
    obtain ⟨poo2, coo2, rfl, hm85q⟩ := Mem.nums hq2.out hm85
    clear hm85
    have HM88 := Lib.hid hm85q
    clear hm85q
    refine wT [12, 13, 14, 15, 16, 17] ?_
    refine wD0h 18 [_, _, _, _, _, _, _, _] [_, _, _, _, _, _, _, _] Tryz.call10 (gawake_d) HM88 [] fun W90 HM91 => ?_
    refine wT [19, 20] ?_
    refine wZ (wp_ret (bodyPost_ret (results_tmp rfl _ _ _) rfl ?_))
    exact does_ret (Mem.only (M := [_]) HM91.out [7] rfl) rfl rfl
end Go.Proofs.YtcchkkdbagpgjaaGreat
