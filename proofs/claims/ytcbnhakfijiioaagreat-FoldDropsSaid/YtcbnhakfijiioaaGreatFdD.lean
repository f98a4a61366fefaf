/- Cursors: FoldDrops. -/
import Derived.Test.YtcbnhakfijiioaaGreatFdO
import Derived.Test.YtcbnhakfijiioaaGreatVtE
import Derived.Test.YtcbnhakfijiioaaGreatPA
namespace Go.Proofs.YtcbnhakfijiioaaGreat
open Go Go.RowKit Go.BigFrame
theorem put_room (X : Vl2) (node : Int) (k : ByteArray) (known : Nat → Int) (t : ByteArray) : (putV X node k known t).1.2.room = X.2.room := by
 rcases putV_ways X node k known t with ⟨x, e, _⟩ | ⟨e, _, h1⟩
 ·rw [e]
 ·rw [h1]
structure Two (X : Vl2) (k : ByteArray) : Prop where
 kept : Kept X
 room : X.2.room = 20
 len : X.2.l.length ≤ 2
 has : hasK X.1 k = true
theorem two_puts {k o : ByteArray} (hk : keyB k = true) : Two (putV (putV (playD (newL 20).l, newL 20) 0 k (fun _ => 0) kV9).1 0 o (fun _ => 0) kV9).1 k := by
 have h0 : Kept (playD (newL 20).l, newL 20) := Kept.open (LgOk.new 20)
 have h1 := put_new h0 (k := k) (t := kV9) hk (by decide) (by decide) (by decide) rfl (by decide)
 have hh : hasK (putV (playD (newL 20).l, newL 20) 0 k (fun _ => 0) kV9).1.1 k = true := by
  rw [h1]
  show hasK (countD _ (kbD _ k _)) k = true
  rw [hasK_put (d := kbD _ k _) rfl, Bool.or_eq_true]
  exact .inr (decide_eq_true rfl)
 refine ⟨(h0.put 0 k _ _).put 0 o _ _, ?_, ?_, hasK_putV (h0.put 0 k _ _) 0 o _ _ hh⟩
 ·rw [put_room, put_room]
  rfl
 ·have a1 := put_len1 (putV (playD (newL 20).l, newL 20) 0 k (fun _ => 0) kV9).1 0 o (fun _ => 0) kV9
  have a2 := put_len1 (playD (newL 20).l, newL 20) 0 k (fun _ => 0) kV9
  have a3 : ((playD (newL 20).l, newL 20) : Vl2).2.l.length = 0 := rfl
  omega
theorem Two.mem {X : Vl2} {k : ByteArray} (h : Two X k) (_hk : keyB k = true) {n : Int} (hn : ofK k = n) : k ∈ keysV X.1 n := by
 rw [mem_keysV]
 exact ⟨(hasK_iff h.kept.ok.srt).1 h.has, hn⟩
theorem Two.klen {X : Vl2} {k : ByteArray} (h : Two X k) (n : Int) : (keysV X.1 n).length ≤ 2 := by
 have h1 : (keysV X.1 n).length ≤ X.1.b.length := by rw [keysV_len]; exact List.countP_le_length
 have h2 := h.kept.len
 have h3 := h.len
 omega
theorem popD_nil : ∀ l : List ByteArray, popD [] l = (none, [])
 | [] => rfl
 | k :: l => by
  unfold popD
  rw [if_neg (by simp [hasL])]
  exact popD_nil l
theorem next_nil (F : Fd) : nextF F [] = (⟨F.part, F.any, F.last, []⟩, none) := by
 unfold nextF
 rw [popD_nil]
 rfl
theorem back_other {F : Fd} {k : ByteArray} (h : ofK k ≠ F.part) : backB F k = false ∧ backF F k = F := by
 have h1 : backB F k = false := by
  unfold backB
  rw [decide_eq_false h]
  rfl
 refine ⟨h1, ?_⟩
 unfold backF
 rw [h1]
 rfl
theorem drop_all {X : Vl2} {k : ByteArray} (h : Two X k) {n : Int} (hn : 0 ≤ n ∧ n < 16) : ∃ Y, dropV X n = (Y, 0) ∧ keysV Y.1 n = [] ∧ Kept Y ∧ Y.1.b.length ≤ 3000 := by
 obtain ⟨h1, h2, h3, h4⟩ := dropV_ok (X := X) hn (by rw [h.room]; have := h.len; omega)
 have hk := h.kept.drop n
 refine ⟨(dropV X n).1, Prod.ext rfl h1, ?_, hk, ?_⟩
 ·rw [h2, keys_dropS, if_pos rfl]
 ·have := hk.len
  have h5 := h.len
  omega
set_option maxHeartbeats 4000000 in
set_option maxRecDepth 100000 in
theorem fdrops_d (a b : Int) : Does Tryz.prog 7 #[.int .i64 a, .int .i64 b] [] (.bool true) [] := by
 intro w H hp
 have HM0 := Lib.hid (mem_refl hp)
 clear hp
 go_enter Tryz.func7, Tryz.ntmps7
 refine wp_seq (wQ ?_)
 refine wp_seq (wN [(0, 3), (1, 3), (2, 1)] ?_)
 refine wU1 0 [] Tryz.call9 (lnew_d 20) HM0 [] fun u3 W2 hm1 => ?_
 obtain ⟨dl, rfl, hm1q⟩ := Mem.lgN hm1
 clear hm1
 have HM4 := Lib.hid hm1q
 clear hm1q
 refine wU1 1 [] Tryz.call8 (vopen_d dl (newL 20) (LgOk.new 20)) HM4 [0] fun u7 W6 hm5 => ?_
 obtain ⟨dv, rfl, hm5q⟩ := Mem.vtN hm5
 clear hm5
 have HM8 := Lib.hid hm5q
 clear hm5q
 refine wT [2] ?_
 refine wZ (wp_seq (wN [(0, 1), (1, 3), (2, 1), (3, 3), (4, 1), (5, 1)] (wT [0] ?_)))
 refine wD1h 1 [_, _] [_, _] Tryz.call15 (key_d a) HM8 [] fun W10 HM11 => ?_
 refine wT [2] ?_
 refine wD1h 3 [_, _] [_, _] Tryz.call15 (key_d b) HM11 [] fun W13 HM14 => ?_
 refine wT [4, 5] ?_
 refine wZ (wp_seq (wN [(0, 1), (1, 3), (2, 1)] (wT [0] ?_)))
 refine wD1h 1 [_, _] [_, _] Tryz.call28 (spof_d (keyN a) (keyN_key a)) HM14 [] fun W16 HM17 => ?_
 refine wT [2] ?_
 refine wZ (wp_seq (wN [(0, 1), (1, 1), (2, 1), (3, 3)] (wT [0, 1] ?_)))
 refine wR 2 (v := vV (fun _ => 0)) (by kernel_rfl) ?_
 refine wD5h 3 [] [_, _] Tryz.call25 (vput_d dv dl _ (Kept.open (LgOk.new 20)) 0 (keyN a) (fun _ => 0) kV9) HM17 [0, 0] fun W19 HM20 => ?_
 refine wZ (wp_seq ?_)
 have hX1 : Hid (Kept (putV (playD (newL 20).l, newL 20) 0 (keyN a) (fun _ => 0) kV9).1) := Lib.hid ((Kept.open (LgOk.new 20)).put 0 (keyN a) _ _)
 refine wN [(0, 1), (1, 1), (2, 1), (3, 3)] (wT [0, 1] ?_)
 refine wR 2 (v := vV (fun _ => 0)) (by kernel_rfl) ?_
 refine wD5h 3 [] [_, _] Tryz.call25 (vput_d dv dl _ hX1.out 0 (keyN b) (fun _ => 0) kV9) HM20 [0, 0] fun W22 HM23 => ?_
 refine wZ (wp_seq ?_)
 obtain ⟨X, hXe⟩ : ∃ X, (putV (putV (playD (newL 20).l, newL 20) 0 (keyN a) (fun _ => 0) kV9).1 0 (keyN b) (fun _ => 0) kV9).1 = X := ⟨_, rfl⟩
 rw [hXe] at HM23
 have hX : Hid (Two X (keyN a)) := Lib.hid (hXe ▸ two_puts (keyN_key a))
 clear hXe hX1
 have hpk : Hid (0 ≤ (pK (keyN a) : Int) ∧ (pK (keyN a) : Int) < 16) := Lib.hid ⟨by omega, by have := pK_lt (keyN_key a); omega⟩
 obtain ⟨ks, hks'⟩ : ∃ z, keysV X.1 (pK (keyN a) : Int) = z := ⟨_, rfl⟩
 have hkl : Hid (ks.length ≤ 2) := Lib.hid (by rw [← hks']; exact hX.out.klen _)
 have hks := Lib.hid hks'
 clear hks'
 have hsr : Hid (ks.Pairwise ltK) := Lib.hid (by rw [← hks.out]; exact keysV_srt hX.out.kept.ok.srt _)
 have hbl : Hid (X.1.b.length ≤ 3000) := Lib.hid (by have h1 := hX.out.kept.len; have h2 := hX.out.len; omega)
 refine wN [(0, 1), (1, 3), (2, 1)] (wT [0] ?_)
 refine wU1 1 [_, _] Tryz.call12 (fnew_d (pK (keyN a) : Int) hpk.out) HM23 [] fun u26 W25 hm24 => ?_
 obtain ⟨c, rfl, hm24q⟩ := Mem.fdN hm24
 clear hm24
 have HM27 := Lib.hid hm24q
 clear hm24q
 refine wT [2] ?_
 refine wZ (wp_seq (wQ ?_))
 refine wp_seq (wp_seq (wQ ?_))
 refine wp_block ?_
 refine wp_loop_F [10, 11, 12, 33, 34, 35, 36, 37, 38, 39, 40, 41, 42, 43, 44] (fun n vs W' => ∃ (i q : Nat) (F : Fd), n = 3 - i ∧ vs 33 = .int .i64 (i : Int) ∧ vs 10 = .int .i64 (q : Int) ∧ i ≤ 3 ∧ q = min i ks.length ∧ Told F ks q ∧ FdOk F ∧ F.part = (pK (keyN a) : Int) ∧ Mem [fdT c F, vtT dv dl X.1, lgT dl X.2] H w W') (n0 := 3) ?_ ?_
 ·exact ⟨0, 0, _, rfl, rfl, rfl, Nat.zero_le _, (by omega), Told.new _ _, FdOk.new (n := (pK (keyN a) : Int)) hpk.out, rfl, (Mem.only (M := [_, _, _]) HM27.out [0, 0, 0] rfl)⟩
 rintro n vs W' ⟨i, q, F, rfl, e33, e10, hi, hq', hT', hF', hp', hm⟩
 simp only [putAll, List.map_cons, List.map_nil, Act.put, List.setIfInBounds_toArray, List.set_cons_succ, List.set_cons_zero]
 rw [e33, e10]
 clear e33 e10
 have hT := Lib.hid hT'
 clear hT'
 have hF := Lib.hid hF'
 clear hF'
 have hp := Lib.hid hp'
 clear hp'
 have hq := Lib.hid hq'
 clear hq'
 have hkl3 := hkl.out
 have HM28 := Lib.hid hm
 clear hm
 refine wp_seq (wQ ?_)
 refine wp_seq ?_
 refine wp_cond_split rfl (fun h29 => ?_) (fun h29 => ?_)
 ·have hi1 : i + 1 ≤ 3 := by have : (i : Int) < ((3 : Nat) : Int) := (by simpa using h29); omega
  clear h29
  refine wp_skip (then_normal (wp_seq (wp_block (wp_seq ?_))))
  by_cases hqk : q < ks.length
  ·obtain ⟨y, hy'⟩ : ∃ y, ks[q]? = some y := ⟨_, List.getElem?_eq_getElem hqk⟩
   obtain ⟨F2, hn2', hT2', hF2', hp2'⟩ := fold_step (X := X) hT.out hF.out hp.out hks.out hsr.out hy'
   clear hy'
   have hn2 := Lib.hid hn2'
   clear hn2'
   have hT2 := Lib.hid hT2'
   clear hT2'
   have hF2 := Lib.hid hF2'
   clear hF2'
   have hp2 := Lib.hid hp2'
   clear hp2'
   refine wN [(0, 1), (1, 1), (2, 3), (3, 1), (4, 1), (5, 1), (6, 3), (7, 3), (8, 1)] (wT [0, 1] ?_)
   refine wU2 2 [_] Tryz.call16 (fnext_s hF.out hX.out.kept.ok hbl.out hn2.out) HM28 [0, 0] fun u32 W31 hm30 => ?_
   obtain ⟨pw, cw, rfl, hm30q⟩ := Mem.pair rfl hm30
   clear hm30
   have HM33 := Lib.hid hm30q
   clear hm30q
   refine wT [3, 4, 5] ?_
   refine wpS_alloc (i := 6) (dd := 11) (z := prV ⟨#[]⟩ noB.k (.slice none 0 0)) (cs := (prC ⟨#[]⟩ noB.k (.slice none 0 0)).toArray) rfl (by rfl) rfl (by kernel_rfl) rfl HM33.out covS_nil rfl ?_
   rintro b36 W35 hm34 -
   have HM37 := Lib.hid hm34
   clear hm34
   simp only [Act.put, List.setIfInBounds_toArray, List.set_cons_succ, List.set_cons_zero]
   refine wXkh (hone := (prC_one _ _ _)) 7 [_, _, _, _] (prC y (bagV X.1 y).k (.slice pw (bagV X.1 y).v.length cw)) HM37 0 fun W39 HM40 => ?_
   refine wT [8] ?_
   refine wZ (wp_seq (wQ ?_))
   refine wp_cond_true rfl (wN [(0, 1), (1, 1), (2, 1)] (wT [0, 1, 2] ?_))
   refine wpS_nil (block_normal (then_normal (wQ ?_)))
   refine ⟨by kernel_rfl, ?_⟩
   exact ⟨3 - (i + 1), by omega, i + 1, q + 1, F2, rfl, rfl, rfl, hi1, (by have := hq.out; omega), hT2.out, hF2.out, hp2.out, (Mem.only (M := [_, _, _]) HM40.out [2, 2, 2] rfl)⟩
  ·obtain ⟨F2, hn2', hF2', hp2', _, hT2', _⟩ := fold_end (X := X) hT.out hF.out hp.out hks.out hsr.out (by omega)
   have hn2 := Lib.hid hn2'
   clear hn2'
   have hT2 := Lib.hid hT2'
   clear hT2'
   have hF2 := Lib.hid hF2'
   clear hF2'
   have hp2 := Lib.hid hp2'
   clear hp2'
   refine wN [(0, 1), (1, 1), (2, 3), (3, 1), (4, 1), (5, 1), (6, 3), (7, 3), (8, 1)] (wT [0, 1] ?_)
   refine wU2 2 [_] Tryz.call16 (fnext_n hF.out hX.out.kept.ok hbl.out hn2.out) HM28 [0, 0] fun u43 W42 hm41 => ?_
   obtain ⟨pw, cw, rfl, hm41q⟩ := Mem.pair rfl hm41
   clear hm41
   have HM44 := Lib.hid hm41q
   clear hm41q
   refine wT [3, 4, 5] ?_
   refine wpS_alloc (i := 6) (dd := 11) (z := prV ⟨#[]⟩ noB.k (.slice none 0 0)) (cs := (prC ⟨#[]⟩ noB.k (.slice none 0 0)).toArray) rfl (by rfl) rfl (by kernel_rfl) rfl HM44.out covS_nil rfl ?_
   rintro b47 W46 hm45 -
   have HM48 := Lib.hid hm45
   clear hm45
   simp only [Act.put, List.setIfInBounds_toArray, List.set_cons_succ, List.set_cons_zero]
   refine wXkh (hone := (prC_one _ _ _)) 7 [_, _, _, _] (prC ⟨#[]⟩ noB.k (.slice pw noB.v.length cw)) HM48 0 fun W50 HM51 => ?_
   refine wT [8] ?_
   refine wZ (wp_seq (wQ ?_))
   refine wp_cond_false rfl (wp_skip (block_normal (then_normal (wQ ?_))))
   refine ⟨by kernel_rfl, ?_⟩
   exact ⟨3 - (i + 1), by omega, i + 1, q, F2, rfl, rfl, rfl, hi1, (by have := hq.out; omega), hT2.out, hF2.out, hp2.out, (Mem.only (M := [_, _, _]) HM51.out [2, 2, 2] rfl)⟩
 ·have hge : Hid (3 ≤ i) := Lib.hid (by have : ¬ (i : Int) < 3 := (by simpa using h29); omega)
  clear h29
  refine wp_exit ?_
  refine then_exit (then_exit (block_exit ?_))
  refine then_normal (wp_seq (wp_seq ?_))
  have hq3 : q = ks.length := by have := hge.out; have := hq.out; omega
  subst hq3
  obtain ⟨j, hj'⟩ := List.mem_iff_getElem?.1 (hks.out ▸ hX.out.mem (keyN_key a) (pK_of (keyN_key a)).symm)
  obtain ⟨F3, hb3', hb4', hF3', hp3', hd3', _⟩ := fold_yes (X := X) hT.out hF.out hp.out hks.out hsr.out hj' (List.getElem?_eq_some_iff.1 hj').1
  clear hj'
  by_cases hab : (pK (keyN b) : Int) = (pK (keyN a) : Int)
  ·have hb3 := Lib.hid hb3'
   clear hb3'
   have hb4 := Lib.hid hb4'
   clear hb4'
   have hF3 := Lib.hid hF3'
   clear hF3'
   have hp3 := Lib.hid hp3'
   clear hp3'
   have hd3 := Lib.hid hd3'
   clear hd3'
   have g14 : ((pK (keyN b) : Int) != (pK (keyN a) : Int)) = false := by rw [hab]; exact bne_self_eq_false _
   have g14' : (pK (keyN b) != pK (keyN a)) = false := by rw [show pK (keyN b) = pK (keyN a) from by omega]; exact bne_self_eq_false _
   have gq : ((ks.length : Int) != (ks.length : Int)) = false := bne_self_eq_false _
   have gq' : (ks.length != ks.length) = false := bne_self_eq_false _
   refine wN [(0, 1), (1, 1), (2, 1), (3, 3), (4, 1), (5, 1), (6, 1), (7, 1), (8, 1), (9, 3), (10, 1), (11, 1), (12, 1), (13, 1), (14, 3), (15, 1), (16, 1), (17, 1), (18, 1), (19, 1), (20, 3), (21, 1), (22, 1), (23, 1), (24, 1), (25, 3), (26, 1), (27, 1), (28, 1)] (wT [0, 1, 2] ?_)
   refine wU2 3 [_, _] Tryz.call30 (vkeys_e hX.out.kept.ok hbl.out hks.out) HM28 [1] fun u54 W53 hm52 => ?_
   obtain ⟨pk, ck, rfl, hm52q⟩ := Mem.texts rfl hm52
   clear hm52
   have HM55 := Lib.hid hm52q
   clear hm52q
   refine wT [4, 5, 6, 7, 8] ?_
   refine wD2h 9 [_, _, _] [_, _, _, _] Tryz.call19 (fback_e hF.out hb3.out hb4.out (keyN_key a) (by rw [hT.out.due]; decide)) HM55 [2] fun W57 HM58 => ?_
   refine wT [10, 11, 12, 13] ?_
   refine wD1h 14 [_, _, _, _] [_, _, _, _] Tryz.call28 (spof_d (keyN b) (keyN_key b)) HM58 [] fun W60 HM61 => ?_
   refine wT [15, 16, 17, 18, 19] ?_
   refine wK 20 ?_
   refine wT [21, 22, 23, 24] ?_
   refine wU1 25 [_, _, _] Tryz.call27 (fdue_e hF3.out hd3.out) HM61 [0] fun u64 W63 hm62 => ?_
   obtain ⟨pd, cd, rfl, hm62q⟩ := Mem.texts rfl hm62
   clear hm62
   have HM65 := Lib.hid hm62q
   clear hm62q
   refine wT [26, 27, 28] ?_
   refine wZ (wp_cond_false rfl (wp_skip (then_normal (wp_seq ?_))))
   obtain ⟨Y, hdr', hky', hY', hyl'⟩ := drop_all hX.out hpk.out
   have hdr := Lib.hid hdr'
   clear hdr'
   have hky := Lib.hid hky'
   clear hky'
   have hY := Lib.hid hY'
   clear hY'
   have hyl := Lib.hid hyl'
   clear hyl'
   have hn4 : Hid (nextF F3 (keysV Y.1 F3.part) = (⟨F3.part, F3.any, F3.last, []⟩, none)) := Lib.hid (by rw [hp3.out, hky.out, next_nil, hp3.out])
   have hF4 : Hid (FdOk ⟨F3.part, F3.any, F3.last, []⟩) := Lib.hid (by have h := hF3.out.next (keysV Y.1 F3.part); rw [hn4.out] at h; exact h)
   have ho4 : Hid (overF ⟨F3.part, F3.any, F3.last, []⟩ (keysV Y.1 F3.part) = true) := Lib.hid (by rw [hp3.out, hky.out]; unfold overF; rw [next_nil]; rfl)
   refine wN [(0, 1), (1, 1), (2, 3)] (wT [0, 1] ?_)
   refine wD2h 2 [_, _, _] [_, _, _, _, _] Tryz.call23 (vdrop_e hX.out.kept hdr.out) HM65 [3, 3] fun W67 HM68 => ?_
   refine wZ (wp_seq (wN [(0, 1), (1, 1), (2, 3), (3, 1), (4, 1), (5, 1), (6, 3), (7, 3), (8, 1)] (wT [0, 1] ?_)))
   refine wU2 2 [_, _, _] Tryz.call16 (fnext_n hF3.out hY.out.ok hyl.out hn4.out) HM68 [3, 0] fun u71 W70 hm69 => ?_
   obtain ⟨pz, cz, rfl, hm69q⟩ := Mem.pair rfl hm69
   clear hm69
   have HM72 := Lib.hid hm69q
   clear hm69q
   refine wT [3, 4, 5] ?_
   refine wpS_alloc (i := 6) (dd := 13) (z := prV ⟨#[]⟩ noB.k (.slice none 0 0)) (cs := (prC ⟨#[]⟩ noB.k (.slice none 0 0)).toArray) rfl (by rfl) rfl (by kernel_rfl) rfl HM72.out covS_nil rfl ?_
   rintro b75 W74 hm73 -
   have HM76 := Lib.hid hm73
   clear hm73
   simp only [Act.put, List.setIfInBounds_toArray, List.set_cons_succ, List.set_cons_zero]
   refine wXkh (hone := (prC_one _ _ _)) 7 [_, _, _, _, _, _] (prC ⟨#[]⟩ noB.k (.slice pz noB.v.length cz)) HM76 0 fun W78 HM79 => ?_
   refine wT [8] ?_
   refine wZ (wp_seq (wN [(0, 1), (1, 1), (2, 1), (3, 1), (4, 3), (5, 1), (6, 1), (7, 1), (8, 1), (9, 1), (10, 1), (11, 3), (12, 1), (13, 1), (14, 3), (15, 1), (16, 1)] (wT [0, 1, 2, 3] ?_)))
   refine wU1 4 [_, _, _, _, _, _] Tryz.call27 (fdue_e (l := []) hF4.out rfl) HM79 [2] fun u82 W81 hm80 => ?_
   obtain ⟨pe, ce, rfl, hm80q⟩ := Mem.texts rfl hm80
   clear hm80
   have HM83 := Lib.hid hm80q
   clear hm80q
   refine wT [5, 6, 7, 8, 9, 10] ?_
   refine wD2h 11 [_, _, _, _, _, _] [_, _, _, _, _, _, _, _] Tryz.call21 (fover_e hF4.out hY.out.ok hyl.out ho4.out) HM83 [1, 3] fun W85 HM86 => ?_
   refine wT [12, 13] ?_
   refine wD0h 14 [_, _, _, _, _, _, _, _] [_, _, _, _, _, _, _, _] Tryz.call14 (fawake_d) HM86 [] fun W88 HM89 => ?_
   refine wT [15, 16] ?_
   refine wZ (wp_ret (bodyPost_ret (results_tmp rfl _ _ _) rfl ?_))
   exact does_ret (Mem.only (M := []) HM89.out [] rfl) rfl rfl
  ·have hbo := Lib.hid (back_other (F := F3) (k := keyN b) (by rw [hp3', ← pK_of (keyN_key b)]; exact hab))
   have hb3 := Lib.hid hb3'
   clear hb3'
   have hb4 := Lib.hid hb4'
   clear hb4'
   have hF3 := Lib.hid hF3'
   clear hF3'
   have hp3 := Lib.hid hp3'
   clear hp3'
   have hd3 := Lib.hid hd3'
   clear hd3'
   have g14 : ((pK (keyN b) : Int) != (pK (keyN a) : Int)) = true := bne_iff_ne.2 hab
   have g14' : (pK (keyN b) != pK (keyN a)) = true := bne_iff_ne.2 (by omega)
   have gq : ((ks.length : Int) != (ks.length : Int)) = false := bne_self_eq_false _
   have gq' : (ks.length != ks.length) = false := bne_self_eq_false _
   refine wN [(0, 1), (1, 1), (2, 1), (3, 3), (4, 1), (5, 1), (6, 1), (7, 1), (8, 1), (9, 3), (10, 1), (11, 1), (12, 1), (13, 1), (14, 3), (15, 1), (16, 1), (17, 1), (18, 1), (19, 1), (20, 3), (21, 1), (22, 1), (23, 1), (24, 1), (25, 3), (26, 1), (27, 1), (28, 1)] (wT [0, 1, 2] ?_)
   refine wU2 3 [_, _] Tryz.call30 (vkeys_e hX.out.kept.ok hbl.out hks.out) HM28 [1] fun u92 W91 hm90 => ?_
   obtain ⟨pk, ck, rfl, hm90q⟩ := Mem.texts rfl hm90
   clear hm90
   have HM93 := Lib.hid hm90q
   clear hm90q
   refine wT [4, 5, 6, 7, 8] ?_
   refine wD2h 9 [_, _, _] [_, _, _, _] Tryz.call19 (fback_e hF.out hb3.out hb4.out (keyN_key a) (by rw [hT.out.due]; decide)) HM93 [2] fun W95 HM96 => ?_
   refine wT [10, 11, 12, 13] ?_
   refine wD1h 14 [_, _, _, _] [_, _, _, _] Tryz.call28 (spof_d (keyN b) (keyN_key b)) HM96 [] fun W98 HM99 => ?_
   refine wT [15, 16, 17, 18, 19] ?_
   refine wD2h 20 [_, _, _] [_, _, _, _] Tryz.call19 (fback_e hF3.out hbo.out.1 hbo.out.2 (keyN_key b) (by rw [hd3.out]; show 1 < 2000; decide)) HM99 [0] fun W101 HM102 => ?_
   refine wT [21, 22, 23, 24] ?_
   refine wU1 25 [_, _, _] Tryz.call27 (fdue_e hF3.out hd3.out) HM102 [0] fun u105 W104 hm103 => ?_
   obtain ⟨pd, cd, rfl, hm103q⟩ := Mem.texts rfl hm103
   clear hm103
   have HM106 := Lib.hid hm103q
   clear hm103q
   refine wT [26, 27, 28] ?_
   refine wZ (wp_cond_false rfl (wp_skip (then_normal (wp_seq ?_))))
   obtain ⟨Y, hdr', hky', hY', hyl'⟩ := drop_all hX.out hpk.out
   have hdr := Lib.hid hdr'
   clear hdr'
   have hky := Lib.hid hky'
   clear hky'
   have hY := Lib.hid hY'
   clear hY'
   have hyl := Lib.hid hyl'
   clear hyl'
   have hn4 : Hid (nextF F3 (keysV Y.1 F3.part) = (⟨F3.part, F3.any, F3.last, []⟩, none)) := Lib.hid (by rw [hp3.out, hky.out, next_nil, hp3.out])
   have hF4 : Hid (FdOk ⟨F3.part, F3.any, F3.last, []⟩) := Lib.hid (by have h := hF3.out.next (keysV Y.1 F3.part); rw [hn4.out] at h; exact h)
   have ho4 : Hid (overF ⟨F3.part, F3.any, F3.last, []⟩ (keysV Y.1 F3.part) = true) := Lib.hid (by rw [hp3.out, hky.out]; unfold overF; rw [next_nil]; rfl)
   refine wN [(0, 1), (1, 1), (2, 3)] (wT [0, 1] ?_)
   refine wD2h 2 [_, _, _] [_, _, _, _, _] Tryz.call23 (vdrop_e hX.out.kept hdr.out) HM106 [3, 3] fun W108 HM109 => ?_
   refine wZ (wp_seq (wN [(0, 1), (1, 1), (2, 3), (3, 1), (4, 1), (5, 1), (6, 3), (7, 3), (8, 1)] (wT [0, 1] ?_)))
   refine wU2 2 [_, _, _] Tryz.call16 (fnext_n hF3.out hY.out.ok hyl.out hn4.out) HM109 [3, 0] fun u112 W111 hm110 => ?_
   obtain ⟨pz, cz, rfl, hm110q⟩ := Mem.pair rfl hm110
   clear hm110
   have HM113 := Lib.hid hm110q
   clear hm110q
   refine wT [3, 4, 5] ?_
   refine wpS_alloc (i := 6) (dd := 13) (z := prV ⟨#[]⟩ noB.k (.slice none 0 0)) (cs := (prC ⟨#[]⟩ noB.k (.slice none 0 0)).toArray) rfl (by rfl) rfl (by kernel_rfl) rfl HM113.out covS_nil rfl ?_
   rintro b116 W115 hm114 -
   have HM117 := Lib.hid hm114
   clear hm114
   simp only [Act.put, List.setIfInBounds_toArray, List.set_cons_succ, List.set_cons_zero]
   refine wXkh (hone := (prC_one _ _ _)) 7 [_, _, _, _, _, _] (prC ⟨#[]⟩ noB.k (.slice pz noB.v.length cz)) HM117 0 fun W119 HM120 => ?_
   refine wT [8] ?_
   refine wZ (wp_seq (wN [(0, 1), (1, 1), (2, 1), (3, 1), (4, 3), (5, 1), (6, 1), (7, 1), (8, 1), (9, 1), (10, 1), (11, 3), (12, 1), (13, 1), (14, 3), (15, 1), (16, 1)] (wT [0, 1, 2, 3] ?_)))
   refine wU1 4 [_, _, _, _, _, _] Tryz.call27 (fdue_e (l := []) hF4.out rfl) HM120 [2] fun u123 W122 hm121 => ?_
   obtain ⟨pe, ce, rfl, hm121q⟩ := Mem.texts rfl hm121
   clear hm121
   have HM124 := Lib.hid hm121q
   clear hm121q
   refine wT [5, 6, 7, 8, 9, 10] ?_
   refine wD2h 11 [_, _, _, _, _, _] [_, _, _, _, _, _, _, _] Tryz.call21 (fover_e hF4.out hY.out.ok hyl.out ho4.out) HM124 [1, 3] fun W126 HM127 => ?_
   refine wT [12, 13] ?_
   refine wD0h 14 [_, _, _, _, _, _, _, _] [_, _, _, _, _, _, _, _] Tryz.call14 (fawake_d) HM127 [] fun W129 HM130 => ?_
   refine wT [15, 16] ?_
   refine wZ (wp_ret (bodyPost_ret (results_tmp rfl _ _ _) rfl ?_))
   exact does_ret (Mem.only (M := []) HM130.out [] rfl) rfl rfl
end Go.Proofs.YtcbnhakfijiioaaGreat
